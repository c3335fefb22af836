/- The walk of MemberChain. -/
import Derived.Test.YtgnchloclkjalaaMg
namespace Go.Proofs.Ytgnchloclkjalaa
set_option maxRecDepth 100000
open Go.RowKit

/-- Two boxes and a row. -/
structure Bx (l : List Mb) (t : Option Addr) (c q8 q9 : Nat) (a b : Mb) (w0 w : World) : Prop where
  own : OwnG 23 2 mcs w t c l
  c8 : Cel q8 23 #[.int .i64 a.1, .int .i64 a.2] w
  c9 : Cel q9 23 #[.int .i64 b.1, .int .i64 b.2] w
  off1 : Off (fun _ => False) w0 w
theorem Bx.off {l : List Mb} {t : Option Addr} {c q8 q9 : Nat} {a b : Mb} {w0 w w' : World} (h : Bx l t c q8 q9 a b w0 w) (o : Off (fun _ => False) w w') : Bx l t c q8 q9 a b w0 w' :=
  ⟨h.own.off o (fun _ _ _ h => h), h.c8.off o (fun h => h), h.c9.off o (fun h => h), h.off1.trans o (fun _ _ h => h)⟩
theorem Bx.drew {l : List Mb} {t : Option Addr} {c q8 q9 : Nat} {a b : Mb} {w0 w : World} (h : Bx l t c q8 q9 a b w0 w) : Bx l t c q8 q9 a b w0 w.drew := h.off ((Off.refl _ w).drew)
theorem Bx.set8 {l : List Mb} {g c q8 q9 : Nat} {a b : Mb} {w0 w : World} (h : Bx l (some ⟨g, 0, none⟩) c q8 q9 a b w0 w) (hne : q8 ≠ q9) (hg : g ≠ q8) (hn : w0.heap.size ≤ q8) (s i : Int) : Bx l (some ⟨g, 0, none⟩) c q8 q9 (s, i) b w0 ((w.setCell ⟨q8, 0, none⟩ (.int .i64 s)).setCell ⟨q8, 1, none⟩ (.int .i64 i)) := by
  have OS := (Off.refl (fun c => c = q8) w).st2 (b := q8) (.inl rfl) (.int .i64 s) (.int .i64 i)
  exact ⟨h.own.off OS (fun k _ e h => hg (by simp [blk] at e; omega)), h.c8.st2 _ _, h.c9.off OS (fun h => hne h.symm), h.off1.trans OS (fun k hk e => absurd hk (by omega))⟩
theorem Bx.set9 {l : List Mb} {g c q8 q9 : Nat} {a b : Mb} {w0 w : World} (h : Bx l (some ⟨g, 0, none⟩) c q8 q9 a b w0 w) (hne : q9 ≠ q8) (hg : g ≠ q9) (hn : w0.heap.size ≤ q9) (s i : Int) : Bx l (some ⟨g, 0, none⟩) c q8 q9 a (s, i) w0 ((w.setCell ⟨q9, 0, none⟩ (.int .i64 s)).setCell ⟨q9, 1, none⟩ (.int .i64 i)) := by
  have OS := (Off.refl (fun c => c = q9) w).st2 (b := q9) (.inl rfl) (.int .i64 s) (.int .i64 i)
  exact ⟨h.own.off OS (fun k _ e h => hg (by simp [blk] at e; omega)), h.c8.off OS (fun h => hne h.symm), h.c9.st2 _ _, h.off1.trans OS (fun k hk e => absurd hk (by omega))⟩

set_option maxHeartbeats 4000000 in
theorem chain_walk (ad : Option Addr) (cap : Nat) (ms : List Mb) (p : Int) (w : World) (hms : Mls w ad cap ms) (_ : -9223372036854775808 ≤ p ∧ p ≤ 9223372036854775807) :
    Calls Try.prog 7 #[.slice ad ms.length cap, .int .i64 p] w fun e w' => e = .returned (.bool true) ∧ Off (fun _ => False) w w' := by
  have HMS : Hid _ := hms
  have hml := hms.len
  clear hms
  go_enter Try.func7, Try.ntmps7
  go_wp2_with fail
  go_loopw [5, 16] (fun s5 i wr => ∃ (j : Nat) (t : Option Addr) (c : Nat) (l : List Mb), s5 = .slice t l.length c ∧ i = .int .i64 (j : Int) ∧ j ≤ ms.length ∧ l.length ≤ j ∧ l.length ≤ 30 ∧ OwnG 23 2 mcs wr t c l ∧ (∀ k, blk t = some k → w.heap.size ≤ k) ∧ Off (fun _ => False) w wr) (fun _ i _ => ((ms.length : Int) - intOf i).toNat)
  case atStart => exact ⟨0, none, 0, [], rfl, rfl, by omega, by simp, by simp, OwnG.nil _ _ _ _, fun k h => by simp [blk] at h, Off.refl _ _⟩
  case round =>
    obtain ⟨j, t, c, l, rfl, rfl, hj, hlj, hl30, own, hbk, o⟩ := hrel
    have HOW : Hid _ := own
    have HBK : Hid _ := hbk
    have HO : Hid _ := o
    clear own hbk o
    by_cases hlt : j < ms.length
    · obtain ⟨x, hx⟩ : ∃ x, ms[j]? = some x := ⟨_, List.getElem?_eq_getElem hlt⟩
      obtain ⟨g, of, rfl, k0, k1⟩ := (HMS.out.offD HO.out (fun _ _ _ h => h)).at_ j x hx
      clear hx
      obtain ⟨s, i⟩ := x
      replace k0 : wr.cell? ⟨g, of + j * 2, none⟩ = some (.int .i64 s) := k0
      replace k1 : wr.cell? ⟨g, of + j * 2 + 1, none⟩ = some (.int .i64 i) := k1
      have A4 : Hid (Off (fun _ => False) wr (wr.alloc (.cells #[.int .i64 s, .int .i64 i] 23))) := (Off.refl _ wr).alloc _
      have C4 : Hid (Cel wr.heap.size 23 #[.int .i64 s, .int .i64 i] (wr.alloc (.cells #[.int .i64 s, .int .i64 i] 23))) := Cel.new wr _ _
      by_cases h30 : j < 30
      · have e30 : decide ((j : Int) < 30) = true := decide_eq_true (by omega)
        go_wp2_with fail
        generalize hW : wr.alloc (.cells #[.int .i64 s, .int .i64 i] 23) = W at A4 C4 ⊢
        clear hW k0 k1
        refine (may_any s i W).mono ?_
        rintro e w1 ⟨rfl, o1⟩
        have A5 : Hid (Off (fun _ => False) wr w1) := A4.out.trans o1 (fun _ _ h => h)
        have C5 : Hid _ := C4.out.off o1 (fun h => h)
        clear o1 A4 C4
        cases mayB s i
        · go_wp2_with fail
          go_roundw
          case rel => exact ⟨j + 1, t, c, l, rfl, by go_num, by omega, by omega, hl30, HOW.out.off A5.out (fun _ _ _ h => h), HBK.out, HO.out.trans A5.out (fun _ _ h => h)⟩
          case measure => simp [intOf]; omega
        · have c0 : w1.cell? ⟨wr.heap.size, 0, none⟩ = some (.int .i64 s) := C5.out.cell 0
          have c1 : w1.cell? ⟨wr.heap.size, 1, none⟩ = some (.int .i64 i) := C5.out.cell 1
          have hcn : ∀ j u, (mcs (s, i))[j]? = some u → (w1.alloc (.cells #[.int .i64 s, .int .i64 i] 23)).cell? ⟨w1.heap.size, j, none⟩ = some u := fun j u hj => ((Cel.new w1 23 #[.int .i64 s, .int .i64 i]).cell j).trans (by rw [← hj]; simp [mcs])
          have own6 : Hid (OwnG 23 2 mcs (w1.alloc (.cells #[.int .i64 s, .int .i64 i] 23)) t c l) := HOW.out.off (A5.out.alloc _) (fun _ _ _ h => h)
          have HCN : Hid _ := hcn
          clear hcn
          go_wp2_with (at_builtin; refine wpList_appG rfl (.tmp 27) (.tmp 29) Try.underlying44 Try.infoM rfl (by decide) (by decide) mcs_len mcs_one rfl t c l rfl own6.out w1.heap.size 1 (s, i) rfl HCN.out (by omega) ?_; intro t' c' w' ys hys own' off' at')
          have hyl : ys.length = l.length + 1 := by rw [hys.out]; simp
          have HO6 : Hid (Off (fun _ => False) w w') := (HO.out.trans (A5.out.alloc (.cells #[.int .i64 s, .int .i64 i] 23)) (fun _ _ h => h)).trans off' (fun k hk e => absurd hk (by have := HBK.out k e; omega))
          have HB6 : Hid (∀ k, blk t' = some k → w.heap.size ≤ k) := fun k hk => by
            rcases at' with h | h
            · rw [h] at hk; exact HBK.out k hk
            · rw [h, Option.some.injEq] at hk; rw [← hk]; exact (HO.out.trans (A5.out.alloc (.cells #[.int .i64 s, .int .i64 i] 23)) (fun _ _ h => h)).size
          have HOW6 : Hid _ := own'
          clear own' off' at' own6 HCN c0 c1
          go_wp2_with fail
          go_roundw
          case rel => exact ⟨j + 1, t', c', ys, rfl, by go_num, by omega, by omega, by omega, HOW6.out, HB6.out, HO6.out⟩
          case measure => simp [intOf]; omega
      · have e30 : decide ((j : Int) < 30) = false := decide_eq_false (by omega)
        go_wp2_with fail
        go_roundw
        case rel => exact ⟨j + 1, t, c, l, rfl, by go_num, by omega, by omega, hl30, HOW.out.off A4.out (fun _ _ _ h => h), HBK.out, HO.out.trans A4.out (fun _ _ h => h)⟩
        case measure => simp [intOf]; omega
    · by_cases h0 : l.length = 0
      · have e0 : ((l.length : Int) == 0) = true := by simp [h0]
        have e1 : decide ((l.length : Int) = 0) = true := decide_eq_true (by omega)
        go_wp2_with fail
        refine (awake_any _).mono ?_
        rintro e ua ⟨rfl, oa⟩
        go_wp2_with fail
        go_ret
        exact ⟨rfl, HO.out.trans oa (fun _ _ h => h)⟩
      · have e0 : ((l.length : Int) == 0) = false := beq_eq_false_iff_ne.2 (by omega)
        have e1 : decide ((l.length : Int) = 0) = false := decide_eq_false (by omega)
        obtain ⟨g, rfl⟩ := HOW.out.first (by omega)
        have n0 : 0 ≤ (IntKind.u64.wrap p).tmod (l.length : Int) ∧ (IntKind.u64.wrap p).tmod (l.length : Int) < (l.length : Int) := by
          have hnn : 0 ≤ IntKind.u64.wrap p := by rw [IntKind.wrap_u64]; omega
          rw [Int.tmod_eq_emod_of_nonneg hnn]
          exact ⟨Int.emod_nonneg _ (by omega), Int.emod_lt_of_pos _ (by omega)⟩
        obtain ⟨n, ek⟩ := Int.eq_ofNat_of_zero_le n0.1
        have hn : n < l.length := by omega
        clear n0
        have ew : IntKind.u64.wrap (l.length : Int) = (l.length : Int) := by rw [IntKind.wrap_u64]; omega
        obtain ⟨⟨s0, i0⟩, hx0⟩ : ∃ x, l[0]? = some x := ⟨_, List.getElem?_eq_getElem (by omega)⟩
        obtain ⟨⟨st, it⟩, hxt⟩ : ∃ x, l[n]? = some x := ⟨_, List.getElem?_eq_getElem hn⟩
        have HX0 : Hid _ := hx0
        have HXT : Hid _ := hxt
        clear hx0 hxt
        go_upto_region 11 with fail
        clear ek ew e0 e1
        obtain ⟨v, hv⟩ : ∃ v, v = wr := ⟨_, rfl⟩
        rw [← hv] at HOW HO ⊢
        clear hv
        go_cut [8, 9] from 43 (fun s8 s9 wx => ∃ q8 q9, s8 = .pointer (some ⟨q8, 0, none⟩) ∧ s9 = .pointer (some ⟨q9, 0, none⟩) ∧ Cel q8 23 #[.int .i64 s0, .int .i64 i0] wx ∧ Cel q9 23 #[.int .i64 st, .int .i64 it] wx ∧ v.heap.size ≤ q8 ∧ v.heap.size ≤ q9 ∧ q8 ≠ q9 ∧ Off (fun c => v.heap.size ≤ c) v wx)
        case first =>
          obtain ⟨N, hN⟩ : ∃ N, N = v.heap.size := ⟨_, rfl⟩
          have HN : Hid _ := hN
          clear hN
          refine wp_region_held_drew (S := Off (fun c => N ≤ c) v) (by kernel_rfl) ((Off.refl _ v).drew) (fun hS => ?_)
          refine take_at (i := 0) 43 (v := .slice (some ⟨g, 0, none⟩) l.length c) rfl rfl (by kernel_rfl) (by kernel_rfl) (by kernel_rfl) (fun _ _ _ h => h) (Or.inl ⟨by rfl, fun w' hw' => by go_simp⟩) hS ?_
          simp only [Act.put, List.setIfInBounds_toArray, List.set_cons_zero, List.set_cons_succ]
          refine take_at (i := 1) 44 (v := .pointer (some ⟨g, 0, none⟩)) rfl rfl (by kernel_rfl) (by kernel_rfl) (by kernel_rfl) (fun _ _ _ h => h) (Or.inl ⟨by rfl, fun w' hw' => by go_simp⟩) hS ?_
          simp only [Act.put, List.setIfInBounds_toArray, List.set_cons_zero, List.set_cons_succ]
          refine take_at (i := 2) 45 (v := .agg #[.int .i64 s0, .int .i64 i0]) rfl rfl (by kernel_rfl) (by kernel_rfl) (by kernel_rfl) (fun _ _ _ h => h) (Or.inl ⟨by rfl, fun w' hw' => by obtain ⟨g9, e9, x0, x1⟩ := (HOW.out.off hw' (fun c h _ => by have := HN.out; omega)).atM HX0.out; simp only [Option.some.injEq, Addr.mk.injEq, and_true] at e9; subst e9; simp only [Nat.zero_mul, Nat.zero_add] at x0 x1; go_simp⟩) hS ?_
          simp only [Act.put, List.setIfInBounds_toArray, List.set_cons_zero, List.set_cons_succ]
          refine take_at (i := 3) 46 (v := .slice (some ⟨g, 0, none⟩) l.length c) rfl rfl (by kernel_rfl) (by kernel_rfl) (by kernel_rfl) (fun _ _ _ h => h) (Or.inl ⟨by rfl, fun w' hw' => by go_simp⟩) hS ?_
          simp only [Act.put, List.setIfInBounds_toArray, List.set_cons_zero, List.set_cons_succ]
          refine take_at (i := 4) 47 (v := .int .i64 (n : Int)) rfl rfl (by kernel_rfl) (by kernel_rfl) (by kernel_rfl) (fun _ _ _ h => h) (Or.inl ⟨by rfl, fun w' hw' => by go_simp⟩) hS ?_
          simp only [Act.put, List.setIfInBounds_toArray, List.set_cons_zero, List.set_cons_succ]
          refine take_at (i := 5) 48 (v := .pointer (some ⟨g, n * 2, none⟩)) rfl rfl (by kernel_rfl) (by kernel_rfl) (by kernel_rfl) (fun _ _ _ h => h) (Or.inl ⟨by rfl, fun w' hw' => exec_idx rfl (idx_mem hn c g w')⟩) hS ?_
          simp only [Act.put, List.setIfInBounds_toArray, List.set_cons_zero, List.set_cons_succ]
          refine take_at (i := 6) 49 (v := .agg #[.int .i64 st, .int .i64 it]) rfl rfl (by kernel_rfl) (by kernel_rfl) (by kernel_rfl) (fun _ _ _ h => h) (Or.inl ⟨by rfl, fun w' hw' => by obtain ⟨g9, e9, x0, x1⟩ := (HOW.out.off hw' (fun c h _ => by have := HN.out; omega)).atM HXT.out; simp only [Option.some.injEq, Addr.mk.injEq, and_true] at e9; subst e9; go_simp⟩) hS ?_
          simp only [Act.put, List.setIfInBounds_toArray, List.set_cons_zero, List.set_cons_succ]
          refine wpAnyH_ready (rs := [7, 8]) (by kernel_rfl) (by simp) ?_
          refine AllReadyH.cons rfl (fun K' hK' => ?_) (AllReadyH.cons rfl (fun K' hK' => ?_) AllReadyH.nil)
          · go_simp
            refine hK'.out _ _ (hS.alloc _) (fun hS => ?_)
            clear hK' K'
            refine wpAnyH_ready (rs := [8]) (by kernel_rfl) (by simp) ?_
            refine AllReadyH.cons rfl (fun K' hK' => ?_) AllReadyH.nil
            go_simp
            have hS2 : Off (fun c => N ≤ c) v (((v.alloc (.cells #[.int .i64 0, .int .i64 0] 23)).alloc (.cells #[.int .i64 0, .int .i64 0] 23)).drew) := (((Off.refl _ v).alloc _).alloc _).drew
            refine hK'.out _ _ hS2 (fun hS => ?_)
            clear hK' K' hS2
            have Cq8 : Cel v.heap.size 23 #[.int .i64 0, .int .i64 0] (((v.alloc (.cells #[.int .i64 0, .int .i64 0] 23)).alloc (.cells #[.int .i64 0, .int .i64 0] 23)).drew) := ((Cel.new v 23 #[.int .i64 0, .int .i64 0]).alloc _).drew
            have Cq9 : Cel (v.heap.size + 1) 23 #[.int .i64 0, .int .i64 0] (((v.alloc (.cells #[.int .i64 0, .int .i64 0] 23)).alloc (.cells #[.int .i64 0, .int .i64 0] 23)).drew) := (Cel.new1 v (.cells #[.int .i64 0, .int .i64 0] 23) 23 #[.int .i64 0, .int .i64 0]).drew
            have HQq8 : Hid (N ≤ v.heap.size) := by show _ ≤ _; have := HN.out; omega
            have HQq9 : Hid (N ≤ v.heap.size + 1) := by show _ ≤ _; have := HN.out; omega
            have HNE : Hid (v.heap.size ≠ v.heap.size + 1) := by show _ ≠ _; omega
            generalize hv : ((v.alloc (.cells #[.int .i64 0, .int .i64 0] 23)).alloc (.cells #[.int .i64 0, .int .i64 0] 23)).drew = V at Cq8 Cq9 hS ⊢
            generalize hqb : v.heap.size + 1 = q9 at Cq9 HQq9 HNE ⊢
            generalize hqa : v.heap.size = q8 at Cq8 HQq8 HNE ⊢
            clear hv hqa hqb
            have y0 := Cq8.cell 0
            have y1 := Cq8.cell 1
            simp at y0 y1
            have fr := Cq8.free
            refine wpAnyH_ready (rs := [9]) (by kernel_rfl) (by simp) ?_
            refine AllReadyH.cons rfl (fun K' hK' => ?_) AllReadyH.nil
            go_simp
            have hS1 := hS.st2 (b := q8) (.inl HQq8.out) (.int .i64 s0) (.int .i64 i0)
            refine hK'.out _ _ hS1 (fun hS => ?_)
            clear hK' K' hS1 y0 y1 fr
            have Dq8 := Cq8.st2 (.int .i64 s0) (.int .i64 i0)
            have OS := (Off.refl (fun c => c = q8) V).st2 (b := q8) (.inl rfl) (.int .i64 s0) (.int .i64 i0)
            replace Cq9 := Cq9.off OS HNE.out.symm
            generalize hv : (V.setCell ⟨q8, 0, none⟩ (.int .i64 s0)).setCell ⟨q8, 1, none⟩ (.int .i64 i0) = V2 at Dq8 Cq9 OS hS ⊢
            clear hv OS Cq8
            have Cq8 := Dq8
            clear Dq8
            have y0 := Cq9.cell 0
            have y1 := Cq9.cell 1
            simp at y0 y1
            have fr := Cq9.free
            refine wpAnyH_ready (rs := [10]) (by kernel_rfl) (by simp) ?_
            refine AllReadyH.cons rfl (fun K' hK' => ?_) AllReadyH.nil
            go_simp
            have hS1 := hS.st2 (b := q9) (.inl HQq9.out) (.int .i64 st) (.int .i64 it)
            refine hK'.out _ _ hS1 (fun hS => ?_)
            clear hK' K' hS1 y0 y1 fr
            have Dq9 := Cq9.st2 (.int .i64 st) (.int .i64 it)
            have OS := (Off.refl (fun c => c = q9) V2).st2 (b := q9) (.inl rfl) (.int .i64 st) (.int .i64 it)
            replace Cq8 := Cq8.off OS HNE.out
            generalize hv : (V2.setCell ⟨q9, 0, none⟩ (.int .i64 st)).setCell ⟨q9, 1, none⟩ (.int .i64 it) = V3 at Dq9 Cq8 OS hS ⊢
            clear hv OS Cq9
            have Cq9 := Dq9
            clear Dq9
            refine wpAnyH_done (by kernel_rfl) ?_ _
            go_wp2_with fail
            go_meet
            case rel => exact ⟨q8, q9, rfl, rfl, Cq8, Cq9, by rw [← HN.out]; exact HQq8.out, by rw [← HN.out]; exact HQq9.out, HNE.out, by rw [← HN.out]; exact hS⟩
          · go_simp
            refine hK'.out _ _ (hS.alloc _) (fun hS => ?_)
            clear hK' K'
            refine wpAnyH_ready (rs := [7]) (by kernel_rfl) (by simp) ?_
            refine AllReadyH.cons rfl (fun K' hK' => ?_) AllReadyH.nil
            go_simp
            have hS2 : Off (fun c => N ≤ c) v (((v.alloc (.cells #[.int .i64 0, .int .i64 0] 23)).alloc (.cells #[.int .i64 0, .int .i64 0] 23)).drew) := (((Off.refl _ v).alloc _).alloc _).drew
            refine hK'.out _ _ hS2 (fun hS => ?_)
            clear hK' K' hS2
            have Cq9 : Cel v.heap.size 23 #[.int .i64 0, .int .i64 0] (((v.alloc (.cells #[.int .i64 0, .int .i64 0] 23)).alloc (.cells #[.int .i64 0, .int .i64 0] 23)).drew) := ((Cel.new v 23 #[.int .i64 0, .int .i64 0]).alloc _).drew
            have Cq8 : Cel (v.heap.size + 1) 23 #[.int .i64 0, .int .i64 0] (((v.alloc (.cells #[.int .i64 0, .int .i64 0] 23)).alloc (.cells #[.int .i64 0, .int .i64 0] 23)).drew) := (Cel.new1 v (.cells #[.int .i64 0, .int .i64 0] 23) 23 #[.int .i64 0, .int .i64 0]).drew
            have HQq9 : Hid (N ≤ v.heap.size) := by show _ ≤ _; have := HN.out; omega
            have HQq8 : Hid (N ≤ v.heap.size + 1) := by show _ ≤ _; have := HN.out; omega
            have HNE : Hid (v.heap.size + 1 ≠ v.heap.size) := by show _ ≠ _; omega
            generalize hv : ((v.alloc (.cells #[.int .i64 0, .int .i64 0] 23)).alloc (.cells #[.int .i64 0, .int .i64 0] 23)).drew = V at Cq9 Cq8 hS ⊢
            generalize hqb : v.heap.size + 1 = q8 at Cq8 HQq8 HNE ⊢
            generalize hqa : v.heap.size = q9 at Cq9 HQq9 HNE ⊢
            clear hv hqa hqb
            have y0 := Cq8.cell 0
            have y1 := Cq8.cell 1
            simp at y0 y1
            have fr := Cq8.free
            refine wpAnyH_ready (rs := [9]) (by kernel_rfl) (by simp) ?_
            refine AllReadyH.cons rfl (fun K' hK' => ?_) AllReadyH.nil
            go_simp
            have hS1 := hS.st2 (b := q8) (.inl HQq8.out) (.int .i64 s0) (.int .i64 i0)
            refine hK'.out _ _ hS1 (fun hS => ?_)
            clear hK' K' hS1 y0 y1 fr
            have Dq8 := Cq8.st2 (.int .i64 s0) (.int .i64 i0)
            have OS := (Off.refl (fun c => c = q8) V).st2 (b := q8) (.inl rfl) (.int .i64 s0) (.int .i64 i0)
            replace Cq9 := Cq9.off OS HNE.out.symm
            generalize hv : (V.setCell ⟨q8, 0, none⟩ (.int .i64 s0)).setCell ⟨q8, 1, none⟩ (.int .i64 i0) = V2 at Dq8 Cq9 OS hS ⊢
            clear hv OS Cq8
            have Cq8 := Dq8
            clear Dq8
            have y0 := Cq9.cell 0
            have y1 := Cq9.cell 1
            simp at y0 y1
            have fr := Cq9.free
            refine wpAnyH_ready (rs := [10]) (by kernel_rfl) (by simp) ?_
            refine AllReadyH.cons rfl (fun K' hK' => ?_) AllReadyH.nil
            go_simp
            have hS1 := hS.st2 (b := q9) (.inl HQq9.out) (.int .i64 st) (.int .i64 it)
            refine hK'.out _ _ hS1 (fun hS => ?_)
            clear hK' K' hS1 y0 y1 fr
            have Dq9 := Cq9.st2 (.int .i64 st) (.int .i64 it)
            have OS := (Off.refl (fun c => c = q9) V2).st2 (b := q9) (.inl rfl) (.int .i64 st) (.int .i64 it)
            replace Cq8 := Cq8.off OS HNE.out
            generalize hv : (V2.setCell ⟨q9, 0, none⟩ (.int .i64 st)).setCell ⟨q9, 1, none⟩ (.int .i64 it) = V3 at Dq9 Cq8 OS hS ⊢
            clear hv OS Cq9
            have Cq9 := Dq9
            clear Dq9
            refine wpAnyH_done (by kernel_rfl) ?_ _
            go_wp2_with fail
            go_meet
            case rel => exact ⟨q8, q9, rfl, rfl, Cq8, Cq9, by rw [← HN.out]; exact HQq8.out, by rw [← HN.out]; exact HQq9.out, HNE.out, by rw [← HN.out]; exact hS⟩
        case rest =>
          obtain ⟨q8, q9, rfl, rfl, c8, c9, l8, l9, hne, o⟩ := hcut
          have HBX : Hid (Bx l (some ⟨g, 0, none⟩) c q8 q9 (s0, i0) (st, it) w wc) := ⟨HOW.out.off o (fun k hk _ h => by omega), c8, c9, HO.out.trans (o.mono (fun i hi h => absurd hi (by omega))) (fun _ _ h => h)⟩
          have HNE : Hid (q8 ≠ q9) := hne
          have HGq8 : Hid (g ≠ q8) := by
            have := HOW.out.lt g rfl
            show g ≠ q8
            omega
          have HGq9 : Hid (g ≠ q9) := by
            have := HOW.out.lt g rfl
            show g ≠ q9
            omega
          have HNq8 : Hid (w.heap.size ≤ q8) := Nat.le_trans HO.out.size l8
          have HNq9 : Hid (w.heap.size ≤ q9) := Nat.le_trans HO.out.size l9
          clear c8 c9 l8 l9 hne o HOW
          go_wp2_with fail
          go_loopw [52] (fun z wx => ∃ (k : Nat) (a b : Mb), z = .int .i64 (k : Int) ∧ k ≤ l.length ∧ Ch l n k a b ∧ Bx l (some ⟨g, 0, none⟩) c q8 q9 a b w wx) (fun z _ => ((l.length : Int) - intOf z).toNat)
          case atStart => exact ⟨0, (s0, i0), (st, it), rfl, by omega, ⟨List.mem_of_getElem? HX0.out, List.mem_of_getElem? HXT.out, fun j x h => by omega, fun j x h => by omega⟩, HBX.out⟩
          case round =>
            obtain ⟨k, ⟨sa, ia⟩, ⟨sb, ib⟩, rfl, hk, ch, bx⟩ := hrel
            have HCH : Hid _ := ch
            have HX : Hid _ := bx
            clear ch bx HBX
            by_cases hlt2 : k < l.length
            · obtain ⟨⟨sx, ix⟩, hxx⟩ : ∃ x, l[k]? = some x := ⟨_, List.getElem?_eq_getElem (hlt2)⟩
              have HXX : Hid _ := hxx
              clear hxx
              have hkn : (k + n) % l.length < l.length := Nat.mod_lt _ (by omega)
              obtain ⟨⟨sy, iy⟩, hxy⟩ : ∃ x, l[(k + n) % l.length]? = some x := ⟨_, List.getElem?_eq_getElem (hkn)⟩
              have HXY : Hid _ := hxy
              clear hxy
              go_upto_region 15 with fail
              refine wp_region_held_drew (S := Off (fun k => k = q8) wr) (by kernel_rfl) ((Off.refl _ wr).drew) (fun hS => ?_)
              refine take_at (i := 1) 56 (v := .slice (some ⟨g, 0, none⟩) l.length c) rfl rfl (by kernel_rfl) (by kernel_rfl) (by kernel_rfl) (fun _ _ _ h => h) (Or.inl ⟨by rfl, fun w' hw' => by go_simp⟩) hS ?_
              simp only [Act.put, List.setIfInBounds_toArray, List.set_cons_zero, List.set_cons_succ]
              refine take_at (i := 2) 57 (v := .int .i64 (k : Int)) rfl rfl (by kernel_rfl) (by kernel_rfl) (by kernel_rfl) (fun _ _ _ h => h) (Or.inl ⟨by rfl, fun w' hw' => by go_simp⟩) hS ?_
              simp only [Act.put, List.setIfInBounds_toArray, List.set_cons_zero, List.set_cons_succ]
              refine take_at (i := 3) 58 (v := .pointer (some ⟨g, k * 2, none⟩)) rfl rfl (by kernel_rfl) (by kernel_rfl) (by kernel_rfl) (fun _ _ _ h => h) (Or.inl ⟨by rfl, fun w' hw' => exec_idx rfl (idx_mem hlt2 c g w')⟩) hS ?_
              simp only [Act.put, List.setIfInBounds_toArray, List.set_cons_zero, List.set_cons_succ]
              refine take_at (i := 4) 59 (v := .agg #[.int .i64 sx, .int .i64 ix]) rfl rfl (by kernel_rfl) (by kernel_rfl) (by kernel_rfl) (fun _ _ _ h => h) (Or.inl ⟨by rfl, fun w' hw' => by obtain ⟨g9, e9, x0, x1⟩ := (HX.out.own.off hw' (fun _ _ h e => HGq8.out (by simp [blk] at h; omega))).atM HXX.out; simp only [Option.some.injEq, Addr.mk.injEq, and_true] at e9; subst e9; go_simp⟩) hS ?_
              simp only [Act.put, List.setIfInBounds_toArray, List.set_cons_zero, List.set_cons_succ]
              have y0 := (HX.out.c8.drew).cell 0
              have y1 := (HX.out.c8.drew).cell 1
              simp at y0 y1
              refine wpAnyH_ready (rs := [0]) (by kernel_rfl) (by simp) ?_
              refine AllReadyH.cons rfl (fun K' hK' => ?_) AllReadyH.nil
              go_simp
              refine hK'.out _ _ hS (fun hS => ?_)
              clear hK' K' y0 y1
              refine wpAnyH_ready (rs := [5]) (by kernel_rfl) (by simp) ?_
              refine AllReadyH.cons rfl (fun K' hK' => ?_) AllReadyH.nil
              go_simp
              refine (join_any sa ia sx ix _).mono ?_
              rintro e v1 ⟨rfl, o1⟩
              refine hK'.out _ _ (hS.trans o1 (fun _ _ h => h.elim)) (fun hS => ?_)
              clear hK' K'
              have D1 := HX.out.c8.drew.off o1 (fun h => h)
              have y0 := D1.cell 0
              have y1 := D1.cell 1
              simp at y0 y1
              have fr := D1.free
              clear D1
              refine wpAnyH_ready (rs := [6]) (by kernel_rfl) (by simp) ?_
              refine AllReadyH.cons rfl (fun K' hK' => ?_) AllReadyH.nil
              go_simp
              refine hK'.out _ _ (hS.st2 (.inl rfl) _ _) (fun hS => ?_)
              clear hK' K' y0 y1 fr
              have B1 := (HX.out.drew.off o1).set8 HNE.out HGq8.out HNq8.out (jS sa ia sx ix) (jI sa ia sx ix)
              generalize hv : (v1.setCell ⟨q8, 0, none⟩ (.int .i64 (jS sa ia sx ix))).setCell ⟨q8, 1, none⟩ (.int .i64 (jI sa ia sx ix)) = V5 at B1 hS ⊢
              clear hv hS o1
              have BV5 : Hid _ := B1
              clear B1
              refine wpAnyH_done (by kernel_rfl) ?_ _
              go_upto_region 16 with fail
              refine wp_region_held_drew (S := Off (fun k => k = q9) V5) (by kernel_rfl) ((Off.refl _ V5).drew) (fun hS => ?_)
              refine take_at (i := 1) 62 (v := .slice (some ⟨g, 0, none⟩) l.length c) rfl rfl (by kernel_rfl) (by kernel_rfl) (by kernel_rfl) (fun _ _ _ h => h) (Or.inl ⟨by rfl, fun w' hw' => by go_simp⟩) hS ?_
              simp only [Act.put, List.setIfInBounds_toArray, List.set_cons_zero, List.set_cons_succ]
              refine take_at (i := 2) 63 (v := .int .i64 (k : Int)) rfl rfl (by kernel_rfl) (by kernel_rfl) (by kernel_rfl) (fun _ _ _ h => h) (Or.inl ⟨by rfl, fun w' hw' => by go_simp⟩) hS ?_
              simp only [Act.put, List.setIfInBounds_toArray, List.set_cons_zero, List.set_cons_succ]
              refine take_at (i := 3) 64 (v := .int .i64 (n : Int)) rfl rfl (by kernel_rfl) (by kernel_rfl) (by kernel_rfl) (fun _ _ _ h => h) (Or.inl ⟨by rfl, fun w' hw' => by go_simp⟩) hS ?_
              simp only [Act.put, List.setIfInBounds_toArray, List.set_cons_zero, List.set_cons_succ]
              refine take_at (i := 4) 65 (v := .int .i64 ((k : Int) + (n : Int))) rfl rfl (by kernel_rfl) (by kernel_rfl) (by kernel_rfl) (fun _ _ _ h => h) (Or.inl ⟨by rfl, fun w' hw' => by go_simp; rw [IntKind.wrap_i64]; omega⟩) hS ?_
              simp only [Act.put, List.setIfInBounds_toArray, List.set_cons_zero, List.set_cons_succ]
              refine take_at (i := 5) 66 (v := .slice (some ⟨g, 0, none⟩) l.length c) rfl rfl (by kernel_rfl) (by kernel_rfl) (by kernel_rfl) (fun _ _ _ h => h) (Or.inl ⟨by rfl, fun w' hw' => by go_simp⟩) hS ?_
              simp only [Act.put, List.setIfInBounds_toArray, List.set_cons_zero, List.set_cons_succ]
              refine take_at (i := 6) 67 (v := .int .i64 (l.length : Int)) rfl rfl (by kernel_rfl) (by kernel_rfl) (by kernel_rfl) (fun _ _ _ h => h) (Or.inl ⟨by rfl, fun w' hw' => by go_simp⟩) hS ?_
              simp only [Act.put, List.setIfInBounds_toArray, List.set_cons_zero, List.set_cons_succ]
              refine take_at (i := 7) 68 (v := .int .i64 (((k + n) % l.length : Nat) : Int)) rfl rfl (by kernel_rfl) (by kernel_rfl) (by kernel_rfl) (fun _ _ _ h => h) (Or.inl ⟨by rfl, fun w' hw' => by go_simp; exact Int.tmod_eq_emod_of_nonneg (by omega)⟩) hS ?_
              simp only [Act.put, List.setIfInBounds_toArray, List.set_cons_zero, List.set_cons_succ]
              refine take_at (i := 8) 69 (v := .pointer (some ⟨g, ((k + n) % l.length) * 2, none⟩)) rfl rfl (by kernel_rfl) (by kernel_rfl) (by kernel_rfl) (fun _ _ _ h => h) (Or.inl ⟨by rfl, fun w' hw' => exec_idx rfl (idx_mem hkn c g w')⟩) hS ?_
              simp only [Act.put, List.setIfInBounds_toArray, List.set_cons_zero, List.set_cons_succ]
              refine take_at (i := 9) 70 (v := .agg #[.int .i64 sy, .int .i64 iy]) rfl rfl (by kernel_rfl) (by kernel_rfl) (by kernel_rfl) (fun _ _ _ h => h) (Or.inl ⟨by rfl, fun w' hw' => by obtain ⟨g9, e9, x0, x1⟩ := (BV5.out.own.off hw' (fun _ _ h e => HGq9.out (by simp [blk] at h; omega))).atM HXY.out; simp only [Option.some.injEq, Addr.mk.injEq, and_true] at e9; subst e9; go_simp⟩) hS ?_
              simp only [Act.put, List.setIfInBounds_toArray, List.set_cons_zero, List.set_cons_succ]
              have y0 := (BV5.out.c9.drew).cell 0
              have y1 := (BV5.out.c9.drew).cell 1
              simp at y0 y1
              refine wpAnyH_ready (rs := [0]) (by kernel_rfl) (by simp) ?_
              refine AllReadyH.cons rfl (fun K' hK' => ?_) AllReadyH.nil
              go_simp
              refine hK'.out _ _ hS (fun hS => ?_)
              clear hK' K' y0 y1
              refine wpAnyH_ready (rs := [10]) (by kernel_rfl) (by simp) ?_
              refine AllReadyH.cons rfl (fun K' hK' => ?_) AllReadyH.nil
              go_simp
              refine (join_any sb ib sy iy _).mono ?_
              rintro e v1 ⟨rfl, o1⟩
              refine hK'.out _ _ (hS.trans o1 (fun _ _ h => h.elim)) (fun hS => ?_)
              clear hK' K'
              have D1 := BV5.out.c9.drew.off o1 (fun h => h)
              have y0 := D1.cell 0
              have y1 := D1.cell 1
              simp at y0 y1
              have fr := D1.free
              clear D1
              refine wpAnyH_ready (rs := [11]) (by kernel_rfl) (by simp) ?_
              refine AllReadyH.cons rfl (fun K' hK' => ?_) AllReadyH.nil
              go_simp
              refine hK'.out _ _ (hS.st2 (.inl rfl) _ _) (fun hS => ?_)
              clear hK' K' y0 y1 fr
              have B1 := (BV5.out.drew.off o1).set9 HNE.out.symm HGq9.out HNq9.out (jS sb ib sy iy) (jI sb ib sy iy)
              generalize hv : (v1.setCell ⟨q9, 0, none⟩ (.int .i64 (jS sb ib sy iy))).setCell ⟨q9, 1, none⟩ (.int .i64 (jI sb ib sy iy)) = V6 at B1 hS ⊢
              clear hv hS o1
              have BV6 : Hid _ := B1
              clear B1
              refine wpAnyH_done (by kernel_rfl) ?_ _
              go_wp2_with fail
              go_roundw
              case rel => exact ⟨k + 1, jn (sa, ia) (sx, ix), jn (sb, ib) (sy, iy), by go_num, by omega, HCH.out.step HXX.out HXY.out, BV6.out⟩
              case measure => simp [intOf]; omega
            · obtain rfl : k = l.length := by omega
              have HAB : Hid (∀ x ∈ l, lq x (sa, ia) = true) := HCH.out.above
              have HIN : Hid ((sa, ia) ∈ l) := HCH.out.ina
              obtain ⟨rfl, rfl⟩ := Prod.mk.inj (HCH.out.same hn)
              clear HCH HX0 HXT
              go_wp2_with fail
              go_loopw [11, 75] (fun s11 z wx => ∃ k : Nat, s11 = .bool (inK l (sa, ia) k) ∧ z = .int .i64 (k : Int) ∧ k ≤ l.length ∧ Bx l (some ⟨g, 0, none⟩) c q8 q9 (sa, ia) (sa, ia) w wx) (fun _ z _ => ((l.length : Int) - intOf z).toNat)
              case atStart => exact ⟨0, rfl, rfl, by omega, HX.out⟩
              case round =>
                obtain ⟨k, rfl, rfl, hk3, bx⟩ := hrel
                have HY : Hid _ := bx
                clear bx HX
                by_cases hlt3 : k < l.length
                · obtain ⟨⟨sx, ix⟩, hxx⟩ : ∃ x, l[k]? = some x := ⟨_, List.getElem?_eq_getElem (hlt3)⟩
                  have HXX : Hid _ := hxx
                  clear hxx
                  obtain ⟨g9, e9, x0, x1⟩ := HY.out.own.atM HXX.out
                  simp only [Option.some.injEq, Addr.mk.injEq, and_true] at e9
                  subst e9
                  replace x0 : wr.cell? ⟨g, k * 2, none⟩ = some (.int .i64 sx) := x0
                  replace x1 : wr.cell? ⟨g, k * 2 + 1, none⟩ = some (.int .i64 ix) := x1
                  have A4 : Off (fun _ => False) wr (wr.alloc (.cells #[.int .i64 sx, .int .i64 ix] 23)) := (Off.refl _ wr).alloc _
                  have HB4 : Hid _ := HY.out.off A4
                  have HC4 : Hid _ := Cel.new wr 23 #[.int .i64 sx, .int .i64 ix]
                  have z0 : (wr.alloc (.cells #[.int .i64 sx, .int .i64 ix] 23)).cell? ⟨q8, 0, none⟩ = some (.int .i64 sa) := HB4.out.c8.cell 0
                  have z1 : (wr.alloc (.cells #[.int .i64 sx, .int .i64 ix] 23)).cell? ⟨q8, 1, none⟩ = some (.int .i64 ia) := HB4.out.c8.cell 1
                  clear A4
                  have HL : Hid (∀ W, Calls Try.prog 14 #[.agg #[.int .i64 sx, .int .i64 ix], .agg #[.int .i64 sa, .int .i64 ia]] W fun e w' => e = .returned (.bool true) ∧ Off (fun _ => False) W w') := fun W => by
                    have h := leq_any sx ix sa ia W
                    have e : leqM sx ix sa ia = true := HAB.out _ (List.mem_of_getElem? HXX.out)
                    rwa [e] at h
                  have HS : Hid _ := inK_succ (a := (sa, ia)) HXX.out
                  generalize hb : inK l (sa, ia) k = bb at HS ⊢
                  clear hb
                  go_wp2_with fail
                  clear z0 z1 x0 x1
                  generalize hW : wr.alloc (.cells #[.int .i64 sx, .int .i64 ix] 23) = W at HB4 HC4 ⊢
                  clear hW
                  refine (HL.out _).mono ?_
                  rintro e w1 ⟨rfl, o1⟩
                  have HB5 : Hid _ := HB4.out.off o1
                  have HC5 : Hid _ := HC4.out.off o1 (fun h => h)
                  clear o1 HB4 HC4
                  have c0 : w1.cell? ⟨wr.heap.size, 0, none⟩ = some (.int .i64 sx) := HC5.out.cell 0
                  have c1 : w1.cell? ⟨wr.heap.size, 1, none⟩ = some (.int .i64 ix) := HC5.out.cell 1
                  have z0 : w1.cell? ⟨q8, 0, none⟩ = some (.int .i64 sa) := HB5.out.c8.cell 0
                  have z1 : w1.cell? ⟨q8, 1, none⟩ = some (.int .i64 ia) := HB5.out.c8.cell 1
                  have he := eql_mem sx ix sa ia
                  cases bb
                  · go_wp2_with fail
                    go_roundw
                    case rel => exact ⟨k + 1, by rw [HS.out]; rfl, by go_num, by omega, HB5.out⟩
                    case measure => simp [intOf]; omega
                  · go_wp2_with fail
                    go_roundw
                    case rel => exact ⟨k + 1, by rw [HS.out]; rfl, by go_num, by omega, HB5.out⟩
                    case measure => simp [intOf]; omega
                · obtain rfl : k = l.length := by omega
                  have HI : Hid (inK l (sa, ia) l.length = true) := inK_all HIN.out
                  rw [HI.out]
                  have z0 : wr.cell? ⟨q8, 0, none⟩ = some (.int .i64 sa) := HY.out.c8.cell 0
                  have z1 : wr.cell? ⟨q8, 1, none⟩ = some (.int .i64 ia) := HY.out.c8.cell 1
                  have y0 : wr.cell? ⟨q9, 0, none⟩ = some (.int .i64 sa) := HY.out.c9.cell 0
                  have y1 : wr.cell? ⟨q9, 1, none⟩ = some (.int .i64 ia) := HY.out.c9.cell 1
                  go_wp2_with fail
                  refine (awake_any _).mono ?_
                  rintro e ua ⟨rfl, oa⟩
                  go_wp2_with fail
                  go_ret
                  exact ⟨rfl, HY.out.off1.trans oa (fun _ _ h => h)⟩
end Go.Proofs.Ytgnchloclkjalaa
