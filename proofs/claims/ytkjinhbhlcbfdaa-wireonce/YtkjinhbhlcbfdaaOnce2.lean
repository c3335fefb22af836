/- The walk of WireOnce. -/
import Derived.Test.YtkjinhbhlcbfdaaOnceQ
namespace Go.Proofs.Ytkjinhbhlcbfdaa
open Go.RowKit

theorem text_len3 (bs : List Nat) (hok : Ok (bs, 0)) (h : bs.length ≤ 140737488351232) : (textS bs.length (bs, 0)).1.length ≤ 140737488351232 := by
  have hc := (count_ok bs.length (s := (bs, 0)) hok).2.1
  unfold textS
  split
  · simp
  · split
    · simp
    · simp only [List.length_take]
      omega
set_option maxRecDepth 100000 in
set_option maxHeartbeats 16000000 in
theorem once_walk (tad : Option Addr) (len cap : Nat) (bs : List Nat) (w : World) (ha : ArgB w tad len cap bs) :
    Calls Try.prog 7 #[.slice tad len cap] w fun e w' => e = .returned (.bool true) ∧ Below w.heap.size w w' := by
  obtain rfl := ha.len
  have hlb := ha.bound
  have HLB : Hid _ := hlb
  have HLT : Hid _ := ha.lt
  obtain ⟨W, hW⟩ : ∃ W, W = w.alloc (.cells #[.slice tad bs.length cap] 26) := ⟨_, rfl⟩
  have O : Off (fun _ => False) w W := by rw [hW]; exact (Off.refl _ w).alloc _
  have C0 : Cel w.heap.size 26 #[.slice tad bs.length cap] W := by rw [hW]; exact Cel.new w _ _
  have HS0 : Hid _ := ha.src.off O (fun _ _ _ h => h)
  have HSw : Hid _ := ha.src
  have HO : Hid _ := O
  have HQ0 : Hid _ := C0
  have HW : Hid _ := hW.symm
  have ok0 : Ok (bs, 0) := ⟨ha.lt, fun h => absurd rfl h, Nat.zero_le _⟩
  have HN : Hid ((numS (bs, 0)).1 < 18446744073709551616 ∧ (endS (numS (bs, 0)).2 = 0 → numB (numS (bs, 0)).1 = bs)) := ⟨(num_ok ok0).2.1, fun h => (once_num ha.lt h).1⟩
  have HI : Hid (-9223372036854775808 ≤ (intS (bs, 0)).1 ∧ (intS (bs, 0)).1 ≤ 9223372036854775807 ∧ (endS (intS (bs, 0)).2 = 0 → numB (zig (intS (bs, 0)).1) = bs)) := ⟨(unzig_range (num_ok ok0).2.1).1, (unzig_range (num_ok ok0).2.1).2, fun h => once_int ha.lt h⟩
  have HG : Hid (endS (flagS (bs, 0)).2 = 0 → [if (flagS (bs, 0)).1 then 1 else 0] = bs) := fun h => once_flag h
  have HX : Hid ((textS bs.length (bs, 0)).1.length ≤ 140737488351232 ∧ (endS (textS bs.length (bs, 0)).2 = 0 → numB (textS bs.length (bs, 0)).1.length ++ (textS bs.length (bs, 0)).1 = bs)) := ⟨text_len3 bs ok0 hlb, fun h => once_text ha.lt h⟩
  have HT0 : Hid (∀ x : Int, True) := fun _ => trivial
  clear hW C0 O ha ok0 HT0
  obtain ⟨n, hn⟩ : ∃ n, n = (numS (bs, 0)).1 := ⟨_, rfl⟩
  obtain ⟨t0, ht0⟩ : ∃ t, t = (numS (bs, 0)).2 := ⟨_, rfl⟩
  obtain ⟨i, hi⟩ : ∃ i, i = (intS (bs, 0)).1 := ⟨_, rfl⟩
  obtain ⟨t1, ht1⟩ : ∃ t, t = (intS (bs, 0)).2 := ⟨_, rfl⟩
  obtain ⟨g, hg⟩ : ∃ g, g = (flagS (bs, 0)).1 := ⟨_, rfl⟩
  obtain ⟨t2, ht2⟩ : ∃ t, t = (flagS (bs, 0)).2 := ⟨_, rfl⟩
  obtain ⟨text, htx⟩ : ∃ x, x = (textS bs.length (bs, 0)).1 := ⟨_, rfl⟩
  obtain ⟨t3, ht3⟩ : ∃ t, t = (textS bs.length (bs, 0)).2 := ⟨_, rfl⟩
  rw [← hn, ← ht0] at HN
  rw [← hi, ← ht1] at HI
  rw [← hg, ← ht2] at HG
  rw [← htx, ← ht3] at HX
  have HT0 : Hid (numS (bs, 0) = (n, t0)) := by show _ = _; rw [hn, ht0]
  have HT1 : Hid (intS (bs, 0) = (i, t1)) := by show _ = _; rw [hi, ht1]
  have HT2 : Hid (flagS (bs, 0) = (g, t2)) := by show _ = _; rw [hg, ht2]
  have HT3 : Hid (textS ((bs.length : Nat) : Int).toNat (bs, 0) = (text, t3)) := by show _ = _; rw [htx, ht3]; rfl
  clear hn ht0 hi ht1 hg ht2 htx ht3
  go_enter Try.func7, Try.ntmps7
  go_upto_region 1 with fail
  rw [HW.out]
  generalize hq0 : w.heap.size = q0 at HQ0 ⊢
  have HQL : Hid (q0 < W.heap.size ∧ w.heap.size ≤ q0) := ⟨HQ0.out.lt, by omega⟩
  clear hq0 HW
  refine wp_region_held_drew (S := fun w' => Off (fun _ => False) W w') (by kernel_rfl) ((Off.refl _ W).drew) (fun hS => ?_)
  have HU : Hid (W.heap.size ≤ W.drew.heap.size) := Nat.le_refl _
  generalize hdr : W.drew = u at hS HU ⊢
  clear hdr
  refine take_at (i := 0) 12 (v := .slice tad bs.length cap) rfl rfl (by kernel_rfl) (by kernel_rfl) (by kernel_rfl) (fun _ _ _ h => h) (Or.inl ⟨by rfl, fun w' hw' => by have e := (HQ0.out.off hw' (fun h => h)).cell 0; simp at e; go_simp⟩) hS ?_
  simp only [Act.put, List.setIfInBounds_toArray, List.set_cons_zero, List.set_cons_succ]
  refine take_at (i := 2) 14 (v := .slice tad bs.length cap) rfl rfl (by kernel_rfl) (by kernel_rfl) (by kernel_rfl) (fun _ _ _ h => h) (Or.inl ⟨by rfl, fun w' hw' => by have e := (HQ0.out.off hw' (fun h => h)).cell 0; simp at e; go_simp⟩) hS ?_
  simp only [Act.put, List.setIfInBounds_toArray, List.set_cons_zero, List.set_cons_succ]
  refine take_at (i := 4) 16 (v := .slice tad bs.length cap) rfl rfl (by kernel_rfl) (by kernel_rfl) (by kernel_rfl) (fun _ _ _ h => h) (Or.inl ⟨by rfl, fun w' hw' => by have e := (HQ0.out.off hw' (fun h => h)).cell 0; simp at e; go_simp⟩) hS ?_
  simp only [Act.put, List.setIfInBounds_toArray, List.set_cons_zero, List.set_cons_succ]
  refine take_at (i := 6) 18 (v := .slice tad bs.length cap) rfl rfl (by kernel_rfl) (by kernel_rfl) (by kernel_rfl) (fun _ _ _ h => h) (Or.inl ⟨by rfl, fun w' hw' => by have e := (HQ0.out.off hw' (fun h => h)).cell 0; simp at e; go_simp⟩) hS ?_
  simp only [Act.put, List.setIfInBounds_toArray, List.set_cons_zero, List.set_cons_succ]
  refine wpAnyH_ready (rs := [1]) (by kernel_rfl) (by simp) ?_
  refine AllReadyH.cons rfl (fun K' hK' => ?_) AllReadyH.nil
  go_simp
  refine (newReader_any tad cap bs (by omega) HLT.out _ (HS0.out.off hS (fun _ _ _ h => h))).mono ?_
  rintro e u0 ⟨b0, D0, rfl, lo0, ld0, R0, o0⟩
  have hS1 := hS.trans o0 (fun _ _ h => h)
  refine hK'.out _ _ hS1 (fun hS => ?_)
  clear hK' K' hS1
  refine wpAnyH_ready (rs := [3]) (by kernel_rfl) (by simp) ?_
  refine AllReadyH.cons rfl (fun K' hK' => ?_) AllReadyH.nil
  go_simp
  refine (newReader_any tad cap bs (by omega) HLT.out _ (HS0.out.off hS (fun _ _ _ h => h))).mono ?_
  rintro e u1 ⟨b1, D1, rfl, lo1, ld1, R1, o1⟩
  have hS1 := hS.trans o1 (fun _ _ h => h)
  refine hK'.out _ _ hS1 (fun hS => ?_)
  clear hK' K' hS1
  refine wpAnyH_ready (rs := [5]) (by kernel_rfl) (by simp) ?_
  refine AllReadyH.cons rfl (fun K' hK' => ?_) AllReadyH.nil
  go_simp
  refine (newReader_any tad cap bs (by omega) HLT.out _ (HS0.out.off hS (fun _ _ _ h => h))).mono ?_
  rintro e u2 ⟨b2, D2, rfl, lo2, ld2, R2, o2⟩
  have hS1 := hS.trans o2 (fun _ _ h => h)
  refine hK'.out _ _ hS1 (fun hS => ?_)
  clear hK' K' hS1
  refine wpAnyH_ready (rs := [7]) (by kernel_rfl) (by simp) ?_
  refine AllReadyH.cons rfl (fun K' hK' => ?_) AllReadyH.nil
  go_simp
  refine (newReader_any tad cap bs (by omega) HLT.out _ (HS0.out.off hS (fun _ _ _ h => h))).mono ?_
  rintro e u3 ⟨b3, D3, rfl, lo3, ld3, R3, o3⟩
  have hS1 := hS.trans o3 (fun _ _ h => h)
  refine hK'.out _ _ hS1 (fun hS => ?_)
  clear hK' K' hS1
  refine take_at (i := 8) 3 (v := .pointer (some ⟨b0, 0, none⟩)) rfl rfl (by kernel_rfl) (by kernel_rfl) (by kernel_rfl) (fun _ _ _ h => h) (Or.inl ⟨by rfl, fun w' hw' => by go_simp⟩) hS ?_
  simp only [Act.put, List.setIfInBounds_toArray, List.set_cons_zero, List.set_cons_succ]
  refine take_at (i := 9) 4 (v := .pointer (some ⟨b1, 0, none⟩)) rfl rfl (by kernel_rfl) (by kernel_rfl) (by kernel_rfl) (fun _ _ _ h => h) (Or.inl ⟨by rfl, fun w' hw' => by go_simp⟩) hS ?_
  simp only [Act.put, List.setIfInBounds_toArray, List.set_cons_zero, List.set_cons_succ]
  refine take_at (i := 10) 5 (v := .pointer (some ⟨b2, 0, none⟩)) rfl rfl (by kernel_rfl) (by kernel_rfl) (by kernel_rfl) (fun _ _ _ h => h) (Or.inl ⟨by rfl, fun w' hw' => by go_simp⟩) hS ?_
  simp only [Act.put, List.setIfInBounds_toArray, List.set_cons_zero, List.set_cons_succ]
  refine take_at (i := 11) 6 (v := .pointer (some ⟨b3, 0, none⟩)) rfl rfl (by kernel_rfl) (by kernel_rfl) (by kernel_rfl) (fun _ _ _ h => h) (Or.inl ⟨by rfl, fun w' hw' => by go_simp⟩) hS ?_
  simp only [Act.put, List.setIfInBounds_toArray, List.set_cons_zero, List.set_cons_succ]
  refine wpAnyH_done (by kernel_rfl) ?_ _
  have z0 := R0.here
  have z1 := R1.here
  have z2 := R2.here
  have z3 := R3.here
  have y1 := o1.size
  have y2 := o2.size
  have y3 := o3.size
  have e0 := R0.lt
  have e1 := R1.lt
  have e2 := R2.lt
  have e3 := R3.lt
  have AP : Apart u3 D0 D1 D2 D3 b0 b1 b2 b3 := ⟨by omega, fun c hc h => by have := e0 c hc; omega, fun c hc h => by have := e1 c hc; have := ld1 c hc; omega, fun c hc h => by have := e2 c hc; have := ld2 c hc; omega, fun c hc h => by have := ld3 c hc; omega, by omega⟩
  have LD : Hid (∀ c, (D0 c ∨ D1 c ∨ D2 c ∨ D3 c) → c < u3.heap.size) := fun c hc => by
    rcases hc with h | h | h | h
    · have := e0 c h; omega
    · have := e1 c h; omega
    · have := e2 c h; omega
    · exact e3 c h
  have hW0 : W.heap.size ≤ b0 := by have := HU.out; omega
  have II : Inv u3 u3 D0 D1 D2 D3 b0 b1 b2 b3 (bs, 0) (bs, 0) (bs, 0) (bs, 0) := ⟨AP, R0.off (o1.trans (o2.trans o3 (fun _ _ h => h)) (fun _ _ h => h)) (fun h => h) (fun _ _ _ h => h), R1.off (o2.trans o3 (fun _ _ h => h)) (fun h => h) (fun _ _ _ h => h), R2.off o3 (fun h => h) (fun _ _ _ h => h), R3, Off.refl _ _⟩
  have HII : Hid _ := II
  have HAP0 : Hid _ := AP
  have HU3 : Hid _ := hS
  have HBW : Hid (W.heap.size ≤ b0 ∧ W.heap.size ≤ b1 ∧ W.heap.size ≤ b2 ∧ W.heap.size ≤ b3) := ⟨hW0, by omega, by omega, by omega⟩
  clear z0 z1 z2 z3 y1 y2 y3 e0 e1 e2 e3 AP II R0 R1 R2 R3 o0 o1 o2 o3 lo0 lo1 lo2 lo3 ld0 ld1 ld2 ld3 hS hW0
  go_upto_region 2 with fail
  obtain ⟨V, hV⟩ : ∃ V, V = u3 := ⟨_, rfl⟩
  rw [← hV] at HII HAP0 HU3 LD ⊢
  have HIV : Hid _ := HII.out
  have HAP : Hid _ := HAP0.out
  clear hV HII HAP0
  have HBX : Hid (∀ w', Off (B4 b0 b1 b2 b3) V w' → w'.cell? ⟨q0, 0, none⟩ = some (.slice tad bs.length cap)) := fun w' o => by
    have c := (HQ0.out.off HU3.out (fun h => h)).off o (fun e => by have := HQL.out.1; have := HBW.out; unfold B4 at e; omega)
    have := c.cell 0
    simpa using this
  have HSR : Hid (∀ w', Off (B4 b0 b1 b2 b3) V w' → Src w' tad cap bs) := fun w' o => HS0.out.off (((HU3.out.mono (fun _ _ h => h.elim)).trans o (fun _ _ h => h)) : Off (B4 b0 b1 b2 b3) W w') (fun c hc _ e => by have := HBW.out; unfold B4 at e; omega)
  have HEND : Hid (∀ w', Off (B4 b0 b1 b2 b3) V w' → ∀ w'', Off (fun _ => False) w' w'' → Below w.heap.size w w'') := fun w' o w'' o2 => by
    have h1 : Off (B4 b0 b1 b2 b3) w w'' := ((HO.out.trans HU3.out (fun _ _ h => h)).mono (fun _ _ h => h.elim)).trans (o.trans (o2.mono (fun _ _ h => h.elim)) (fun _ _ h => h)) (fun _ _ h => h)
    exact h1.below (Nat.le_refl _) (fun k hk => by have := HBW.out; have := HO.out.size; unfold B4 at hk; omega)
  refine wp_region_held_drew (S := fun w' => Off (B4 b0 b1 b2 b3) V w') (by kernel_rfl) ((Off.refl _ V).drew) (fun hS => ?_)
  have I := HIV.out.free ((Off.refl _ V).drew)
  generalize hdr : V.drew = v at hS I ⊢
  clear hdr
  refine take_at (i := 0) 20 (v := .pointer (some ⟨b0, 0, none⟩)) rfl rfl (by kernel_rfl) (by kernel_rfl) (by kernel_rfl) (fun _ _ _ h => h) (Or.inl ⟨by rfl, fun w' hw' => by go_simp⟩) hS ?_
  simp only [Act.put, List.setIfInBounds_toArray, List.set_cons_zero, List.set_cons_succ]
  refine take_at (i := 2) 22 (v := .pointer (some ⟨b1, 0, none⟩)) rfl rfl (by kernel_rfl) (by kernel_rfl) (by kernel_rfl) (fun _ _ _ h => h) (Or.inl ⟨by rfl, fun w' hw' => by go_simp⟩) hS ?_
  simp only [Act.put, List.setIfInBounds_toArray, List.set_cons_zero, List.set_cons_succ]
  refine take_at (i := 4) 24 (v := .pointer (some ⟨b2, 0, none⟩)) rfl rfl (by kernel_rfl) (by kernel_rfl) (by kernel_rfl) (fun _ _ _ h => h) (Or.inl ⟨by rfl, fun w' hw' => by go_simp⟩) hS ?_
  simp only [Act.put, List.setIfInBounds_toArray, List.set_cons_zero, List.set_cons_succ]
  refine take_at (i := 6) 26 (v := .pointer (some ⟨b3, 0, none⟩)) rfl rfl (by kernel_rfl) (by kernel_rfl) (by kernel_rfl) (fun _ _ _ h => h) (Or.inl ⟨by rfl, fun w' hw' => by go_simp⟩) hS ?_
  simp only [Act.put, List.setIfInBounds_toArray, List.set_cons_zero, List.set_cons_succ]
  refine take_at (i := 7) 27 (v := .slice tad bs.length cap) rfl rfl (by kernel_rfl) (by kernel_rfl) (by kernel_rfl) (fun _ _ _ h => h) (Or.inl ⟨by rfl, fun w' hw' => by have e := HBX.out w' hw'; go_simp⟩) hS ?_
  simp only [Act.put, List.setIfInBounds_toArray, List.set_cons_zero, List.set_cons_succ]
  refine take_at (i := 8) 28 (v := .int .i64 (bs.length : Int)) rfl rfl (by kernel_rfl) (by kernel_rfl) (by kernel_rfl) (fun _ _ _ h => h) (Or.inl ⟨by rfl, fun w' hw' => by go_simp⟩) hS ?_
  simp only [Act.put, List.setIfInBounds_toArray, List.set_cons_zero, List.set_cons_succ]
  refine dp_intro (fun F hin hout => ?_)
  have J40123 : Hid (∀ (L : Array Bool) (hL : L = #[true, true, true, true, true, true, true, true, true, true, true, true, true, true, false, false, false, false]) (v : World) (I : Inv V v D0 D1 D2 D3 b0 b1 b2 b3 t0 t1 t2 t3) (q5 : Nat) (N0 : New V v q5 30 (.int .u64 0)) (q6 : Nat) (N1 : New V v q6 2 (.int .i64 0)) (q7 : Nat) (N2 : New V v q7 4 (.bool false)) (q8 : Nat) (N3 : New V v q8 26 (.slice none 0 0)) (tt : Option Addr) (tc : Nat) (ow : OwnR v tt tc text) (wl : ∀ k, blk tt = some k → V.heap.size ≤ k), F 4 L ⟨#[.slice tad bs.length cap, .pointer (some ⟨q0, 0, none⟩), .bool false, .pointer (some ⟨b0, 0, none⟩), .pointer (some ⟨b1, 0, none⟩), .pointer (some ⟨b2, 0, none⟩), .pointer (some ⟨b3, 0, none⟩), .pointer (some ⟨q5, 0, none⟩), .pointer (some ⟨q6, 0, none⟩), .pointer (some ⟨q7, 0, none⟩), .pointer (some ⟨q8, 0, none⟩), undef, .slice tad bs.length cap, .pointer (some ⟨b0, 0, none⟩), .slice tad bs.length cap, .pointer (some ⟨b1, 0, none⟩), .slice tad bs.length cap, .pointer (some ⟨b2, 0, none⟩), .slice tad bs.length cap, .pointer (some ⟨b3, 0, none⟩), .pointer (some ⟨b0, 0, none⟩), .int .u64 (n : Int), .pointer (some ⟨b1, 0, none⟩), .int .i64 i, .pointer (some ⟨b2, 0, none⟩), .bool g, .pointer (some ⟨b3, 0, none⟩), .slice tad bs.length cap, .int .i64 (bs.length : Int), .slice tt text.length tc, undef, undef, undef, undef, undef, undef, undef, undef, undef, undef, undef, undef, undef, undef, undef, undef, undef, undef, undef, undef, undef, undef, undef, undef, undef, undef], []⟩ v) := by
    intro L hL v I q5 N0 q6 N1 q7 N2 q8 N3 tt tc ow wl
    subst hL
    refine hin.out _ _ _ _ ?_
    have hS := I.off
    have C0 := N0.cel
    have C1 := N1.cel
    have C2 := N2.cel
    have C3 := N3.cel
    have NE : Hid (q5 ≠ q6 ∧ q5 ≠ q7 ∧ q5 ≠ q8 ∧ q6 ≠ q5 ∧ q6 ≠ q7 ∧ q6 ≠ q8 ∧ q7 ≠ q5 ∧ q7 ≠ q6 ∧ q7 ≠ q8 ∧ q8 ≠ q5 ∧ q8 ≠ q6 ∧ q8 ≠ q7) := ⟨cel_ne C0 C1 (by decide), cel_ne C0 C2 (by decide), cel_ne C0 C3 (by decide), cel_ne C1 C0 (by decide), cel_ne C1 C2 (by decide), cel_ne C1 C3 (by decide), cel_ne C2 C0 (by decide), cel_ne C2 C1 (by decide), cel_ne C2 C3 (by decide), cel_ne C3 C0 (by decide), cel_ne C3 C1 (by decide), cel_ne C3 C2 (by decide)⟩
    have OWQ : Hid (∀ q, (q = q5 ∨ q = q6 ∨ q = q7 ∨ q = q8) → blk tt ≠ some q) := fun q hq => by
      rcases hq with rfl | rfl | rfl | rfl
      · exact own_ne ow C0 (by decide)
      · exact own_ne ow C1 (by decide)
      · exact own_ne ow C2 (by decide)
      · exact own_ne ow C3 (by decide)
    have OWN := ow
    have R0 := I.r0
    have R1 := I.r1
    have R2 := I.r2
    have R3 := I.r3
    have FAR : Hid (∀ q, V.heap.size ≤ q → ¬ (q = b0 ∨ q = b1 ∨ q = b2 ∨ q = b3)) := fun q hq e => by have := HAP.out.lt; omega
    have c0 := C0.cell 0
    have f0 := C0.free 0
    simp at c0
    refine wpAnyH_ready (rs := [14]) (by kernel_rfl) (by simp) ?_
    refine AllReadyH.cons rfl (fun K' hK' => ?_) AllReadyH.nil
    go_simp
    have hS1 := hS.setCell (p := ⟨q5, 0, none⟩) (.inr N0.lo) (.int .u64 (n : Int))
    refine hK'.out _ _ hS1 (fun hS => ?_)
    clear hK' K' hS1
    have os : Off (fun c => c = q5) v (v.setCell ⟨q5, 0, none⟩ (.int .u64 (n : Int))) := (Off.refl (fun c => c = q5) v).setCell (p := ⟨q5, 0, none⟩) (.inl rfl) _
    have E0 := C0.set 0 (.int .u64 (n : Int))
    simp only [List.setIfInBounds_toArray, List.set_cons_zero] at E0
    generalize hv : v.setCell ⟨q5, 0, none⟩ (.int .u64 (n : Int)) = v1 at hS os E0 ⊢
    clear hv c0 f0
    replace C0 := E0
    clear E0
    replace C1 := C1.off os (fun e => NE.out.2.2.2.1 e)
    replace C2 := C2.off os (fun e => NE.out.2.2.2.2.2.2.1 e)
    replace C3 := C3.off os (fun e => NE.out.2.2.2.2.2.2.2.2.2.1 e)
    replace OWN := OWN.off os (fun c _ hc e => OWQ.out q5 (by simp) (e ▸ hc))
    replace R0 := R0.off os (fun e => FAR.out q5 N0.lo (.inl e.symm)) (fun c hc hd e => by have := LD.out c (.inl hd); have := N0.lo; omega)
    replace R1 := R1.off os (fun e => FAR.out q5 N0.lo (.inr (.inl e.symm))) (fun c hc hd e => by have := LD.out c (.inr (.inl hd)); have := N0.lo; omega)
    replace R2 := R2.off os (fun e => FAR.out q5 N0.lo (.inr (.inr (.inl e.symm)))) (fun c hc hd e => by have := LD.out c (.inr (.inr (.inl hd))); have := N0.lo; omega)
    replace R3 := R3.off os (fun e => FAR.out q5 N0.lo (.inr (.inr (.inr e.symm)))) (fun c hc hd e => by have := LD.out c (.inr (.inr (.inr hd))); have := N0.lo; omega)
    clear os
    have c1 := C1.cell 0
    have f1 := C1.free 0
    simp at c1
    refine wpAnyH_ready (rs := [15]) (by kernel_rfl) (by simp) ?_
    refine AllReadyH.cons rfl (fun K' hK' => ?_) AllReadyH.nil
    go_simp
    have hS1 := hS.setCell (p := ⟨q6, 0, none⟩) (.inr N1.lo) (.int .i64 i)
    refine hK'.out _ _ hS1 (fun hS => ?_)
    clear hK' K' hS1
    have os : Off (fun c => c = q6) v1 (v1.setCell ⟨q6, 0, none⟩ (.int .i64 i)) := (Off.refl (fun c => c = q6) v1).setCell (p := ⟨q6, 0, none⟩) (.inl rfl) _
    have E1 := C1.set 0 (.int .i64 i)
    simp only [List.setIfInBounds_toArray, List.set_cons_zero] at E1
    generalize hv : v1.setCell ⟨q6, 0, none⟩ (.int .i64 i) = v2 at hS os E1 ⊢
    clear hv c1 f1
    replace C1 := E1
    clear E1
    replace C0 := C0.off os (fun e => NE.out.1 e)
    replace C2 := C2.off os (fun e => NE.out.2.2.2.2.2.2.2.1 e)
    replace C3 := C3.off os (fun e => NE.out.2.2.2.2.2.2.2.2.2.2.1 e)
    replace OWN := OWN.off os (fun c _ hc e => OWQ.out q6 (by simp) (e ▸ hc))
    replace R0 := R0.off os (fun e => FAR.out q6 N1.lo (.inl e.symm)) (fun c hc hd e => by have := LD.out c (.inl hd); have := N1.lo; omega)
    replace R1 := R1.off os (fun e => FAR.out q6 N1.lo (.inr (.inl e.symm))) (fun c hc hd e => by have := LD.out c (.inr (.inl hd)); have := N1.lo; omega)
    replace R2 := R2.off os (fun e => FAR.out q6 N1.lo (.inr (.inr (.inl e.symm)))) (fun c hc hd e => by have := LD.out c (.inr (.inr (.inl hd))); have := N1.lo; omega)
    replace R3 := R3.off os (fun e => FAR.out q6 N1.lo (.inr (.inr (.inr e.symm)))) (fun c hc hd e => by have := LD.out c (.inr (.inr (.inr hd))); have := N1.lo; omega)
    clear os
    have c2 := C2.cell 0
    have f2 := C2.free 0
    simp at c2
    refine wpAnyH_ready (rs := [16]) (by kernel_rfl) (by simp) ?_
    refine AllReadyH.cons rfl (fun K' hK' => ?_) AllReadyH.nil
    go_simp
    have hS1 := hS.setCell (p := ⟨q7, 0, none⟩) (.inr N2.lo) (.bool g)
    refine hK'.out _ _ hS1 (fun hS => ?_)
    clear hK' K' hS1
    have os : Off (fun c => c = q7) v2 (v2.setCell ⟨q7, 0, none⟩ (.bool g)) := (Off.refl (fun c => c = q7) v2).setCell (p := ⟨q7, 0, none⟩) (.inl rfl) _
    have E2 := C2.set 0 (.bool g)
    simp only [List.setIfInBounds_toArray, List.set_cons_zero] at E2
    generalize hv : v2.setCell ⟨q7, 0, none⟩ (.bool g) = v3 at hS os E2 ⊢
    clear hv c2 f2
    replace C2 := E2
    clear E2
    replace C0 := C0.off os (fun e => NE.out.2.1 e)
    replace C1 := C1.off os (fun e => NE.out.2.2.2.2.1 e)
    replace C3 := C3.off os (fun e => NE.out.2.2.2.2.2.2.2.2.2.2.2 e)
    replace OWN := OWN.off os (fun c _ hc e => OWQ.out q7 (by simp) (e ▸ hc))
    replace R0 := R0.off os (fun e => FAR.out q7 N2.lo (.inl e.symm)) (fun c hc hd e => by have := LD.out c (.inl hd); have := N2.lo; omega)
    replace R1 := R1.off os (fun e => FAR.out q7 N2.lo (.inr (.inl e.symm))) (fun c hc hd e => by have := LD.out c (.inr (.inl hd)); have := N2.lo; omega)
    replace R2 := R2.off os (fun e => FAR.out q7 N2.lo (.inr (.inr (.inl e.symm)))) (fun c hc hd e => by have := LD.out c (.inr (.inr (.inl hd))); have := N2.lo; omega)
    replace R3 := R3.off os (fun e => FAR.out q7 N2.lo (.inr (.inr (.inr e.symm)))) (fun c hc hd e => by have := LD.out c (.inr (.inr (.inr hd))); have := N2.lo; omega)
    clear os
    have c3 := C3.cell 0
    have f3 := C3.free 0
    simp at c3
    refine wpAnyH_ready (rs := [17]) (by kernel_rfl) (by simp) ?_
    refine AllReadyH.cons rfl (fun K' hK' => ?_) AllReadyH.nil
    go_simp
    have hS1 := hS.setCell (p := ⟨q8, 0, none⟩) (.inr N3.lo) (.slice tt text.length tc)
    refine hK'.out _ _ hS1 (fun hS => ?_)
    clear hK' K' hS1
    have os : Off (fun c => c = q8) v3 (v3.setCell ⟨q8, 0, none⟩ (.slice tt text.length tc)) := (Off.refl (fun c => c = q8) v3).setCell (p := ⟨q8, 0, none⟩) (.inl rfl) _
    have E3 := C3.set 0 (.slice tt text.length tc)
    simp only [List.setIfInBounds_toArray, List.set_cons_zero] at E3
    generalize hv : v3.setCell ⟨q8, 0, none⟩ (.slice tt text.length tc) = v4 at hS os E3 ⊢
    clear hv c3 f3
    replace C3 := E3
    clear E3
    replace C0 := C0.off os (fun e => NE.out.2.2.1 e)
    replace C1 := C1.off os (fun e => NE.out.2.2.2.2.2.1 e)
    replace C2 := C2.off os (fun e => NE.out.2.2.2.2.2.2.2.2.1 e)
    replace OWN := OWN.off os (fun c _ hc e => OWQ.out q8 (by simp) (e ▸ hc))
    replace R0 := R0.off os (fun e => FAR.out q8 N3.lo (.inl e.symm)) (fun c hc hd e => by have := LD.out c (.inl hd); have := N3.lo; omega)
    replace R1 := R1.off os (fun e => FAR.out q8 N3.lo (.inr (.inl e.symm))) (fun c hc hd e => by have := LD.out c (.inr (.inl hd)); have := N3.lo; omega)
    replace R2 := R2.off os (fun e => FAR.out q8 N3.lo (.inr (.inr (.inl e.symm)))) (fun c hc hd e => by have := LD.out c (.inr (.inr (.inl hd))); have := N3.lo; omega)
    replace R3 := R3.off os (fun e => FAR.out q8 N3.lo (.inr (.inr (.inr e.symm)))) (fun c hc hd e => by have := LD.out c (.inr (.inr (.inr hd))); have := N3.lo; omega)
    clear os
    refine wpAnyH_done (by kernel_rfl) ?_ _
    clear I N0 N1 N2 N3 ow NE OWQ FAR
    have hbox : v4.cell? ⟨q0, 0, none⟩ = some (.slice tad bs.length cap) := HBX.out v4 hS
    have HSRC : Hid _ := HSR.out v4 hS
    have HS4 : Hid _ := hS
    have k0 := C0.cell 0
    have k1 := C1.cell 0
    have k2 := C2.cell 0
    have k3 := C3.cell 0
    simp at k0 k1 k2 k3
    have HC : Hid (v4.cell? ⟨q0, 0, none⟩ = some (.slice tad bs.length cap) ∧ v4.cell? ⟨q5, 0, none⟩ = some (.int .u64 (n : Int)) ∧ v4.cell? ⟨q6, 0, none⟩ = some (.int .i64 i) ∧ v4.cell? ⟨q7, 0, none⟩ = some (.bool g) ∧ v4.cell? ⟨q8, 0, none⟩ = some (.slice tt text.length tc)) := ⟨hbox, k0, k1, k2, k3⟩
    have HR : Hid _ := And.intro R0 (And.intro R1 (And.intro R2 R3))
    have HOWN : Hid _ := OWN
    clear hbox k0 k1 k2 k3 C0 C1 C2 C3 R0 R1 R2 R3 OWN hS
    have hmf : ∀ (fn : Fn) (first cap : Array Value) (w : World), (Instr.makeFunc fn first cap).run Try.prog w = .ok (.func fn first cap) w := fun _ _ _ _ => rfl
    have keep : ∀ (w' : World) (p : Nat) (v : Value), Off (fun _ => False) v4 w' → v4.cell? ⟨p, 0, none⟩ = some v → w'.cell? ⟨p, 0, none⟩ = some v := fun w' p v o h => by
      rw [← h]
      exact World.cell?_of_block (a := ⟨p, 0, none⟩) (o.block p (cell_lt h) (fun h => h))
    have HKE : Hid _ := keep
    clear keep
    go_wp2_with fail
    refine (same33 HR.out.1 q0 q5 tad cap bs HLB.out n HN.out.1 HC.out.1 HSRC.out HC.out.2.1 HN.out.2).mono ?_
    rintro e x1 ⟨rfl, o1⟩
    have HO1 : Hid _ := o1
    clear o1
    go_wp2_with fail
    refine (same34 (HR.out.2.1.off HO1.out (fun h => h) (fun _ _ _ h => h)) q0 q6 tad cap bs HLB.out i HI.out.1 HI.out.2.1 (HKE.out _ _ _ HO1.out HC.out.1) (HSRC.out.off HO1.out (fun _ _ _ h => h)) (HKE.out _ _ _ HO1.out HC.out.2.2.1) HI.out.2.2).mono ?_
    rintro e x2 ⟨rfl, o2⟩
    have HO2 : Hid _ := HO1.out.trans o2 (fun _ _ h => h)
    clear o2
    go_wp2_with fail
    refine (same35 (HR.out.2.2.1.off HO2.out (fun h => h) (fun _ _ _ h => h)) q0 q7 tad cap bs HLB.out g (HKE.out _ _ _ HO2.out HC.out.1) (HSRC.out.off HO2.out (fun _ _ _ h => h)) (HKE.out _ _ _ HO2.out HC.out.2.2.2.1) HG.out).mono ?_
    rintro e x3 ⟨rfl, o3⟩
    have HO3 : Hid _ := HO2.out.trans o3 (fun _ _ h => h)
    clear o3
    go_wp2_with fail
    refine (same36 (HR.out.2.2.2.off HO3.out (fun h => h) (fun _ _ _ h => h)) q0 q8 tad cap bs HLB.out tt tc text (HKE.out _ _ _ HO3.out HC.out.1) (HSRC.out.off HO3.out (fun _ _ _ h => h)) (HKE.out _ _ _ HO3.out HC.out.2.2.2.2) (fun w' o => (HOWN.out.src.off HO3.out (fun _ _ _ h => h)).off o (fun _ _ _ h => h)) HX.out.1 HX.out.2).mono ?_
    rintro e x4 ⟨rfl, o4⟩
    have HO4 : Hid _ := HO3.out.trans o4 (fun _ _ h => h)
    clear o4
    go_wp2_with fail
    refine (awake_any _).mono ?_
    rintro e x5 ⟨rfl, o5⟩
    go_wp2_with fail
    go_ret
    exact ⟨rfl, HEND.out _ HS4.out _ (HO4.out.trans o5 (fun _ _ h => h))⟩
  have J4012 : Hid (∀ (L : Array Bool) (hL : L = #[true, true, true, true, true, true, true, true, true, true, true, true, true, false, false, false, false, false]) (v : World) (I : Inv V v D0 D1 D2 D3 b0 b1 b2 b3 t0 t1 t2 t3) (q5 : Nat) (N0 : New V v q5 30 (.int .u64 0)) (q6 : Nat) (N1 : New V v q6 2 (.int .i64 0)) (q7 : Nat) (N2 : New V v q7 4 (.bool false)) (tt : Option Addr) (tc : Nat) (ow : OwnR v tt tc text) (wl : ∀ k, blk tt = some k → V.heap.size ≤ k), F 5 L ⟨#[.slice tad bs.length cap, .pointer (some ⟨q0, 0, none⟩), .bool false, .pointer (some ⟨b0, 0, none⟩), .pointer (some ⟨b1, 0, none⟩), .pointer (some ⟨b2, 0, none⟩), .pointer (some ⟨b3, 0, none⟩), .pointer (some ⟨q5, 0, none⟩), .pointer (some ⟨q6, 0, none⟩), .pointer (some ⟨q7, 0, none⟩), undef, undef, .slice tad bs.length cap, .pointer (some ⟨b0, 0, none⟩), .slice tad bs.length cap, .pointer (some ⟨b1, 0, none⟩), .slice tad bs.length cap, .pointer (some ⟨b2, 0, none⟩), .slice tad bs.length cap, .pointer (some ⟨b3, 0, none⟩), .pointer (some ⟨b0, 0, none⟩), .int .u64 (n : Int), .pointer (some ⟨b1, 0, none⟩), .int .i64 i, .pointer (some ⟨b2, 0, none⟩), .bool g, .pointer (some ⟨b3, 0, none⟩), .slice tad bs.length cap, .int .i64 (bs.length : Int), .slice tt text.length tc, undef, undef, undef, undef, undef, undef, undef, undef, undef, undef, undef, undef, undef, undef, undef, undef, undef, undef, undef, undef, undef, undef, undef, undef, undef, undef], []⟩ v) := by
    intro L hL v I q5 N0 q6 N1 q7 N2 tt tc ow wl
    subst hL
    refine hin.out _ _ _ _ ?_
    refine wpAnyH_ready (rs := [13]) (by kernel_rfl) (by simp) ?_
    refine AllReadyH.cons rfl (fun K' hK' => ?_) (AllReadyH.nil)
    · go_simp
      refine hK'.out _ _ (I.free ((Off.refl _ v).alloc _)).off (fun hS => ?_)
      exact hout.out _ _ _ _ (J40123.out _ (by kernel_rfl) _ (I.free ((Off.refl _ v).alloc _)) _ (N0.free ((Off.refl _ v).alloc _)) _ (N1.free ((Off.refl _ v).alloc _)) _ (N2.free ((Off.refl _ v).alloc _)) _ ⟨Cel.new v _ _, I.off.size⟩ _ _ (ow.off ((Off.refl _ v).alloc _) (fun _ _ _ h => h)) wl)
  have J4013 : Hid (∀ (L : Array Bool) (hL : L = #[true, true, true, true, true, true, true, true, true, true, true, true, false, true, false, false, false, false]) (v : World) (I : Inv V v D0 D1 D2 D3 b0 b1 b2 b3 t0 t1 t2 t3) (q5 : Nat) (N0 : New V v q5 30 (.int .u64 0)) (q6 : Nat) (N1 : New V v q6 2 (.int .i64 0)) (q8 : Nat) (N3 : New V v q8 26 (.slice none 0 0)) (tt : Option Addr) (tc : Nat) (ow : OwnR v tt tc text) (wl : ∀ k, blk tt = some k → V.heap.size ≤ k), F 5 L ⟨#[.slice tad bs.length cap, .pointer (some ⟨q0, 0, none⟩), .bool false, .pointer (some ⟨b0, 0, none⟩), .pointer (some ⟨b1, 0, none⟩), .pointer (some ⟨b2, 0, none⟩), .pointer (some ⟨b3, 0, none⟩), .pointer (some ⟨q5, 0, none⟩), .pointer (some ⟨q6, 0, none⟩), undef, .pointer (some ⟨q8, 0, none⟩), undef, .slice tad bs.length cap, .pointer (some ⟨b0, 0, none⟩), .slice tad bs.length cap, .pointer (some ⟨b1, 0, none⟩), .slice tad bs.length cap, .pointer (some ⟨b2, 0, none⟩), .slice tad bs.length cap, .pointer (some ⟨b3, 0, none⟩), .pointer (some ⟨b0, 0, none⟩), .int .u64 (n : Int), .pointer (some ⟨b1, 0, none⟩), .int .i64 i, .pointer (some ⟨b2, 0, none⟩), .bool g, .pointer (some ⟨b3, 0, none⟩), .slice tad bs.length cap, .int .i64 (bs.length : Int), .slice tt text.length tc, undef, undef, undef, undef, undef, undef, undef, undef, undef, undef, undef, undef, undef, undef, undef, undef, undef, undef, undef, undef, undef, undef, undef, undef, undef, undef], []⟩ v) := by
    intro L hL v I q5 N0 q6 N1 q8 N3 tt tc ow wl
    subst hL
    clear J4012
    refine hin.out _ _ _ _ ?_
    refine wpAnyH_ready (rs := [12]) (by kernel_rfl) (by simp) ?_
    refine AllReadyH.cons rfl (fun K' hK' => ?_) (AllReadyH.nil)
    · go_simp
      refine hK'.out _ _ (I.free ((Off.refl _ v).alloc _)).off (fun hS => ?_)
      exact hout.out _ _ _ _ (J40123.out _ (by kernel_rfl) _ (I.free ((Off.refl _ v).alloc _)) _ (N0.free ((Off.refl _ v).alloc _)) _ (N1.free ((Off.refl _ v).alloc _)) _ ⟨Cel.new v _ _, I.off.size⟩ _ (N3.free ((Off.refl _ v).alloc _)) _ _ (ow.off ((Off.refl _ v).alloc _) (fun _ _ _ h => h)) wl)
  have J4023 : Hid (∀ (L : Array Bool) (hL : L = #[true, true, true, true, true, true, true, true, true, true, true, false, true, true, false, false, false, false]) (v : World) (I : Inv V v D0 D1 D2 D3 b0 b1 b2 b3 t0 t1 t2 t3) (q5 : Nat) (N0 : New V v q5 30 (.int .u64 0)) (q7 : Nat) (N2 : New V v q7 4 (.bool false)) (q8 : Nat) (N3 : New V v q8 26 (.slice none 0 0)) (tt : Option Addr) (tc : Nat) (ow : OwnR v tt tc text) (wl : ∀ k, blk tt = some k → V.heap.size ≤ k), F 5 L ⟨#[.slice tad bs.length cap, .pointer (some ⟨q0, 0, none⟩), .bool false, .pointer (some ⟨b0, 0, none⟩), .pointer (some ⟨b1, 0, none⟩), .pointer (some ⟨b2, 0, none⟩), .pointer (some ⟨b3, 0, none⟩), .pointer (some ⟨q5, 0, none⟩), undef, .pointer (some ⟨q7, 0, none⟩), .pointer (some ⟨q8, 0, none⟩), undef, .slice tad bs.length cap, .pointer (some ⟨b0, 0, none⟩), .slice tad bs.length cap, .pointer (some ⟨b1, 0, none⟩), .slice tad bs.length cap, .pointer (some ⟨b2, 0, none⟩), .slice tad bs.length cap, .pointer (some ⟨b3, 0, none⟩), .pointer (some ⟨b0, 0, none⟩), .int .u64 (n : Int), .pointer (some ⟨b1, 0, none⟩), .int .i64 i, .pointer (some ⟨b2, 0, none⟩), .bool g, .pointer (some ⟨b3, 0, none⟩), .slice tad bs.length cap, .int .i64 (bs.length : Int), .slice tt text.length tc, undef, undef, undef, undef, undef, undef, undef, undef, undef, undef, undef, undef, undef, undef, undef, undef, undef, undef, undef, undef, undef, undef, undef, undef, undef, undef], []⟩ v) := by
    intro L hL v I q5 N0 q7 N2 q8 N3 tt tc ow wl
    subst hL
    clear J4012 J4013
    refine hin.out _ _ _ _ ?_
    refine wpAnyH_ready (rs := [11]) (by kernel_rfl) (by simp) ?_
    refine AllReadyH.cons rfl (fun K' hK' => ?_) (AllReadyH.nil)
    · go_simp
      refine hK'.out _ _ (I.free ((Off.refl _ v).alloc _)).off (fun hS => ?_)
      exact hout.out _ _ _ _ (J40123.out _ (by kernel_rfl) _ (I.free ((Off.refl _ v).alloc _)) _ (N0.free ((Off.refl _ v).alloc _)) _ ⟨Cel.new v _ _, I.off.size⟩ _ (N2.free ((Off.refl _ v).alloc _)) _ (N3.free ((Off.refl _ v).alloc _)) _ _ (ow.off ((Off.refl _ v).alloc _) (fun _ _ _ h => h)) wl)
  have J4123 : Hid (∀ (L : Array Bool) (hL : L = #[true, true, true, true, true, true, true, true, true, true, false, true, true, true, false, false, false, false]) (v : World) (I : Inv V v D0 D1 D2 D3 b0 b1 b2 b3 t0 t1 t2 t3) (q6 : Nat) (N1 : New V v q6 2 (.int .i64 0)) (q7 : Nat) (N2 : New V v q7 4 (.bool false)) (q8 : Nat) (N3 : New V v q8 26 (.slice none 0 0)) (tt : Option Addr) (tc : Nat) (ow : OwnR v tt tc text) (wl : ∀ k, blk tt = some k → V.heap.size ≤ k), F 5 L ⟨#[.slice tad bs.length cap, .pointer (some ⟨q0, 0, none⟩), .bool false, .pointer (some ⟨b0, 0, none⟩), .pointer (some ⟨b1, 0, none⟩), .pointer (some ⟨b2, 0, none⟩), .pointer (some ⟨b3, 0, none⟩), undef, .pointer (some ⟨q6, 0, none⟩), .pointer (some ⟨q7, 0, none⟩), .pointer (some ⟨q8, 0, none⟩), undef, .slice tad bs.length cap, .pointer (some ⟨b0, 0, none⟩), .slice tad bs.length cap, .pointer (some ⟨b1, 0, none⟩), .slice tad bs.length cap, .pointer (some ⟨b2, 0, none⟩), .slice tad bs.length cap, .pointer (some ⟨b3, 0, none⟩), .pointer (some ⟨b0, 0, none⟩), .int .u64 (n : Int), .pointer (some ⟨b1, 0, none⟩), .int .i64 i, .pointer (some ⟨b2, 0, none⟩), .bool g, .pointer (some ⟨b3, 0, none⟩), .slice tad bs.length cap, .int .i64 (bs.length : Int), .slice tt text.length tc, undef, undef, undef, undef, undef, undef, undef, undef, undef, undef, undef, undef, undef, undef, undef, undef, undef, undef, undef, undef, undef, undef, undef, undef, undef, undef], []⟩ v) := by
    intro L hL v I q6 N1 q7 N2 q8 N3 tt tc ow wl
    subst hL
    clear J4012 J4013 J4023
    refine hin.out _ _ _ _ ?_
    refine wpAnyH_ready (rs := [10]) (by kernel_rfl) (by simp) ?_
    refine AllReadyH.cons rfl (fun K' hK' => ?_) (AllReadyH.nil)
    · go_simp
      refine hK'.out _ _ (I.free ((Off.refl _ v).alloc _)).off (fun hS => ?_)
      exact hout.out _ _ _ _ (J40123.out _ (by kernel_rfl) _ (I.free ((Off.refl _ v).alloc _)) _ ⟨Cel.new v _ _, I.off.size⟩ _ (N1.free ((Off.refl _ v).alloc _)) _ (N2.free ((Off.refl _ v).alloc _)) _ (N3.free ((Off.refl _ v).alloc _)) _ _ (ow.off ((Off.refl _ v).alloc _) (fun _ _ _ h => h)) wl)
  have J401 : Hid (∀ (L : Array Bool) (hL : L = #[true, true, true, true, true, true, true, true, true, true, true, true, false, false, false, false, false, false]) (v : World) (I : Inv V v D0 D1 D2 D3 b0 b1 b2 b3 t0 t1 t2 t3) (q5 : Nat) (N0 : New V v q5 30 (.int .u64 0)) (q6 : Nat) (N1 : New V v q6 2 (.int .i64 0)) (tt : Option Addr) (tc : Nat) (ow : OwnR v tt tc text) (wl : ∀ k, blk tt = some k → V.heap.size ≤ k), F 6 L ⟨#[.slice tad bs.length cap, .pointer (some ⟨q0, 0, none⟩), .bool false, .pointer (some ⟨b0, 0, none⟩), .pointer (some ⟨b1, 0, none⟩), .pointer (some ⟨b2, 0, none⟩), .pointer (some ⟨b3, 0, none⟩), .pointer (some ⟨q5, 0, none⟩), .pointer (some ⟨q6, 0, none⟩), undef, undef, undef, .slice tad bs.length cap, .pointer (some ⟨b0, 0, none⟩), .slice tad bs.length cap, .pointer (some ⟨b1, 0, none⟩), .slice tad bs.length cap, .pointer (some ⟨b2, 0, none⟩), .slice tad bs.length cap, .pointer (some ⟨b3, 0, none⟩), .pointer (some ⟨b0, 0, none⟩), .int .u64 (n : Int), .pointer (some ⟨b1, 0, none⟩), .int .i64 i, .pointer (some ⟨b2, 0, none⟩), .bool g, .pointer (some ⟨b3, 0, none⟩), .slice tad bs.length cap, .int .i64 (bs.length : Int), .slice tt text.length tc, undef, undef, undef, undef, undef, undef, undef, undef, undef, undef, undef, undef, undef, undef, undef, undef, undef, undef, undef, undef, undef, undef, undef, undef, undef, undef], []⟩ v) := by
    intro L hL v I q5 N0 q6 N1 tt tc ow wl
    subst hL
    clear J40123 J4023 J4123
    refine hin.out _ _ _ _ ?_
    refine wpAnyH_ready (rs := [12, 13]) (by kernel_rfl) (by simp) ?_
    refine AllReadyH.cons rfl (fun K' hK' => ?_) (AllReadyH.cons rfl (fun K' hK' => ?_) (AllReadyH.nil))
    · go_simp
      refine hK'.out _ _ (I.free ((Off.refl _ v).alloc _)).off (fun hS => ?_)
      exact hout.out _ _ _ _ (J4012.out _ (by kernel_rfl) _ (I.free ((Off.refl _ v).alloc _)) _ (N0.free ((Off.refl _ v).alloc _)) _ (N1.free ((Off.refl _ v).alloc _)) _ ⟨Cel.new v _ _, I.off.size⟩ _ _ (ow.off ((Off.refl _ v).alloc _) (fun _ _ _ h => h)) wl)
    · go_simp
      refine hK'.out _ _ (I.free ((Off.refl _ v).alloc _)).off (fun hS => ?_)
      exact hout.out _ _ _ _ (J4013.out _ (by kernel_rfl) _ (I.free ((Off.refl _ v).alloc _)) _ (N0.free ((Off.refl _ v).alloc _)) _ (N1.free ((Off.refl _ v).alloc _)) _ ⟨Cel.new v _ _, I.off.size⟩ _ _ (ow.off ((Off.refl _ v).alloc _) (fun _ _ _ h => h)) wl)
  have J402 : Hid (∀ (L : Array Bool) (hL : L = #[true, true, true, true, true, true, true, true, true, true, true, false, true, false, false, false, false, false]) (v : World) (I : Inv V v D0 D1 D2 D3 b0 b1 b2 b3 t0 t1 t2 t3) (q5 : Nat) (N0 : New V v q5 30 (.int .u64 0)) (q7 : Nat) (N2 : New V v q7 4 (.bool false)) (tt : Option Addr) (tc : Nat) (ow : OwnR v tt tc text) (wl : ∀ k, blk tt = some k → V.heap.size ≤ k), F 6 L ⟨#[.slice tad bs.length cap, .pointer (some ⟨q0, 0, none⟩), .bool false, .pointer (some ⟨b0, 0, none⟩), .pointer (some ⟨b1, 0, none⟩), .pointer (some ⟨b2, 0, none⟩), .pointer (some ⟨b3, 0, none⟩), .pointer (some ⟨q5, 0, none⟩), undef, .pointer (some ⟨q7, 0, none⟩), undef, undef, .slice tad bs.length cap, .pointer (some ⟨b0, 0, none⟩), .slice tad bs.length cap, .pointer (some ⟨b1, 0, none⟩), .slice tad bs.length cap, .pointer (some ⟨b2, 0, none⟩), .slice tad bs.length cap, .pointer (some ⟨b3, 0, none⟩), .pointer (some ⟨b0, 0, none⟩), .int .u64 (n : Int), .pointer (some ⟨b1, 0, none⟩), .int .i64 i, .pointer (some ⟨b2, 0, none⟩), .bool g, .pointer (some ⟨b3, 0, none⟩), .slice tad bs.length cap, .int .i64 (bs.length : Int), .slice tt text.length tc, undef, undef, undef, undef, undef, undef, undef, undef, undef, undef, undef, undef, undef, undef, undef, undef, undef, undef, undef, undef, undef, undef, undef, undef, undef, undef], []⟩ v) := by
    intro L hL v I q5 N0 q7 N2 tt tc ow wl
    subst hL
    clear J40123 J4013 J4123 J401
    refine hin.out _ _ _ _ ?_
    refine wpAnyH_ready (rs := [11, 13]) (by kernel_rfl) (by simp) ?_
    refine AllReadyH.cons rfl (fun K' hK' => ?_) (AllReadyH.cons rfl (fun K' hK' => ?_) (AllReadyH.nil))
    · go_simp
      refine hK'.out _ _ (I.free ((Off.refl _ v).alloc _)).off (fun hS => ?_)
      exact hout.out _ _ _ _ (J4012.out _ (by kernel_rfl) _ (I.free ((Off.refl _ v).alloc _)) _ (N0.free ((Off.refl _ v).alloc _)) _ ⟨Cel.new v _ _, I.off.size⟩ _ (N2.free ((Off.refl _ v).alloc _)) _ _ (ow.off ((Off.refl _ v).alloc _) (fun _ _ _ h => h)) wl)
    · go_simp
      refine hK'.out _ _ (I.free ((Off.refl _ v).alloc _)).off (fun hS => ?_)
      exact hout.out _ _ _ _ (J4023.out _ (by kernel_rfl) _ (I.free ((Off.refl _ v).alloc _)) _ (N0.free ((Off.refl _ v).alloc _)) _ (N2.free ((Off.refl _ v).alloc _)) _ ⟨Cel.new v _ _, I.off.size⟩ _ _ (ow.off ((Off.refl _ v).alloc _) (fun _ _ _ h => h)) wl)
  have J403 : Hid (∀ (L : Array Bool) (hL : L = #[true, true, true, true, true, true, true, true, true, true, true, false, false, true, false, false, false, false]) (v : World) (I : Inv V v D0 D1 D2 D3 b0 b1 b2 b3 t0 t1 t2 t3) (q5 : Nat) (N0 : New V v q5 30 (.int .u64 0)) (q8 : Nat) (N3 : New V v q8 26 (.slice none 0 0)) (tt : Option Addr) (tc : Nat) (ow : OwnR v tt tc text) (wl : ∀ k, blk tt = some k → V.heap.size ≤ k), F 6 L ⟨#[.slice tad bs.length cap, .pointer (some ⟨q0, 0, none⟩), .bool false, .pointer (some ⟨b0, 0, none⟩), .pointer (some ⟨b1, 0, none⟩), .pointer (some ⟨b2, 0, none⟩), .pointer (some ⟨b3, 0, none⟩), .pointer (some ⟨q5, 0, none⟩), undef, undef, .pointer (some ⟨q8, 0, none⟩), undef, .slice tad bs.length cap, .pointer (some ⟨b0, 0, none⟩), .slice tad bs.length cap, .pointer (some ⟨b1, 0, none⟩), .slice tad bs.length cap, .pointer (some ⟨b2, 0, none⟩), .slice tad bs.length cap, .pointer (some ⟨b3, 0, none⟩), .pointer (some ⟨b0, 0, none⟩), .int .u64 (n : Int), .pointer (some ⟨b1, 0, none⟩), .int .i64 i, .pointer (some ⟨b2, 0, none⟩), .bool g, .pointer (some ⟨b3, 0, none⟩), .slice tad bs.length cap, .int .i64 (bs.length : Int), .slice tt text.length tc, undef, undef, undef, undef, undef, undef, undef, undef, undef, undef, undef, undef, undef, undef, undef, undef, undef, undef, undef, undef, undef, undef, undef, undef, undef, undef], []⟩ v) := by
    intro L hL v I q5 N0 q8 N3 tt tc ow wl
    subst hL
    clear J40123 J4012 J4123 J401 J402
    refine hin.out _ _ _ _ ?_
    refine wpAnyH_ready (rs := [11, 12]) (by kernel_rfl) (by simp) ?_
    refine AllReadyH.cons rfl (fun K' hK' => ?_) (AllReadyH.cons rfl (fun K' hK' => ?_) (AllReadyH.nil))
    · go_simp
      refine hK'.out _ _ (I.free ((Off.refl _ v).alloc _)).off (fun hS => ?_)
      exact hout.out _ _ _ _ (J4013.out _ (by kernel_rfl) _ (I.free ((Off.refl _ v).alloc _)) _ (N0.free ((Off.refl _ v).alloc _)) _ ⟨Cel.new v _ _, I.off.size⟩ _ (N3.free ((Off.refl _ v).alloc _)) _ _ (ow.off ((Off.refl _ v).alloc _) (fun _ _ _ h => h)) wl)
    · go_simp
      refine hK'.out _ _ (I.free ((Off.refl _ v).alloc _)).off (fun hS => ?_)
      exact hout.out _ _ _ _ (J4023.out _ (by kernel_rfl) _ (I.free ((Off.refl _ v).alloc _)) _ (N0.free ((Off.refl _ v).alloc _)) _ ⟨Cel.new v _ _, I.off.size⟩ _ (N3.free ((Off.refl _ v).alloc _)) _ _ (ow.off ((Off.refl _ v).alloc _) (fun _ _ _ h => h)) wl)
  have J412 : Hid (∀ (L : Array Bool) (hL : L = #[true, true, true, true, true, true, true, true, true, true, false, true, true, false, false, false, false, false]) (v : World) (I : Inv V v D0 D1 D2 D3 b0 b1 b2 b3 t0 t1 t2 t3) (q6 : Nat) (N1 : New V v q6 2 (.int .i64 0)) (q7 : Nat) (N2 : New V v q7 4 (.bool false)) (tt : Option Addr) (tc : Nat) (ow : OwnR v tt tc text) (wl : ∀ k, blk tt = some k → V.heap.size ≤ k), F 6 L ⟨#[.slice tad bs.length cap, .pointer (some ⟨q0, 0, none⟩), .bool false, .pointer (some ⟨b0, 0, none⟩), .pointer (some ⟨b1, 0, none⟩), .pointer (some ⟨b2, 0, none⟩), .pointer (some ⟨b3, 0, none⟩), undef, .pointer (some ⟨q6, 0, none⟩), .pointer (some ⟨q7, 0, none⟩), undef, undef, .slice tad bs.length cap, .pointer (some ⟨b0, 0, none⟩), .slice tad bs.length cap, .pointer (some ⟨b1, 0, none⟩), .slice tad bs.length cap, .pointer (some ⟨b2, 0, none⟩), .slice tad bs.length cap, .pointer (some ⟨b3, 0, none⟩), .pointer (some ⟨b0, 0, none⟩), .int .u64 (n : Int), .pointer (some ⟨b1, 0, none⟩), .int .i64 i, .pointer (some ⟨b2, 0, none⟩), .bool g, .pointer (some ⟨b3, 0, none⟩), .slice tad bs.length cap, .int .i64 (bs.length : Int), .slice tt text.length tc, undef, undef, undef, undef, undef, undef, undef, undef, undef, undef, undef, undef, undef, undef, undef, undef, undef, undef, undef, undef, undef, undef, undef, undef, undef, undef], []⟩ v) := by
    intro L hL v I q6 N1 q7 N2 tt tc ow wl
    subst hL
    clear J40123 J4013 J4023 J401 J402 J403
    refine hin.out _ _ _ _ ?_
    refine wpAnyH_ready (rs := [10, 13]) (by kernel_rfl) (by simp) ?_
    refine AllReadyH.cons rfl (fun K' hK' => ?_) (AllReadyH.cons rfl (fun K' hK' => ?_) (AllReadyH.nil))
    · go_simp
      refine hK'.out _ _ (I.free ((Off.refl _ v).alloc _)).off (fun hS => ?_)
      exact hout.out _ _ _ _ (J4012.out _ (by kernel_rfl) _ (I.free ((Off.refl _ v).alloc _)) _ ⟨Cel.new v _ _, I.off.size⟩ _ (N1.free ((Off.refl _ v).alloc _)) _ (N2.free ((Off.refl _ v).alloc _)) _ _ (ow.off ((Off.refl _ v).alloc _) (fun _ _ _ h => h)) wl)
    · go_simp
      refine hK'.out _ _ (I.free ((Off.refl _ v).alloc _)).off (fun hS => ?_)
      exact hout.out _ _ _ _ (J4123.out _ (by kernel_rfl) _ (I.free ((Off.refl _ v).alloc _)) _ (N1.free ((Off.refl _ v).alloc _)) _ (N2.free ((Off.refl _ v).alloc _)) _ ⟨Cel.new v _ _, I.off.size⟩ _ _ (ow.off ((Off.refl _ v).alloc _) (fun _ _ _ h => h)) wl)
  have J413 : Hid (∀ (L : Array Bool) (hL : L = #[true, true, true, true, true, true, true, true, true, true, false, true, false, true, false, false, false, false]) (v : World) (I : Inv V v D0 D1 D2 D3 b0 b1 b2 b3 t0 t1 t2 t3) (q6 : Nat) (N1 : New V v q6 2 (.int .i64 0)) (q8 : Nat) (N3 : New V v q8 26 (.slice none 0 0)) (tt : Option Addr) (tc : Nat) (ow : OwnR v tt tc text) (wl : ∀ k, blk tt = some k → V.heap.size ≤ k), F 6 L ⟨#[.slice tad bs.length cap, .pointer (some ⟨q0, 0, none⟩), .bool false, .pointer (some ⟨b0, 0, none⟩), .pointer (some ⟨b1, 0, none⟩), .pointer (some ⟨b2, 0, none⟩), .pointer (some ⟨b3, 0, none⟩), undef, .pointer (some ⟨q6, 0, none⟩), undef, .pointer (some ⟨q8, 0, none⟩), undef, .slice tad bs.length cap, .pointer (some ⟨b0, 0, none⟩), .slice tad bs.length cap, .pointer (some ⟨b1, 0, none⟩), .slice tad bs.length cap, .pointer (some ⟨b2, 0, none⟩), .slice tad bs.length cap, .pointer (some ⟨b3, 0, none⟩), .pointer (some ⟨b0, 0, none⟩), .int .u64 (n : Int), .pointer (some ⟨b1, 0, none⟩), .int .i64 i, .pointer (some ⟨b2, 0, none⟩), .bool g, .pointer (some ⟨b3, 0, none⟩), .slice tad bs.length cap, .int .i64 (bs.length : Int), .slice tt text.length tc, undef, undef, undef, undef, undef, undef, undef, undef, undef, undef, undef, undef, undef, undef, undef, undef, undef, undef, undef, undef, undef, undef, undef, undef, undef, undef], []⟩ v) := by
    intro L hL v I q6 N1 q8 N3 tt tc ow wl
    subst hL
    clear J40123 J4012 J4023 J401 J402 J403 J412
    refine hin.out _ _ _ _ ?_
    refine wpAnyH_ready (rs := [10, 12]) (by kernel_rfl) (by simp) ?_
    refine AllReadyH.cons rfl (fun K' hK' => ?_) (AllReadyH.cons rfl (fun K' hK' => ?_) (AllReadyH.nil))
    · go_simp
      refine hK'.out _ _ (I.free ((Off.refl _ v).alloc _)).off (fun hS => ?_)
      exact hout.out _ _ _ _ (J4013.out _ (by kernel_rfl) _ (I.free ((Off.refl _ v).alloc _)) _ ⟨Cel.new v _ _, I.off.size⟩ _ (N1.free ((Off.refl _ v).alloc _)) _ (N3.free ((Off.refl _ v).alloc _)) _ _ (ow.off ((Off.refl _ v).alloc _) (fun _ _ _ h => h)) wl)
    · go_simp
      refine hK'.out _ _ (I.free ((Off.refl _ v).alloc _)).off (fun hS => ?_)
      exact hout.out _ _ _ _ (J4123.out _ (by kernel_rfl) _ (I.free ((Off.refl _ v).alloc _)) _ (N1.free ((Off.refl _ v).alloc _)) _ ⟨Cel.new v _ _, I.off.size⟩ _ (N3.free ((Off.refl _ v).alloc _)) _ _ (ow.off ((Off.refl _ v).alloc _) (fun _ _ _ h => h)) wl)
  have J423 : Hid (∀ (L : Array Bool) (hL : L = #[true, true, true, true, true, true, true, true, true, true, false, false, true, true, false, false, false, false]) (v : World) (I : Inv V v D0 D1 D2 D3 b0 b1 b2 b3 t0 t1 t2 t3) (q7 : Nat) (N2 : New V v q7 4 (.bool false)) (q8 : Nat) (N3 : New V v q8 26 (.slice none 0 0)) (tt : Option Addr) (tc : Nat) (ow : OwnR v tt tc text) (wl : ∀ k, blk tt = some k → V.heap.size ≤ k), F 6 L ⟨#[.slice tad bs.length cap, .pointer (some ⟨q0, 0, none⟩), .bool false, .pointer (some ⟨b0, 0, none⟩), .pointer (some ⟨b1, 0, none⟩), .pointer (some ⟨b2, 0, none⟩), .pointer (some ⟨b3, 0, none⟩), undef, undef, .pointer (some ⟨q7, 0, none⟩), .pointer (some ⟨q8, 0, none⟩), undef, .slice tad bs.length cap, .pointer (some ⟨b0, 0, none⟩), .slice tad bs.length cap, .pointer (some ⟨b1, 0, none⟩), .slice tad bs.length cap, .pointer (some ⟨b2, 0, none⟩), .slice tad bs.length cap, .pointer (some ⟨b3, 0, none⟩), .pointer (some ⟨b0, 0, none⟩), .int .u64 (n : Int), .pointer (some ⟨b1, 0, none⟩), .int .i64 i, .pointer (some ⟨b2, 0, none⟩), .bool g, .pointer (some ⟨b3, 0, none⟩), .slice tad bs.length cap, .int .i64 (bs.length : Int), .slice tt text.length tc, undef, undef, undef, undef, undef, undef, undef, undef, undef, undef, undef, undef, undef, undef, undef, undef, undef, undef, undef, undef, undef, undef, undef, undef, undef, undef], []⟩ v) := by
    intro L hL v I q7 N2 q8 N3 tt tc ow wl
    subst hL
    clear J40123 J4012 J4013 J401 J402 J403 J412 J413
    refine hin.out _ _ _ _ ?_
    refine wpAnyH_ready (rs := [10, 11]) (by kernel_rfl) (by simp) ?_
    refine AllReadyH.cons rfl (fun K' hK' => ?_) (AllReadyH.cons rfl (fun K' hK' => ?_) (AllReadyH.nil))
    · go_simp
      refine hK'.out _ _ (I.free ((Off.refl _ v).alloc _)).off (fun hS => ?_)
      exact hout.out _ _ _ _ (J4023.out _ (by kernel_rfl) _ (I.free ((Off.refl _ v).alloc _)) _ ⟨Cel.new v _ _, I.off.size⟩ _ (N2.free ((Off.refl _ v).alloc _)) _ (N3.free ((Off.refl _ v).alloc _)) _ _ (ow.off ((Off.refl _ v).alloc _) (fun _ _ _ h => h)) wl)
    · go_simp
      refine hK'.out _ _ (I.free ((Off.refl _ v).alloc _)).off (fun hS => ?_)
      exact hout.out _ _ _ _ (J4123.out _ (by kernel_rfl) _ (I.free ((Off.refl _ v).alloc _)) _ ⟨Cel.new v _ _, I.off.size⟩ _ (N2.free ((Off.refl _ v).alloc _)) _ (N3.free ((Off.refl _ v).alloc _)) _ _ (ow.off ((Off.refl _ v).alloc _) (fun _ _ _ h => h)) wl)
  have J40 : Hid (∀ (L : Array Bool) (hL : L = #[true, true, true, true, true, true, true, true, true, true, true, false, false, false, false, false, false, false]) (v : World) (I : Inv V v D0 D1 D2 D3 b0 b1 b2 b3 t0 t1 t2 t3) (q5 : Nat) (N0 : New V v q5 30 (.int .u64 0)) (tt : Option Addr) (tc : Nat) (ow : OwnR v tt tc text) (wl : ∀ k, blk tt = some k → V.heap.size ≤ k), F 7 L ⟨#[.slice tad bs.length cap, .pointer (some ⟨q0, 0, none⟩), .bool false, .pointer (some ⟨b0, 0, none⟩), .pointer (some ⟨b1, 0, none⟩), .pointer (some ⟨b2, 0, none⟩), .pointer (some ⟨b3, 0, none⟩), .pointer (some ⟨q5, 0, none⟩), undef, undef, undef, undef, .slice tad bs.length cap, .pointer (some ⟨b0, 0, none⟩), .slice tad bs.length cap, .pointer (some ⟨b1, 0, none⟩), .slice tad bs.length cap, .pointer (some ⟨b2, 0, none⟩), .slice tad bs.length cap, .pointer (some ⟨b3, 0, none⟩), .pointer (some ⟨b0, 0, none⟩), .int .u64 (n : Int), .pointer (some ⟨b1, 0, none⟩), .int .i64 i, .pointer (some ⟨b2, 0, none⟩), .bool g, .pointer (some ⟨b3, 0, none⟩), .slice tad bs.length cap, .int .i64 (bs.length : Int), .slice tt text.length tc, undef, undef, undef, undef, undef, undef, undef, undef, undef, undef, undef, undef, undef, undef, undef, undef, undef, undef, undef, undef, undef, undef, undef, undef, undef, undef], []⟩ v) := by
    intro L hL v I q5 N0 tt tc ow wl
    subst hL
    clear J40123 J4012 J4013 J4023 J4123 J412 J413 J423
    refine hin.out _ _ _ _ ?_
    refine wpAnyH_ready (rs := [11, 12, 13]) (by kernel_rfl) (by simp) ?_
    refine AllReadyH.cons rfl (fun K' hK' => ?_) (AllReadyH.cons rfl (fun K' hK' => ?_) (AllReadyH.cons rfl (fun K' hK' => ?_) (AllReadyH.nil)))
    · go_simp
      refine hK'.out _ _ (I.free ((Off.refl _ v).alloc _)).off (fun hS => ?_)
      exact hout.out _ _ _ _ (J401.out _ (by kernel_rfl) _ (I.free ((Off.refl _ v).alloc _)) _ (N0.free ((Off.refl _ v).alloc _)) _ ⟨Cel.new v _ _, I.off.size⟩ _ _ (ow.off ((Off.refl _ v).alloc _) (fun _ _ _ h => h)) wl)
    · go_simp
      refine hK'.out _ _ (I.free ((Off.refl _ v).alloc _)).off (fun hS => ?_)
      exact hout.out _ _ _ _ (J402.out _ (by kernel_rfl) _ (I.free ((Off.refl _ v).alloc _)) _ (N0.free ((Off.refl _ v).alloc _)) _ ⟨Cel.new v _ _, I.off.size⟩ _ _ (ow.off ((Off.refl _ v).alloc _) (fun _ _ _ h => h)) wl)
    · go_simp
      refine hK'.out _ _ (I.free ((Off.refl _ v).alloc _)).off (fun hS => ?_)
      exact hout.out _ _ _ _ (J403.out _ (by kernel_rfl) _ (I.free ((Off.refl _ v).alloc _)) _ (N0.free ((Off.refl _ v).alloc _)) _ ⟨Cel.new v _ _, I.off.size⟩ _ _ (ow.off ((Off.refl _ v).alloc _) (fun _ _ _ h => h)) wl)
  have J41 : Hid (∀ (L : Array Bool) (hL : L = #[true, true, true, true, true, true, true, true, true, true, false, true, false, false, false, false, false, false]) (v : World) (I : Inv V v D0 D1 D2 D3 b0 b1 b2 b3 t0 t1 t2 t3) (q6 : Nat) (N1 : New V v q6 2 (.int .i64 0)) (tt : Option Addr) (tc : Nat) (ow : OwnR v tt tc text) (wl : ∀ k, blk tt = some k → V.heap.size ≤ k), F 7 L ⟨#[.slice tad bs.length cap, .pointer (some ⟨q0, 0, none⟩), .bool false, .pointer (some ⟨b0, 0, none⟩), .pointer (some ⟨b1, 0, none⟩), .pointer (some ⟨b2, 0, none⟩), .pointer (some ⟨b3, 0, none⟩), undef, .pointer (some ⟨q6, 0, none⟩), undef, undef, undef, .slice tad bs.length cap, .pointer (some ⟨b0, 0, none⟩), .slice tad bs.length cap, .pointer (some ⟨b1, 0, none⟩), .slice tad bs.length cap, .pointer (some ⟨b2, 0, none⟩), .slice tad bs.length cap, .pointer (some ⟨b3, 0, none⟩), .pointer (some ⟨b0, 0, none⟩), .int .u64 (n : Int), .pointer (some ⟨b1, 0, none⟩), .int .i64 i, .pointer (some ⟨b2, 0, none⟩), .bool g, .pointer (some ⟨b3, 0, none⟩), .slice tad bs.length cap, .int .i64 (bs.length : Int), .slice tt text.length tc, undef, undef, undef, undef, undef, undef, undef, undef, undef, undef, undef, undef, undef, undef, undef, undef, undef, undef, undef, undef, undef, undef, undef, undef, undef, undef], []⟩ v) := by
    intro L hL v I q6 N1 tt tc ow wl
    subst hL
    clear J40123 J4012 J4013 J4023 J4123 J402 J403 J423 J40
    refine hin.out _ _ _ _ ?_
    refine wpAnyH_ready (rs := [10, 12, 13]) (by kernel_rfl) (by simp) ?_
    refine AllReadyH.cons rfl (fun K' hK' => ?_) (AllReadyH.cons rfl (fun K' hK' => ?_) (AllReadyH.cons rfl (fun K' hK' => ?_) (AllReadyH.nil)))
    · go_simp
      refine hK'.out _ _ (I.free ((Off.refl _ v).alloc _)).off (fun hS => ?_)
      exact hout.out _ _ _ _ (J401.out _ (by kernel_rfl) _ (I.free ((Off.refl _ v).alloc _)) _ ⟨Cel.new v _ _, I.off.size⟩ _ (N1.free ((Off.refl _ v).alloc _)) _ _ (ow.off ((Off.refl _ v).alloc _) (fun _ _ _ h => h)) wl)
    · go_simp
      refine hK'.out _ _ (I.free ((Off.refl _ v).alloc _)).off (fun hS => ?_)
      exact hout.out _ _ _ _ (J412.out _ (by kernel_rfl) _ (I.free ((Off.refl _ v).alloc _)) _ (N1.free ((Off.refl _ v).alloc _)) _ ⟨Cel.new v _ _, I.off.size⟩ _ _ (ow.off ((Off.refl _ v).alloc _) (fun _ _ _ h => h)) wl)
    · go_simp
      refine hK'.out _ _ (I.free ((Off.refl _ v).alloc _)).off (fun hS => ?_)
      exact hout.out _ _ _ _ (J413.out _ (by kernel_rfl) _ (I.free ((Off.refl _ v).alloc _)) _ (N1.free ((Off.refl _ v).alloc _)) _ ⟨Cel.new v _ _, I.off.size⟩ _ _ (ow.off ((Off.refl _ v).alloc _) (fun _ _ _ h => h)) wl)
  have J42 : Hid (∀ (L : Array Bool) (hL : L = #[true, true, true, true, true, true, true, true, true, true, false, false, true, false, false, false, false, false]) (v : World) (I : Inv V v D0 D1 D2 D3 b0 b1 b2 b3 t0 t1 t2 t3) (q7 : Nat) (N2 : New V v q7 4 (.bool false)) (tt : Option Addr) (tc : Nat) (ow : OwnR v tt tc text) (wl : ∀ k, blk tt = some k → V.heap.size ≤ k), F 7 L ⟨#[.slice tad bs.length cap, .pointer (some ⟨q0, 0, none⟩), .bool false, .pointer (some ⟨b0, 0, none⟩), .pointer (some ⟨b1, 0, none⟩), .pointer (some ⟨b2, 0, none⟩), .pointer (some ⟨b3, 0, none⟩), undef, undef, .pointer (some ⟨q7, 0, none⟩), undef, undef, .slice tad bs.length cap, .pointer (some ⟨b0, 0, none⟩), .slice tad bs.length cap, .pointer (some ⟨b1, 0, none⟩), .slice tad bs.length cap, .pointer (some ⟨b2, 0, none⟩), .slice tad bs.length cap, .pointer (some ⟨b3, 0, none⟩), .pointer (some ⟨b0, 0, none⟩), .int .u64 (n : Int), .pointer (some ⟨b1, 0, none⟩), .int .i64 i, .pointer (some ⟨b2, 0, none⟩), .bool g, .pointer (some ⟨b3, 0, none⟩), .slice tad bs.length cap, .int .i64 (bs.length : Int), .slice tt text.length tc, undef, undef, undef, undef, undef, undef, undef, undef, undef, undef, undef, undef, undef, undef, undef, undef, undef, undef, undef, undef, undef, undef, undef, undef, undef, undef], []⟩ v) := by
    intro L hL v I q7 N2 tt tc ow wl
    subst hL
    clear J40123 J4012 J4013 J4023 J4123 J401 J403 J413 J40 J41
    refine hin.out _ _ _ _ ?_
    refine wpAnyH_ready (rs := [10, 11, 13]) (by kernel_rfl) (by simp) ?_
    refine AllReadyH.cons rfl (fun K' hK' => ?_) (AllReadyH.cons rfl (fun K' hK' => ?_) (AllReadyH.cons rfl (fun K' hK' => ?_) (AllReadyH.nil)))
    · go_simp
      refine hK'.out _ _ (I.free ((Off.refl _ v).alloc _)).off (fun hS => ?_)
      exact hout.out _ _ _ _ (J402.out _ (by kernel_rfl) _ (I.free ((Off.refl _ v).alloc _)) _ ⟨Cel.new v _ _, I.off.size⟩ _ (N2.free ((Off.refl _ v).alloc _)) _ _ (ow.off ((Off.refl _ v).alloc _) (fun _ _ _ h => h)) wl)
    · go_simp
      refine hK'.out _ _ (I.free ((Off.refl _ v).alloc _)).off (fun hS => ?_)
      exact hout.out _ _ _ _ (J412.out _ (by kernel_rfl) _ (I.free ((Off.refl _ v).alloc _)) _ ⟨Cel.new v _ _, I.off.size⟩ _ (N2.free ((Off.refl _ v).alloc _)) _ _ (ow.off ((Off.refl _ v).alloc _) (fun _ _ _ h => h)) wl)
    · go_simp
      refine hK'.out _ _ (I.free ((Off.refl _ v).alloc _)).off (fun hS => ?_)
      exact hout.out _ _ _ _ (J423.out _ (by kernel_rfl) _ (I.free ((Off.refl _ v).alloc _)) _ (N2.free ((Off.refl _ v).alloc _)) _ ⟨Cel.new v _ _, I.off.size⟩ _ _ (ow.off ((Off.refl _ v).alloc _) (fun _ _ _ h => h)) wl)
  have J43 : Hid (∀ (L : Array Bool) (hL : L = #[true, true, true, true, true, true, true, true, true, true, false, false, false, true, false, false, false, false]) (v : World) (I : Inv V v D0 D1 D2 D3 b0 b1 b2 b3 t0 t1 t2 t3) (q8 : Nat) (N3 : New V v q8 26 (.slice none 0 0)) (tt : Option Addr) (tc : Nat) (ow : OwnR v tt tc text) (wl : ∀ k, blk tt = some k → V.heap.size ≤ k), F 7 L ⟨#[.slice tad bs.length cap, .pointer (some ⟨q0, 0, none⟩), .bool false, .pointer (some ⟨b0, 0, none⟩), .pointer (some ⟨b1, 0, none⟩), .pointer (some ⟨b2, 0, none⟩), .pointer (some ⟨b3, 0, none⟩), undef, undef, undef, .pointer (some ⟨q8, 0, none⟩), undef, .slice tad bs.length cap, .pointer (some ⟨b0, 0, none⟩), .slice tad bs.length cap, .pointer (some ⟨b1, 0, none⟩), .slice tad bs.length cap, .pointer (some ⟨b2, 0, none⟩), .slice tad bs.length cap, .pointer (some ⟨b3, 0, none⟩), .pointer (some ⟨b0, 0, none⟩), .int .u64 (n : Int), .pointer (some ⟨b1, 0, none⟩), .int .i64 i, .pointer (some ⟨b2, 0, none⟩), .bool g, .pointer (some ⟨b3, 0, none⟩), .slice tad bs.length cap, .int .i64 (bs.length : Int), .slice tt text.length tc, undef, undef, undef, undef, undef, undef, undef, undef, undef, undef, undef, undef, undef, undef, undef, undef, undef, undef, undef, undef, undef, undef, undef, undef, undef, undef], []⟩ v) := by
    intro L hL v I q8 N3 tt tc ow wl
    subst hL
    clear J40123 J4012 J4013 J4023 J4123 J401 J402 J412 J40 J41 J42
    refine hin.out _ _ _ _ ?_
    refine wpAnyH_ready (rs := [10, 11, 12]) (by kernel_rfl) (by simp) ?_
    refine AllReadyH.cons rfl (fun K' hK' => ?_) (AllReadyH.cons rfl (fun K' hK' => ?_) (AllReadyH.cons rfl (fun K' hK' => ?_) (AllReadyH.nil)))
    · go_simp
      refine hK'.out _ _ (I.free ((Off.refl _ v).alloc _)).off (fun hS => ?_)
      exact hout.out _ _ _ _ (J403.out _ (by kernel_rfl) _ (I.free ((Off.refl _ v).alloc _)) _ ⟨Cel.new v _ _, I.off.size⟩ _ (N3.free ((Off.refl _ v).alloc _)) _ _ (ow.off ((Off.refl _ v).alloc _) (fun _ _ _ h => h)) wl)
    · go_simp
      refine hK'.out _ _ (I.free ((Off.refl _ v).alloc _)).off (fun hS => ?_)
      exact hout.out _ _ _ _ (J413.out _ (by kernel_rfl) _ (I.free ((Off.refl _ v).alloc _)) _ ⟨Cel.new v _ _, I.off.size⟩ _ (N3.free ((Off.refl _ v).alloc _)) _ _ (ow.off ((Off.refl _ v).alloc _) (fun _ _ _ h => h)) wl)
    · go_simp
      refine hK'.out _ _ (I.free ((Off.refl _ v).alloc _)).off (fun hS => ?_)
      exact hout.out _ _ _ _ (J423.out _ (by kernel_rfl) _ (I.free ((Off.refl _ v).alloc _)) _ ⟨Cel.new v _ _, I.off.size⟩ _ (N3.free ((Off.refl _ v).alloc _)) _ _ (ow.off ((Off.refl _ v).alloc _) (fun _ _ _ h => h)) wl)
  have J4 : Hid (∀ (L : Array Bool) (hL : L = #[true, true, true, true, true, true, true, true, true, true, false, false, false, false, false, false, false, false]) (v : World) (I : Inv V v D0 D1 D2 D3 b0 b1 b2 b3 t0 t1 t2 t3) (tt : Option Addr) (tc : Nat) (ow : OwnR v tt tc text) (wl : ∀ k, blk tt = some k → V.heap.size ≤ k), F 8 L ⟨#[.slice tad bs.length cap, .pointer (some ⟨q0, 0, none⟩), .bool false, .pointer (some ⟨b0, 0, none⟩), .pointer (some ⟨b1, 0, none⟩), .pointer (some ⟨b2, 0, none⟩), .pointer (some ⟨b3, 0, none⟩), undef, undef, undef, undef, undef, .slice tad bs.length cap, .pointer (some ⟨b0, 0, none⟩), .slice tad bs.length cap, .pointer (some ⟨b1, 0, none⟩), .slice tad bs.length cap, .pointer (some ⟨b2, 0, none⟩), .slice tad bs.length cap, .pointer (some ⟨b3, 0, none⟩), .pointer (some ⟨b0, 0, none⟩), .int .u64 (n : Int), .pointer (some ⟨b1, 0, none⟩), .int .i64 i, .pointer (some ⟨b2, 0, none⟩), .bool g, .pointer (some ⟨b3, 0, none⟩), .slice tad bs.length cap, .int .i64 (bs.length : Int), .slice tt text.length tc, undef, undef, undef, undef, undef, undef, undef, undef, undef, undef, undef, undef, undef, undef, undef, undef, undef, undef, undef, undef, undef, undef, undef, undef, undef, undef], []⟩ v) := by
    intro L hL v I tt tc ow wl
    subst hL
    clear J40123 J4012 J4013 J4023 J4123 J401 J402 J403 J412 J413 J423
    refine hin.out _ _ _ _ ?_
    refine wpAnyH_ready (rs := [10, 11, 12, 13]) (by kernel_rfl) (by simp) ?_
    refine AllReadyH.cons rfl (fun K' hK' => ?_) (AllReadyH.cons rfl (fun K' hK' => ?_) (AllReadyH.cons rfl (fun K' hK' => ?_) (AllReadyH.cons rfl (fun K' hK' => ?_) (AllReadyH.nil))))
    · go_simp
      refine hK'.out _ _ (I.free ((Off.refl _ v).alloc _)).off (fun hS => ?_)
      exact hout.out _ _ _ _ (J40.out _ (by kernel_rfl) _ (I.free ((Off.refl _ v).alloc _)) _ ⟨Cel.new v _ _, I.off.size⟩ _ _ (ow.off ((Off.refl _ v).alloc _) (fun _ _ _ h => h)) wl)
    · go_simp
      refine hK'.out _ _ (I.free ((Off.refl _ v).alloc _)).off (fun hS => ?_)
      exact hout.out _ _ _ _ (J41.out _ (by kernel_rfl) _ (I.free ((Off.refl _ v).alloc _)) _ ⟨Cel.new v _ _, I.off.size⟩ _ _ (ow.off ((Off.refl _ v).alloc _) (fun _ _ _ h => h)) wl)
    · go_simp
      refine hK'.out _ _ (I.free ((Off.refl _ v).alloc _)).off (fun hS => ?_)
      exact hout.out _ _ _ _ (J42.out _ (by kernel_rfl) _ (I.free ((Off.refl _ v).alloc _)) _ ⟨Cel.new v _ _, I.off.size⟩ _ _ (ow.off ((Off.refl _ v).alloc _) (fun _ _ _ h => h)) wl)
    · go_simp
      refine hK'.out _ _ (I.free ((Off.refl _ v).alloc _)).off (fun hS => ?_)
      exact hout.out _ _ _ _ (J43.out _ (by kernel_rfl) _ (I.free ((Off.refl _ v).alloc _)) _ ⟨Cel.new v _ _, I.off.size⟩ _ _ (ow.off ((Off.refl _ v).alloc _) (fun _ _ _ h => h)) wl)
  have J30123 : Hid (∀ (L : Array Bool) (hL : L = #[true, true, true, true, true, true, true, true, true, false, true, true, true, true, false, false, false, false]) (v : World) (I : Inv V v D0 D1 D2 D3 b0 b1 b2 b3 t0 t1 t2 (bs, 0)) (q5 : Nat) (N0 : New V v q5 30 (.int .u64 0)) (q6 : Nat) (N1 : New V v q6 2 (.int .i64 0)) (q7 : Nat) (N2 : New V v q7 4 (.bool false)) (q8 : Nat) (N3 : New V v q8 26 (.slice none 0 0)), F 5 L ⟨#[.slice tad bs.length cap, .pointer (some ⟨q0, 0, none⟩), .bool false, .pointer (some ⟨b0, 0, none⟩), .pointer (some ⟨b1, 0, none⟩), .pointer (some ⟨b2, 0, none⟩), .pointer (some ⟨b3, 0, none⟩), .pointer (some ⟨q5, 0, none⟩), .pointer (some ⟨q6, 0, none⟩), .pointer (some ⟨q7, 0, none⟩), .pointer (some ⟨q8, 0, none⟩), undef, .slice tad bs.length cap, .pointer (some ⟨b0, 0, none⟩), .slice tad bs.length cap, .pointer (some ⟨b1, 0, none⟩), .slice tad bs.length cap, .pointer (some ⟨b2, 0, none⟩), .slice tad bs.length cap, .pointer (some ⟨b3, 0, none⟩), .pointer (some ⟨b0, 0, none⟩), .int .u64 (n : Int), .pointer (some ⟨b1, 0, none⟩), .int .i64 i, .pointer (some ⟨b2, 0, none⟩), .bool g, .pointer (some ⟨b3, 0, none⟩), .slice tad bs.length cap, .int .i64 (bs.length : Int), undef, undef, undef, undef, undef, undef, undef, undef, undef, undef, undef, undef, undef, undef, undef, undef, undef, undef, undef, undef, undef, undef, undef, undef, undef, undef, undef], []⟩ v) := by
    intro L hL v I q5 N0 q6 N1 q7 N2 q8 N3
    subst hL
    clear J4012 J4013 J4023 J4123 J401 J402 J403 J412 J413 J423 J40 J41 J42 J43 J4
    refine hin.out _ _ _ _ ?_
    refine wpAnyH_ready (rs := [9]) (by kernel_rfl) (by simp) ?_
    refine AllReadyH.cons rfl (fun K' hK' => ?_) (AllReadyH.nil)
    · go_simp
      refine (rtext_any I.r3 (bs.length : Int) (by omega) (by omega)).mono ?_
      rw [HT3.out]
      dsimp only
      rintro e v1 ⟨tt, tc, rfl, ow, hk, R, o⟩
      refine hK'.out _ _ (I.go3 o R).off (fun hS => ?_)
      exact hout.out _ _ _ _ (J40123.out _ (by kernel_rfl) _ (I.go3 o R) _ (N0.go HAP.out.lt.2.2.2 o) _ (N1.go HAP.out.lt.2.2.2 o) _ (N2.go HAP.out.lt.2.2.2 o) _ (N3.go HAP.out.lt.2.2.2 o) _ _ ow (fun k hk1 => Nat.le_trans I.off.size (hk k hk1)))
  have J3012 : Hid (∀ (L : Array Bool) (hL : L = #[true, true, true, true, true, true, true, true, true, false, true, true, true, false, false, false, false, false]) (v : World) (I : Inv V v D0 D1 D2 D3 b0 b1 b2 b3 t0 t1 t2 (bs, 0)) (q5 : Nat) (N0 : New V v q5 30 (.int .u64 0)) (q6 : Nat) (N1 : New V v q6 2 (.int .i64 0)) (q7 : Nat) (N2 : New V v q7 4 (.bool false)), F 6 L ⟨#[.slice tad bs.length cap, .pointer (some ⟨q0, 0, none⟩), .bool false, .pointer (some ⟨b0, 0, none⟩), .pointer (some ⟨b1, 0, none⟩), .pointer (some ⟨b2, 0, none⟩), .pointer (some ⟨b3, 0, none⟩), .pointer (some ⟨q5, 0, none⟩), .pointer (some ⟨q6, 0, none⟩), .pointer (some ⟨q7, 0, none⟩), undef, undef, .slice tad bs.length cap, .pointer (some ⟨b0, 0, none⟩), .slice tad bs.length cap, .pointer (some ⟨b1, 0, none⟩), .slice tad bs.length cap, .pointer (some ⟨b2, 0, none⟩), .slice tad bs.length cap, .pointer (some ⟨b3, 0, none⟩), .pointer (some ⟨b0, 0, none⟩), .int .u64 (n : Int), .pointer (some ⟨b1, 0, none⟩), .int .i64 i, .pointer (some ⟨b2, 0, none⟩), .bool g, .pointer (some ⟨b3, 0, none⟩), .slice tad bs.length cap, .int .i64 (bs.length : Int), undef, undef, undef, undef, undef, undef, undef, undef, undef, undef, undef, undef, undef, undef, undef, undef, undef, undef, undef, undef, undef, undef, undef, undef, undef, undef, undef], []⟩ v) := by
    intro L hL v I q5 N0 q6 N1 q7 N2
    subst hL
    clear J40123 J4013 J4023 J4123 J401 J402 J403 J412 J413 J423 J40 J41 J42 J43 J4
    refine hin.out _ _ _ _ ?_
    refine wpAnyH_ready (rs := [9, 13]) (by kernel_rfl) (by simp) ?_
    refine AllReadyH.cons rfl (fun K' hK' => ?_) (AllReadyH.cons rfl (fun K' hK' => ?_) (AllReadyH.nil))
    · go_simp
      refine (rtext_any I.r3 (bs.length : Int) (by omega) (by omega)).mono ?_
      rw [HT3.out]
      dsimp only
      rintro e v1 ⟨tt, tc, rfl, ow, hk, R, o⟩
      refine hK'.out _ _ (I.go3 o R).off (fun hS => ?_)
      exact hout.out _ _ _ _ (J4012.out _ (by kernel_rfl) _ (I.go3 o R) _ (N0.go HAP.out.lt.2.2.2 o) _ (N1.go HAP.out.lt.2.2.2 o) _ (N2.go HAP.out.lt.2.2.2 o) _ _ ow (fun k hk1 => Nat.le_trans I.off.size (hk k hk1)))
    · go_simp
      refine hK'.out _ _ (I.free ((Off.refl _ v).alloc _)).off (fun hS => ?_)
      exact hout.out _ _ _ _ (J30123.out _ (by kernel_rfl) _ (I.free ((Off.refl _ v).alloc _)) _ (N0.free ((Off.refl _ v).alloc _)) _ (N1.free ((Off.refl _ v).alloc _)) _ (N2.free ((Off.refl _ v).alloc _)) _ ⟨Cel.new v _ _, I.off.size⟩)
  have J3013 : Hid (∀ (L : Array Bool) (hL : L = #[true, true, true, true, true, true, true, true, true, false, true, true, false, true, false, false, false, false]) (v : World) (I : Inv V v D0 D1 D2 D3 b0 b1 b2 b3 t0 t1 t2 (bs, 0)) (q5 : Nat) (N0 : New V v q5 30 (.int .u64 0)) (q6 : Nat) (N1 : New V v q6 2 (.int .i64 0)) (q8 : Nat) (N3 : New V v q8 26 (.slice none 0 0)), F 6 L ⟨#[.slice tad bs.length cap, .pointer (some ⟨q0, 0, none⟩), .bool false, .pointer (some ⟨b0, 0, none⟩), .pointer (some ⟨b1, 0, none⟩), .pointer (some ⟨b2, 0, none⟩), .pointer (some ⟨b3, 0, none⟩), .pointer (some ⟨q5, 0, none⟩), .pointer (some ⟨q6, 0, none⟩), undef, .pointer (some ⟨q8, 0, none⟩), undef, .slice tad bs.length cap, .pointer (some ⟨b0, 0, none⟩), .slice tad bs.length cap, .pointer (some ⟨b1, 0, none⟩), .slice tad bs.length cap, .pointer (some ⟨b2, 0, none⟩), .slice tad bs.length cap, .pointer (some ⟨b3, 0, none⟩), .pointer (some ⟨b0, 0, none⟩), .int .u64 (n : Int), .pointer (some ⟨b1, 0, none⟩), .int .i64 i, .pointer (some ⟨b2, 0, none⟩), .bool g, .pointer (some ⟨b3, 0, none⟩), .slice tad bs.length cap, .int .i64 (bs.length : Int), undef, undef, undef, undef, undef, undef, undef, undef, undef, undef, undef, undef, undef, undef, undef, undef, undef, undef, undef, undef, undef, undef, undef, undef, undef, undef, undef], []⟩ v) := by
    intro L hL v I q5 N0 q6 N1 q8 N3
    subst hL
    clear J40123 J4012 J4023 J4123 J401 J402 J403 J412 J413 J423 J40 J41 J42 J43 J4 J3012
    refine hin.out _ _ _ _ ?_
    refine wpAnyH_ready (rs := [9, 12]) (by kernel_rfl) (by simp) ?_
    refine AllReadyH.cons rfl (fun K' hK' => ?_) (AllReadyH.cons rfl (fun K' hK' => ?_) (AllReadyH.nil))
    · go_simp
      refine (rtext_any I.r3 (bs.length : Int) (by omega) (by omega)).mono ?_
      rw [HT3.out]
      dsimp only
      rintro e v1 ⟨tt, tc, rfl, ow, hk, R, o⟩
      refine hK'.out _ _ (I.go3 o R).off (fun hS => ?_)
      exact hout.out _ _ _ _ (J4013.out _ (by kernel_rfl) _ (I.go3 o R) _ (N0.go HAP.out.lt.2.2.2 o) _ (N1.go HAP.out.lt.2.2.2 o) _ (N3.go HAP.out.lt.2.2.2 o) _ _ ow (fun k hk1 => Nat.le_trans I.off.size (hk k hk1)))
    · go_simp
      refine hK'.out _ _ (I.free ((Off.refl _ v).alloc _)).off (fun hS => ?_)
      exact hout.out _ _ _ _ (J30123.out _ (by kernel_rfl) _ (I.free ((Off.refl _ v).alloc _)) _ (N0.free ((Off.refl _ v).alloc _)) _ (N1.free ((Off.refl _ v).alloc _)) _ ⟨Cel.new v _ _, I.off.size⟩ _ (N3.free ((Off.refl _ v).alloc _)))
  have J3023 : Hid (∀ (L : Array Bool) (hL : L = #[true, true, true, true, true, true, true, true, true, false, true, false, true, true, false, false, false, false]) (v : World) (I : Inv V v D0 D1 D2 D3 b0 b1 b2 b3 t0 t1 t2 (bs, 0)) (q5 : Nat) (N0 : New V v q5 30 (.int .u64 0)) (q7 : Nat) (N2 : New V v q7 4 (.bool false)) (q8 : Nat) (N3 : New V v q8 26 (.slice none 0 0)), F 6 L ⟨#[.slice tad bs.length cap, .pointer (some ⟨q0, 0, none⟩), .bool false, .pointer (some ⟨b0, 0, none⟩), .pointer (some ⟨b1, 0, none⟩), .pointer (some ⟨b2, 0, none⟩), .pointer (some ⟨b3, 0, none⟩), .pointer (some ⟨q5, 0, none⟩), undef, .pointer (some ⟨q7, 0, none⟩), .pointer (some ⟨q8, 0, none⟩), undef, .slice tad bs.length cap, .pointer (some ⟨b0, 0, none⟩), .slice tad bs.length cap, .pointer (some ⟨b1, 0, none⟩), .slice tad bs.length cap, .pointer (some ⟨b2, 0, none⟩), .slice tad bs.length cap, .pointer (some ⟨b3, 0, none⟩), .pointer (some ⟨b0, 0, none⟩), .int .u64 (n : Int), .pointer (some ⟨b1, 0, none⟩), .int .i64 i, .pointer (some ⟨b2, 0, none⟩), .bool g, .pointer (some ⟨b3, 0, none⟩), .slice tad bs.length cap, .int .i64 (bs.length : Int), undef, undef, undef, undef, undef, undef, undef, undef, undef, undef, undef, undef, undef, undef, undef, undef, undef, undef, undef, undef, undef, undef, undef, undef, undef, undef, undef], []⟩ v) := by
    intro L hL v I q5 N0 q7 N2 q8 N3
    subst hL
    clear J40123 J4012 J4013 J4123 J401 J402 J403 J412 J413 J423 J40 J41 J42 J43 J4 J3012 J3013
    refine hin.out _ _ _ _ ?_
    refine wpAnyH_ready (rs := [9, 11]) (by kernel_rfl) (by simp) ?_
    refine AllReadyH.cons rfl (fun K' hK' => ?_) (AllReadyH.cons rfl (fun K' hK' => ?_) (AllReadyH.nil))
    · go_simp
      refine (rtext_any I.r3 (bs.length : Int) (by omega) (by omega)).mono ?_
      rw [HT3.out]
      dsimp only
      rintro e v1 ⟨tt, tc, rfl, ow, hk, R, o⟩
      refine hK'.out _ _ (I.go3 o R).off (fun hS => ?_)
      exact hout.out _ _ _ _ (J4023.out _ (by kernel_rfl) _ (I.go3 o R) _ (N0.go HAP.out.lt.2.2.2 o) _ (N2.go HAP.out.lt.2.2.2 o) _ (N3.go HAP.out.lt.2.2.2 o) _ _ ow (fun k hk1 => Nat.le_trans I.off.size (hk k hk1)))
    · go_simp
      refine hK'.out _ _ (I.free ((Off.refl _ v).alloc _)).off (fun hS => ?_)
      exact hout.out _ _ _ _ (J30123.out _ (by kernel_rfl) _ (I.free ((Off.refl _ v).alloc _)) _ (N0.free ((Off.refl _ v).alloc _)) _ ⟨Cel.new v _ _, I.off.size⟩ _ (N2.free ((Off.refl _ v).alloc _)) _ (N3.free ((Off.refl _ v).alloc _)))
  have J3123 : Hid (∀ (L : Array Bool) (hL : L = #[true, true, true, true, true, true, true, true, true, false, false, true, true, true, false, false, false, false]) (v : World) (I : Inv V v D0 D1 D2 D3 b0 b1 b2 b3 t0 t1 t2 (bs, 0)) (q6 : Nat) (N1 : New V v q6 2 (.int .i64 0)) (q7 : Nat) (N2 : New V v q7 4 (.bool false)) (q8 : Nat) (N3 : New V v q8 26 (.slice none 0 0)), F 6 L ⟨#[.slice tad bs.length cap, .pointer (some ⟨q0, 0, none⟩), .bool false, .pointer (some ⟨b0, 0, none⟩), .pointer (some ⟨b1, 0, none⟩), .pointer (some ⟨b2, 0, none⟩), .pointer (some ⟨b3, 0, none⟩), undef, .pointer (some ⟨q6, 0, none⟩), .pointer (some ⟨q7, 0, none⟩), .pointer (some ⟨q8, 0, none⟩), undef, .slice tad bs.length cap, .pointer (some ⟨b0, 0, none⟩), .slice tad bs.length cap, .pointer (some ⟨b1, 0, none⟩), .slice tad bs.length cap, .pointer (some ⟨b2, 0, none⟩), .slice tad bs.length cap, .pointer (some ⟨b3, 0, none⟩), .pointer (some ⟨b0, 0, none⟩), .int .u64 (n : Int), .pointer (some ⟨b1, 0, none⟩), .int .i64 i, .pointer (some ⟨b2, 0, none⟩), .bool g, .pointer (some ⟨b3, 0, none⟩), .slice tad bs.length cap, .int .i64 (bs.length : Int), undef, undef, undef, undef, undef, undef, undef, undef, undef, undef, undef, undef, undef, undef, undef, undef, undef, undef, undef, undef, undef, undef, undef, undef, undef, undef, undef], []⟩ v) := by
    intro L hL v I q6 N1 q7 N2 q8 N3
    subst hL
    clear J40123 J4012 J4013 J4023 J401 J402 J403 J412 J413 J423 J40 J41 J42 J43 J4 J3012 J3013 J3023
    refine hin.out _ _ _ _ ?_
    refine wpAnyH_ready (rs := [9, 10]) (by kernel_rfl) (by simp) ?_
    refine AllReadyH.cons rfl (fun K' hK' => ?_) (AllReadyH.cons rfl (fun K' hK' => ?_) (AllReadyH.nil))
    · go_simp
      refine (rtext_any I.r3 (bs.length : Int) (by omega) (by omega)).mono ?_
      rw [HT3.out]
      dsimp only
      rintro e v1 ⟨tt, tc, rfl, ow, hk, R, o⟩
      refine hK'.out _ _ (I.go3 o R).off (fun hS => ?_)
      exact hout.out _ _ _ _ (J4123.out _ (by kernel_rfl) _ (I.go3 o R) _ (N1.go HAP.out.lt.2.2.2 o) _ (N2.go HAP.out.lt.2.2.2 o) _ (N3.go HAP.out.lt.2.2.2 o) _ _ ow (fun k hk1 => Nat.le_trans I.off.size (hk k hk1)))
    · go_simp
      refine hK'.out _ _ (I.free ((Off.refl _ v).alloc _)).off (fun hS => ?_)
      exact hout.out _ _ _ _ (J30123.out _ (by kernel_rfl) _ (I.free ((Off.refl _ v).alloc _)) _ ⟨Cel.new v _ _, I.off.size⟩ _ (N1.free ((Off.refl _ v).alloc _)) _ (N2.free ((Off.refl _ v).alloc _)) _ (N3.free ((Off.refl _ v).alloc _)))
  have J301 : Hid (∀ (L : Array Bool) (hL : L = #[true, true, true, true, true, true, true, true, true, false, true, true, false, false, false, false, false, false]) (v : World) (I : Inv V v D0 D1 D2 D3 b0 b1 b2 b3 t0 t1 t2 (bs, 0)) (q5 : Nat) (N0 : New V v q5 30 (.int .u64 0)) (q6 : Nat) (N1 : New V v q6 2 (.int .i64 0)), F 7 L ⟨#[.slice tad bs.length cap, .pointer (some ⟨q0, 0, none⟩), .bool false, .pointer (some ⟨b0, 0, none⟩), .pointer (some ⟨b1, 0, none⟩), .pointer (some ⟨b2, 0, none⟩), .pointer (some ⟨b3, 0, none⟩), .pointer (some ⟨q5, 0, none⟩), .pointer (some ⟨q6, 0, none⟩), undef, undef, undef, .slice tad bs.length cap, .pointer (some ⟨b0, 0, none⟩), .slice tad bs.length cap, .pointer (some ⟨b1, 0, none⟩), .slice tad bs.length cap, .pointer (some ⟨b2, 0, none⟩), .slice tad bs.length cap, .pointer (some ⟨b3, 0, none⟩), .pointer (some ⟨b0, 0, none⟩), .int .u64 (n : Int), .pointer (some ⟨b1, 0, none⟩), .int .i64 i, .pointer (some ⟨b2, 0, none⟩), .bool g, .pointer (some ⟨b3, 0, none⟩), .slice tad bs.length cap, .int .i64 (bs.length : Int), undef, undef, undef, undef, undef, undef, undef, undef, undef, undef, undef, undef, undef, undef, undef, undef, undef, undef, undef, undef, undef, undef, undef, undef, undef, undef, undef], []⟩ v) := by
    intro L hL v I q5 N0 q6 N1
    subst hL
    clear J40123 J4012 J4013 J4023 J4123 J402 J403 J412 J413 J423 J40 J41 J42 J43 J4 J30123 J3023 J3123
    refine hin.out _ _ _ _ ?_
    refine wpAnyH_ready (rs := [9, 12, 13]) (by kernel_rfl) (by simp) ?_
    refine AllReadyH.cons rfl (fun K' hK' => ?_) (AllReadyH.cons rfl (fun K' hK' => ?_) (AllReadyH.cons rfl (fun K' hK' => ?_) (AllReadyH.nil)))
    · go_simp
      refine (rtext_any I.r3 (bs.length : Int) (by omega) (by omega)).mono ?_
      rw [HT3.out]
      dsimp only
      rintro e v1 ⟨tt, tc, rfl, ow, hk, R, o⟩
      refine hK'.out _ _ (I.go3 o R).off (fun hS => ?_)
      exact hout.out _ _ _ _ (J401.out _ (by kernel_rfl) _ (I.go3 o R) _ (N0.go HAP.out.lt.2.2.2 o) _ (N1.go HAP.out.lt.2.2.2 o) _ _ ow (fun k hk1 => Nat.le_trans I.off.size (hk k hk1)))
    · go_simp
      refine hK'.out _ _ (I.free ((Off.refl _ v).alloc _)).off (fun hS => ?_)
      exact hout.out _ _ _ _ (J3012.out _ (by kernel_rfl) _ (I.free ((Off.refl _ v).alloc _)) _ (N0.free ((Off.refl _ v).alloc _)) _ (N1.free ((Off.refl _ v).alloc _)) _ ⟨Cel.new v _ _, I.off.size⟩)
    · go_simp
      refine hK'.out _ _ (I.free ((Off.refl _ v).alloc _)).off (fun hS => ?_)
      exact hout.out _ _ _ _ (J3013.out _ (by kernel_rfl) _ (I.free ((Off.refl _ v).alloc _)) _ (N0.free ((Off.refl _ v).alloc _)) _ (N1.free ((Off.refl _ v).alloc _)) _ ⟨Cel.new v _ _, I.off.size⟩)
  have J302 : Hid (∀ (L : Array Bool) (hL : L = #[true, true, true, true, true, true, true, true, true, false, true, false, true, false, false, false, false, false]) (v : World) (I : Inv V v D0 D1 D2 D3 b0 b1 b2 b3 t0 t1 t2 (bs, 0)) (q5 : Nat) (N0 : New V v q5 30 (.int .u64 0)) (q7 : Nat) (N2 : New V v q7 4 (.bool false)), F 7 L ⟨#[.slice tad bs.length cap, .pointer (some ⟨q0, 0, none⟩), .bool false, .pointer (some ⟨b0, 0, none⟩), .pointer (some ⟨b1, 0, none⟩), .pointer (some ⟨b2, 0, none⟩), .pointer (some ⟨b3, 0, none⟩), .pointer (some ⟨q5, 0, none⟩), undef, .pointer (some ⟨q7, 0, none⟩), undef, undef, .slice tad bs.length cap, .pointer (some ⟨b0, 0, none⟩), .slice tad bs.length cap, .pointer (some ⟨b1, 0, none⟩), .slice tad bs.length cap, .pointer (some ⟨b2, 0, none⟩), .slice tad bs.length cap, .pointer (some ⟨b3, 0, none⟩), .pointer (some ⟨b0, 0, none⟩), .int .u64 (n : Int), .pointer (some ⟨b1, 0, none⟩), .int .i64 i, .pointer (some ⟨b2, 0, none⟩), .bool g, .pointer (some ⟨b3, 0, none⟩), .slice tad bs.length cap, .int .i64 (bs.length : Int), undef, undef, undef, undef, undef, undef, undef, undef, undef, undef, undef, undef, undef, undef, undef, undef, undef, undef, undef, undef, undef, undef, undef, undef, undef, undef, undef], []⟩ v) := by
    intro L hL v I q5 N0 q7 N2
    subst hL
    clear J40123 J4012 J4013 J4023 J4123 J401 J403 J412 J413 J423 J40 J41 J42 J43 J4 J30123 J3013 J3123 J301
    refine hin.out _ _ _ _ ?_
    refine wpAnyH_ready (rs := [9, 11, 13]) (by kernel_rfl) (by simp) ?_
    refine AllReadyH.cons rfl (fun K' hK' => ?_) (AllReadyH.cons rfl (fun K' hK' => ?_) (AllReadyH.cons rfl (fun K' hK' => ?_) (AllReadyH.nil)))
    · go_simp
      refine (rtext_any I.r3 (bs.length : Int) (by omega) (by omega)).mono ?_
      rw [HT3.out]
      dsimp only
      rintro e v1 ⟨tt, tc, rfl, ow, hk, R, o⟩
      refine hK'.out _ _ (I.go3 o R).off (fun hS => ?_)
      exact hout.out _ _ _ _ (J402.out _ (by kernel_rfl) _ (I.go3 o R) _ (N0.go HAP.out.lt.2.2.2 o) _ (N2.go HAP.out.lt.2.2.2 o) _ _ ow (fun k hk1 => Nat.le_trans I.off.size (hk k hk1)))
    · go_simp
      refine hK'.out _ _ (I.free ((Off.refl _ v).alloc _)).off (fun hS => ?_)
      exact hout.out _ _ _ _ (J3012.out _ (by kernel_rfl) _ (I.free ((Off.refl _ v).alloc _)) _ (N0.free ((Off.refl _ v).alloc _)) _ ⟨Cel.new v _ _, I.off.size⟩ _ (N2.free ((Off.refl _ v).alloc _)))
    · go_simp
      refine hK'.out _ _ (I.free ((Off.refl _ v).alloc _)).off (fun hS => ?_)
      exact hout.out _ _ _ _ (J3023.out _ (by kernel_rfl) _ (I.free ((Off.refl _ v).alloc _)) _ (N0.free ((Off.refl _ v).alloc _)) _ (N2.free ((Off.refl _ v).alloc _)) _ ⟨Cel.new v _ _, I.off.size⟩)
  have J303 : Hid (∀ (L : Array Bool) (hL : L = #[true, true, true, true, true, true, true, true, true, false, true, false, false, true, false, false, false, false]) (v : World) (I : Inv V v D0 D1 D2 D3 b0 b1 b2 b3 t0 t1 t2 (bs, 0)) (q5 : Nat) (N0 : New V v q5 30 (.int .u64 0)) (q8 : Nat) (N3 : New V v q8 26 (.slice none 0 0)), F 7 L ⟨#[.slice tad bs.length cap, .pointer (some ⟨q0, 0, none⟩), .bool false, .pointer (some ⟨b0, 0, none⟩), .pointer (some ⟨b1, 0, none⟩), .pointer (some ⟨b2, 0, none⟩), .pointer (some ⟨b3, 0, none⟩), .pointer (some ⟨q5, 0, none⟩), undef, undef, .pointer (some ⟨q8, 0, none⟩), undef, .slice tad bs.length cap, .pointer (some ⟨b0, 0, none⟩), .slice tad bs.length cap, .pointer (some ⟨b1, 0, none⟩), .slice tad bs.length cap, .pointer (some ⟨b2, 0, none⟩), .slice tad bs.length cap, .pointer (some ⟨b3, 0, none⟩), .pointer (some ⟨b0, 0, none⟩), .int .u64 (n : Int), .pointer (some ⟨b1, 0, none⟩), .int .i64 i, .pointer (some ⟨b2, 0, none⟩), .bool g, .pointer (some ⟨b3, 0, none⟩), .slice tad bs.length cap, .int .i64 (bs.length : Int), undef, undef, undef, undef, undef, undef, undef, undef, undef, undef, undef, undef, undef, undef, undef, undef, undef, undef, undef, undef, undef, undef, undef, undef, undef, undef, undef], []⟩ v) := by
    intro L hL v I q5 N0 q8 N3
    subst hL
    clear J40123 J4012 J4013 J4023 J4123 J401 J402 J412 J413 J423 J40 J41 J42 J43 J4 J30123 J3012 J3123 J301 J302
    refine hin.out _ _ _ _ ?_
    refine wpAnyH_ready (rs := [9, 11, 12]) (by kernel_rfl) (by simp) ?_
    refine AllReadyH.cons rfl (fun K' hK' => ?_) (AllReadyH.cons rfl (fun K' hK' => ?_) (AllReadyH.cons rfl (fun K' hK' => ?_) (AllReadyH.nil)))
    · go_simp
      refine (rtext_any I.r3 (bs.length : Int) (by omega) (by omega)).mono ?_
      rw [HT3.out]
      dsimp only
      rintro e v1 ⟨tt, tc, rfl, ow, hk, R, o⟩
      refine hK'.out _ _ (I.go3 o R).off (fun hS => ?_)
      exact hout.out _ _ _ _ (J403.out _ (by kernel_rfl) _ (I.go3 o R) _ (N0.go HAP.out.lt.2.2.2 o) _ (N3.go HAP.out.lt.2.2.2 o) _ _ ow (fun k hk1 => Nat.le_trans I.off.size (hk k hk1)))
    · go_simp
      refine hK'.out _ _ (I.free ((Off.refl _ v).alloc _)).off (fun hS => ?_)
      exact hout.out _ _ _ _ (J3013.out _ (by kernel_rfl) _ (I.free ((Off.refl _ v).alloc _)) _ (N0.free ((Off.refl _ v).alloc _)) _ ⟨Cel.new v _ _, I.off.size⟩ _ (N3.free ((Off.refl _ v).alloc _)))
    · go_simp
      refine hK'.out _ _ (I.free ((Off.refl _ v).alloc _)).off (fun hS => ?_)
      exact hout.out _ _ _ _ (J3023.out _ (by kernel_rfl) _ (I.free ((Off.refl _ v).alloc _)) _ (N0.free ((Off.refl _ v).alloc _)) _ ⟨Cel.new v _ _, I.off.size⟩ _ (N3.free ((Off.refl _ v).alloc _)))
  have J312 : Hid (∀ (L : Array Bool) (hL : L = #[true, true, true, true, true, true, true, true, true, false, false, true, true, false, false, false, false, false]) (v : World) (I : Inv V v D0 D1 D2 D3 b0 b1 b2 b3 t0 t1 t2 (bs, 0)) (q6 : Nat) (N1 : New V v q6 2 (.int .i64 0)) (q7 : Nat) (N2 : New V v q7 4 (.bool false)), F 7 L ⟨#[.slice tad bs.length cap, .pointer (some ⟨q0, 0, none⟩), .bool false, .pointer (some ⟨b0, 0, none⟩), .pointer (some ⟨b1, 0, none⟩), .pointer (some ⟨b2, 0, none⟩), .pointer (some ⟨b3, 0, none⟩), undef, .pointer (some ⟨q6, 0, none⟩), .pointer (some ⟨q7, 0, none⟩), undef, undef, .slice tad bs.length cap, .pointer (some ⟨b0, 0, none⟩), .slice tad bs.length cap, .pointer (some ⟨b1, 0, none⟩), .slice tad bs.length cap, .pointer (some ⟨b2, 0, none⟩), .slice tad bs.length cap, .pointer (some ⟨b3, 0, none⟩), .pointer (some ⟨b0, 0, none⟩), .int .u64 (n : Int), .pointer (some ⟨b1, 0, none⟩), .int .i64 i, .pointer (some ⟨b2, 0, none⟩), .bool g, .pointer (some ⟨b3, 0, none⟩), .slice tad bs.length cap, .int .i64 (bs.length : Int), undef, undef, undef, undef, undef, undef, undef, undef, undef, undef, undef, undef, undef, undef, undef, undef, undef, undef, undef, undef, undef, undef, undef, undef, undef, undef, undef], []⟩ v) := by
    intro L hL v I q6 N1 q7 N2
    subst hL
    clear J40123 J4012 J4013 J4023 J4123 J401 J402 J403 J413 J423 J40 J41 J42 J43 J4 J30123 J3013 J3023 J301 J302 J303
    refine hin.out _ _ _ _ ?_
    refine wpAnyH_ready (rs := [9, 10, 13]) (by kernel_rfl) (by simp) ?_
    refine AllReadyH.cons rfl (fun K' hK' => ?_) (AllReadyH.cons rfl (fun K' hK' => ?_) (AllReadyH.cons rfl (fun K' hK' => ?_) (AllReadyH.nil)))
    · go_simp
      refine (rtext_any I.r3 (bs.length : Int) (by omega) (by omega)).mono ?_
      rw [HT3.out]
      dsimp only
      rintro e v1 ⟨tt, tc, rfl, ow, hk, R, o⟩
      refine hK'.out _ _ (I.go3 o R).off (fun hS => ?_)
      exact hout.out _ _ _ _ (J412.out _ (by kernel_rfl) _ (I.go3 o R) _ (N1.go HAP.out.lt.2.2.2 o) _ (N2.go HAP.out.lt.2.2.2 o) _ _ ow (fun k hk1 => Nat.le_trans I.off.size (hk k hk1)))
    · go_simp
      refine hK'.out _ _ (I.free ((Off.refl _ v).alloc _)).off (fun hS => ?_)
      exact hout.out _ _ _ _ (J3012.out _ (by kernel_rfl) _ (I.free ((Off.refl _ v).alloc _)) _ ⟨Cel.new v _ _, I.off.size⟩ _ (N1.free ((Off.refl _ v).alloc _)) _ (N2.free ((Off.refl _ v).alloc _)))
    · go_simp
      refine hK'.out _ _ (I.free ((Off.refl _ v).alloc _)).off (fun hS => ?_)
      exact hout.out _ _ _ _ (J3123.out _ (by kernel_rfl) _ (I.free ((Off.refl _ v).alloc _)) _ (N1.free ((Off.refl _ v).alloc _)) _ (N2.free ((Off.refl _ v).alloc _)) _ ⟨Cel.new v _ _, I.off.size⟩)
  have J313 : Hid (∀ (L : Array Bool) (hL : L = #[true, true, true, true, true, true, true, true, true, false, false, true, false, true, false, false, false, false]) (v : World) (I : Inv V v D0 D1 D2 D3 b0 b1 b2 b3 t0 t1 t2 (bs, 0)) (q6 : Nat) (N1 : New V v q6 2 (.int .i64 0)) (q8 : Nat) (N3 : New V v q8 26 (.slice none 0 0)), F 7 L ⟨#[.slice tad bs.length cap, .pointer (some ⟨q0, 0, none⟩), .bool false, .pointer (some ⟨b0, 0, none⟩), .pointer (some ⟨b1, 0, none⟩), .pointer (some ⟨b2, 0, none⟩), .pointer (some ⟨b3, 0, none⟩), undef, .pointer (some ⟨q6, 0, none⟩), undef, .pointer (some ⟨q8, 0, none⟩), undef, .slice tad bs.length cap, .pointer (some ⟨b0, 0, none⟩), .slice tad bs.length cap, .pointer (some ⟨b1, 0, none⟩), .slice tad bs.length cap, .pointer (some ⟨b2, 0, none⟩), .slice tad bs.length cap, .pointer (some ⟨b3, 0, none⟩), .pointer (some ⟨b0, 0, none⟩), .int .u64 (n : Int), .pointer (some ⟨b1, 0, none⟩), .int .i64 i, .pointer (some ⟨b2, 0, none⟩), .bool g, .pointer (some ⟨b3, 0, none⟩), .slice tad bs.length cap, .int .i64 (bs.length : Int), undef, undef, undef, undef, undef, undef, undef, undef, undef, undef, undef, undef, undef, undef, undef, undef, undef, undef, undef, undef, undef, undef, undef, undef, undef, undef, undef], []⟩ v) := by
    intro L hL v I q6 N1 q8 N3
    subst hL
    clear J40123 J4012 J4013 J4023 J4123 J401 J402 J403 J412 J423 J40 J41 J42 J43 J4 J30123 J3012 J3023 J301 J302 J303 J312
    refine hin.out _ _ _ _ ?_
    refine wpAnyH_ready (rs := [9, 10, 12]) (by kernel_rfl) (by simp) ?_
    refine AllReadyH.cons rfl (fun K' hK' => ?_) (AllReadyH.cons rfl (fun K' hK' => ?_) (AllReadyH.cons rfl (fun K' hK' => ?_) (AllReadyH.nil)))
    · go_simp
      refine (rtext_any I.r3 (bs.length : Int) (by omega) (by omega)).mono ?_
      rw [HT3.out]
      dsimp only
      rintro e v1 ⟨tt, tc, rfl, ow, hk, R, o⟩
      refine hK'.out _ _ (I.go3 o R).off (fun hS => ?_)
      exact hout.out _ _ _ _ (J413.out _ (by kernel_rfl) _ (I.go3 o R) _ (N1.go HAP.out.lt.2.2.2 o) _ (N3.go HAP.out.lt.2.2.2 o) _ _ ow (fun k hk1 => Nat.le_trans I.off.size (hk k hk1)))
    · go_simp
      refine hK'.out _ _ (I.free ((Off.refl _ v).alloc _)).off (fun hS => ?_)
      exact hout.out _ _ _ _ (J3013.out _ (by kernel_rfl) _ (I.free ((Off.refl _ v).alloc _)) _ ⟨Cel.new v _ _, I.off.size⟩ _ (N1.free ((Off.refl _ v).alloc _)) _ (N3.free ((Off.refl _ v).alloc _)))
    · go_simp
      refine hK'.out _ _ (I.free ((Off.refl _ v).alloc _)).off (fun hS => ?_)
      exact hout.out _ _ _ _ (J3123.out _ (by kernel_rfl) _ (I.free ((Off.refl _ v).alloc _)) _ (N1.free ((Off.refl _ v).alloc _)) _ ⟨Cel.new v _ _, I.off.size⟩ _ (N3.free ((Off.refl _ v).alloc _)))
  have J323 : Hid (∀ (L : Array Bool) (hL : L = #[true, true, true, true, true, true, true, true, true, false, false, false, true, true, false, false, false, false]) (v : World) (I : Inv V v D0 D1 D2 D3 b0 b1 b2 b3 t0 t1 t2 (bs, 0)) (q7 : Nat) (N2 : New V v q7 4 (.bool false)) (q8 : Nat) (N3 : New V v q8 26 (.slice none 0 0)), F 7 L ⟨#[.slice tad bs.length cap, .pointer (some ⟨q0, 0, none⟩), .bool false, .pointer (some ⟨b0, 0, none⟩), .pointer (some ⟨b1, 0, none⟩), .pointer (some ⟨b2, 0, none⟩), .pointer (some ⟨b3, 0, none⟩), undef, undef, .pointer (some ⟨q7, 0, none⟩), .pointer (some ⟨q8, 0, none⟩), undef, .slice tad bs.length cap, .pointer (some ⟨b0, 0, none⟩), .slice tad bs.length cap, .pointer (some ⟨b1, 0, none⟩), .slice tad bs.length cap, .pointer (some ⟨b2, 0, none⟩), .slice tad bs.length cap, .pointer (some ⟨b3, 0, none⟩), .pointer (some ⟨b0, 0, none⟩), .int .u64 (n : Int), .pointer (some ⟨b1, 0, none⟩), .int .i64 i, .pointer (some ⟨b2, 0, none⟩), .bool g, .pointer (some ⟨b3, 0, none⟩), .slice tad bs.length cap, .int .i64 (bs.length : Int), undef, undef, undef, undef, undef, undef, undef, undef, undef, undef, undef, undef, undef, undef, undef, undef, undef, undef, undef, undef, undef, undef, undef, undef, undef, undef, undef], []⟩ v) := by
    intro L hL v I q7 N2 q8 N3
    subst hL
    clear J40123 J4012 J4013 J4023 J4123 J401 J402 J403 J412 J413 J40 J41 J42 J43 J4 J30123 J3012 J3013 J301 J302 J303 J312 J313
    refine hin.out _ _ _ _ ?_
    refine wpAnyH_ready (rs := [9, 10, 11]) (by kernel_rfl) (by simp) ?_
    refine AllReadyH.cons rfl (fun K' hK' => ?_) (AllReadyH.cons rfl (fun K' hK' => ?_) (AllReadyH.cons rfl (fun K' hK' => ?_) (AllReadyH.nil)))
    · go_simp
      refine (rtext_any I.r3 (bs.length : Int) (by omega) (by omega)).mono ?_
      rw [HT3.out]
      dsimp only
      rintro e v1 ⟨tt, tc, rfl, ow, hk, R, o⟩
      refine hK'.out _ _ (I.go3 o R).off (fun hS => ?_)
      exact hout.out _ _ _ _ (J423.out _ (by kernel_rfl) _ (I.go3 o R) _ (N2.go HAP.out.lt.2.2.2 o) _ (N3.go HAP.out.lt.2.2.2 o) _ _ ow (fun k hk1 => Nat.le_trans I.off.size (hk k hk1)))
    · go_simp
      refine hK'.out _ _ (I.free ((Off.refl _ v).alloc _)).off (fun hS => ?_)
      exact hout.out _ _ _ _ (J3023.out _ (by kernel_rfl) _ (I.free ((Off.refl _ v).alloc _)) _ ⟨Cel.new v _ _, I.off.size⟩ _ (N2.free ((Off.refl _ v).alloc _)) _ (N3.free ((Off.refl _ v).alloc _)))
    · go_simp
      refine hK'.out _ _ (I.free ((Off.refl _ v).alloc _)).off (fun hS => ?_)
      exact hout.out _ _ _ _ (J3123.out _ (by kernel_rfl) _ (I.free ((Off.refl _ v).alloc _)) _ ⟨Cel.new v _ _, I.off.size⟩ _ (N2.free ((Off.refl _ v).alloc _)) _ (N3.free ((Off.refl _ v).alloc _)))
  have J30 : Hid (∀ (L : Array Bool) (hL : L = #[true, true, true, true, true, true, true, true, true, false, true, false, false, false, false, false, false, false]) (v : World) (I : Inv V v D0 D1 D2 D3 b0 b1 b2 b3 t0 t1 t2 (bs, 0)) (q5 : Nat) (N0 : New V v q5 30 (.int .u64 0)), F 8 L ⟨#[.slice tad bs.length cap, .pointer (some ⟨q0, 0, none⟩), .bool false, .pointer (some ⟨b0, 0, none⟩), .pointer (some ⟨b1, 0, none⟩), .pointer (some ⟨b2, 0, none⟩), .pointer (some ⟨b3, 0, none⟩), .pointer (some ⟨q5, 0, none⟩), undef, undef, undef, undef, .slice tad bs.length cap, .pointer (some ⟨b0, 0, none⟩), .slice tad bs.length cap, .pointer (some ⟨b1, 0, none⟩), .slice tad bs.length cap, .pointer (some ⟨b2, 0, none⟩), .slice tad bs.length cap, .pointer (some ⟨b3, 0, none⟩), .pointer (some ⟨b0, 0, none⟩), .int .u64 (n : Int), .pointer (some ⟨b1, 0, none⟩), .int .i64 i, .pointer (some ⟨b2, 0, none⟩), .bool g, .pointer (some ⟨b3, 0, none⟩), .slice tad bs.length cap, .int .i64 (bs.length : Int), undef, undef, undef, undef, undef, undef, undef, undef, undef, undef, undef, undef, undef, undef, undef, undef, undef, undef, undef, undef, undef, undef, undef, undef, undef, undef, undef], []⟩ v) := by
    intro L hL v I q5 N0
    subst hL
    clear J40123 J4012 J4013 J4023 J4123 J401 J402 J403 J412 J413 J423 J41 J42 J43 J4 J30123 J3012 J3013 J3023 J3123 J312 J313 J323
    refine hin.out _ _ _ _ ?_
    refine wpAnyH_ready (rs := [9, 11, 12, 13]) (by kernel_rfl) (by simp) ?_
    refine AllReadyH.cons rfl (fun K' hK' => ?_) (AllReadyH.cons rfl (fun K' hK' => ?_) (AllReadyH.cons rfl (fun K' hK' => ?_) (AllReadyH.cons rfl (fun K' hK' => ?_) (AllReadyH.nil))))
    · go_simp
      refine (rtext_any I.r3 (bs.length : Int) (by omega) (by omega)).mono ?_
      rw [HT3.out]
      dsimp only
      rintro e v1 ⟨tt, tc, rfl, ow, hk, R, o⟩
      refine hK'.out _ _ (I.go3 o R).off (fun hS => ?_)
      exact hout.out _ _ _ _ (J40.out _ (by kernel_rfl) _ (I.go3 o R) _ (N0.go HAP.out.lt.2.2.2 o) _ _ ow (fun k hk1 => Nat.le_trans I.off.size (hk k hk1)))
    · go_simp
      refine hK'.out _ _ (I.free ((Off.refl _ v).alloc _)).off (fun hS => ?_)
      exact hout.out _ _ _ _ (J301.out _ (by kernel_rfl) _ (I.free ((Off.refl _ v).alloc _)) _ (N0.free ((Off.refl _ v).alloc _)) _ ⟨Cel.new v _ _, I.off.size⟩)
    · go_simp
      refine hK'.out _ _ (I.free ((Off.refl _ v).alloc _)).off (fun hS => ?_)
      exact hout.out _ _ _ _ (J302.out _ (by kernel_rfl) _ (I.free ((Off.refl _ v).alloc _)) _ (N0.free ((Off.refl _ v).alloc _)) _ ⟨Cel.new v _ _, I.off.size⟩)
    · go_simp
      refine hK'.out _ _ (I.free ((Off.refl _ v).alloc _)).off (fun hS => ?_)
      exact hout.out _ _ _ _ (J303.out _ (by kernel_rfl) _ (I.free ((Off.refl _ v).alloc _)) _ (N0.free ((Off.refl _ v).alloc _)) _ ⟨Cel.new v _ _, I.off.size⟩)
  have J31 : Hid (∀ (L : Array Bool) (hL : L = #[true, true, true, true, true, true, true, true, true, false, false, true, false, false, false, false, false, false]) (v : World) (I : Inv V v D0 D1 D2 D3 b0 b1 b2 b3 t0 t1 t2 (bs, 0)) (q6 : Nat) (N1 : New V v q6 2 (.int .i64 0)), F 8 L ⟨#[.slice tad bs.length cap, .pointer (some ⟨q0, 0, none⟩), .bool false, .pointer (some ⟨b0, 0, none⟩), .pointer (some ⟨b1, 0, none⟩), .pointer (some ⟨b2, 0, none⟩), .pointer (some ⟨b3, 0, none⟩), undef, .pointer (some ⟨q6, 0, none⟩), undef, undef, undef, .slice tad bs.length cap, .pointer (some ⟨b0, 0, none⟩), .slice tad bs.length cap, .pointer (some ⟨b1, 0, none⟩), .slice tad bs.length cap, .pointer (some ⟨b2, 0, none⟩), .slice tad bs.length cap, .pointer (some ⟨b3, 0, none⟩), .pointer (some ⟨b0, 0, none⟩), .int .u64 (n : Int), .pointer (some ⟨b1, 0, none⟩), .int .i64 i, .pointer (some ⟨b2, 0, none⟩), .bool g, .pointer (some ⟨b3, 0, none⟩), .slice tad bs.length cap, .int .i64 (bs.length : Int), undef, undef, undef, undef, undef, undef, undef, undef, undef, undef, undef, undef, undef, undef, undef, undef, undef, undef, undef, undef, undef, undef, undef, undef, undef, undef, undef], []⟩ v) := by
    intro L hL v I q6 N1
    subst hL
    clear J40123 J4012 J4013 J4023 J4123 J401 J402 J403 J412 J413 J423 J40 J42 J43 J4 J30123 J3012 J3013 J3023 J3123 J302 J303 J323 J30
    refine hin.out _ _ _ _ ?_
    refine wpAnyH_ready (rs := [9, 10, 12, 13]) (by kernel_rfl) (by simp) ?_
    refine AllReadyH.cons rfl (fun K' hK' => ?_) (AllReadyH.cons rfl (fun K' hK' => ?_) (AllReadyH.cons rfl (fun K' hK' => ?_) (AllReadyH.cons rfl (fun K' hK' => ?_) (AllReadyH.nil))))
    · go_simp
      refine (rtext_any I.r3 (bs.length : Int) (by omega) (by omega)).mono ?_
      rw [HT3.out]
      dsimp only
      rintro e v1 ⟨tt, tc, rfl, ow, hk, R, o⟩
      refine hK'.out _ _ (I.go3 o R).off (fun hS => ?_)
      exact hout.out _ _ _ _ (J41.out _ (by kernel_rfl) _ (I.go3 o R) _ (N1.go HAP.out.lt.2.2.2 o) _ _ ow (fun k hk1 => Nat.le_trans I.off.size (hk k hk1)))
    · go_simp
      refine hK'.out _ _ (I.free ((Off.refl _ v).alloc _)).off (fun hS => ?_)
      exact hout.out _ _ _ _ (J301.out _ (by kernel_rfl) _ (I.free ((Off.refl _ v).alloc _)) _ ⟨Cel.new v _ _, I.off.size⟩ _ (N1.free ((Off.refl _ v).alloc _)))
    · go_simp
      refine hK'.out _ _ (I.free ((Off.refl _ v).alloc _)).off (fun hS => ?_)
      exact hout.out _ _ _ _ (J312.out _ (by kernel_rfl) _ (I.free ((Off.refl _ v).alloc _)) _ (N1.free ((Off.refl _ v).alloc _)) _ ⟨Cel.new v _ _, I.off.size⟩)
    · go_simp
      refine hK'.out _ _ (I.free ((Off.refl _ v).alloc _)).off (fun hS => ?_)
      exact hout.out _ _ _ _ (J313.out _ (by kernel_rfl) _ (I.free ((Off.refl _ v).alloc _)) _ (N1.free ((Off.refl _ v).alloc _)) _ ⟨Cel.new v _ _, I.off.size⟩)
  have J32 : Hid (∀ (L : Array Bool) (hL : L = #[true, true, true, true, true, true, true, true, true, false, false, false, true, false, false, false, false, false]) (v : World) (I : Inv V v D0 D1 D2 D3 b0 b1 b2 b3 t0 t1 t2 (bs, 0)) (q7 : Nat) (N2 : New V v q7 4 (.bool false)), F 8 L ⟨#[.slice tad bs.length cap, .pointer (some ⟨q0, 0, none⟩), .bool false, .pointer (some ⟨b0, 0, none⟩), .pointer (some ⟨b1, 0, none⟩), .pointer (some ⟨b2, 0, none⟩), .pointer (some ⟨b3, 0, none⟩), undef, undef, .pointer (some ⟨q7, 0, none⟩), undef, undef, .slice tad bs.length cap, .pointer (some ⟨b0, 0, none⟩), .slice tad bs.length cap, .pointer (some ⟨b1, 0, none⟩), .slice tad bs.length cap, .pointer (some ⟨b2, 0, none⟩), .slice tad bs.length cap, .pointer (some ⟨b3, 0, none⟩), .pointer (some ⟨b0, 0, none⟩), .int .u64 (n : Int), .pointer (some ⟨b1, 0, none⟩), .int .i64 i, .pointer (some ⟨b2, 0, none⟩), .bool g, .pointer (some ⟨b3, 0, none⟩), .slice tad bs.length cap, .int .i64 (bs.length : Int), undef, undef, undef, undef, undef, undef, undef, undef, undef, undef, undef, undef, undef, undef, undef, undef, undef, undef, undef, undef, undef, undef, undef, undef, undef, undef, undef], []⟩ v) := by
    intro L hL v I q7 N2
    subst hL
    clear J40123 J4012 J4013 J4023 J4123 J401 J402 J403 J412 J413 J423 J40 J41 J43 J4 J30123 J3012 J3013 J3023 J3123 J301 J303 J313 J30 J31
    refine hin.out _ _ _ _ ?_
    refine wpAnyH_ready (rs := [9, 10, 11, 13]) (by kernel_rfl) (by simp) ?_
    refine AllReadyH.cons rfl (fun K' hK' => ?_) (AllReadyH.cons rfl (fun K' hK' => ?_) (AllReadyH.cons rfl (fun K' hK' => ?_) (AllReadyH.cons rfl (fun K' hK' => ?_) (AllReadyH.nil))))
    · go_simp
      refine (rtext_any I.r3 (bs.length : Int) (by omega) (by omega)).mono ?_
      rw [HT3.out]
      dsimp only
      rintro e v1 ⟨tt, tc, rfl, ow, hk, R, o⟩
      refine hK'.out _ _ (I.go3 o R).off (fun hS => ?_)
      exact hout.out _ _ _ _ (J42.out _ (by kernel_rfl) _ (I.go3 o R) _ (N2.go HAP.out.lt.2.2.2 o) _ _ ow (fun k hk1 => Nat.le_trans I.off.size (hk k hk1)))
    · go_simp
      refine hK'.out _ _ (I.free ((Off.refl _ v).alloc _)).off (fun hS => ?_)
      exact hout.out _ _ _ _ (J302.out _ (by kernel_rfl) _ (I.free ((Off.refl _ v).alloc _)) _ ⟨Cel.new v _ _, I.off.size⟩ _ (N2.free ((Off.refl _ v).alloc _)))
    · go_simp
      refine hK'.out _ _ (I.free ((Off.refl _ v).alloc _)).off (fun hS => ?_)
      exact hout.out _ _ _ _ (J312.out _ (by kernel_rfl) _ (I.free ((Off.refl _ v).alloc _)) _ ⟨Cel.new v _ _, I.off.size⟩ _ (N2.free ((Off.refl _ v).alloc _)))
    · go_simp
      refine hK'.out _ _ (I.free ((Off.refl _ v).alloc _)).off (fun hS => ?_)
      exact hout.out _ _ _ _ (J323.out _ (by kernel_rfl) _ (I.free ((Off.refl _ v).alloc _)) _ (N2.free ((Off.refl _ v).alloc _)) _ ⟨Cel.new v _ _, I.off.size⟩)
  have J33 : Hid (∀ (L : Array Bool) (hL : L = #[true, true, true, true, true, true, true, true, true, false, false, false, false, true, false, false, false, false]) (v : World) (I : Inv V v D0 D1 D2 D3 b0 b1 b2 b3 t0 t1 t2 (bs, 0)) (q8 : Nat) (N3 : New V v q8 26 (.slice none 0 0)), F 8 L ⟨#[.slice tad bs.length cap, .pointer (some ⟨q0, 0, none⟩), .bool false, .pointer (some ⟨b0, 0, none⟩), .pointer (some ⟨b1, 0, none⟩), .pointer (some ⟨b2, 0, none⟩), .pointer (some ⟨b3, 0, none⟩), undef, undef, undef, .pointer (some ⟨q8, 0, none⟩), undef, .slice tad bs.length cap, .pointer (some ⟨b0, 0, none⟩), .slice tad bs.length cap, .pointer (some ⟨b1, 0, none⟩), .slice tad bs.length cap, .pointer (some ⟨b2, 0, none⟩), .slice tad bs.length cap, .pointer (some ⟨b3, 0, none⟩), .pointer (some ⟨b0, 0, none⟩), .int .u64 (n : Int), .pointer (some ⟨b1, 0, none⟩), .int .i64 i, .pointer (some ⟨b2, 0, none⟩), .bool g, .pointer (some ⟨b3, 0, none⟩), .slice tad bs.length cap, .int .i64 (bs.length : Int), undef, undef, undef, undef, undef, undef, undef, undef, undef, undef, undef, undef, undef, undef, undef, undef, undef, undef, undef, undef, undef, undef, undef, undef, undef, undef, undef], []⟩ v) := by
    intro L hL v I q8 N3
    subst hL
    clear J40123 J4012 J4013 J4023 J4123 J401 J402 J403 J412 J413 J423 J40 J41 J42 J4 J30123 J3012 J3013 J3023 J3123 J301 J302 J312 J30 J31 J32
    refine hin.out _ _ _ _ ?_
    refine wpAnyH_ready (rs := [9, 10, 11, 12]) (by kernel_rfl) (by simp) ?_
    refine AllReadyH.cons rfl (fun K' hK' => ?_) (AllReadyH.cons rfl (fun K' hK' => ?_) (AllReadyH.cons rfl (fun K' hK' => ?_) (AllReadyH.cons rfl (fun K' hK' => ?_) (AllReadyH.nil))))
    · go_simp
      refine (rtext_any I.r3 (bs.length : Int) (by omega) (by omega)).mono ?_
      rw [HT3.out]
      dsimp only
      rintro e v1 ⟨tt, tc, rfl, ow, hk, R, o⟩
      refine hK'.out _ _ (I.go3 o R).off (fun hS => ?_)
      exact hout.out _ _ _ _ (J43.out _ (by kernel_rfl) _ (I.go3 o R) _ (N3.go HAP.out.lt.2.2.2 o) _ _ ow (fun k hk1 => Nat.le_trans I.off.size (hk k hk1)))
    · go_simp
      refine hK'.out _ _ (I.free ((Off.refl _ v).alloc _)).off (fun hS => ?_)
      exact hout.out _ _ _ _ (J303.out _ (by kernel_rfl) _ (I.free ((Off.refl _ v).alloc _)) _ ⟨Cel.new v _ _, I.off.size⟩ _ (N3.free ((Off.refl _ v).alloc _)))
    · go_simp
      refine hK'.out _ _ (I.free ((Off.refl _ v).alloc _)).off (fun hS => ?_)
      exact hout.out _ _ _ _ (J313.out _ (by kernel_rfl) _ (I.free ((Off.refl _ v).alloc _)) _ ⟨Cel.new v _ _, I.off.size⟩ _ (N3.free ((Off.refl _ v).alloc _)))
    · go_simp
      refine hK'.out _ _ (I.free ((Off.refl _ v).alloc _)).off (fun hS => ?_)
      exact hout.out _ _ _ _ (J323.out _ (by kernel_rfl) _ (I.free ((Off.refl _ v).alloc _)) _ ⟨Cel.new v _ _, I.off.size⟩ _ (N3.free ((Off.refl _ v).alloc _)))
  have J3 : Hid (∀ (L : Array Bool) (hL : L = #[true, true, true, true, true, true, true, true, true, false, false, false, false, false, false, false, false, false]) (v : World) (I : Inv V v D0 D1 D2 D3 b0 b1 b2 b3 t0 t1 t2 (bs, 0)), F 9 L ⟨#[.slice tad bs.length cap, .pointer (some ⟨q0, 0, none⟩), .bool false, .pointer (some ⟨b0, 0, none⟩), .pointer (some ⟨b1, 0, none⟩), .pointer (some ⟨b2, 0, none⟩), .pointer (some ⟨b3, 0, none⟩), undef, undef, undef, undef, undef, .slice tad bs.length cap, .pointer (some ⟨b0, 0, none⟩), .slice tad bs.length cap, .pointer (some ⟨b1, 0, none⟩), .slice tad bs.length cap, .pointer (some ⟨b2, 0, none⟩), .slice tad bs.length cap, .pointer (some ⟨b3, 0, none⟩), .pointer (some ⟨b0, 0, none⟩), .int .u64 (n : Int), .pointer (some ⟨b1, 0, none⟩), .int .i64 i, .pointer (some ⟨b2, 0, none⟩), .bool g, .pointer (some ⟨b3, 0, none⟩), .slice tad bs.length cap, .int .i64 (bs.length : Int), undef, undef, undef, undef, undef, undef, undef, undef, undef, undef, undef, undef, undef, undef, undef, undef, undef, undef, undef, undef, undef, undef, undef, undef, undef, undef, undef], []⟩ v) := by
    intro L hL v I
    subst hL
    clear J40123 J4012 J4013 J4023 J4123 J401 J402 J403 J412 J413 J423 J40 J41 J42 J43 J30123 J3012 J3013 J3023 J3123 J301 J302 J303 J312 J313 J323
    refine hin.out _ _ _ _ ?_
    refine wpAnyH_ready (rs := [9, 10, 11, 12, 13]) (by kernel_rfl) (by simp) ?_
    refine AllReadyH.cons rfl (fun K' hK' => ?_) (AllReadyH.cons rfl (fun K' hK' => ?_) (AllReadyH.cons rfl (fun K' hK' => ?_) (AllReadyH.cons rfl (fun K' hK' => ?_) (AllReadyH.cons rfl (fun K' hK' => ?_) (AllReadyH.nil)))))
    · go_simp
      refine (rtext_any I.r3 (bs.length : Int) (by omega) (by omega)).mono ?_
      rw [HT3.out]
      dsimp only
      rintro e v1 ⟨tt, tc, rfl, ow, hk, R, o⟩
      refine hK'.out _ _ (I.go3 o R).off (fun hS => ?_)
      exact hout.out _ _ _ _ (J4.out _ (by kernel_rfl) _ (I.go3 o R) _ _ ow (fun k hk1 => Nat.le_trans I.off.size (hk k hk1)))
    · go_simp
      refine hK'.out _ _ (I.free ((Off.refl _ v).alloc _)).off (fun hS => ?_)
      exact hout.out _ _ _ _ (J30.out _ (by kernel_rfl) _ (I.free ((Off.refl _ v).alloc _)) _ ⟨Cel.new v _ _, I.off.size⟩)
    · go_simp
      refine hK'.out _ _ (I.free ((Off.refl _ v).alloc _)).off (fun hS => ?_)
      exact hout.out _ _ _ _ (J31.out _ (by kernel_rfl) _ (I.free ((Off.refl _ v).alloc _)) _ ⟨Cel.new v _ _, I.off.size⟩)
    · go_simp
      refine hK'.out _ _ (I.free ((Off.refl _ v).alloc _)).off (fun hS => ?_)
      exact hout.out _ _ _ _ (J32.out _ (by kernel_rfl) _ (I.free ((Off.refl _ v).alloc _)) _ ⟨Cel.new v _ _, I.off.size⟩)
    · go_simp
      refine hK'.out _ _ (I.free ((Off.refl _ v).alloc _)).off (fun hS => ?_)
      exact hout.out _ _ _ _ (J33.out _ (by kernel_rfl) _ (I.free ((Off.refl _ v).alloc _)) _ ⟨Cel.new v _ _, I.off.size⟩)
  clear J40123 J4012 J4013 J4023 J4123 J401 J402 J403 J412 J413 J423 J40 J41 J42 J43 J4
  have J20123 : Hid (∀ (L : Array Bool) (hL : L = #[true, true, true, true, true, false, true, true, true, false, true, true, true, true, false, false, false, false]) (v : World) (I : Inv V v D0 D1 D2 D3 b0 b1 b2 b3 t0 t1 (bs, 0) (bs, 0)) (q5 : Nat) (N0 : New V v q5 30 (.int .u64 0)) (q6 : Nat) (N1 : New V v q6 2 (.int .i64 0)) (q7 : Nat) (N2 : New V v q7 4 (.bool false)) (q8 : Nat) (N3 : New V v q8 26 (.slice none 0 0)), F 6 L ⟨#[.slice tad bs.length cap, .pointer (some ⟨q0, 0, none⟩), .bool false, .pointer (some ⟨b0, 0, none⟩), .pointer (some ⟨b1, 0, none⟩), .pointer (some ⟨b2, 0, none⟩), .pointer (some ⟨b3, 0, none⟩), .pointer (some ⟨q5, 0, none⟩), .pointer (some ⟨q6, 0, none⟩), .pointer (some ⟨q7, 0, none⟩), .pointer (some ⟨q8, 0, none⟩), undef, .slice tad bs.length cap, .pointer (some ⟨b0, 0, none⟩), .slice tad bs.length cap, .pointer (some ⟨b1, 0, none⟩), .slice tad bs.length cap, .pointer (some ⟨b2, 0, none⟩), .slice tad bs.length cap, .pointer (some ⟨b3, 0, none⟩), .pointer (some ⟨b0, 0, none⟩), .int .u64 (n : Int), .pointer (some ⟨b1, 0, none⟩), .int .i64 i, .pointer (some ⟨b2, 0, none⟩), undef, .pointer (some ⟨b3, 0, none⟩), .slice tad bs.length cap, .int .i64 (bs.length : Int), undef, undef, undef, undef, undef, undef, undef, undef, undef, undef, undef, undef, undef, undef, undef, undef, undef, undef, undef, undef, undef, undef, undef, undef, undef, undef, undef], []⟩ v) := by
    intro L hL v I q5 N0 q6 N1 q7 N2 q8 N3
    subst hL
    clear J3012 J3013 J3023 J3123 J301 J302 J303 J312 J313 J323 J30 J31 J32 J33 J3
    refine hin.out _ _ _ _ ?_
    refine wpAnyH_ready (rs := [5]) (by kernel_rfl) (by simp) ?_
    refine AllReadyH.cons rfl (fun K' hK' => ?_) (AllReadyH.nil)
    · go_simp
      refine (rflag_any I.r2).mono ?_
      rw [HT2.out]
      dsimp only
      rintro e v1 ⟨rfl, R, o⟩
      refine hK'.out _ _ (I.go2 o R).off (fun hS => ?_)
      exact hout.out _ _ _ _ (J30123.out _ (by kernel_rfl) _ (I.go2 o R) _ (N0.go HAP.out.lt.2.2.1 o) _ (N1.go HAP.out.lt.2.2.1 o) _ (N2.go HAP.out.lt.2.2.1 o) _ (N3.go HAP.out.lt.2.2.1 o))
  have J2012 : Hid (∀ (L : Array Bool) (hL : L = #[true, true, true, true, true, false, true, true, true, false, true, true, true, false, false, false, false, false]) (v : World) (I : Inv V v D0 D1 D2 D3 b0 b1 b2 b3 t0 t1 (bs, 0) (bs, 0)) (q5 : Nat) (N0 : New V v q5 30 (.int .u64 0)) (q6 : Nat) (N1 : New V v q6 2 (.int .i64 0)) (q7 : Nat) (N2 : New V v q7 4 (.bool false)), F 7 L ⟨#[.slice tad bs.length cap, .pointer (some ⟨q0, 0, none⟩), .bool false, .pointer (some ⟨b0, 0, none⟩), .pointer (some ⟨b1, 0, none⟩), .pointer (some ⟨b2, 0, none⟩), .pointer (some ⟨b3, 0, none⟩), .pointer (some ⟨q5, 0, none⟩), .pointer (some ⟨q6, 0, none⟩), .pointer (some ⟨q7, 0, none⟩), undef, undef, .slice tad bs.length cap, .pointer (some ⟨b0, 0, none⟩), .slice tad bs.length cap, .pointer (some ⟨b1, 0, none⟩), .slice tad bs.length cap, .pointer (some ⟨b2, 0, none⟩), .slice tad bs.length cap, .pointer (some ⟨b3, 0, none⟩), .pointer (some ⟨b0, 0, none⟩), .int .u64 (n : Int), .pointer (some ⟨b1, 0, none⟩), .int .i64 i, .pointer (some ⟨b2, 0, none⟩), undef, .pointer (some ⟨b3, 0, none⟩), .slice tad bs.length cap, .int .i64 (bs.length : Int), undef, undef, undef, undef, undef, undef, undef, undef, undef, undef, undef, undef, undef, undef, undef, undef, undef, undef, undef, undef, undef, undef, undef, undef, undef, undef, undef], []⟩ v) := by
    intro L hL v I q5 N0 q6 N1 q7 N2
    subst hL
    clear J30123 J3013 J3023 J3123 J301 J302 J303 J312 J313 J323 J30 J31 J32 J33 J3
    refine hin.out _ _ _ _ ?_
    refine wpAnyH_ready (rs := [5, 13]) (by kernel_rfl) (by simp) ?_
    refine AllReadyH.cons rfl (fun K' hK' => ?_) (AllReadyH.cons rfl (fun K' hK' => ?_) (AllReadyH.nil))
    · go_simp
      refine (rflag_any I.r2).mono ?_
      rw [HT2.out]
      dsimp only
      rintro e v1 ⟨rfl, R, o⟩
      refine hK'.out _ _ (I.go2 o R).off (fun hS => ?_)
      exact hout.out _ _ _ _ (J3012.out _ (by kernel_rfl) _ (I.go2 o R) _ (N0.go HAP.out.lt.2.2.1 o) _ (N1.go HAP.out.lt.2.2.1 o) _ (N2.go HAP.out.lt.2.2.1 o))
    · go_simp
      refine hK'.out _ _ (I.free ((Off.refl _ v).alloc _)).off (fun hS => ?_)
      exact hout.out _ _ _ _ (J20123.out _ (by kernel_rfl) _ (I.free ((Off.refl _ v).alloc _)) _ (N0.free ((Off.refl _ v).alloc _)) _ (N1.free ((Off.refl _ v).alloc _)) _ (N2.free ((Off.refl _ v).alloc _)) _ ⟨Cel.new v _ _, I.off.size⟩)
  have J2013 : Hid (∀ (L : Array Bool) (hL : L = #[true, true, true, true, true, false, true, true, true, false, true, true, false, true, false, false, false, false]) (v : World) (I : Inv V v D0 D1 D2 D3 b0 b1 b2 b3 t0 t1 (bs, 0) (bs, 0)) (q5 : Nat) (N0 : New V v q5 30 (.int .u64 0)) (q6 : Nat) (N1 : New V v q6 2 (.int .i64 0)) (q8 : Nat) (N3 : New V v q8 26 (.slice none 0 0)), F 7 L ⟨#[.slice tad bs.length cap, .pointer (some ⟨q0, 0, none⟩), .bool false, .pointer (some ⟨b0, 0, none⟩), .pointer (some ⟨b1, 0, none⟩), .pointer (some ⟨b2, 0, none⟩), .pointer (some ⟨b3, 0, none⟩), .pointer (some ⟨q5, 0, none⟩), .pointer (some ⟨q6, 0, none⟩), undef, .pointer (some ⟨q8, 0, none⟩), undef, .slice tad bs.length cap, .pointer (some ⟨b0, 0, none⟩), .slice tad bs.length cap, .pointer (some ⟨b1, 0, none⟩), .slice tad bs.length cap, .pointer (some ⟨b2, 0, none⟩), .slice tad bs.length cap, .pointer (some ⟨b3, 0, none⟩), .pointer (some ⟨b0, 0, none⟩), .int .u64 (n : Int), .pointer (some ⟨b1, 0, none⟩), .int .i64 i, .pointer (some ⟨b2, 0, none⟩), undef, .pointer (some ⟨b3, 0, none⟩), .slice tad bs.length cap, .int .i64 (bs.length : Int), undef, undef, undef, undef, undef, undef, undef, undef, undef, undef, undef, undef, undef, undef, undef, undef, undef, undef, undef, undef, undef, undef, undef, undef, undef, undef, undef], []⟩ v) := by
    intro L hL v I q5 N0 q6 N1 q8 N3
    subst hL
    clear J30123 J3012 J3023 J3123 J301 J302 J303 J312 J313 J323 J30 J31 J32 J33 J3 J2012
    refine hin.out _ _ _ _ ?_
    refine wpAnyH_ready (rs := [5, 12]) (by kernel_rfl) (by simp) ?_
    refine AllReadyH.cons rfl (fun K' hK' => ?_) (AllReadyH.cons rfl (fun K' hK' => ?_) (AllReadyH.nil))
    · go_simp
      refine (rflag_any I.r2).mono ?_
      rw [HT2.out]
      dsimp only
      rintro e v1 ⟨rfl, R, o⟩
      refine hK'.out _ _ (I.go2 o R).off (fun hS => ?_)
      exact hout.out _ _ _ _ (J3013.out _ (by kernel_rfl) _ (I.go2 o R) _ (N0.go HAP.out.lt.2.2.1 o) _ (N1.go HAP.out.lt.2.2.1 o) _ (N3.go HAP.out.lt.2.2.1 o))
    · go_simp
      refine hK'.out _ _ (I.free ((Off.refl _ v).alloc _)).off (fun hS => ?_)
      exact hout.out _ _ _ _ (J20123.out _ (by kernel_rfl) _ (I.free ((Off.refl _ v).alloc _)) _ (N0.free ((Off.refl _ v).alloc _)) _ (N1.free ((Off.refl _ v).alloc _)) _ ⟨Cel.new v _ _, I.off.size⟩ _ (N3.free ((Off.refl _ v).alloc _)))
  have J2023 : Hid (∀ (L : Array Bool) (hL : L = #[true, true, true, true, true, false, true, true, true, false, true, false, true, true, false, false, false, false]) (v : World) (I : Inv V v D0 D1 D2 D3 b0 b1 b2 b3 t0 t1 (bs, 0) (bs, 0)) (q5 : Nat) (N0 : New V v q5 30 (.int .u64 0)) (q7 : Nat) (N2 : New V v q7 4 (.bool false)) (q8 : Nat) (N3 : New V v q8 26 (.slice none 0 0)), F 7 L ⟨#[.slice tad bs.length cap, .pointer (some ⟨q0, 0, none⟩), .bool false, .pointer (some ⟨b0, 0, none⟩), .pointer (some ⟨b1, 0, none⟩), .pointer (some ⟨b2, 0, none⟩), .pointer (some ⟨b3, 0, none⟩), .pointer (some ⟨q5, 0, none⟩), undef, .pointer (some ⟨q7, 0, none⟩), .pointer (some ⟨q8, 0, none⟩), undef, .slice tad bs.length cap, .pointer (some ⟨b0, 0, none⟩), .slice tad bs.length cap, .pointer (some ⟨b1, 0, none⟩), .slice tad bs.length cap, .pointer (some ⟨b2, 0, none⟩), .slice tad bs.length cap, .pointer (some ⟨b3, 0, none⟩), .pointer (some ⟨b0, 0, none⟩), .int .u64 (n : Int), .pointer (some ⟨b1, 0, none⟩), .int .i64 i, .pointer (some ⟨b2, 0, none⟩), undef, .pointer (some ⟨b3, 0, none⟩), .slice tad bs.length cap, .int .i64 (bs.length : Int), undef, undef, undef, undef, undef, undef, undef, undef, undef, undef, undef, undef, undef, undef, undef, undef, undef, undef, undef, undef, undef, undef, undef, undef, undef, undef, undef], []⟩ v) := by
    intro L hL v I q5 N0 q7 N2 q8 N3
    subst hL
    clear J30123 J3012 J3013 J3123 J301 J302 J303 J312 J313 J323 J30 J31 J32 J33 J3 J2012 J2013
    refine hin.out _ _ _ _ ?_
    refine wpAnyH_ready (rs := [5, 11]) (by kernel_rfl) (by simp) ?_
    refine AllReadyH.cons rfl (fun K' hK' => ?_) (AllReadyH.cons rfl (fun K' hK' => ?_) (AllReadyH.nil))
    · go_simp
      refine (rflag_any I.r2).mono ?_
      rw [HT2.out]
      dsimp only
      rintro e v1 ⟨rfl, R, o⟩
      refine hK'.out _ _ (I.go2 o R).off (fun hS => ?_)
      exact hout.out _ _ _ _ (J3023.out _ (by kernel_rfl) _ (I.go2 o R) _ (N0.go HAP.out.lt.2.2.1 o) _ (N2.go HAP.out.lt.2.2.1 o) _ (N3.go HAP.out.lt.2.2.1 o))
    · go_simp
      refine hK'.out _ _ (I.free ((Off.refl _ v).alloc _)).off (fun hS => ?_)
      exact hout.out _ _ _ _ (J20123.out _ (by kernel_rfl) _ (I.free ((Off.refl _ v).alloc _)) _ (N0.free ((Off.refl _ v).alloc _)) _ ⟨Cel.new v _ _, I.off.size⟩ _ (N2.free ((Off.refl _ v).alloc _)) _ (N3.free ((Off.refl _ v).alloc _)))
  have J2123 : Hid (∀ (L : Array Bool) (hL : L = #[true, true, true, true, true, false, true, true, true, false, false, true, true, true, false, false, false, false]) (v : World) (I : Inv V v D0 D1 D2 D3 b0 b1 b2 b3 t0 t1 (bs, 0) (bs, 0)) (q6 : Nat) (N1 : New V v q6 2 (.int .i64 0)) (q7 : Nat) (N2 : New V v q7 4 (.bool false)) (q8 : Nat) (N3 : New V v q8 26 (.slice none 0 0)), F 7 L ⟨#[.slice tad bs.length cap, .pointer (some ⟨q0, 0, none⟩), .bool false, .pointer (some ⟨b0, 0, none⟩), .pointer (some ⟨b1, 0, none⟩), .pointer (some ⟨b2, 0, none⟩), .pointer (some ⟨b3, 0, none⟩), undef, .pointer (some ⟨q6, 0, none⟩), .pointer (some ⟨q7, 0, none⟩), .pointer (some ⟨q8, 0, none⟩), undef, .slice tad bs.length cap, .pointer (some ⟨b0, 0, none⟩), .slice tad bs.length cap, .pointer (some ⟨b1, 0, none⟩), .slice tad bs.length cap, .pointer (some ⟨b2, 0, none⟩), .slice tad bs.length cap, .pointer (some ⟨b3, 0, none⟩), .pointer (some ⟨b0, 0, none⟩), .int .u64 (n : Int), .pointer (some ⟨b1, 0, none⟩), .int .i64 i, .pointer (some ⟨b2, 0, none⟩), undef, .pointer (some ⟨b3, 0, none⟩), .slice tad bs.length cap, .int .i64 (bs.length : Int), undef, undef, undef, undef, undef, undef, undef, undef, undef, undef, undef, undef, undef, undef, undef, undef, undef, undef, undef, undef, undef, undef, undef, undef, undef, undef, undef], []⟩ v) := by
    intro L hL v I q6 N1 q7 N2 q8 N3
    subst hL
    clear J30123 J3012 J3013 J3023 J301 J302 J303 J312 J313 J323 J30 J31 J32 J33 J3 J2012 J2013 J2023
    refine hin.out _ _ _ _ ?_
    refine wpAnyH_ready (rs := [5, 10]) (by kernel_rfl) (by simp) ?_
    refine AllReadyH.cons rfl (fun K' hK' => ?_) (AllReadyH.cons rfl (fun K' hK' => ?_) (AllReadyH.nil))
    · go_simp
      refine (rflag_any I.r2).mono ?_
      rw [HT2.out]
      dsimp only
      rintro e v1 ⟨rfl, R, o⟩
      refine hK'.out _ _ (I.go2 o R).off (fun hS => ?_)
      exact hout.out _ _ _ _ (J3123.out _ (by kernel_rfl) _ (I.go2 o R) _ (N1.go HAP.out.lt.2.2.1 o) _ (N2.go HAP.out.lt.2.2.1 o) _ (N3.go HAP.out.lt.2.2.1 o))
    · go_simp
      refine hK'.out _ _ (I.free ((Off.refl _ v).alloc _)).off (fun hS => ?_)
      exact hout.out _ _ _ _ (J20123.out _ (by kernel_rfl) _ (I.free ((Off.refl _ v).alloc _)) _ ⟨Cel.new v _ _, I.off.size⟩ _ (N1.free ((Off.refl _ v).alloc _)) _ (N2.free ((Off.refl _ v).alloc _)) _ (N3.free ((Off.refl _ v).alloc _)))
  have J201 : Hid (∀ (L : Array Bool) (hL : L = #[true, true, true, true, true, false, true, true, true, false, true, true, false, false, false, false, false, false]) (v : World) (I : Inv V v D0 D1 D2 D3 b0 b1 b2 b3 t0 t1 (bs, 0) (bs, 0)) (q5 : Nat) (N0 : New V v q5 30 (.int .u64 0)) (q6 : Nat) (N1 : New V v q6 2 (.int .i64 0)), F 8 L ⟨#[.slice tad bs.length cap, .pointer (some ⟨q0, 0, none⟩), .bool false, .pointer (some ⟨b0, 0, none⟩), .pointer (some ⟨b1, 0, none⟩), .pointer (some ⟨b2, 0, none⟩), .pointer (some ⟨b3, 0, none⟩), .pointer (some ⟨q5, 0, none⟩), .pointer (some ⟨q6, 0, none⟩), undef, undef, undef, .slice tad bs.length cap, .pointer (some ⟨b0, 0, none⟩), .slice tad bs.length cap, .pointer (some ⟨b1, 0, none⟩), .slice tad bs.length cap, .pointer (some ⟨b2, 0, none⟩), .slice tad bs.length cap, .pointer (some ⟨b3, 0, none⟩), .pointer (some ⟨b0, 0, none⟩), .int .u64 (n : Int), .pointer (some ⟨b1, 0, none⟩), .int .i64 i, .pointer (some ⟨b2, 0, none⟩), undef, .pointer (some ⟨b3, 0, none⟩), .slice tad bs.length cap, .int .i64 (bs.length : Int), undef, undef, undef, undef, undef, undef, undef, undef, undef, undef, undef, undef, undef, undef, undef, undef, undef, undef, undef, undef, undef, undef, undef, undef, undef, undef, undef], []⟩ v) := by
    intro L hL v I q5 N0 q6 N1
    subst hL
    clear J30123 J3012 J3013 J3023 J3123 J302 J303 J312 J313 J323 J30 J31 J32 J33 J3 J20123 J2023 J2123
    refine hin.out _ _ _ _ ?_
    refine wpAnyH_ready (rs := [5, 12, 13]) (by kernel_rfl) (by simp) ?_
    refine AllReadyH.cons rfl (fun K' hK' => ?_) (AllReadyH.cons rfl (fun K' hK' => ?_) (AllReadyH.cons rfl (fun K' hK' => ?_) (AllReadyH.nil)))
    · go_simp
      refine (rflag_any I.r2).mono ?_
      rw [HT2.out]
      dsimp only
      rintro e v1 ⟨rfl, R, o⟩
      refine hK'.out _ _ (I.go2 o R).off (fun hS => ?_)
      exact hout.out _ _ _ _ (J301.out _ (by kernel_rfl) _ (I.go2 o R) _ (N0.go HAP.out.lt.2.2.1 o) _ (N1.go HAP.out.lt.2.2.1 o))
    · go_simp
      refine hK'.out _ _ (I.free ((Off.refl _ v).alloc _)).off (fun hS => ?_)
      exact hout.out _ _ _ _ (J2012.out _ (by kernel_rfl) _ (I.free ((Off.refl _ v).alloc _)) _ (N0.free ((Off.refl _ v).alloc _)) _ (N1.free ((Off.refl _ v).alloc _)) _ ⟨Cel.new v _ _, I.off.size⟩)
    · go_simp
      refine hK'.out _ _ (I.free ((Off.refl _ v).alloc _)).off (fun hS => ?_)
      exact hout.out _ _ _ _ (J2013.out _ (by kernel_rfl) _ (I.free ((Off.refl _ v).alloc _)) _ (N0.free ((Off.refl _ v).alloc _)) _ (N1.free ((Off.refl _ v).alloc _)) _ ⟨Cel.new v _ _, I.off.size⟩)
  have J202 : Hid (∀ (L : Array Bool) (hL : L = #[true, true, true, true, true, false, true, true, true, false, true, false, true, false, false, false, false, false]) (v : World) (I : Inv V v D0 D1 D2 D3 b0 b1 b2 b3 t0 t1 (bs, 0) (bs, 0)) (q5 : Nat) (N0 : New V v q5 30 (.int .u64 0)) (q7 : Nat) (N2 : New V v q7 4 (.bool false)), F 8 L ⟨#[.slice tad bs.length cap, .pointer (some ⟨q0, 0, none⟩), .bool false, .pointer (some ⟨b0, 0, none⟩), .pointer (some ⟨b1, 0, none⟩), .pointer (some ⟨b2, 0, none⟩), .pointer (some ⟨b3, 0, none⟩), .pointer (some ⟨q5, 0, none⟩), undef, .pointer (some ⟨q7, 0, none⟩), undef, undef, .slice tad bs.length cap, .pointer (some ⟨b0, 0, none⟩), .slice tad bs.length cap, .pointer (some ⟨b1, 0, none⟩), .slice tad bs.length cap, .pointer (some ⟨b2, 0, none⟩), .slice tad bs.length cap, .pointer (some ⟨b3, 0, none⟩), .pointer (some ⟨b0, 0, none⟩), .int .u64 (n : Int), .pointer (some ⟨b1, 0, none⟩), .int .i64 i, .pointer (some ⟨b2, 0, none⟩), undef, .pointer (some ⟨b3, 0, none⟩), .slice tad bs.length cap, .int .i64 (bs.length : Int), undef, undef, undef, undef, undef, undef, undef, undef, undef, undef, undef, undef, undef, undef, undef, undef, undef, undef, undef, undef, undef, undef, undef, undef, undef, undef, undef], []⟩ v) := by
    intro L hL v I q5 N0 q7 N2
    subst hL
    clear J30123 J3012 J3013 J3023 J3123 J301 J303 J312 J313 J323 J30 J31 J32 J33 J3 J20123 J2013 J2123 J201
    refine hin.out _ _ _ _ ?_
    refine wpAnyH_ready (rs := [5, 11, 13]) (by kernel_rfl) (by simp) ?_
    refine AllReadyH.cons rfl (fun K' hK' => ?_) (AllReadyH.cons rfl (fun K' hK' => ?_) (AllReadyH.cons rfl (fun K' hK' => ?_) (AllReadyH.nil)))
    · go_simp
      refine (rflag_any I.r2).mono ?_
      rw [HT2.out]
      dsimp only
      rintro e v1 ⟨rfl, R, o⟩
      refine hK'.out _ _ (I.go2 o R).off (fun hS => ?_)
      exact hout.out _ _ _ _ (J302.out _ (by kernel_rfl) _ (I.go2 o R) _ (N0.go HAP.out.lt.2.2.1 o) _ (N2.go HAP.out.lt.2.2.1 o))
    · go_simp
      refine hK'.out _ _ (I.free ((Off.refl _ v).alloc _)).off (fun hS => ?_)
      exact hout.out _ _ _ _ (J2012.out _ (by kernel_rfl) _ (I.free ((Off.refl _ v).alloc _)) _ (N0.free ((Off.refl _ v).alloc _)) _ ⟨Cel.new v _ _, I.off.size⟩ _ (N2.free ((Off.refl _ v).alloc _)))
    · go_simp
      refine hK'.out _ _ (I.free ((Off.refl _ v).alloc _)).off (fun hS => ?_)
      exact hout.out _ _ _ _ (J2023.out _ (by kernel_rfl) _ (I.free ((Off.refl _ v).alloc _)) _ (N0.free ((Off.refl _ v).alloc _)) _ (N2.free ((Off.refl _ v).alloc _)) _ ⟨Cel.new v _ _, I.off.size⟩)
  have J203 : Hid (∀ (L : Array Bool) (hL : L = #[true, true, true, true, true, false, true, true, true, false, true, false, false, true, false, false, false, false]) (v : World) (I : Inv V v D0 D1 D2 D3 b0 b1 b2 b3 t0 t1 (bs, 0) (bs, 0)) (q5 : Nat) (N0 : New V v q5 30 (.int .u64 0)) (q8 : Nat) (N3 : New V v q8 26 (.slice none 0 0)), F 8 L ⟨#[.slice tad bs.length cap, .pointer (some ⟨q0, 0, none⟩), .bool false, .pointer (some ⟨b0, 0, none⟩), .pointer (some ⟨b1, 0, none⟩), .pointer (some ⟨b2, 0, none⟩), .pointer (some ⟨b3, 0, none⟩), .pointer (some ⟨q5, 0, none⟩), undef, undef, .pointer (some ⟨q8, 0, none⟩), undef, .slice tad bs.length cap, .pointer (some ⟨b0, 0, none⟩), .slice tad bs.length cap, .pointer (some ⟨b1, 0, none⟩), .slice tad bs.length cap, .pointer (some ⟨b2, 0, none⟩), .slice tad bs.length cap, .pointer (some ⟨b3, 0, none⟩), .pointer (some ⟨b0, 0, none⟩), .int .u64 (n : Int), .pointer (some ⟨b1, 0, none⟩), .int .i64 i, .pointer (some ⟨b2, 0, none⟩), undef, .pointer (some ⟨b3, 0, none⟩), .slice tad bs.length cap, .int .i64 (bs.length : Int), undef, undef, undef, undef, undef, undef, undef, undef, undef, undef, undef, undef, undef, undef, undef, undef, undef, undef, undef, undef, undef, undef, undef, undef, undef, undef, undef], []⟩ v) := by
    intro L hL v I q5 N0 q8 N3
    subst hL
    clear J30123 J3012 J3013 J3023 J3123 J301 J302 J312 J313 J323 J30 J31 J32 J33 J3 J20123 J2012 J2123 J201 J202
    refine hin.out _ _ _ _ ?_
    refine wpAnyH_ready (rs := [5, 11, 12]) (by kernel_rfl) (by simp) ?_
    refine AllReadyH.cons rfl (fun K' hK' => ?_) (AllReadyH.cons rfl (fun K' hK' => ?_) (AllReadyH.cons rfl (fun K' hK' => ?_) (AllReadyH.nil)))
    · go_simp
      refine (rflag_any I.r2).mono ?_
      rw [HT2.out]
      dsimp only
      rintro e v1 ⟨rfl, R, o⟩
      refine hK'.out _ _ (I.go2 o R).off (fun hS => ?_)
      exact hout.out _ _ _ _ (J303.out _ (by kernel_rfl) _ (I.go2 o R) _ (N0.go HAP.out.lt.2.2.1 o) _ (N3.go HAP.out.lt.2.2.1 o))
    · go_simp
      refine hK'.out _ _ (I.free ((Off.refl _ v).alloc _)).off (fun hS => ?_)
      exact hout.out _ _ _ _ (J2013.out _ (by kernel_rfl) _ (I.free ((Off.refl _ v).alloc _)) _ (N0.free ((Off.refl _ v).alloc _)) _ ⟨Cel.new v _ _, I.off.size⟩ _ (N3.free ((Off.refl _ v).alloc _)))
    · go_simp
      refine hK'.out _ _ (I.free ((Off.refl _ v).alloc _)).off (fun hS => ?_)
      exact hout.out _ _ _ _ (J2023.out _ (by kernel_rfl) _ (I.free ((Off.refl _ v).alloc _)) _ (N0.free ((Off.refl _ v).alloc _)) _ ⟨Cel.new v _ _, I.off.size⟩ _ (N3.free ((Off.refl _ v).alloc _)))
  have J212 : Hid (∀ (L : Array Bool) (hL : L = #[true, true, true, true, true, false, true, true, true, false, false, true, true, false, false, false, false, false]) (v : World) (I : Inv V v D0 D1 D2 D3 b0 b1 b2 b3 t0 t1 (bs, 0) (bs, 0)) (q6 : Nat) (N1 : New V v q6 2 (.int .i64 0)) (q7 : Nat) (N2 : New V v q7 4 (.bool false)), F 8 L ⟨#[.slice tad bs.length cap, .pointer (some ⟨q0, 0, none⟩), .bool false, .pointer (some ⟨b0, 0, none⟩), .pointer (some ⟨b1, 0, none⟩), .pointer (some ⟨b2, 0, none⟩), .pointer (some ⟨b3, 0, none⟩), undef, .pointer (some ⟨q6, 0, none⟩), .pointer (some ⟨q7, 0, none⟩), undef, undef, .slice tad bs.length cap, .pointer (some ⟨b0, 0, none⟩), .slice tad bs.length cap, .pointer (some ⟨b1, 0, none⟩), .slice tad bs.length cap, .pointer (some ⟨b2, 0, none⟩), .slice tad bs.length cap, .pointer (some ⟨b3, 0, none⟩), .pointer (some ⟨b0, 0, none⟩), .int .u64 (n : Int), .pointer (some ⟨b1, 0, none⟩), .int .i64 i, .pointer (some ⟨b2, 0, none⟩), undef, .pointer (some ⟨b3, 0, none⟩), .slice tad bs.length cap, .int .i64 (bs.length : Int), undef, undef, undef, undef, undef, undef, undef, undef, undef, undef, undef, undef, undef, undef, undef, undef, undef, undef, undef, undef, undef, undef, undef, undef, undef, undef, undef], []⟩ v) := by
    intro L hL v I q6 N1 q7 N2
    subst hL
    clear J30123 J3012 J3013 J3023 J3123 J301 J302 J303 J313 J323 J30 J31 J32 J33 J3 J20123 J2013 J2023 J201 J202 J203
    refine hin.out _ _ _ _ ?_
    refine wpAnyH_ready (rs := [5, 10, 13]) (by kernel_rfl) (by simp) ?_
    refine AllReadyH.cons rfl (fun K' hK' => ?_) (AllReadyH.cons rfl (fun K' hK' => ?_) (AllReadyH.cons rfl (fun K' hK' => ?_) (AllReadyH.nil)))
    · go_simp
      refine (rflag_any I.r2).mono ?_
      rw [HT2.out]
      dsimp only
      rintro e v1 ⟨rfl, R, o⟩
      refine hK'.out _ _ (I.go2 o R).off (fun hS => ?_)
      exact hout.out _ _ _ _ (J312.out _ (by kernel_rfl) _ (I.go2 o R) _ (N1.go HAP.out.lt.2.2.1 o) _ (N2.go HAP.out.lt.2.2.1 o))
    · go_simp
      refine hK'.out _ _ (I.free ((Off.refl _ v).alloc _)).off (fun hS => ?_)
      exact hout.out _ _ _ _ (J2012.out _ (by kernel_rfl) _ (I.free ((Off.refl _ v).alloc _)) _ ⟨Cel.new v _ _, I.off.size⟩ _ (N1.free ((Off.refl _ v).alloc _)) _ (N2.free ((Off.refl _ v).alloc _)))
    · go_simp
      refine hK'.out _ _ (I.free ((Off.refl _ v).alloc _)).off (fun hS => ?_)
      exact hout.out _ _ _ _ (J2123.out _ (by kernel_rfl) _ (I.free ((Off.refl _ v).alloc _)) _ (N1.free ((Off.refl _ v).alloc _)) _ (N2.free ((Off.refl _ v).alloc _)) _ ⟨Cel.new v _ _, I.off.size⟩)
  have J213 : Hid (∀ (L : Array Bool) (hL : L = #[true, true, true, true, true, false, true, true, true, false, false, true, false, true, false, false, false, false]) (v : World) (I : Inv V v D0 D1 D2 D3 b0 b1 b2 b3 t0 t1 (bs, 0) (bs, 0)) (q6 : Nat) (N1 : New V v q6 2 (.int .i64 0)) (q8 : Nat) (N3 : New V v q8 26 (.slice none 0 0)), F 8 L ⟨#[.slice tad bs.length cap, .pointer (some ⟨q0, 0, none⟩), .bool false, .pointer (some ⟨b0, 0, none⟩), .pointer (some ⟨b1, 0, none⟩), .pointer (some ⟨b2, 0, none⟩), .pointer (some ⟨b3, 0, none⟩), undef, .pointer (some ⟨q6, 0, none⟩), undef, .pointer (some ⟨q8, 0, none⟩), undef, .slice tad bs.length cap, .pointer (some ⟨b0, 0, none⟩), .slice tad bs.length cap, .pointer (some ⟨b1, 0, none⟩), .slice tad bs.length cap, .pointer (some ⟨b2, 0, none⟩), .slice tad bs.length cap, .pointer (some ⟨b3, 0, none⟩), .pointer (some ⟨b0, 0, none⟩), .int .u64 (n : Int), .pointer (some ⟨b1, 0, none⟩), .int .i64 i, .pointer (some ⟨b2, 0, none⟩), undef, .pointer (some ⟨b3, 0, none⟩), .slice tad bs.length cap, .int .i64 (bs.length : Int), undef, undef, undef, undef, undef, undef, undef, undef, undef, undef, undef, undef, undef, undef, undef, undef, undef, undef, undef, undef, undef, undef, undef, undef, undef, undef, undef], []⟩ v) := by
    intro L hL v I q6 N1 q8 N3
    subst hL
    clear J30123 J3012 J3013 J3023 J3123 J301 J302 J303 J312 J323 J30 J31 J32 J33 J3 J20123 J2012 J2023 J201 J202 J203 J212
    refine hin.out _ _ _ _ ?_
    refine wpAnyH_ready (rs := [5, 10, 12]) (by kernel_rfl) (by simp) ?_
    refine AllReadyH.cons rfl (fun K' hK' => ?_) (AllReadyH.cons rfl (fun K' hK' => ?_) (AllReadyH.cons rfl (fun K' hK' => ?_) (AllReadyH.nil)))
    · go_simp
      refine (rflag_any I.r2).mono ?_
      rw [HT2.out]
      dsimp only
      rintro e v1 ⟨rfl, R, o⟩
      refine hK'.out _ _ (I.go2 o R).off (fun hS => ?_)
      exact hout.out _ _ _ _ (J313.out _ (by kernel_rfl) _ (I.go2 o R) _ (N1.go HAP.out.lt.2.2.1 o) _ (N3.go HAP.out.lt.2.2.1 o))
    · go_simp
      refine hK'.out _ _ (I.free ((Off.refl _ v).alloc _)).off (fun hS => ?_)
      exact hout.out _ _ _ _ (J2013.out _ (by kernel_rfl) _ (I.free ((Off.refl _ v).alloc _)) _ ⟨Cel.new v _ _, I.off.size⟩ _ (N1.free ((Off.refl _ v).alloc _)) _ (N3.free ((Off.refl _ v).alloc _)))
    · go_simp
      refine hK'.out _ _ (I.free ((Off.refl _ v).alloc _)).off (fun hS => ?_)
      exact hout.out _ _ _ _ (J2123.out _ (by kernel_rfl) _ (I.free ((Off.refl _ v).alloc _)) _ (N1.free ((Off.refl _ v).alloc _)) _ ⟨Cel.new v _ _, I.off.size⟩ _ (N3.free ((Off.refl _ v).alloc _)))
  have J223 : Hid (∀ (L : Array Bool) (hL : L = #[true, true, true, true, true, false, true, true, true, false, false, false, true, true, false, false, false, false]) (v : World) (I : Inv V v D0 D1 D2 D3 b0 b1 b2 b3 t0 t1 (bs, 0) (bs, 0)) (q7 : Nat) (N2 : New V v q7 4 (.bool false)) (q8 : Nat) (N3 : New V v q8 26 (.slice none 0 0)), F 8 L ⟨#[.slice tad bs.length cap, .pointer (some ⟨q0, 0, none⟩), .bool false, .pointer (some ⟨b0, 0, none⟩), .pointer (some ⟨b1, 0, none⟩), .pointer (some ⟨b2, 0, none⟩), .pointer (some ⟨b3, 0, none⟩), undef, undef, .pointer (some ⟨q7, 0, none⟩), .pointer (some ⟨q8, 0, none⟩), undef, .slice tad bs.length cap, .pointer (some ⟨b0, 0, none⟩), .slice tad bs.length cap, .pointer (some ⟨b1, 0, none⟩), .slice tad bs.length cap, .pointer (some ⟨b2, 0, none⟩), .slice tad bs.length cap, .pointer (some ⟨b3, 0, none⟩), .pointer (some ⟨b0, 0, none⟩), .int .u64 (n : Int), .pointer (some ⟨b1, 0, none⟩), .int .i64 i, .pointer (some ⟨b2, 0, none⟩), undef, .pointer (some ⟨b3, 0, none⟩), .slice tad bs.length cap, .int .i64 (bs.length : Int), undef, undef, undef, undef, undef, undef, undef, undef, undef, undef, undef, undef, undef, undef, undef, undef, undef, undef, undef, undef, undef, undef, undef, undef, undef, undef, undef], []⟩ v) := by
    intro L hL v I q7 N2 q8 N3
    subst hL
    clear J30123 J3012 J3013 J3023 J3123 J301 J302 J303 J312 J313 J30 J31 J32 J33 J3 J20123 J2012 J2013 J201 J202 J203 J212 J213
    refine hin.out _ _ _ _ ?_
    refine wpAnyH_ready (rs := [5, 10, 11]) (by kernel_rfl) (by simp) ?_
    refine AllReadyH.cons rfl (fun K' hK' => ?_) (AllReadyH.cons rfl (fun K' hK' => ?_) (AllReadyH.cons rfl (fun K' hK' => ?_) (AllReadyH.nil)))
    · go_simp
      refine (rflag_any I.r2).mono ?_
      rw [HT2.out]
      dsimp only
      rintro e v1 ⟨rfl, R, o⟩
      refine hK'.out _ _ (I.go2 o R).off (fun hS => ?_)
      exact hout.out _ _ _ _ (J323.out _ (by kernel_rfl) _ (I.go2 o R) _ (N2.go HAP.out.lt.2.2.1 o) _ (N3.go HAP.out.lt.2.2.1 o))
    · go_simp
      refine hK'.out _ _ (I.free ((Off.refl _ v).alloc _)).off (fun hS => ?_)
      exact hout.out _ _ _ _ (J2023.out _ (by kernel_rfl) _ (I.free ((Off.refl _ v).alloc _)) _ ⟨Cel.new v _ _, I.off.size⟩ _ (N2.free ((Off.refl _ v).alloc _)) _ (N3.free ((Off.refl _ v).alloc _)))
    · go_simp
      refine hK'.out _ _ (I.free ((Off.refl _ v).alloc _)).off (fun hS => ?_)
      exact hout.out _ _ _ _ (J2123.out _ (by kernel_rfl) _ (I.free ((Off.refl _ v).alloc _)) _ ⟨Cel.new v _ _, I.off.size⟩ _ (N2.free ((Off.refl _ v).alloc _)) _ (N3.free ((Off.refl _ v).alloc _)))
  have J20 : Hid (∀ (L : Array Bool) (hL : L = #[true, true, true, true, true, false, true, true, true, false, true, false, false, false, false, false, false, false]) (v : World) (I : Inv V v D0 D1 D2 D3 b0 b1 b2 b3 t0 t1 (bs, 0) (bs, 0)) (q5 : Nat) (N0 : New V v q5 30 (.int .u64 0)), F 9 L ⟨#[.slice tad bs.length cap, .pointer (some ⟨q0, 0, none⟩), .bool false, .pointer (some ⟨b0, 0, none⟩), .pointer (some ⟨b1, 0, none⟩), .pointer (some ⟨b2, 0, none⟩), .pointer (some ⟨b3, 0, none⟩), .pointer (some ⟨q5, 0, none⟩), undef, undef, undef, undef, .slice tad bs.length cap, .pointer (some ⟨b0, 0, none⟩), .slice tad bs.length cap, .pointer (some ⟨b1, 0, none⟩), .slice tad bs.length cap, .pointer (some ⟨b2, 0, none⟩), .slice tad bs.length cap, .pointer (some ⟨b3, 0, none⟩), .pointer (some ⟨b0, 0, none⟩), .int .u64 (n : Int), .pointer (some ⟨b1, 0, none⟩), .int .i64 i, .pointer (some ⟨b2, 0, none⟩), undef, .pointer (some ⟨b3, 0, none⟩), .slice tad bs.length cap, .int .i64 (bs.length : Int), undef, undef, undef, undef, undef, undef, undef, undef, undef, undef, undef, undef, undef, undef, undef, undef, undef, undef, undef, undef, undef, undef, undef, undef, undef, undef, undef], []⟩ v) := by
    intro L hL v I q5 N0
    subst hL
    clear J30123 J3012 J3013 J3023 J3123 J301 J302 J303 J312 J313 J323 J31 J32 J33 J3 J20123 J2012 J2013 J2023 J2123 J212 J213 J223
    refine hin.out _ _ _ _ ?_
    refine wpAnyH_ready (rs := [5, 11, 12, 13]) (by kernel_rfl) (by simp) ?_
    refine AllReadyH.cons rfl (fun K' hK' => ?_) (AllReadyH.cons rfl (fun K' hK' => ?_) (AllReadyH.cons rfl (fun K' hK' => ?_) (AllReadyH.cons rfl (fun K' hK' => ?_) (AllReadyH.nil))))
    · go_simp
      refine (rflag_any I.r2).mono ?_
      rw [HT2.out]
      dsimp only
      rintro e v1 ⟨rfl, R, o⟩
      refine hK'.out _ _ (I.go2 o R).off (fun hS => ?_)
      exact hout.out _ _ _ _ (J30.out _ (by kernel_rfl) _ (I.go2 o R) _ (N0.go HAP.out.lt.2.2.1 o))
    · go_simp
      refine hK'.out _ _ (I.free ((Off.refl _ v).alloc _)).off (fun hS => ?_)
      exact hout.out _ _ _ _ (J201.out _ (by kernel_rfl) _ (I.free ((Off.refl _ v).alloc _)) _ (N0.free ((Off.refl _ v).alloc _)) _ ⟨Cel.new v _ _, I.off.size⟩)
    · go_simp
      refine hK'.out _ _ (I.free ((Off.refl _ v).alloc _)).off (fun hS => ?_)
      exact hout.out _ _ _ _ (J202.out _ (by kernel_rfl) _ (I.free ((Off.refl _ v).alloc _)) _ (N0.free ((Off.refl _ v).alloc _)) _ ⟨Cel.new v _ _, I.off.size⟩)
    · go_simp
      refine hK'.out _ _ (I.free ((Off.refl _ v).alloc _)).off (fun hS => ?_)
      exact hout.out _ _ _ _ (J203.out _ (by kernel_rfl) _ (I.free ((Off.refl _ v).alloc _)) _ (N0.free ((Off.refl _ v).alloc _)) _ ⟨Cel.new v _ _, I.off.size⟩)
  have J21 : Hid (∀ (L : Array Bool) (hL : L = #[true, true, true, true, true, false, true, true, true, false, false, true, false, false, false, false, false, false]) (v : World) (I : Inv V v D0 D1 D2 D3 b0 b1 b2 b3 t0 t1 (bs, 0) (bs, 0)) (q6 : Nat) (N1 : New V v q6 2 (.int .i64 0)), F 9 L ⟨#[.slice tad bs.length cap, .pointer (some ⟨q0, 0, none⟩), .bool false, .pointer (some ⟨b0, 0, none⟩), .pointer (some ⟨b1, 0, none⟩), .pointer (some ⟨b2, 0, none⟩), .pointer (some ⟨b3, 0, none⟩), undef, .pointer (some ⟨q6, 0, none⟩), undef, undef, undef, .slice tad bs.length cap, .pointer (some ⟨b0, 0, none⟩), .slice tad bs.length cap, .pointer (some ⟨b1, 0, none⟩), .slice tad bs.length cap, .pointer (some ⟨b2, 0, none⟩), .slice tad bs.length cap, .pointer (some ⟨b3, 0, none⟩), .pointer (some ⟨b0, 0, none⟩), .int .u64 (n : Int), .pointer (some ⟨b1, 0, none⟩), .int .i64 i, .pointer (some ⟨b2, 0, none⟩), undef, .pointer (some ⟨b3, 0, none⟩), .slice tad bs.length cap, .int .i64 (bs.length : Int), undef, undef, undef, undef, undef, undef, undef, undef, undef, undef, undef, undef, undef, undef, undef, undef, undef, undef, undef, undef, undef, undef, undef, undef, undef, undef, undef], []⟩ v) := by
    intro L hL v I q6 N1
    subst hL
    clear J30123 J3012 J3013 J3023 J3123 J301 J302 J303 J312 J313 J323 J30 J32 J33 J3 J20123 J2012 J2013 J2023 J2123 J202 J203 J223 J20
    refine hin.out _ _ _ _ ?_
    refine wpAnyH_ready (rs := [5, 10, 12, 13]) (by kernel_rfl) (by simp) ?_
    refine AllReadyH.cons rfl (fun K' hK' => ?_) (AllReadyH.cons rfl (fun K' hK' => ?_) (AllReadyH.cons rfl (fun K' hK' => ?_) (AllReadyH.cons rfl (fun K' hK' => ?_) (AllReadyH.nil))))
    · go_simp
      refine (rflag_any I.r2).mono ?_
      rw [HT2.out]
      dsimp only
      rintro e v1 ⟨rfl, R, o⟩
      refine hK'.out _ _ (I.go2 o R).off (fun hS => ?_)
      exact hout.out _ _ _ _ (J31.out _ (by kernel_rfl) _ (I.go2 o R) _ (N1.go HAP.out.lt.2.2.1 o))
    · go_simp
      refine hK'.out _ _ (I.free ((Off.refl _ v).alloc _)).off (fun hS => ?_)
      exact hout.out _ _ _ _ (J201.out _ (by kernel_rfl) _ (I.free ((Off.refl _ v).alloc _)) _ ⟨Cel.new v _ _, I.off.size⟩ _ (N1.free ((Off.refl _ v).alloc _)))
    · go_simp
      refine hK'.out _ _ (I.free ((Off.refl _ v).alloc _)).off (fun hS => ?_)
      exact hout.out _ _ _ _ (J212.out _ (by kernel_rfl) _ (I.free ((Off.refl _ v).alloc _)) _ (N1.free ((Off.refl _ v).alloc _)) _ ⟨Cel.new v _ _, I.off.size⟩)
    · go_simp
      refine hK'.out _ _ (I.free ((Off.refl _ v).alloc _)).off (fun hS => ?_)
      exact hout.out _ _ _ _ (J213.out _ (by kernel_rfl) _ (I.free ((Off.refl _ v).alloc _)) _ (N1.free ((Off.refl _ v).alloc _)) _ ⟨Cel.new v _ _, I.off.size⟩)
  have J22 : Hid (∀ (L : Array Bool) (hL : L = #[true, true, true, true, true, false, true, true, true, false, false, false, true, false, false, false, false, false]) (v : World) (I : Inv V v D0 D1 D2 D3 b0 b1 b2 b3 t0 t1 (bs, 0) (bs, 0)) (q7 : Nat) (N2 : New V v q7 4 (.bool false)), F 9 L ⟨#[.slice tad bs.length cap, .pointer (some ⟨q0, 0, none⟩), .bool false, .pointer (some ⟨b0, 0, none⟩), .pointer (some ⟨b1, 0, none⟩), .pointer (some ⟨b2, 0, none⟩), .pointer (some ⟨b3, 0, none⟩), undef, undef, .pointer (some ⟨q7, 0, none⟩), undef, undef, .slice tad bs.length cap, .pointer (some ⟨b0, 0, none⟩), .slice tad bs.length cap, .pointer (some ⟨b1, 0, none⟩), .slice tad bs.length cap, .pointer (some ⟨b2, 0, none⟩), .slice tad bs.length cap, .pointer (some ⟨b3, 0, none⟩), .pointer (some ⟨b0, 0, none⟩), .int .u64 (n : Int), .pointer (some ⟨b1, 0, none⟩), .int .i64 i, .pointer (some ⟨b2, 0, none⟩), undef, .pointer (some ⟨b3, 0, none⟩), .slice tad bs.length cap, .int .i64 (bs.length : Int), undef, undef, undef, undef, undef, undef, undef, undef, undef, undef, undef, undef, undef, undef, undef, undef, undef, undef, undef, undef, undef, undef, undef, undef, undef, undef, undef], []⟩ v) := by
    intro L hL v I q7 N2
    subst hL
    clear J30123 J3012 J3013 J3023 J3123 J301 J302 J303 J312 J313 J323 J30 J31 J33 J3 J20123 J2012 J2013 J2023 J2123 J201 J203 J213 J20 J21
    refine hin.out _ _ _ _ ?_
    refine wpAnyH_ready (rs := [5, 10, 11, 13]) (by kernel_rfl) (by simp) ?_
    refine AllReadyH.cons rfl (fun K' hK' => ?_) (AllReadyH.cons rfl (fun K' hK' => ?_) (AllReadyH.cons rfl (fun K' hK' => ?_) (AllReadyH.cons rfl (fun K' hK' => ?_) (AllReadyH.nil))))
    · go_simp
      refine (rflag_any I.r2).mono ?_
      rw [HT2.out]
      dsimp only
      rintro e v1 ⟨rfl, R, o⟩
      refine hK'.out _ _ (I.go2 o R).off (fun hS => ?_)
      exact hout.out _ _ _ _ (J32.out _ (by kernel_rfl) _ (I.go2 o R) _ (N2.go HAP.out.lt.2.2.1 o))
    · go_simp
      refine hK'.out _ _ (I.free ((Off.refl _ v).alloc _)).off (fun hS => ?_)
      exact hout.out _ _ _ _ (J202.out _ (by kernel_rfl) _ (I.free ((Off.refl _ v).alloc _)) _ ⟨Cel.new v _ _, I.off.size⟩ _ (N2.free ((Off.refl _ v).alloc _)))
    · go_simp
      refine hK'.out _ _ (I.free ((Off.refl _ v).alloc _)).off (fun hS => ?_)
      exact hout.out _ _ _ _ (J212.out _ (by kernel_rfl) _ (I.free ((Off.refl _ v).alloc _)) _ ⟨Cel.new v _ _, I.off.size⟩ _ (N2.free ((Off.refl _ v).alloc _)))
    · go_simp
      refine hK'.out _ _ (I.free ((Off.refl _ v).alloc _)).off (fun hS => ?_)
      exact hout.out _ _ _ _ (J223.out _ (by kernel_rfl) _ (I.free ((Off.refl _ v).alloc _)) _ (N2.free ((Off.refl _ v).alloc _)) _ ⟨Cel.new v _ _, I.off.size⟩)
  have J23 : Hid (∀ (L : Array Bool) (hL : L = #[true, true, true, true, true, false, true, true, true, false, false, false, false, true, false, false, false, false]) (v : World) (I : Inv V v D0 D1 D2 D3 b0 b1 b2 b3 t0 t1 (bs, 0) (bs, 0)) (q8 : Nat) (N3 : New V v q8 26 (.slice none 0 0)), F 9 L ⟨#[.slice tad bs.length cap, .pointer (some ⟨q0, 0, none⟩), .bool false, .pointer (some ⟨b0, 0, none⟩), .pointer (some ⟨b1, 0, none⟩), .pointer (some ⟨b2, 0, none⟩), .pointer (some ⟨b3, 0, none⟩), undef, undef, undef, .pointer (some ⟨q8, 0, none⟩), undef, .slice tad bs.length cap, .pointer (some ⟨b0, 0, none⟩), .slice tad bs.length cap, .pointer (some ⟨b1, 0, none⟩), .slice tad bs.length cap, .pointer (some ⟨b2, 0, none⟩), .slice tad bs.length cap, .pointer (some ⟨b3, 0, none⟩), .pointer (some ⟨b0, 0, none⟩), .int .u64 (n : Int), .pointer (some ⟨b1, 0, none⟩), .int .i64 i, .pointer (some ⟨b2, 0, none⟩), undef, .pointer (some ⟨b3, 0, none⟩), .slice tad bs.length cap, .int .i64 (bs.length : Int), undef, undef, undef, undef, undef, undef, undef, undef, undef, undef, undef, undef, undef, undef, undef, undef, undef, undef, undef, undef, undef, undef, undef, undef, undef, undef, undef], []⟩ v) := by
    intro L hL v I q8 N3
    subst hL
    clear J30123 J3012 J3013 J3023 J3123 J301 J302 J303 J312 J313 J323 J30 J31 J32 J3 J20123 J2012 J2013 J2023 J2123 J201 J202 J212 J20 J21 J22
    refine hin.out _ _ _ _ ?_
    refine wpAnyH_ready (rs := [5, 10, 11, 12]) (by kernel_rfl) (by simp) ?_
    refine AllReadyH.cons rfl (fun K' hK' => ?_) (AllReadyH.cons rfl (fun K' hK' => ?_) (AllReadyH.cons rfl (fun K' hK' => ?_) (AllReadyH.cons rfl (fun K' hK' => ?_) (AllReadyH.nil))))
    · go_simp
      refine (rflag_any I.r2).mono ?_
      rw [HT2.out]
      dsimp only
      rintro e v1 ⟨rfl, R, o⟩
      refine hK'.out _ _ (I.go2 o R).off (fun hS => ?_)
      exact hout.out _ _ _ _ (J33.out _ (by kernel_rfl) _ (I.go2 o R) _ (N3.go HAP.out.lt.2.2.1 o))
    · go_simp
      refine hK'.out _ _ (I.free ((Off.refl _ v).alloc _)).off (fun hS => ?_)
      exact hout.out _ _ _ _ (J203.out _ (by kernel_rfl) _ (I.free ((Off.refl _ v).alloc _)) _ ⟨Cel.new v _ _, I.off.size⟩ _ (N3.free ((Off.refl _ v).alloc _)))
    · go_simp
      refine hK'.out _ _ (I.free ((Off.refl _ v).alloc _)).off (fun hS => ?_)
      exact hout.out _ _ _ _ (J213.out _ (by kernel_rfl) _ (I.free ((Off.refl _ v).alloc _)) _ ⟨Cel.new v _ _, I.off.size⟩ _ (N3.free ((Off.refl _ v).alloc _)))
    · go_simp
      refine hK'.out _ _ (I.free ((Off.refl _ v).alloc _)).off (fun hS => ?_)
      exact hout.out _ _ _ _ (J223.out _ (by kernel_rfl) _ (I.free ((Off.refl _ v).alloc _)) _ ⟨Cel.new v _ _, I.off.size⟩ _ (N3.free ((Off.refl _ v).alloc _)))
  have J2 : Hid (∀ (L : Array Bool) (hL : L = #[true, true, true, true, true, false, true, true, true, false, false, false, false, false, false, false, false, false]) (v : World) (I : Inv V v D0 D1 D2 D3 b0 b1 b2 b3 t0 t1 (bs, 0) (bs, 0)), F 10 L ⟨#[.slice tad bs.length cap, .pointer (some ⟨q0, 0, none⟩), .bool false, .pointer (some ⟨b0, 0, none⟩), .pointer (some ⟨b1, 0, none⟩), .pointer (some ⟨b2, 0, none⟩), .pointer (some ⟨b3, 0, none⟩), undef, undef, undef, undef, undef, .slice tad bs.length cap, .pointer (some ⟨b0, 0, none⟩), .slice tad bs.length cap, .pointer (some ⟨b1, 0, none⟩), .slice tad bs.length cap, .pointer (some ⟨b2, 0, none⟩), .slice tad bs.length cap, .pointer (some ⟨b3, 0, none⟩), .pointer (some ⟨b0, 0, none⟩), .int .u64 (n : Int), .pointer (some ⟨b1, 0, none⟩), .int .i64 i, .pointer (some ⟨b2, 0, none⟩), undef, .pointer (some ⟨b3, 0, none⟩), .slice tad bs.length cap, .int .i64 (bs.length : Int), undef, undef, undef, undef, undef, undef, undef, undef, undef, undef, undef, undef, undef, undef, undef, undef, undef, undef, undef, undef, undef, undef, undef, undef, undef, undef, undef], []⟩ v) := by
    intro L hL v I
    subst hL
    clear J30123 J3012 J3013 J3023 J3123 J301 J302 J303 J312 J313 J323 J30 J31 J32 J33 J20123 J2012 J2013 J2023 J2123 J201 J202 J203 J212 J213 J223
    refine hin.out _ _ _ _ ?_
    refine wpAnyH_ready (rs := [5, 10, 11, 12, 13]) (by kernel_rfl) (by simp) ?_
    refine AllReadyH.cons rfl (fun K' hK' => ?_) (AllReadyH.cons rfl (fun K' hK' => ?_) (AllReadyH.cons rfl (fun K' hK' => ?_) (AllReadyH.cons rfl (fun K' hK' => ?_) (AllReadyH.cons rfl (fun K' hK' => ?_) (AllReadyH.nil)))))
    · go_simp
      refine (rflag_any I.r2).mono ?_
      rw [HT2.out]
      dsimp only
      rintro e v1 ⟨rfl, R, o⟩
      refine hK'.out _ _ (I.go2 o R).off (fun hS => ?_)
      exact hout.out _ _ _ _ (J3.out _ (by kernel_rfl) _ (I.go2 o R))
    · go_simp
      refine hK'.out _ _ (I.free ((Off.refl _ v).alloc _)).off (fun hS => ?_)
      exact hout.out _ _ _ _ (J20.out _ (by kernel_rfl) _ (I.free ((Off.refl _ v).alloc _)) _ ⟨Cel.new v _ _, I.off.size⟩)
    · go_simp
      refine hK'.out _ _ (I.free ((Off.refl _ v).alloc _)).off (fun hS => ?_)
      exact hout.out _ _ _ _ (J21.out _ (by kernel_rfl) _ (I.free ((Off.refl _ v).alloc _)) _ ⟨Cel.new v _ _, I.off.size⟩)
    · go_simp
      refine hK'.out _ _ (I.free ((Off.refl _ v).alloc _)).off (fun hS => ?_)
      exact hout.out _ _ _ _ (J22.out _ (by kernel_rfl) _ (I.free ((Off.refl _ v).alloc _)) _ ⟨Cel.new v _ _, I.off.size⟩)
    · go_simp
      refine hK'.out _ _ (I.free ((Off.refl _ v).alloc _)).off (fun hS => ?_)
      exact hout.out _ _ _ _ (J23.out _ (by kernel_rfl) _ (I.free ((Off.refl _ v).alloc _)) _ ⟨Cel.new v _ _, I.off.size⟩)
  clear J30123 J3012 J3013 J3023 J3123 J301 J302 J303 J312 J313 J323 J30 J31 J32 J33 J3
  have J10123 : Hid (∀ (L : Array Bool) (hL : L = #[true, true, true, false, true, false, true, true, true, false, true, true, true, true, false, false, false, false]) (v : World) (I : Inv V v D0 D1 D2 D3 b0 b1 b2 b3 t0 (bs, 0) (bs, 0) (bs, 0)) (q5 : Nat) (N0 : New V v q5 30 (.int .u64 0)) (q6 : Nat) (N1 : New V v q6 2 (.int .i64 0)) (q7 : Nat) (N2 : New V v q7 4 (.bool false)) (q8 : Nat) (N3 : New V v q8 26 (.slice none 0 0)), F 7 L ⟨#[.slice tad bs.length cap, .pointer (some ⟨q0, 0, none⟩), .bool false, .pointer (some ⟨b0, 0, none⟩), .pointer (some ⟨b1, 0, none⟩), .pointer (some ⟨b2, 0, none⟩), .pointer (some ⟨b3, 0, none⟩), .pointer (some ⟨q5, 0, none⟩), .pointer (some ⟨q6, 0, none⟩), .pointer (some ⟨q7, 0, none⟩), .pointer (some ⟨q8, 0, none⟩), undef, .slice tad bs.length cap, .pointer (some ⟨b0, 0, none⟩), .slice tad bs.length cap, .pointer (some ⟨b1, 0, none⟩), .slice tad bs.length cap, .pointer (some ⟨b2, 0, none⟩), .slice tad bs.length cap, .pointer (some ⟨b3, 0, none⟩), .pointer (some ⟨b0, 0, none⟩), .int .u64 (n : Int), .pointer (some ⟨b1, 0, none⟩), undef, .pointer (some ⟨b2, 0, none⟩), undef, .pointer (some ⟨b3, 0, none⟩), .slice tad bs.length cap, .int .i64 (bs.length : Int), undef, undef, undef, undef, undef, undef, undef, undef, undef, undef, undef, undef, undef, undef, undef, undef, undef, undef, undef, undef, undef, undef, undef, undef, undef, undef, undef], []⟩ v) := by
    intro L hL v I q5 N0 q6 N1 q7 N2 q8 N3
    subst hL
    clear J2012 J2013 J2023 J2123 J201 J202 J203 J212 J213 J223 J20 J21 J22 J23 J2
    refine hin.out _ _ _ _ ?_
    refine wpAnyH_ready (rs := [3]) (by kernel_rfl) (by simp) ?_
    refine AllReadyH.cons rfl (fun K' hK' => ?_) (AllReadyH.nil)
    · go_simp
      refine (rint_any I.r1).mono ?_
      rw [HT1.out]
      dsimp only
      rintro e v1 ⟨rfl, R, o⟩
      refine hK'.out _ _ (I.go1 o R).off (fun hS => ?_)
      exact hout.out _ _ _ _ (J20123.out _ (by kernel_rfl) _ (I.go1 o R) _ (N0.go HAP.out.lt.2.1 o) _ (N1.go HAP.out.lt.2.1 o) _ (N2.go HAP.out.lt.2.1 o) _ (N3.go HAP.out.lt.2.1 o))
  have J1012 : Hid (∀ (L : Array Bool) (hL : L = #[true, true, true, false, true, false, true, true, true, false, true, true, true, false, false, false, false, false]) (v : World) (I : Inv V v D0 D1 D2 D3 b0 b1 b2 b3 t0 (bs, 0) (bs, 0) (bs, 0)) (q5 : Nat) (N0 : New V v q5 30 (.int .u64 0)) (q6 : Nat) (N1 : New V v q6 2 (.int .i64 0)) (q7 : Nat) (N2 : New V v q7 4 (.bool false)), F 8 L ⟨#[.slice tad bs.length cap, .pointer (some ⟨q0, 0, none⟩), .bool false, .pointer (some ⟨b0, 0, none⟩), .pointer (some ⟨b1, 0, none⟩), .pointer (some ⟨b2, 0, none⟩), .pointer (some ⟨b3, 0, none⟩), .pointer (some ⟨q5, 0, none⟩), .pointer (some ⟨q6, 0, none⟩), .pointer (some ⟨q7, 0, none⟩), undef, undef, .slice tad bs.length cap, .pointer (some ⟨b0, 0, none⟩), .slice tad bs.length cap, .pointer (some ⟨b1, 0, none⟩), .slice tad bs.length cap, .pointer (some ⟨b2, 0, none⟩), .slice tad bs.length cap, .pointer (some ⟨b3, 0, none⟩), .pointer (some ⟨b0, 0, none⟩), .int .u64 (n : Int), .pointer (some ⟨b1, 0, none⟩), undef, .pointer (some ⟨b2, 0, none⟩), undef, .pointer (some ⟨b3, 0, none⟩), .slice tad bs.length cap, .int .i64 (bs.length : Int), undef, undef, undef, undef, undef, undef, undef, undef, undef, undef, undef, undef, undef, undef, undef, undef, undef, undef, undef, undef, undef, undef, undef, undef, undef, undef, undef], []⟩ v) := by
    intro L hL v I q5 N0 q6 N1 q7 N2
    subst hL
    clear J20123 J2013 J2023 J2123 J201 J202 J203 J212 J213 J223 J20 J21 J22 J23 J2
    refine hin.out _ _ _ _ ?_
    refine wpAnyH_ready (rs := [3, 13]) (by kernel_rfl) (by simp) ?_
    refine AllReadyH.cons rfl (fun K' hK' => ?_) (AllReadyH.cons rfl (fun K' hK' => ?_) (AllReadyH.nil))
    · go_simp
      refine (rint_any I.r1).mono ?_
      rw [HT1.out]
      dsimp only
      rintro e v1 ⟨rfl, R, o⟩
      refine hK'.out _ _ (I.go1 o R).off (fun hS => ?_)
      exact hout.out _ _ _ _ (J2012.out _ (by kernel_rfl) _ (I.go1 o R) _ (N0.go HAP.out.lt.2.1 o) _ (N1.go HAP.out.lt.2.1 o) _ (N2.go HAP.out.lt.2.1 o))
    · go_simp
      refine hK'.out _ _ (I.free ((Off.refl _ v).alloc _)).off (fun hS => ?_)
      exact hout.out _ _ _ _ (J10123.out _ (by kernel_rfl) _ (I.free ((Off.refl _ v).alloc _)) _ (N0.free ((Off.refl _ v).alloc _)) _ (N1.free ((Off.refl _ v).alloc _)) _ (N2.free ((Off.refl _ v).alloc _)) _ ⟨Cel.new v _ _, I.off.size⟩)
  have J1013 : Hid (∀ (L : Array Bool) (hL : L = #[true, true, true, false, true, false, true, true, true, false, true, true, false, true, false, false, false, false]) (v : World) (I : Inv V v D0 D1 D2 D3 b0 b1 b2 b3 t0 (bs, 0) (bs, 0) (bs, 0)) (q5 : Nat) (N0 : New V v q5 30 (.int .u64 0)) (q6 : Nat) (N1 : New V v q6 2 (.int .i64 0)) (q8 : Nat) (N3 : New V v q8 26 (.slice none 0 0)), F 8 L ⟨#[.slice tad bs.length cap, .pointer (some ⟨q0, 0, none⟩), .bool false, .pointer (some ⟨b0, 0, none⟩), .pointer (some ⟨b1, 0, none⟩), .pointer (some ⟨b2, 0, none⟩), .pointer (some ⟨b3, 0, none⟩), .pointer (some ⟨q5, 0, none⟩), .pointer (some ⟨q6, 0, none⟩), undef, .pointer (some ⟨q8, 0, none⟩), undef, .slice tad bs.length cap, .pointer (some ⟨b0, 0, none⟩), .slice tad bs.length cap, .pointer (some ⟨b1, 0, none⟩), .slice tad bs.length cap, .pointer (some ⟨b2, 0, none⟩), .slice tad bs.length cap, .pointer (some ⟨b3, 0, none⟩), .pointer (some ⟨b0, 0, none⟩), .int .u64 (n : Int), .pointer (some ⟨b1, 0, none⟩), undef, .pointer (some ⟨b2, 0, none⟩), undef, .pointer (some ⟨b3, 0, none⟩), .slice tad bs.length cap, .int .i64 (bs.length : Int), undef, undef, undef, undef, undef, undef, undef, undef, undef, undef, undef, undef, undef, undef, undef, undef, undef, undef, undef, undef, undef, undef, undef, undef, undef, undef, undef], []⟩ v) := by
    intro L hL v I q5 N0 q6 N1 q8 N3
    subst hL
    clear J20123 J2012 J2023 J2123 J201 J202 J203 J212 J213 J223 J20 J21 J22 J23 J2 J1012
    refine hin.out _ _ _ _ ?_
    refine wpAnyH_ready (rs := [3, 12]) (by kernel_rfl) (by simp) ?_
    refine AllReadyH.cons rfl (fun K' hK' => ?_) (AllReadyH.cons rfl (fun K' hK' => ?_) (AllReadyH.nil))
    · go_simp
      refine (rint_any I.r1).mono ?_
      rw [HT1.out]
      dsimp only
      rintro e v1 ⟨rfl, R, o⟩
      refine hK'.out _ _ (I.go1 o R).off (fun hS => ?_)
      exact hout.out _ _ _ _ (J2013.out _ (by kernel_rfl) _ (I.go1 o R) _ (N0.go HAP.out.lt.2.1 o) _ (N1.go HAP.out.lt.2.1 o) _ (N3.go HAP.out.lt.2.1 o))
    · go_simp
      refine hK'.out _ _ (I.free ((Off.refl _ v).alloc _)).off (fun hS => ?_)
      exact hout.out _ _ _ _ (J10123.out _ (by kernel_rfl) _ (I.free ((Off.refl _ v).alloc _)) _ (N0.free ((Off.refl _ v).alloc _)) _ (N1.free ((Off.refl _ v).alloc _)) _ ⟨Cel.new v _ _, I.off.size⟩ _ (N3.free ((Off.refl _ v).alloc _)))
  have J1023 : Hid (∀ (L : Array Bool) (hL : L = #[true, true, true, false, true, false, true, true, true, false, true, false, true, true, false, false, false, false]) (v : World) (I : Inv V v D0 D1 D2 D3 b0 b1 b2 b3 t0 (bs, 0) (bs, 0) (bs, 0)) (q5 : Nat) (N0 : New V v q5 30 (.int .u64 0)) (q7 : Nat) (N2 : New V v q7 4 (.bool false)) (q8 : Nat) (N3 : New V v q8 26 (.slice none 0 0)), F 8 L ⟨#[.slice tad bs.length cap, .pointer (some ⟨q0, 0, none⟩), .bool false, .pointer (some ⟨b0, 0, none⟩), .pointer (some ⟨b1, 0, none⟩), .pointer (some ⟨b2, 0, none⟩), .pointer (some ⟨b3, 0, none⟩), .pointer (some ⟨q5, 0, none⟩), undef, .pointer (some ⟨q7, 0, none⟩), .pointer (some ⟨q8, 0, none⟩), undef, .slice tad bs.length cap, .pointer (some ⟨b0, 0, none⟩), .slice tad bs.length cap, .pointer (some ⟨b1, 0, none⟩), .slice tad bs.length cap, .pointer (some ⟨b2, 0, none⟩), .slice tad bs.length cap, .pointer (some ⟨b3, 0, none⟩), .pointer (some ⟨b0, 0, none⟩), .int .u64 (n : Int), .pointer (some ⟨b1, 0, none⟩), undef, .pointer (some ⟨b2, 0, none⟩), undef, .pointer (some ⟨b3, 0, none⟩), .slice tad bs.length cap, .int .i64 (bs.length : Int), undef, undef, undef, undef, undef, undef, undef, undef, undef, undef, undef, undef, undef, undef, undef, undef, undef, undef, undef, undef, undef, undef, undef, undef, undef, undef, undef], []⟩ v) := by
    intro L hL v I q5 N0 q7 N2 q8 N3
    subst hL
    clear J20123 J2012 J2013 J2123 J201 J202 J203 J212 J213 J223 J20 J21 J22 J23 J2 J1012 J1013
    refine hin.out _ _ _ _ ?_
    refine wpAnyH_ready (rs := [3, 11]) (by kernel_rfl) (by simp) ?_
    refine AllReadyH.cons rfl (fun K' hK' => ?_) (AllReadyH.cons rfl (fun K' hK' => ?_) (AllReadyH.nil))
    · go_simp
      refine (rint_any I.r1).mono ?_
      rw [HT1.out]
      dsimp only
      rintro e v1 ⟨rfl, R, o⟩
      refine hK'.out _ _ (I.go1 o R).off (fun hS => ?_)
      exact hout.out _ _ _ _ (J2023.out _ (by kernel_rfl) _ (I.go1 o R) _ (N0.go HAP.out.lt.2.1 o) _ (N2.go HAP.out.lt.2.1 o) _ (N3.go HAP.out.lt.2.1 o))
    · go_simp
      refine hK'.out _ _ (I.free ((Off.refl _ v).alloc _)).off (fun hS => ?_)
      exact hout.out _ _ _ _ (J10123.out _ (by kernel_rfl) _ (I.free ((Off.refl _ v).alloc _)) _ (N0.free ((Off.refl _ v).alloc _)) _ ⟨Cel.new v _ _, I.off.size⟩ _ (N2.free ((Off.refl _ v).alloc _)) _ (N3.free ((Off.refl _ v).alloc _)))
  have J1123 : Hid (∀ (L : Array Bool) (hL : L = #[true, true, true, false, true, false, true, true, true, false, false, true, true, true, false, false, false, false]) (v : World) (I : Inv V v D0 D1 D2 D3 b0 b1 b2 b3 t0 (bs, 0) (bs, 0) (bs, 0)) (q6 : Nat) (N1 : New V v q6 2 (.int .i64 0)) (q7 : Nat) (N2 : New V v q7 4 (.bool false)) (q8 : Nat) (N3 : New V v q8 26 (.slice none 0 0)), F 8 L ⟨#[.slice tad bs.length cap, .pointer (some ⟨q0, 0, none⟩), .bool false, .pointer (some ⟨b0, 0, none⟩), .pointer (some ⟨b1, 0, none⟩), .pointer (some ⟨b2, 0, none⟩), .pointer (some ⟨b3, 0, none⟩), undef, .pointer (some ⟨q6, 0, none⟩), .pointer (some ⟨q7, 0, none⟩), .pointer (some ⟨q8, 0, none⟩), undef, .slice tad bs.length cap, .pointer (some ⟨b0, 0, none⟩), .slice tad bs.length cap, .pointer (some ⟨b1, 0, none⟩), .slice tad bs.length cap, .pointer (some ⟨b2, 0, none⟩), .slice tad bs.length cap, .pointer (some ⟨b3, 0, none⟩), .pointer (some ⟨b0, 0, none⟩), .int .u64 (n : Int), .pointer (some ⟨b1, 0, none⟩), undef, .pointer (some ⟨b2, 0, none⟩), undef, .pointer (some ⟨b3, 0, none⟩), .slice tad bs.length cap, .int .i64 (bs.length : Int), undef, undef, undef, undef, undef, undef, undef, undef, undef, undef, undef, undef, undef, undef, undef, undef, undef, undef, undef, undef, undef, undef, undef, undef, undef, undef, undef], []⟩ v) := by
    intro L hL v I q6 N1 q7 N2 q8 N3
    subst hL
    clear J20123 J2012 J2013 J2023 J201 J202 J203 J212 J213 J223 J20 J21 J22 J23 J2 J1012 J1013 J1023
    refine hin.out _ _ _ _ ?_
    refine wpAnyH_ready (rs := [3, 10]) (by kernel_rfl) (by simp) ?_
    refine AllReadyH.cons rfl (fun K' hK' => ?_) (AllReadyH.cons rfl (fun K' hK' => ?_) (AllReadyH.nil))
    · go_simp
      refine (rint_any I.r1).mono ?_
      rw [HT1.out]
      dsimp only
      rintro e v1 ⟨rfl, R, o⟩
      refine hK'.out _ _ (I.go1 o R).off (fun hS => ?_)
      exact hout.out _ _ _ _ (J2123.out _ (by kernel_rfl) _ (I.go1 o R) _ (N1.go HAP.out.lt.2.1 o) _ (N2.go HAP.out.lt.2.1 o) _ (N3.go HAP.out.lt.2.1 o))
    · go_simp
      refine hK'.out _ _ (I.free ((Off.refl _ v).alloc _)).off (fun hS => ?_)
      exact hout.out _ _ _ _ (J10123.out _ (by kernel_rfl) _ (I.free ((Off.refl _ v).alloc _)) _ ⟨Cel.new v _ _, I.off.size⟩ _ (N1.free ((Off.refl _ v).alloc _)) _ (N2.free ((Off.refl _ v).alloc _)) _ (N3.free ((Off.refl _ v).alloc _)))
  have J101 : Hid (∀ (L : Array Bool) (hL : L = #[true, true, true, false, true, false, true, true, true, false, true, true, false, false, false, false, false, false]) (v : World) (I : Inv V v D0 D1 D2 D3 b0 b1 b2 b3 t0 (bs, 0) (bs, 0) (bs, 0)) (q5 : Nat) (N0 : New V v q5 30 (.int .u64 0)) (q6 : Nat) (N1 : New V v q6 2 (.int .i64 0)), F 9 L ⟨#[.slice tad bs.length cap, .pointer (some ⟨q0, 0, none⟩), .bool false, .pointer (some ⟨b0, 0, none⟩), .pointer (some ⟨b1, 0, none⟩), .pointer (some ⟨b2, 0, none⟩), .pointer (some ⟨b3, 0, none⟩), .pointer (some ⟨q5, 0, none⟩), .pointer (some ⟨q6, 0, none⟩), undef, undef, undef, .slice tad bs.length cap, .pointer (some ⟨b0, 0, none⟩), .slice tad bs.length cap, .pointer (some ⟨b1, 0, none⟩), .slice tad bs.length cap, .pointer (some ⟨b2, 0, none⟩), .slice tad bs.length cap, .pointer (some ⟨b3, 0, none⟩), .pointer (some ⟨b0, 0, none⟩), .int .u64 (n : Int), .pointer (some ⟨b1, 0, none⟩), undef, .pointer (some ⟨b2, 0, none⟩), undef, .pointer (some ⟨b3, 0, none⟩), .slice tad bs.length cap, .int .i64 (bs.length : Int), undef, undef, undef, undef, undef, undef, undef, undef, undef, undef, undef, undef, undef, undef, undef, undef, undef, undef, undef, undef, undef, undef, undef, undef, undef, undef, undef], []⟩ v) := by
    intro L hL v I q5 N0 q6 N1
    subst hL
    clear J20123 J2012 J2013 J2023 J2123 J202 J203 J212 J213 J223 J20 J21 J22 J23 J2 J10123 J1023 J1123
    refine hin.out _ _ _ _ ?_
    refine wpAnyH_ready (rs := [3, 12, 13]) (by kernel_rfl) (by simp) ?_
    refine AllReadyH.cons rfl (fun K' hK' => ?_) (AllReadyH.cons rfl (fun K' hK' => ?_) (AllReadyH.cons rfl (fun K' hK' => ?_) (AllReadyH.nil)))
    · go_simp
      refine (rint_any I.r1).mono ?_
      rw [HT1.out]
      dsimp only
      rintro e v1 ⟨rfl, R, o⟩
      refine hK'.out _ _ (I.go1 o R).off (fun hS => ?_)
      exact hout.out _ _ _ _ (J201.out _ (by kernel_rfl) _ (I.go1 o R) _ (N0.go HAP.out.lt.2.1 o) _ (N1.go HAP.out.lt.2.1 o))
    · go_simp
      refine hK'.out _ _ (I.free ((Off.refl _ v).alloc _)).off (fun hS => ?_)
      exact hout.out _ _ _ _ (J1012.out _ (by kernel_rfl) _ (I.free ((Off.refl _ v).alloc _)) _ (N0.free ((Off.refl _ v).alloc _)) _ (N1.free ((Off.refl _ v).alloc _)) _ ⟨Cel.new v _ _, I.off.size⟩)
    · go_simp
      refine hK'.out _ _ (I.free ((Off.refl _ v).alloc _)).off (fun hS => ?_)
      exact hout.out _ _ _ _ (J1013.out _ (by kernel_rfl) _ (I.free ((Off.refl _ v).alloc _)) _ (N0.free ((Off.refl _ v).alloc _)) _ (N1.free ((Off.refl _ v).alloc _)) _ ⟨Cel.new v _ _, I.off.size⟩)
  have J102 : Hid (∀ (L : Array Bool) (hL : L = #[true, true, true, false, true, false, true, true, true, false, true, false, true, false, false, false, false, false]) (v : World) (I : Inv V v D0 D1 D2 D3 b0 b1 b2 b3 t0 (bs, 0) (bs, 0) (bs, 0)) (q5 : Nat) (N0 : New V v q5 30 (.int .u64 0)) (q7 : Nat) (N2 : New V v q7 4 (.bool false)), F 9 L ⟨#[.slice tad bs.length cap, .pointer (some ⟨q0, 0, none⟩), .bool false, .pointer (some ⟨b0, 0, none⟩), .pointer (some ⟨b1, 0, none⟩), .pointer (some ⟨b2, 0, none⟩), .pointer (some ⟨b3, 0, none⟩), .pointer (some ⟨q5, 0, none⟩), undef, .pointer (some ⟨q7, 0, none⟩), undef, undef, .slice tad bs.length cap, .pointer (some ⟨b0, 0, none⟩), .slice tad bs.length cap, .pointer (some ⟨b1, 0, none⟩), .slice tad bs.length cap, .pointer (some ⟨b2, 0, none⟩), .slice tad bs.length cap, .pointer (some ⟨b3, 0, none⟩), .pointer (some ⟨b0, 0, none⟩), .int .u64 (n : Int), .pointer (some ⟨b1, 0, none⟩), undef, .pointer (some ⟨b2, 0, none⟩), undef, .pointer (some ⟨b3, 0, none⟩), .slice tad bs.length cap, .int .i64 (bs.length : Int), undef, undef, undef, undef, undef, undef, undef, undef, undef, undef, undef, undef, undef, undef, undef, undef, undef, undef, undef, undef, undef, undef, undef, undef, undef, undef, undef], []⟩ v) := by
    intro L hL v I q5 N0 q7 N2
    subst hL
    clear J20123 J2012 J2013 J2023 J2123 J201 J203 J212 J213 J223 J20 J21 J22 J23 J2 J10123 J1013 J1123 J101
    refine hin.out _ _ _ _ ?_
    refine wpAnyH_ready (rs := [3, 11, 13]) (by kernel_rfl) (by simp) ?_
    refine AllReadyH.cons rfl (fun K' hK' => ?_) (AllReadyH.cons rfl (fun K' hK' => ?_) (AllReadyH.cons rfl (fun K' hK' => ?_) (AllReadyH.nil)))
    · go_simp
      refine (rint_any I.r1).mono ?_
      rw [HT1.out]
      dsimp only
      rintro e v1 ⟨rfl, R, o⟩
      refine hK'.out _ _ (I.go1 o R).off (fun hS => ?_)
      exact hout.out _ _ _ _ (J202.out _ (by kernel_rfl) _ (I.go1 o R) _ (N0.go HAP.out.lt.2.1 o) _ (N2.go HAP.out.lt.2.1 o))
    · go_simp
      refine hK'.out _ _ (I.free ((Off.refl _ v).alloc _)).off (fun hS => ?_)
      exact hout.out _ _ _ _ (J1012.out _ (by kernel_rfl) _ (I.free ((Off.refl _ v).alloc _)) _ (N0.free ((Off.refl _ v).alloc _)) _ ⟨Cel.new v _ _, I.off.size⟩ _ (N2.free ((Off.refl _ v).alloc _)))
    · go_simp
      refine hK'.out _ _ (I.free ((Off.refl _ v).alloc _)).off (fun hS => ?_)
      exact hout.out _ _ _ _ (J1023.out _ (by kernel_rfl) _ (I.free ((Off.refl _ v).alloc _)) _ (N0.free ((Off.refl _ v).alloc _)) _ (N2.free ((Off.refl _ v).alloc _)) _ ⟨Cel.new v _ _, I.off.size⟩)
  have J103 : Hid (∀ (L : Array Bool) (hL : L = #[true, true, true, false, true, false, true, true, true, false, true, false, false, true, false, false, false, false]) (v : World) (I : Inv V v D0 D1 D2 D3 b0 b1 b2 b3 t0 (bs, 0) (bs, 0) (bs, 0)) (q5 : Nat) (N0 : New V v q5 30 (.int .u64 0)) (q8 : Nat) (N3 : New V v q8 26 (.slice none 0 0)), F 9 L ⟨#[.slice tad bs.length cap, .pointer (some ⟨q0, 0, none⟩), .bool false, .pointer (some ⟨b0, 0, none⟩), .pointer (some ⟨b1, 0, none⟩), .pointer (some ⟨b2, 0, none⟩), .pointer (some ⟨b3, 0, none⟩), .pointer (some ⟨q5, 0, none⟩), undef, undef, .pointer (some ⟨q8, 0, none⟩), undef, .slice tad bs.length cap, .pointer (some ⟨b0, 0, none⟩), .slice tad bs.length cap, .pointer (some ⟨b1, 0, none⟩), .slice tad bs.length cap, .pointer (some ⟨b2, 0, none⟩), .slice tad bs.length cap, .pointer (some ⟨b3, 0, none⟩), .pointer (some ⟨b0, 0, none⟩), .int .u64 (n : Int), .pointer (some ⟨b1, 0, none⟩), undef, .pointer (some ⟨b2, 0, none⟩), undef, .pointer (some ⟨b3, 0, none⟩), .slice tad bs.length cap, .int .i64 (bs.length : Int), undef, undef, undef, undef, undef, undef, undef, undef, undef, undef, undef, undef, undef, undef, undef, undef, undef, undef, undef, undef, undef, undef, undef, undef, undef, undef, undef], []⟩ v) := by
    intro L hL v I q5 N0 q8 N3
    subst hL
    clear J20123 J2012 J2013 J2023 J2123 J201 J202 J212 J213 J223 J20 J21 J22 J23 J2 J10123 J1012 J1123 J101 J102
    refine hin.out _ _ _ _ ?_
    refine wpAnyH_ready (rs := [3, 11, 12]) (by kernel_rfl) (by simp) ?_
    refine AllReadyH.cons rfl (fun K' hK' => ?_) (AllReadyH.cons rfl (fun K' hK' => ?_) (AllReadyH.cons rfl (fun K' hK' => ?_) (AllReadyH.nil)))
    · go_simp
      refine (rint_any I.r1).mono ?_
      rw [HT1.out]
      dsimp only
      rintro e v1 ⟨rfl, R, o⟩
      refine hK'.out _ _ (I.go1 o R).off (fun hS => ?_)
      exact hout.out _ _ _ _ (J203.out _ (by kernel_rfl) _ (I.go1 o R) _ (N0.go HAP.out.lt.2.1 o) _ (N3.go HAP.out.lt.2.1 o))
    · go_simp
      refine hK'.out _ _ (I.free ((Off.refl _ v).alloc _)).off (fun hS => ?_)
      exact hout.out _ _ _ _ (J1013.out _ (by kernel_rfl) _ (I.free ((Off.refl _ v).alloc _)) _ (N0.free ((Off.refl _ v).alloc _)) _ ⟨Cel.new v _ _, I.off.size⟩ _ (N3.free ((Off.refl _ v).alloc _)))
    · go_simp
      refine hK'.out _ _ (I.free ((Off.refl _ v).alloc _)).off (fun hS => ?_)
      exact hout.out _ _ _ _ (J1023.out _ (by kernel_rfl) _ (I.free ((Off.refl _ v).alloc _)) _ (N0.free ((Off.refl _ v).alloc _)) _ ⟨Cel.new v _ _, I.off.size⟩ _ (N3.free ((Off.refl _ v).alloc _)))
  have J112 : Hid (∀ (L : Array Bool) (hL : L = #[true, true, true, false, true, false, true, true, true, false, false, true, true, false, false, false, false, false]) (v : World) (I : Inv V v D0 D1 D2 D3 b0 b1 b2 b3 t0 (bs, 0) (bs, 0) (bs, 0)) (q6 : Nat) (N1 : New V v q6 2 (.int .i64 0)) (q7 : Nat) (N2 : New V v q7 4 (.bool false)), F 9 L ⟨#[.slice tad bs.length cap, .pointer (some ⟨q0, 0, none⟩), .bool false, .pointer (some ⟨b0, 0, none⟩), .pointer (some ⟨b1, 0, none⟩), .pointer (some ⟨b2, 0, none⟩), .pointer (some ⟨b3, 0, none⟩), undef, .pointer (some ⟨q6, 0, none⟩), .pointer (some ⟨q7, 0, none⟩), undef, undef, .slice tad bs.length cap, .pointer (some ⟨b0, 0, none⟩), .slice tad bs.length cap, .pointer (some ⟨b1, 0, none⟩), .slice tad bs.length cap, .pointer (some ⟨b2, 0, none⟩), .slice tad bs.length cap, .pointer (some ⟨b3, 0, none⟩), .pointer (some ⟨b0, 0, none⟩), .int .u64 (n : Int), .pointer (some ⟨b1, 0, none⟩), undef, .pointer (some ⟨b2, 0, none⟩), undef, .pointer (some ⟨b3, 0, none⟩), .slice tad bs.length cap, .int .i64 (bs.length : Int), undef, undef, undef, undef, undef, undef, undef, undef, undef, undef, undef, undef, undef, undef, undef, undef, undef, undef, undef, undef, undef, undef, undef, undef, undef, undef, undef], []⟩ v) := by
    intro L hL v I q6 N1 q7 N2
    subst hL
    clear J20123 J2012 J2013 J2023 J2123 J201 J202 J203 J213 J223 J20 J21 J22 J23 J2 J10123 J1013 J1023 J101 J102 J103
    refine hin.out _ _ _ _ ?_
    refine wpAnyH_ready (rs := [3, 10, 13]) (by kernel_rfl) (by simp) ?_
    refine AllReadyH.cons rfl (fun K' hK' => ?_) (AllReadyH.cons rfl (fun K' hK' => ?_) (AllReadyH.cons rfl (fun K' hK' => ?_) (AllReadyH.nil)))
    · go_simp
      refine (rint_any I.r1).mono ?_
      rw [HT1.out]
      dsimp only
      rintro e v1 ⟨rfl, R, o⟩
      refine hK'.out _ _ (I.go1 o R).off (fun hS => ?_)
      exact hout.out _ _ _ _ (J212.out _ (by kernel_rfl) _ (I.go1 o R) _ (N1.go HAP.out.lt.2.1 o) _ (N2.go HAP.out.lt.2.1 o))
    · go_simp
      refine hK'.out _ _ (I.free ((Off.refl _ v).alloc _)).off (fun hS => ?_)
      exact hout.out _ _ _ _ (J1012.out _ (by kernel_rfl) _ (I.free ((Off.refl _ v).alloc _)) _ ⟨Cel.new v _ _, I.off.size⟩ _ (N1.free ((Off.refl _ v).alloc _)) _ (N2.free ((Off.refl _ v).alloc _)))
    · go_simp
      refine hK'.out _ _ (I.free ((Off.refl _ v).alloc _)).off (fun hS => ?_)
      exact hout.out _ _ _ _ (J1123.out _ (by kernel_rfl) _ (I.free ((Off.refl _ v).alloc _)) _ (N1.free ((Off.refl _ v).alloc _)) _ (N2.free ((Off.refl _ v).alloc _)) _ ⟨Cel.new v _ _, I.off.size⟩)
  have J113 : Hid (∀ (L : Array Bool) (hL : L = #[true, true, true, false, true, false, true, true, true, false, false, true, false, true, false, false, false, false]) (v : World) (I : Inv V v D0 D1 D2 D3 b0 b1 b2 b3 t0 (bs, 0) (bs, 0) (bs, 0)) (q6 : Nat) (N1 : New V v q6 2 (.int .i64 0)) (q8 : Nat) (N3 : New V v q8 26 (.slice none 0 0)), F 9 L ⟨#[.slice tad bs.length cap, .pointer (some ⟨q0, 0, none⟩), .bool false, .pointer (some ⟨b0, 0, none⟩), .pointer (some ⟨b1, 0, none⟩), .pointer (some ⟨b2, 0, none⟩), .pointer (some ⟨b3, 0, none⟩), undef, .pointer (some ⟨q6, 0, none⟩), undef, .pointer (some ⟨q8, 0, none⟩), undef, .slice tad bs.length cap, .pointer (some ⟨b0, 0, none⟩), .slice tad bs.length cap, .pointer (some ⟨b1, 0, none⟩), .slice tad bs.length cap, .pointer (some ⟨b2, 0, none⟩), .slice tad bs.length cap, .pointer (some ⟨b3, 0, none⟩), .pointer (some ⟨b0, 0, none⟩), .int .u64 (n : Int), .pointer (some ⟨b1, 0, none⟩), undef, .pointer (some ⟨b2, 0, none⟩), undef, .pointer (some ⟨b3, 0, none⟩), .slice tad bs.length cap, .int .i64 (bs.length : Int), undef, undef, undef, undef, undef, undef, undef, undef, undef, undef, undef, undef, undef, undef, undef, undef, undef, undef, undef, undef, undef, undef, undef, undef, undef, undef, undef], []⟩ v) := by
    intro L hL v I q6 N1 q8 N3
    subst hL
    clear J20123 J2012 J2013 J2023 J2123 J201 J202 J203 J212 J223 J20 J21 J22 J23 J2 J10123 J1012 J1023 J101 J102 J103 J112
    refine hin.out _ _ _ _ ?_
    refine wpAnyH_ready (rs := [3, 10, 12]) (by kernel_rfl) (by simp) ?_
    refine AllReadyH.cons rfl (fun K' hK' => ?_) (AllReadyH.cons rfl (fun K' hK' => ?_) (AllReadyH.cons rfl (fun K' hK' => ?_) (AllReadyH.nil)))
    · go_simp
      refine (rint_any I.r1).mono ?_
      rw [HT1.out]
      dsimp only
      rintro e v1 ⟨rfl, R, o⟩
      refine hK'.out _ _ (I.go1 o R).off (fun hS => ?_)
      exact hout.out _ _ _ _ (J213.out _ (by kernel_rfl) _ (I.go1 o R) _ (N1.go HAP.out.lt.2.1 o) _ (N3.go HAP.out.lt.2.1 o))
    · go_simp
      refine hK'.out _ _ (I.free ((Off.refl _ v).alloc _)).off (fun hS => ?_)
      exact hout.out _ _ _ _ (J1013.out _ (by kernel_rfl) _ (I.free ((Off.refl _ v).alloc _)) _ ⟨Cel.new v _ _, I.off.size⟩ _ (N1.free ((Off.refl _ v).alloc _)) _ (N3.free ((Off.refl _ v).alloc _)))
    · go_simp
      refine hK'.out _ _ (I.free ((Off.refl _ v).alloc _)).off (fun hS => ?_)
      exact hout.out _ _ _ _ (J1123.out _ (by kernel_rfl) _ (I.free ((Off.refl _ v).alloc _)) _ (N1.free ((Off.refl _ v).alloc _)) _ ⟨Cel.new v _ _, I.off.size⟩ _ (N3.free ((Off.refl _ v).alloc _)))
  have J123 : Hid (∀ (L : Array Bool) (hL : L = #[true, true, true, false, true, false, true, true, true, false, false, false, true, true, false, false, false, false]) (v : World) (I : Inv V v D0 D1 D2 D3 b0 b1 b2 b3 t0 (bs, 0) (bs, 0) (bs, 0)) (q7 : Nat) (N2 : New V v q7 4 (.bool false)) (q8 : Nat) (N3 : New V v q8 26 (.slice none 0 0)), F 9 L ⟨#[.slice tad bs.length cap, .pointer (some ⟨q0, 0, none⟩), .bool false, .pointer (some ⟨b0, 0, none⟩), .pointer (some ⟨b1, 0, none⟩), .pointer (some ⟨b2, 0, none⟩), .pointer (some ⟨b3, 0, none⟩), undef, undef, .pointer (some ⟨q7, 0, none⟩), .pointer (some ⟨q8, 0, none⟩), undef, .slice tad bs.length cap, .pointer (some ⟨b0, 0, none⟩), .slice tad bs.length cap, .pointer (some ⟨b1, 0, none⟩), .slice tad bs.length cap, .pointer (some ⟨b2, 0, none⟩), .slice tad bs.length cap, .pointer (some ⟨b3, 0, none⟩), .pointer (some ⟨b0, 0, none⟩), .int .u64 (n : Int), .pointer (some ⟨b1, 0, none⟩), undef, .pointer (some ⟨b2, 0, none⟩), undef, .pointer (some ⟨b3, 0, none⟩), .slice tad bs.length cap, .int .i64 (bs.length : Int), undef, undef, undef, undef, undef, undef, undef, undef, undef, undef, undef, undef, undef, undef, undef, undef, undef, undef, undef, undef, undef, undef, undef, undef, undef, undef, undef], []⟩ v) := by
    intro L hL v I q7 N2 q8 N3
    subst hL
    clear J20123 J2012 J2013 J2023 J2123 J201 J202 J203 J212 J213 J20 J21 J22 J23 J2 J10123 J1012 J1013 J101 J102 J103 J112 J113
    refine hin.out _ _ _ _ ?_
    refine wpAnyH_ready (rs := [3, 10, 11]) (by kernel_rfl) (by simp) ?_
    refine AllReadyH.cons rfl (fun K' hK' => ?_) (AllReadyH.cons rfl (fun K' hK' => ?_) (AllReadyH.cons rfl (fun K' hK' => ?_) (AllReadyH.nil)))
    · go_simp
      refine (rint_any I.r1).mono ?_
      rw [HT1.out]
      dsimp only
      rintro e v1 ⟨rfl, R, o⟩
      refine hK'.out _ _ (I.go1 o R).off (fun hS => ?_)
      exact hout.out _ _ _ _ (J223.out _ (by kernel_rfl) _ (I.go1 o R) _ (N2.go HAP.out.lt.2.1 o) _ (N3.go HAP.out.lt.2.1 o))
    · go_simp
      refine hK'.out _ _ (I.free ((Off.refl _ v).alloc _)).off (fun hS => ?_)
      exact hout.out _ _ _ _ (J1023.out _ (by kernel_rfl) _ (I.free ((Off.refl _ v).alloc _)) _ ⟨Cel.new v _ _, I.off.size⟩ _ (N2.free ((Off.refl _ v).alloc _)) _ (N3.free ((Off.refl _ v).alloc _)))
    · go_simp
      refine hK'.out _ _ (I.free ((Off.refl _ v).alloc _)).off (fun hS => ?_)
      exact hout.out _ _ _ _ (J1123.out _ (by kernel_rfl) _ (I.free ((Off.refl _ v).alloc _)) _ ⟨Cel.new v _ _, I.off.size⟩ _ (N2.free ((Off.refl _ v).alloc _)) _ (N3.free ((Off.refl _ v).alloc _)))
  have J10 : Hid (∀ (L : Array Bool) (hL : L = #[true, true, true, false, true, false, true, true, true, false, true, false, false, false, false, false, false, false]) (v : World) (I : Inv V v D0 D1 D2 D3 b0 b1 b2 b3 t0 (bs, 0) (bs, 0) (bs, 0)) (q5 : Nat) (N0 : New V v q5 30 (.int .u64 0)), F 10 L ⟨#[.slice tad bs.length cap, .pointer (some ⟨q0, 0, none⟩), .bool false, .pointer (some ⟨b0, 0, none⟩), .pointer (some ⟨b1, 0, none⟩), .pointer (some ⟨b2, 0, none⟩), .pointer (some ⟨b3, 0, none⟩), .pointer (some ⟨q5, 0, none⟩), undef, undef, undef, undef, .slice tad bs.length cap, .pointer (some ⟨b0, 0, none⟩), .slice tad bs.length cap, .pointer (some ⟨b1, 0, none⟩), .slice tad bs.length cap, .pointer (some ⟨b2, 0, none⟩), .slice tad bs.length cap, .pointer (some ⟨b3, 0, none⟩), .pointer (some ⟨b0, 0, none⟩), .int .u64 (n : Int), .pointer (some ⟨b1, 0, none⟩), undef, .pointer (some ⟨b2, 0, none⟩), undef, .pointer (some ⟨b3, 0, none⟩), .slice tad bs.length cap, .int .i64 (bs.length : Int), undef, undef, undef, undef, undef, undef, undef, undef, undef, undef, undef, undef, undef, undef, undef, undef, undef, undef, undef, undef, undef, undef, undef, undef, undef, undef, undef], []⟩ v) := by
    intro L hL v I q5 N0
    subst hL
    clear J20123 J2012 J2013 J2023 J2123 J201 J202 J203 J212 J213 J223 J21 J22 J23 J2 J10123 J1012 J1013 J1023 J1123 J112 J113 J123
    refine hin.out _ _ _ _ ?_
    refine wpAnyH_ready (rs := [3, 11, 12, 13]) (by kernel_rfl) (by simp) ?_
    refine AllReadyH.cons rfl (fun K' hK' => ?_) (AllReadyH.cons rfl (fun K' hK' => ?_) (AllReadyH.cons rfl (fun K' hK' => ?_) (AllReadyH.cons rfl (fun K' hK' => ?_) (AllReadyH.nil))))
    · go_simp
      refine (rint_any I.r1).mono ?_
      rw [HT1.out]
      dsimp only
      rintro e v1 ⟨rfl, R, o⟩
      refine hK'.out _ _ (I.go1 o R).off (fun hS => ?_)
      exact hout.out _ _ _ _ (J20.out _ (by kernel_rfl) _ (I.go1 o R) _ (N0.go HAP.out.lt.2.1 o))
    · go_simp
      refine hK'.out _ _ (I.free ((Off.refl _ v).alloc _)).off (fun hS => ?_)
      exact hout.out _ _ _ _ (J101.out _ (by kernel_rfl) _ (I.free ((Off.refl _ v).alloc _)) _ (N0.free ((Off.refl _ v).alloc _)) _ ⟨Cel.new v _ _, I.off.size⟩)
    · go_simp
      refine hK'.out _ _ (I.free ((Off.refl _ v).alloc _)).off (fun hS => ?_)
      exact hout.out _ _ _ _ (J102.out _ (by kernel_rfl) _ (I.free ((Off.refl _ v).alloc _)) _ (N0.free ((Off.refl _ v).alloc _)) _ ⟨Cel.new v _ _, I.off.size⟩)
    · go_simp
      refine hK'.out _ _ (I.free ((Off.refl _ v).alloc _)).off (fun hS => ?_)
      exact hout.out _ _ _ _ (J103.out _ (by kernel_rfl) _ (I.free ((Off.refl _ v).alloc _)) _ (N0.free ((Off.refl _ v).alloc _)) _ ⟨Cel.new v _ _, I.off.size⟩)
  have J11 : Hid (∀ (L : Array Bool) (hL : L = #[true, true, true, false, true, false, true, true, true, false, false, true, false, false, false, false, false, false]) (v : World) (I : Inv V v D0 D1 D2 D3 b0 b1 b2 b3 t0 (bs, 0) (bs, 0) (bs, 0)) (q6 : Nat) (N1 : New V v q6 2 (.int .i64 0)), F 10 L ⟨#[.slice tad bs.length cap, .pointer (some ⟨q0, 0, none⟩), .bool false, .pointer (some ⟨b0, 0, none⟩), .pointer (some ⟨b1, 0, none⟩), .pointer (some ⟨b2, 0, none⟩), .pointer (some ⟨b3, 0, none⟩), undef, .pointer (some ⟨q6, 0, none⟩), undef, undef, undef, .slice tad bs.length cap, .pointer (some ⟨b0, 0, none⟩), .slice tad bs.length cap, .pointer (some ⟨b1, 0, none⟩), .slice tad bs.length cap, .pointer (some ⟨b2, 0, none⟩), .slice tad bs.length cap, .pointer (some ⟨b3, 0, none⟩), .pointer (some ⟨b0, 0, none⟩), .int .u64 (n : Int), .pointer (some ⟨b1, 0, none⟩), undef, .pointer (some ⟨b2, 0, none⟩), undef, .pointer (some ⟨b3, 0, none⟩), .slice tad bs.length cap, .int .i64 (bs.length : Int), undef, undef, undef, undef, undef, undef, undef, undef, undef, undef, undef, undef, undef, undef, undef, undef, undef, undef, undef, undef, undef, undef, undef, undef, undef, undef, undef], []⟩ v) := by
    intro L hL v I q6 N1
    subst hL
    clear J20123 J2012 J2013 J2023 J2123 J201 J202 J203 J212 J213 J223 J20 J22 J23 J2 J10123 J1012 J1013 J1023 J1123 J102 J103 J123 J10
    refine hin.out _ _ _ _ ?_
    refine wpAnyH_ready (rs := [3, 10, 12, 13]) (by kernel_rfl) (by simp) ?_
    refine AllReadyH.cons rfl (fun K' hK' => ?_) (AllReadyH.cons rfl (fun K' hK' => ?_) (AllReadyH.cons rfl (fun K' hK' => ?_) (AllReadyH.cons rfl (fun K' hK' => ?_) (AllReadyH.nil))))
    · go_simp
      refine (rint_any I.r1).mono ?_
      rw [HT1.out]
      dsimp only
      rintro e v1 ⟨rfl, R, o⟩
      refine hK'.out _ _ (I.go1 o R).off (fun hS => ?_)
      exact hout.out _ _ _ _ (J21.out _ (by kernel_rfl) _ (I.go1 o R) _ (N1.go HAP.out.lt.2.1 o))
    · go_simp
      refine hK'.out _ _ (I.free ((Off.refl _ v).alloc _)).off (fun hS => ?_)
      exact hout.out _ _ _ _ (J101.out _ (by kernel_rfl) _ (I.free ((Off.refl _ v).alloc _)) _ ⟨Cel.new v _ _, I.off.size⟩ _ (N1.free ((Off.refl _ v).alloc _)))
    · go_simp
      refine hK'.out _ _ (I.free ((Off.refl _ v).alloc _)).off (fun hS => ?_)
      exact hout.out _ _ _ _ (J112.out _ (by kernel_rfl) _ (I.free ((Off.refl _ v).alloc _)) _ (N1.free ((Off.refl _ v).alloc _)) _ ⟨Cel.new v _ _, I.off.size⟩)
    · go_simp
      refine hK'.out _ _ (I.free ((Off.refl _ v).alloc _)).off (fun hS => ?_)
      exact hout.out _ _ _ _ (J113.out _ (by kernel_rfl) _ (I.free ((Off.refl _ v).alloc _)) _ (N1.free ((Off.refl _ v).alloc _)) _ ⟨Cel.new v _ _, I.off.size⟩)
  have J12 : Hid (∀ (L : Array Bool) (hL : L = #[true, true, true, false, true, false, true, true, true, false, false, false, true, false, false, false, false, false]) (v : World) (I : Inv V v D0 D1 D2 D3 b0 b1 b2 b3 t0 (bs, 0) (bs, 0) (bs, 0)) (q7 : Nat) (N2 : New V v q7 4 (.bool false)), F 10 L ⟨#[.slice tad bs.length cap, .pointer (some ⟨q0, 0, none⟩), .bool false, .pointer (some ⟨b0, 0, none⟩), .pointer (some ⟨b1, 0, none⟩), .pointer (some ⟨b2, 0, none⟩), .pointer (some ⟨b3, 0, none⟩), undef, undef, .pointer (some ⟨q7, 0, none⟩), undef, undef, .slice tad bs.length cap, .pointer (some ⟨b0, 0, none⟩), .slice tad bs.length cap, .pointer (some ⟨b1, 0, none⟩), .slice tad bs.length cap, .pointer (some ⟨b2, 0, none⟩), .slice tad bs.length cap, .pointer (some ⟨b3, 0, none⟩), .pointer (some ⟨b0, 0, none⟩), .int .u64 (n : Int), .pointer (some ⟨b1, 0, none⟩), undef, .pointer (some ⟨b2, 0, none⟩), undef, .pointer (some ⟨b3, 0, none⟩), .slice tad bs.length cap, .int .i64 (bs.length : Int), undef, undef, undef, undef, undef, undef, undef, undef, undef, undef, undef, undef, undef, undef, undef, undef, undef, undef, undef, undef, undef, undef, undef, undef, undef, undef, undef], []⟩ v) := by
    intro L hL v I q7 N2
    subst hL
    clear J20123 J2012 J2013 J2023 J2123 J201 J202 J203 J212 J213 J223 J20 J21 J23 J2 J10123 J1012 J1013 J1023 J1123 J101 J103 J113 J10 J11
    refine hin.out _ _ _ _ ?_
    refine wpAnyH_ready (rs := [3, 10, 11, 13]) (by kernel_rfl) (by simp) ?_
    refine AllReadyH.cons rfl (fun K' hK' => ?_) (AllReadyH.cons rfl (fun K' hK' => ?_) (AllReadyH.cons rfl (fun K' hK' => ?_) (AllReadyH.cons rfl (fun K' hK' => ?_) (AllReadyH.nil))))
    · go_simp
      refine (rint_any I.r1).mono ?_
      rw [HT1.out]
      dsimp only
      rintro e v1 ⟨rfl, R, o⟩
      refine hK'.out _ _ (I.go1 o R).off (fun hS => ?_)
      exact hout.out _ _ _ _ (J22.out _ (by kernel_rfl) _ (I.go1 o R) _ (N2.go HAP.out.lt.2.1 o))
    · go_simp
      refine hK'.out _ _ (I.free ((Off.refl _ v).alloc _)).off (fun hS => ?_)
      exact hout.out _ _ _ _ (J102.out _ (by kernel_rfl) _ (I.free ((Off.refl _ v).alloc _)) _ ⟨Cel.new v _ _, I.off.size⟩ _ (N2.free ((Off.refl _ v).alloc _)))
    · go_simp
      refine hK'.out _ _ (I.free ((Off.refl _ v).alloc _)).off (fun hS => ?_)
      exact hout.out _ _ _ _ (J112.out _ (by kernel_rfl) _ (I.free ((Off.refl _ v).alloc _)) _ ⟨Cel.new v _ _, I.off.size⟩ _ (N2.free ((Off.refl _ v).alloc _)))
    · go_simp
      refine hK'.out _ _ (I.free ((Off.refl _ v).alloc _)).off (fun hS => ?_)
      exact hout.out _ _ _ _ (J123.out _ (by kernel_rfl) _ (I.free ((Off.refl _ v).alloc _)) _ (N2.free ((Off.refl _ v).alloc _)) _ ⟨Cel.new v _ _, I.off.size⟩)
  have J13 : Hid (∀ (L : Array Bool) (hL : L = #[true, true, true, false, true, false, true, true, true, false, false, false, false, true, false, false, false, false]) (v : World) (I : Inv V v D0 D1 D2 D3 b0 b1 b2 b3 t0 (bs, 0) (bs, 0) (bs, 0)) (q8 : Nat) (N3 : New V v q8 26 (.slice none 0 0)), F 10 L ⟨#[.slice tad bs.length cap, .pointer (some ⟨q0, 0, none⟩), .bool false, .pointer (some ⟨b0, 0, none⟩), .pointer (some ⟨b1, 0, none⟩), .pointer (some ⟨b2, 0, none⟩), .pointer (some ⟨b3, 0, none⟩), undef, undef, undef, .pointer (some ⟨q8, 0, none⟩), undef, .slice tad bs.length cap, .pointer (some ⟨b0, 0, none⟩), .slice tad bs.length cap, .pointer (some ⟨b1, 0, none⟩), .slice tad bs.length cap, .pointer (some ⟨b2, 0, none⟩), .slice tad bs.length cap, .pointer (some ⟨b3, 0, none⟩), .pointer (some ⟨b0, 0, none⟩), .int .u64 (n : Int), .pointer (some ⟨b1, 0, none⟩), undef, .pointer (some ⟨b2, 0, none⟩), undef, .pointer (some ⟨b3, 0, none⟩), .slice tad bs.length cap, .int .i64 (bs.length : Int), undef, undef, undef, undef, undef, undef, undef, undef, undef, undef, undef, undef, undef, undef, undef, undef, undef, undef, undef, undef, undef, undef, undef, undef, undef, undef, undef], []⟩ v) := by
    intro L hL v I q8 N3
    subst hL
    clear J20123 J2012 J2013 J2023 J2123 J201 J202 J203 J212 J213 J223 J20 J21 J22 J2 J10123 J1012 J1013 J1023 J1123 J101 J102 J112 J10 J11 J12
    refine hin.out _ _ _ _ ?_
    refine wpAnyH_ready (rs := [3, 10, 11, 12]) (by kernel_rfl) (by simp) ?_
    refine AllReadyH.cons rfl (fun K' hK' => ?_) (AllReadyH.cons rfl (fun K' hK' => ?_) (AllReadyH.cons rfl (fun K' hK' => ?_) (AllReadyH.cons rfl (fun K' hK' => ?_) (AllReadyH.nil))))
    · go_simp
      refine (rint_any I.r1).mono ?_
      rw [HT1.out]
      dsimp only
      rintro e v1 ⟨rfl, R, o⟩
      refine hK'.out _ _ (I.go1 o R).off (fun hS => ?_)
      exact hout.out _ _ _ _ (J23.out _ (by kernel_rfl) _ (I.go1 o R) _ (N3.go HAP.out.lt.2.1 o))
    · go_simp
      refine hK'.out _ _ (I.free ((Off.refl _ v).alloc _)).off (fun hS => ?_)
      exact hout.out _ _ _ _ (J103.out _ (by kernel_rfl) _ (I.free ((Off.refl _ v).alloc _)) _ ⟨Cel.new v _ _, I.off.size⟩ _ (N3.free ((Off.refl _ v).alloc _)))
    · go_simp
      refine hK'.out _ _ (I.free ((Off.refl _ v).alloc _)).off (fun hS => ?_)
      exact hout.out _ _ _ _ (J113.out _ (by kernel_rfl) _ (I.free ((Off.refl _ v).alloc _)) _ ⟨Cel.new v _ _, I.off.size⟩ _ (N3.free ((Off.refl _ v).alloc _)))
    · go_simp
      refine hK'.out _ _ (I.free ((Off.refl _ v).alloc _)).off (fun hS => ?_)
      exact hout.out _ _ _ _ (J123.out _ (by kernel_rfl) _ (I.free ((Off.refl _ v).alloc _)) _ ⟨Cel.new v _ _, I.off.size⟩ _ (N3.free ((Off.refl _ v).alloc _)))
  have J1 : Hid (∀ (L : Array Bool) (hL : L = #[true, true, true, false, true, false, true, true, true, false, false, false, false, false, false, false, false, false]) (v : World) (I : Inv V v D0 D1 D2 D3 b0 b1 b2 b3 t0 (bs, 0) (bs, 0) (bs, 0)), F 11 L ⟨#[.slice tad bs.length cap, .pointer (some ⟨q0, 0, none⟩), .bool false, .pointer (some ⟨b0, 0, none⟩), .pointer (some ⟨b1, 0, none⟩), .pointer (some ⟨b2, 0, none⟩), .pointer (some ⟨b3, 0, none⟩), undef, undef, undef, undef, undef, .slice tad bs.length cap, .pointer (some ⟨b0, 0, none⟩), .slice tad bs.length cap, .pointer (some ⟨b1, 0, none⟩), .slice tad bs.length cap, .pointer (some ⟨b2, 0, none⟩), .slice tad bs.length cap, .pointer (some ⟨b3, 0, none⟩), .pointer (some ⟨b0, 0, none⟩), .int .u64 (n : Int), .pointer (some ⟨b1, 0, none⟩), undef, .pointer (some ⟨b2, 0, none⟩), undef, .pointer (some ⟨b3, 0, none⟩), .slice tad bs.length cap, .int .i64 (bs.length : Int), undef, undef, undef, undef, undef, undef, undef, undef, undef, undef, undef, undef, undef, undef, undef, undef, undef, undef, undef, undef, undef, undef, undef, undef, undef, undef, undef], []⟩ v) := by
    intro L hL v I
    subst hL
    clear J20123 J2012 J2013 J2023 J2123 J201 J202 J203 J212 J213 J223 J20 J21 J22 J23 J10123 J1012 J1013 J1023 J1123 J101 J102 J103 J112 J113 J123
    refine hin.out _ _ _ _ ?_
    refine wpAnyH_ready (rs := [3, 10, 11, 12, 13]) (by kernel_rfl) (by simp) ?_
    refine AllReadyH.cons rfl (fun K' hK' => ?_) (AllReadyH.cons rfl (fun K' hK' => ?_) (AllReadyH.cons rfl (fun K' hK' => ?_) (AllReadyH.cons rfl (fun K' hK' => ?_) (AllReadyH.cons rfl (fun K' hK' => ?_) (AllReadyH.nil)))))
    · go_simp
      refine (rint_any I.r1).mono ?_
      rw [HT1.out]
      dsimp only
      rintro e v1 ⟨rfl, R, o⟩
      refine hK'.out _ _ (I.go1 o R).off (fun hS => ?_)
      exact hout.out _ _ _ _ (J2.out _ (by kernel_rfl) _ (I.go1 o R))
    · go_simp
      refine hK'.out _ _ (I.free ((Off.refl _ v).alloc _)).off (fun hS => ?_)
      exact hout.out _ _ _ _ (J10.out _ (by kernel_rfl) _ (I.free ((Off.refl _ v).alloc _)) _ ⟨Cel.new v _ _, I.off.size⟩)
    · go_simp
      refine hK'.out _ _ (I.free ((Off.refl _ v).alloc _)).off (fun hS => ?_)
      exact hout.out _ _ _ _ (J11.out _ (by kernel_rfl) _ (I.free ((Off.refl _ v).alloc _)) _ ⟨Cel.new v _ _, I.off.size⟩)
    · go_simp
      refine hK'.out _ _ (I.free ((Off.refl _ v).alloc _)).off (fun hS => ?_)
      exact hout.out _ _ _ _ (J12.out _ (by kernel_rfl) _ (I.free ((Off.refl _ v).alloc _)) _ ⟨Cel.new v _ _, I.off.size⟩)
    · go_simp
      refine hK'.out _ _ (I.free ((Off.refl _ v).alloc _)).off (fun hS => ?_)
      exact hout.out _ _ _ _ (J13.out _ (by kernel_rfl) _ (I.free ((Off.refl _ v).alloc _)) _ ⟨Cel.new v _ _, I.off.size⟩)
  clear J20123 J2012 J2013 J2023 J2123 J201 J202 J203 J212 J213 J223 J20 J21 J22 J23 J2
  have J00123 : Hid (∀ (L : Array Bool) (hL : L = #[true, false, true, false, true, false, true, true, true, false, true, true, true, true, false, false, false, false]) (v : World) (I : Inv V v D0 D1 D2 D3 b0 b1 b2 b3 (bs, 0) (bs, 0) (bs, 0) (bs, 0)) (q5 : Nat) (N0 : New V v q5 30 (.int .u64 0)) (q6 : Nat) (N1 : New V v q6 2 (.int .i64 0)) (q7 : Nat) (N2 : New V v q7 4 (.bool false)) (q8 : Nat) (N3 : New V v q8 26 (.slice none 0 0)), F 8 L ⟨#[.slice tad bs.length cap, .pointer (some ⟨q0, 0, none⟩), .bool false, .pointer (some ⟨b0, 0, none⟩), .pointer (some ⟨b1, 0, none⟩), .pointer (some ⟨b2, 0, none⟩), .pointer (some ⟨b3, 0, none⟩), .pointer (some ⟨q5, 0, none⟩), .pointer (some ⟨q6, 0, none⟩), .pointer (some ⟨q7, 0, none⟩), .pointer (some ⟨q8, 0, none⟩), undef, .slice tad bs.length cap, .pointer (some ⟨b0, 0, none⟩), .slice tad bs.length cap, .pointer (some ⟨b1, 0, none⟩), .slice tad bs.length cap, .pointer (some ⟨b2, 0, none⟩), .slice tad bs.length cap, .pointer (some ⟨b3, 0, none⟩), .pointer (some ⟨b0, 0, none⟩), undef, .pointer (some ⟨b1, 0, none⟩), undef, .pointer (some ⟨b2, 0, none⟩), undef, .pointer (some ⟨b3, 0, none⟩), .slice tad bs.length cap, .int .i64 (bs.length : Int), undef, undef, undef, undef, undef, undef, undef, undef, undef, undef, undef, undef, undef, undef, undef, undef, undef, undef, undef, undef, undef, undef, undef, undef, undef, undef, undef], []⟩ v) := by
    intro L hL v I q5 N0 q6 N1 q7 N2 q8 N3
    subst hL
    clear J1012 J1013 J1023 J1123 J101 J102 J103 J112 J113 J123 J10 J11 J12 J13 J1
    refine hin.out _ _ _ _ ?_
    refine wpAnyH_ready (rs := [1]) (by kernel_rfl) (by simp) ?_
    refine AllReadyH.cons rfl (fun K' hK' => ?_) (AllReadyH.nil)
    · go_simp
      refine (rnum_any I.r0).mono ?_
      rw [HT0.out]
      dsimp only
      rintro e v1 ⟨rfl, R, o⟩
      refine hK'.out _ _ (I.go0 o R).off (fun hS => ?_)
      exact hout.out _ _ _ _ (J10123.out _ (by kernel_rfl) _ (I.go0 o R) _ (N0.go HAP.out.lt.1 o) _ (N1.go HAP.out.lt.1 o) _ (N2.go HAP.out.lt.1 o) _ (N3.go HAP.out.lt.1 o))
  have J0012 : Hid (∀ (L : Array Bool) (hL : L = #[true, false, true, false, true, false, true, true, true, false, true, true, true, false, false, false, false, false]) (v : World) (I : Inv V v D0 D1 D2 D3 b0 b1 b2 b3 (bs, 0) (bs, 0) (bs, 0) (bs, 0)) (q5 : Nat) (N0 : New V v q5 30 (.int .u64 0)) (q6 : Nat) (N1 : New V v q6 2 (.int .i64 0)) (q7 : Nat) (N2 : New V v q7 4 (.bool false)), F 9 L ⟨#[.slice tad bs.length cap, .pointer (some ⟨q0, 0, none⟩), .bool false, .pointer (some ⟨b0, 0, none⟩), .pointer (some ⟨b1, 0, none⟩), .pointer (some ⟨b2, 0, none⟩), .pointer (some ⟨b3, 0, none⟩), .pointer (some ⟨q5, 0, none⟩), .pointer (some ⟨q6, 0, none⟩), .pointer (some ⟨q7, 0, none⟩), undef, undef, .slice tad bs.length cap, .pointer (some ⟨b0, 0, none⟩), .slice tad bs.length cap, .pointer (some ⟨b1, 0, none⟩), .slice tad bs.length cap, .pointer (some ⟨b2, 0, none⟩), .slice tad bs.length cap, .pointer (some ⟨b3, 0, none⟩), .pointer (some ⟨b0, 0, none⟩), undef, .pointer (some ⟨b1, 0, none⟩), undef, .pointer (some ⟨b2, 0, none⟩), undef, .pointer (some ⟨b3, 0, none⟩), .slice tad bs.length cap, .int .i64 (bs.length : Int), undef, undef, undef, undef, undef, undef, undef, undef, undef, undef, undef, undef, undef, undef, undef, undef, undef, undef, undef, undef, undef, undef, undef, undef, undef, undef, undef], []⟩ v) := by
    intro L hL v I q5 N0 q6 N1 q7 N2
    subst hL
    clear J10123 J1013 J1023 J1123 J101 J102 J103 J112 J113 J123 J10 J11 J12 J13 J1
    refine hin.out _ _ _ _ ?_
    refine wpAnyH_ready (rs := [1, 13]) (by kernel_rfl) (by simp) ?_
    refine AllReadyH.cons rfl (fun K' hK' => ?_) (AllReadyH.cons rfl (fun K' hK' => ?_) (AllReadyH.nil))
    · go_simp
      refine (rnum_any I.r0).mono ?_
      rw [HT0.out]
      dsimp only
      rintro e v1 ⟨rfl, R, o⟩
      refine hK'.out _ _ (I.go0 o R).off (fun hS => ?_)
      exact hout.out _ _ _ _ (J1012.out _ (by kernel_rfl) _ (I.go0 o R) _ (N0.go HAP.out.lt.1 o) _ (N1.go HAP.out.lt.1 o) _ (N2.go HAP.out.lt.1 o))
    · go_simp
      refine hK'.out _ _ (I.free ((Off.refl _ v).alloc _)).off (fun hS => ?_)
      exact hout.out _ _ _ _ (J00123.out _ (by kernel_rfl) _ (I.free ((Off.refl _ v).alloc _)) _ (N0.free ((Off.refl _ v).alloc _)) _ (N1.free ((Off.refl _ v).alloc _)) _ (N2.free ((Off.refl _ v).alloc _)) _ ⟨Cel.new v _ _, I.off.size⟩)
  have J0013 : Hid (∀ (L : Array Bool) (hL : L = #[true, false, true, false, true, false, true, true, true, false, true, true, false, true, false, false, false, false]) (v : World) (I : Inv V v D0 D1 D2 D3 b0 b1 b2 b3 (bs, 0) (bs, 0) (bs, 0) (bs, 0)) (q5 : Nat) (N0 : New V v q5 30 (.int .u64 0)) (q6 : Nat) (N1 : New V v q6 2 (.int .i64 0)) (q8 : Nat) (N3 : New V v q8 26 (.slice none 0 0)), F 9 L ⟨#[.slice tad bs.length cap, .pointer (some ⟨q0, 0, none⟩), .bool false, .pointer (some ⟨b0, 0, none⟩), .pointer (some ⟨b1, 0, none⟩), .pointer (some ⟨b2, 0, none⟩), .pointer (some ⟨b3, 0, none⟩), .pointer (some ⟨q5, 0, none⟩), .pointer (some ⟨q6, 0, none⟩), undef, .pointer (some ⟨q8, 0, none⟩), undef, .slice tad bs.length cap, .pointer (some ⟨b0, 0, none⟩), .slice tad bs.length cap, .pointer (some ⟨b1, 0, none⟩), .slice tad bs.length cap, .pointer (some ⟨b2, 0, none⟩), .slice tad bs.length cap, .pointer (some ⟨b3, 0, none⟩), .pointer (some ⟨b0, 0, none⟩), undef, .pointer (some ⟨b1, 0, none⟩), undef, .pointer (some ⟨b2, 0, none⟩), undef, .pointer (some ⟨b3, 0, none⟩), .slice tad bs.length cap, .int .i64 (bs.length : Int), undef, undef, undef, undef, undef, undef, undef, undef, undef, undef, undef, undef, undef, undef, undef, undef, undef, undef, undef, undef, undef, undef, undef, undef, undef, undef, undef], []⟩ v) := by
    intro L hL v I q5 N0 q6 N1 q8 N3
    subst hL
    clear J10123 J1012 J1023 J1123 J101 J102 J103 J112 J113 J123 J10 J11 J12 J13 J1 J0012
    refine hin.out _ _ _ _ ?_
    refine wpAnyH_ready (rs := [1, 12]) (by kernel_rfl) (by simp) ?_
    refine AllReadyH.cons rfl (fun K' hK' => ?_) (AllReadyH.cons rfl (fun K' hK' => ?_) (AllReadyH.nil))
    · go_simp
      refine (rnum_any I.r0).mono ?_
      rw [HT0.out]
      dsimp only
      rintro e v1 ⟨rfl, R, o⟩
      refine hK'.out _ _ (I.go0 o R).off (fun hS => ?_)
      exact hout.out _ _ _ _ (J1013.out _ (by kernel_rfl) _ (I.go0 o R) _ (N0.go HAP.out.lt.1 o) _ (N1.go HAP.out.lt.1 o) _ (N3.go HAP.out.lt.1 o))
    · go_simp
      refine hK'.out _ _ (I.free ((Off.refl _ v).alloc _)).off (fun hS => ?_)
      exact hout.out _ _ _ _ (J00123.out _ (by kernel_rfl) _ (I.free ((Off.refl _ v).alloc _)) _ (N0.free ((Off.refl _ v).alloc _)) _ (N1.free ((Off.refl _ v).alloc _)) _ ⟨Cel.new v _ _, I.off.size⟩ _ (N3.free ((Off.refl _ v).alloc _)))
  have J0023 : Hid (∀ (L : Array Bool) (hL : L = #[true, false, true, false, true, false, true, true, true, false, true, false, true, true, false, false, false, false]) (v : World) (I : Inv V v D0 D1 D2 D3 b0 b1 b2 b3 (bs, 0) (bs, 0) (bs, 0) (bs, 0)) (q5 : Nat) (N0 : New V v q5 30 (.int .u64 0)) (q7 : Nat) (N2 : New V v q7 4 (.bool false)) (q8 : Nat) (N3 : New V v q8 26 (.slice none 0 0)), F 9 L ⟨#[.slice tad bs.length cap, .pointer (some ⟨q0, 0, none⟩), .bool false, .pointer (some ⟨b0, 0, none⟩), .pointer (some ⟨b1, 0, none⟩), .pointer (some ⟨b2, 0, none⟩), .pointer (some ⟨b3, 0, none⟩), .pointer (some ⟨q5, 0, none⟩), undef, .pointer (some ⟨q7, 0, none⟩), .pointer (some ⟨q8, 0, none⟩), undef, .slice tad bs.length cap, .pointer (some ⟨b0, 0, none⟩), .slice tad bs.length cap, .pointer (some ⟨b1, 0, none⟩), .slice tad bs.length cap, .pointer (some ⟨b2, 0, none⟩), .slice tad bs.length cap, .pointer (some ⟨b3, 0, none⟩), .pointer (some ⟨b0, 0, none⟩), undef, .pointer (some ⟨b1, 0, none⟩), undef, .pointer (some ⟨b2, 0, none⟩), undef, .pointer (some ⟨b3, 0, none⟩), .slice tad bs.length cap, .int .i64 (bs.length : Int), undef, undef, undef, undef, undef, undef, undef, undef, undef, undef, undef, undef, undef, undef, undef, undef, undef, undef, undef, undef, undef, undef, undef, undef, undef, undef, undef], []⟩ v) := by
    intro L hL v I q5 N0 q7 N2 q8 N3
    subst hL
    clear J10123 J1012 J1013 J1123 J101 J102 J103 J112 J113 J123 J10 J11 J12 J13 J1 J0012 J0013
    refine hin.out _ _ _ _ ?_
    refine wpAnyH_ready (rs := [1, 11]) (by kernel_rfl) (by simp) ?_
    refine AllReadyH.cons rfl (fun K' hK' => ?_) (AllReadyH.cons rfl (fun K' hK' => ?_) (AllReadyH.nil))
    · go_simp
      refine (rnum_any I.r0).mono ?_
      rw [HT0.out]
      dsimp only
      rintro e v1 ⟨rfl, R, o⟩
      refine hK'.out _ _ (I.go0 o R).off (fun hS => ?_)
      exact hout.out _ _ _ _ (J1023.out _ (by kernel_rfl) _ (I.go0 o R) _ (N0.go HAP.out.lt.1 o) _ (N2.go HAP.out.lt.1 o) _ (N3.go HAP.out.lt.1 o))
    · go_simp
      refine hK'.out _ _ (I.free ((Off.refl _ v).alloc _)).off (fun hS => ?_)
      exact hout.out _ _ _ _ (J00123.out _ (by kernel_rfl) _ (I.free ((Off.refl _ v).alloc _)) _ (N0.free ((Off.refl _ v).alloc _)) _ ⟨Cel.new v _ _, I.off.size⟩ _ (N2.free ((Off.refl _ v).alloc _)) _ (N3.free ((Off.refl _ v).alloc _)))
  have J0123 : Hid (∀ (L : Array Bool) (hL : L = #[true, false, true, false, true, false, true, true, true, false, false, true, true, true, false, false, false, false]) (v : World) (I : Inv V v D0 D1 D2 D3 b0 b1 b2 b3 (bs, 0) (bs, 0) (bs, 0) (bs, 0)) (q6 : Nat) (N1 : New V v q6 2 (.int .i64 0)) (q7 : Nat) (N2 : New V v q7 4 (.bool false)) (q8 : Nat) (N3 : New V v q8 26 (.slice none 0 0)), F 9 L ⟨#[.slice tad bs.length cap, .pointer (some ⟨q0, 0, none⟩), .bool false, .pointer (some ⟨b0, 0, none⟩), .pointer (some ⟨b1, 0, none⟩), .pointer (some ⟨b2, 0, none⟩), .pointer (some ⟨b3, 0, none⟩), undef, .pointer (some ⟨q6, 0, none⟩), .pointer (some ⟨q7, 0, none⟩), .pointer (some ⟨q8, 0, none⟩), undef, .slice tad bs.length cap, .pointer (some ⟨b0, 0, none⟩), .slice tad bs.length cap, .pointer (some ⟨b1, 0, none⟩), .slice tad bs.length cap, .pointer (some ⟨b2, 0, none⟩), .slice tad bs.length cap, .pointer (some ⟨b3, 0, none⟩), .pointer (some ⟨b0, 0, none⟩), undef, .pointer (some ⟨b1, 0, none⟩), undef, .pointer (some ⟨b2, 0, none⟩), undef, .pointer (some ⟨b3, 0, none⟩), .slice tad bs.length cap, .int .i64 (bs.length : Int), undef, undef, undef, undef, undef, undef, undef, undef, undef, undef, undef, undef, undef, undef, undef, undef, undef, undef, undef, undef, undef, undef, undef, undef, undef, undef, undef], []⟩ v) := by
    intro L hL v I q6 N1 q7 N2 q8 N3
    subst hL
    clear J10123 J1012 J1013 J1023 J101 J102 J103 J112 J113 J123 J10 J11 J12 J13 J1 J0012 J0013 J0023
    refine hin.out _ _ _ _ ?_
    refine wpAnyH_ready (rs := [1, 10]) (by kernel_rfl) (by simp) ?_
    refine AllReadyH.cons rfl (fun K' hK' => ?_) (AllReadyH.cons rfl (fun K' hK' => ?_) (AllReadyH.nil))
    · go_simp
      refine (rnum_any I.r0).mono ?_
      rw [HT0.out]
      dsimp only
      rintro e v1 ⟨rfl, R, o⟩
      refine hK'.out _ _ (I.go0 o R).off (fun hS => ?_)
      exact hout.out _ _ _ _ (J1123.out _ (by kernel_rfl) _ (I.go0 o R) _ (N1.go HAP.out.lt.1 o) _ (N2.go HAP.out.lt.1 o) _ (N3.go HAP.out.lt.1 o))
    · go_simp
      refine hK'.out _ _ (I.free ((Off.refl _ v).alloc _)).off (fun hS => ?_)
      exact hout.out _ _ _ _ (J00123.out _ (by kernel_rfl) _ (I.free ((Off.refl _ v).alloc _)) _ ⟨Cel.new v _ _, I.off.size⟩ _ (N1.free ((Off.refl _ v).alloc _)) _ (N2.free ((Off.refl _ v).alloc _)) _ (N3.free ((Off.refl _ v).alloc _)))
  have J001 : Hid (∀ (L : Array Bool) (hL : L = #[true, false, true, false, true, false, true, true, true, false, true, true, false, false, false, false, false, false]) (v : World) (I : Inv V v D0 D1 D2 D3 b0 b1 b2 b3 (bs, 0) (bs, 0) (bs, 0) (bs, 0)) (q5 : Nat) (N0 : New V v q5 30 (.int .u64 0)) (q6 : Nat) (N1 : New V v q6 2 (.int .i64 0)), F 10 L ⟨#[.slice tad bs.length cap, .pointer (some ⟨q0, 0, none⟩), .bool false, .pointer (some ⟨b0, 0, none⟩), .pointer (some ⟨b1, 0, none⟩), .pointer (some ⟨b2, 0, none⟩), .pointer (some ⟨b3, 0, none⟩), .pointer (some ⟨q5, 0, none⟩), .pointer (some ⟨q6, 0, none⟩), undef, undef, undef, .slice tad bs.length cap, .pointer (some ⟨b0, 0, none⟩), .slice tad bs.length cap, .pointer (some ⟨b1, 0, none⟩), .slice tad bs.length cap, .pointer (some ⟨b2, 0, none⟩), .slice tad bs.length cap, .pointer (some ⟨b3, 0, none⟩), .pointer (some ⟨b0, 0, none⟩), undef, .pointer (some ⟨b1, 0, none⟩), undef, .pointer (some ⟨b2, 0, none⟩), undef, .pointer (some ⟨b3, 0, none⟩), .slice tad bs.length cap, .int .i64 (bs.length : Int), undef, undef, undef, undef, undef, undef, undef, undef, undef, undef, undef, undef, undef, undef, undef, undef, undef, undef, undef, undef, undef, undef, undef, undef, undef, undef, undef], []⟩ v) := by
    intro L hL v I q5 N0 q6 N1
    subst hL
    clear J10123 J1012 J1013 J1023 J1123 J102 J103 J112 J113 J123 J10 J11 J12 J13 J1 J00123 J0023 J0123
    refine hin.out _ _ _ _ ?_
    refine wpAnyH_ready (rs := [1, 12, 13]) (by kernel_rfl) (by simp) ?_
    refine AllReadyH.cons rfl (fun K' hK' => ?_) (AllReadyH.cons rfl (fun K' hK' => ?_) (AllReadyH.cons rfl (fun K' hK' => ?_) (AllReadyH.nil)))
    · go_simp
      refine (rnum_any I.r0).mono ?_
      rw [HT0.out]
      dsimp only
      rintro e v1 ⟨rfl, R, o⟩
      refine hK'.out _ _ (I.go0 o R).off (fun hS => ?_)
      exact hout.out _ _ _ _ (J101.out _ (by kernel_rfl) _ (I.go0 o R) _ (N0.go HAP.out.lt.1 o) _ (N1.go HAP.out.lt.1 o))
    · go_simp
      refine hK'.out _ _ (I.free ((Off.refl _ v).alloc _)).off (fun hS => ?_)
      exact hout.out _ _ _ _ (J0012.out _ (by kernel_rfl) _ (I.free ((Off.refl _ v).alloc _)) _ (N0.free ((Off.refl _ v).alloc _)) _ (N1.free ((Off.refl _ v).alloc _)) _ ⟨Cel.new v _ _, I.off.size⟩)
    · go_simp
      refine hK'.out _ _ (I.free ((Off.refl _ v).alloc _)).off (fun hS => ?_)
      exact hout.out _ _ _ _ (J0013.out _ (by kernel_rfl) _ (I.free ((Off.refl _ v).alloc _)) _ (N0.free ((Off.refl _ v).alloc _)) _ (N1.free ((Off.refl _ v).alloc _)) _ ⟨Cel.new v _ _, I.off.size⟩)
  have J002 : Hid (∀ (L : Array Bool) (hL : L = #[true, false, true, false, true, false, true, true, true, false, true, false, true, false, false, false, false, false]) (v : World) (I : Inv V v D0 D1 D2 D3 b0 b1 b2 b3 (bs, 0) (bs, 0) (bs, 0) (bs, 0)) (q5 : Nat) (N0 : New V v q5 30 (.int .u64 0)) (q7 : Nat) (N2 : New V v q7 4 (.bool false)), F 10 L ⟨#[.slice tad bs.length cap, .pointer (some ⟨q0, 0, none⟩), .bool false, .pointer (some ⟨b0, 0, none⟩), .pointer (some ⟨b1, 0, none⟩), .pointer (some ⟨b2, 0, none⟩), .pointer (some ⟨b3, 0, none⟩), .pointer (some ⟨q5, 0, none⟩), undef, .pointer (some ⟨q7, 0, none⟩), undef, undef, .slice tad bs.length cap, .pointer (some ⟨b0, 0, none⟩), .slice tad bs.length cap, .pointer (some ⟨b1, 0, none⟩), .slice tad bs.length cap, .pointer (some ⟨b2, 0, none⟩), .slice tad bs.length cap, .pointer (some ⟨b3, 0, none⟩), .pointer (some ⟨b0, 0, none⟩), undef, .pointer (some ⟨b1, 0, none⟩), undef, .pointer (some ⟨b2, 0, none⟩), undef, .pointer (some ⟨b3, 0, none⟩), .slice tad bs.length cap, .int .i64 (bs.length : Int), undef, undef, undef, undef, undef, undef, undef, undef, undef, undef, undef, undef, undef, undef, undef, undef, undef, undef, undef, undef, undef, undef, undef, undef, undef, undef, undef], []⟩ v) := by
    intro L hL v I q5 N0 q7 N2
    subst hL
    clear J10123 J1012 J1013 J1023 J1123 J101 J103 J112 J113 J123 J10 J11 J12 J13 J1 J00123 J0013 J0123 J001
    refine hin.out _ _ _ _ ?_
    refine wpAnyH_ready (rs := [1, 11, 13]) (by kernel_rfl) (by simp) ?_
    refine AllReadyH.cons rfl (fun K' hK' => ?_) (AllReadyH.cons rfl (fun K' hK' => ?_) (AllReadyH.cons rfl (fun K' hK' => ?_) (AllReadyH.nil)))
    · go_simp
      refine (rnum_any I.r0).mono ?_
      rw [HT0.out]
      dsimp only
      rintro e v1 ⟨rfl, R, o⟩
      refine hK'.out _ _ (I.go0 o R).off (fun hS => ?_)
      exact hout.out _ _ _ _ (J102.out _ (by kernel_rfl) _ (I.go0 o R) _ (N0.go HAP.out.lt.1 o) _ (N2.go HAP.out.lt.1 o))
    · go_simp
      refine hK'.out _ _ (I.free ((Off.refl _ v).alloc _)).off (fun hS => ?_)
      exact hout.out _ _ _ _ (J0012.out _ (by kernel_rfl) _ (I.free ((Off.refl _ v).alloc _)) _ (N0.free ((Off.refl _ v).alloc _)) _ ⟨Cel.new v _ _, I.off.size⟩ _ (N2.free ((Off.refl _ v).alloc _)))
    · go_simp
      refine hK'.out _ _ (I.free ((Off.refl _ v).alloc _)).off (fun hS => ?_)
      exact hout.out _ _ _ _ (J0023.out _ (by kernel_rfl) _ (I.free ((Off.refl _ v).alloc _)) _ (N0.free ((Off.refl _ v).alloc _)) _ (N2.free ((Off.refl _ v).alloc _)) _ ⟨Cel.new v _ _, I.off.size⟩)
  have J003 : Hid (∀ (L : Array Bool) (hL : L = #[true, false, true, false, true, false, true, true, true, false, true, false, false, true, false, false, false, false]) (v : World) (I : Inv V v D0 D1 D2 D3 b0 b1 b2 b3 (bs, 0) (bs, 0) (bs, 0) (bs, 0)) (q5 : Nat) (N0 : New V v q5 30 (.int .u64 0)) (q8 : Nat) (N3 : New V v q8 26 (.slice none 0 0)), F 10 L ⟨#[.slice tad bs.length cap, .pointer (some ⟨q0, 0, none⟩), .bool false, .pointer (some ⟨b0, 0, none⟩), .pointer (some ⟨b1, 0, none⟩), .pointer (some ⟨b2, 0, none⟩), .pointer (some ⟨b3, 0, none⟩), .pointer (some ⟨q5, 0, none⟩), undef, undef, .pointer (some ⟨q8, 0, none⟩), undef, .slice tad bs.length cap, .pointer (some ⟨b0, 0, none⟩), .slice tad bs.length cap, .pointer (some ⟨b1, 0, none⟩), .slice tad bs.length cap, .pointer (some ⟨b2, 0, none⟩), .slice tad bs.length cap, .pointer (some ⟨b3, 0, none⟩), .pointer (some ⟨b0, 0, none⟩), undef, .pointer (some ⟨b1, 0, none⟩), undef, .pointer (some ⟨b2, 0, none⟩), undef, .pointer (some ⟨b3, 0, none⟩), .slice tad bs.length cap, .int .i64 (bs.length : Int), undef, undef, undef, undef, undef, undef, undef, undef, undef, undef, undef, undef, undef, undef, undef, undef, undef, undef, undef, undef, undef, undef, undef, undef, undef, undef, undef], []⟩ v) := by
    intro L hL v I q5 N0 q8 N3
    subst hL
    clear J10123 J1012 J1013 J1023 J1123 J101 J102 J112 J113 J123 J10 J11 J12 J13 J1 J00123 J0012 J0123 J001 J002
    refine hin.out _ _ _ _ ?_
    refine wpAnyH_ready (rs := [1, 11, 12]) (by kernel_rfl) (by simp) ?_
    refine AllReadyH.cons rfl (fun K' hK' => ?_) (AllReadyH.cons rfl (fun K' hK' => ?_) (AllReadyH.cons rfl (fun K' hK' => ?_) (AllReadyH.nil)))
    · go_simp
      refine (rnum_any I.r0).mono ?_
      rw [HT0.out]
      dsimp only
      rintro e v1 ⟨rfl, R, o⟩
      refine hK'.out _ _ (I.go0 o R).off (fun hS => ?_)
      exact hout.out _ _ _ _ (J103.out _ (by kernel_rfl) _ (I.go0 o R) _ (N0.go HAP.out.lt.1 o) _ (N3.go HAP.out.lt.1 o))
    · go_simp
      refine hK'.out _ _ (I.free ((Off.refl _ v).alloc _)).off (fun hS => ?_)
      exact hout.out _ _ _ _ (J0013.out _ (by kernel_rfl) _ (I.free ((Off.refl _ v).alloc _)) _ (N0.free ((Off.refl _ v).alloc _)) _ ⟨Cel.new v _ _, I.off.size⟩ _ (N3.free ((Off.refl _ v).alloc _)))
    · go_simp
      refine hK'.out _ _ (I.free ((Off.refl _ v).alloc _)).off (fun hS => ?_)
      exact hout.out _ _ _ _ (J0023.out _ (by kernel_rfl) _ (I.free ((Off.refl _ v).alloc _)) _ (N0.free ((Off.refl _ v).alloc _)) _ ⟨Cel.new v _ _, I.off.size⟩ _ (N3.free ((Off.refl _ v).alloc _)))
  have J012 : Hid (∀ (L : Array Bool) (hL : L = #[true, false, true, false, true, false, true, true, true, false, false, true, true, false, false, false, false, false]) (v : World) (I : Inv V v D0 D1 D2 D3 b0 b1 b2 b3 (bs, 0) (bs, 0) (bs, 0) (bs, 0)) (q6 : Nat) (N1 : New V v q6 2 (.int .i64 0)) (q7 : Nat) (N2 : New V v q7 4 (.bool false)), F 10 L ⟨#[.slice tad bs.length cap, .pointer (some ⟨q0, 0, none⟩), .bool false, .pointer (some ⟨b0, 0, none⟩), .pointer (some ⟨b1, 0, none⟩), .pointer (some ⟨b2, 0, none⟩), .pointer (some ⟨b3, 0, none⟩), undef, .pointer (some ⟨q6, 0, none⟩), .pointer (some ⟨q7, 0, none⟩), undef, undef, .slice tad bs.length cap, .pointer (some ⟨b0, 0, none⟩), .slice tad bs.length cap, .pointer (some ⟨b1, 0, none⟩), .slice tad bs.length cap, .pointer (some ⟨b2, 0, none⟩), .slice tad bs.length cap, .pointer (some ⟨b3, 0, none⟩), .pointer (some ⟨b0, 0, none⟩), undef, .pointer (some ⟨b1, 0, none⟩), undef, .pointer (some ⟨b2, 0, none⟩), undef, .pointer (some ⟨b3, 0, none⟩), .slice tad bs.length cap, .int .i64 (bs.length : Int), undef, undef, undef, undef, undef, undef, undef, undef, undef, undef, undef, undef, undef, undef, undef, undef, undef, undef, undef, undef, undef, undef, undef, undef, undef, undef, undef], []⟩ v) := by
    intro L hL v I q6 N1 q7 N2
    subst hL
    clear J10123 J1012 J1013 J1023 J1123 J101 J102 J103 J113 J123 J10 J11 J12 J13 J1 J00123 J0013 J0023 J001 J002 J003
    refine hin.out _ _ _ _ ?_
    refine wpAnyH_ready (rs := [1, 10, 13]) (by kernel_rfl) (by simp) ?_
    refine AllReadyH.cons rfl (fun K' hK' => ?_) (AllReadyH.cons rfl (fun K' hK' => ?_) (AllReadyH.cons rfl (fun K' hK' => ?_) (AllReadyH.nil)))
    · go_simp
      refine (rnum_any I.r0).mono ?_
      rw [HT0.out]
      dsimp only
      rintro e v1 ⟨rfl, R, o⟩
      refine hK'.out _ _ (I.go0 o R).off (fun hS => ?_)
      exact hout.out _ _ _ _ (J112.out _ (by kernel_rfl) _ (I.go0 o R) _ (N1.go HAP.out.lt.1 o) _ (N2.go HAP.out.lt.1 o))
    · go_simp
      refine hK'.out _ _ (I.free ((Off.refl _ v).alloc _)).off (fun hS => ?_)
      exact hout.out _ _ _ _ (J0012.out _ (by kernel_rfl) _ (I.free ((Off.refl _ v).alloc _)) _ ⟨Cel.new v _ _, I.off.size⟩ _ (N1.free ((Off.refl _ v).alloc _)) _ (N2.free ((Off.refl _ v).alloc _)))
    · go_simp
      refine hK'.out _ _ (I.free ((Off.refl _ v).alloc _)).off (fun hS => ?_)
      exact hout.out _ _ _ _ (J0123.out _ (by kernel_rfl) _ (I.free ((Off.refl _ v).alloc _)) _ (N1.free ((Off.refl _ v).alloc _)) _ (N2.free ((Off.refl _ v).alloc _)) _ ⟨Cel.new v _ _, I.off.size⟩)
  have J013 : Hid (∀ (L : Array Bool) (hL : L = #[true, false, true, false, true, false, true, true, true, false, false, true, false, true, false, false, false, false]) (v : World) (I : Inv V v D0 D1 D2 D3 b0 b1 b2 b3 (bs, 0) (bs, 0) (bs, 0) (bs, 0)) (q6 : Nat) (N1 : New V v q6 2 (.int .i64 0)) (q8 : Nat) (N3 : New V v q8 26 (.slice none 0 0)), F 10 L ⟨#[.slice tad bs.length cap, .pointer (some ⟨q0, 0, none⟩), .bool false, .pointer (some ⟨b0, 0, none⟩), .pointer (some ⟨b1, 0, none⟩), .pointer (some ⟨b2, 0, none⟩), .pointer (some ⟨b3, 0, none⟩), undef, .pointer (some ⟨q6, 0, none⟩), undef, .pointer (some ⟨q8, 0, none⟩), undef, .slice tad bs.length cap, .pointer (some ⟨b0, 0, none⟩), .slice tad bs.length cap, .pointer (some ⟨b1, 0, none⟩), .slice tad bs.length cap, .pointer (some ⟨b2, 0, none⟩), .slice tad bs.length cap, .pointer (some ⟨b3, 0, none⟩), .pointer (some ⟨b0, 0, none⟩), undef, .pointer (some ⟨b1, 0, none⟩), undef, .pointer (some ⟨b2, 0, none⟩), undef, .pointer (some ⟨b3, 0, none⟩), .slice tad bs.length cap, .int .i64 (bs.length : Int), undef, undef, undef, undef, undef, undef, undef, undef, undef, undef, undef, undef, undef, undef, undef, undef, undef, undef, undef, undef, undef, undef, undef, undef, undef, undef, undef], []⟩ v) := by
    intro L hL v I q6 N1 q8 N3
    subst hL
    clear J10123 J1012 J1013 J1023 J1123 J101 J102 J103 J112 J123 J10 J11 J12 J13 J1 J00123 J0012 J0023 J001 J002 J003 J012
    refine hin.out _ _ _ _ ?_
    refine wpAnyH_ready (rs := [1, 10, 12]) (by kernel_rfl) (by simp) ?_
    refine AllReadyH.cons rfl (fun K' hK' => ?_) (AllReadyH.cons rfl (fun K' hK' => ?_) (AllReadyH.cons rfl (fun K' hK' => ?_) (AllReadyH.nil)))
    · go_simp
      refine (rnum_any I.r0).mono ?_
      rw [HT0.out]
      dsimp only
      rintro e v1 ⟨rfl, R, o⟩
      refine hK'.out _ _ (I.go0 o R).off (fun hS => ?_)
      exact hout.out _ _ _ _ (J113.out _ (by kernel_rfl) _ (I.go0 o R) _ (N1.go HAP.out.lt.1 o) _ (N3.go HAP.out.lt.1 o))
    · go_simp
      refine hK'.out _ _ (I.free ((Off.refl _ v).alloc _)).off (fun hS => ?_)
      exact hout.out _ _ _ _ (J0013.out _ (by kernel_rfl) _ (I.free ((Off.refl _ v).alloc _)) _ ⟨Cel.new v _ _, I.off.size⟩ _ (N1.free ((Off.refl _ v).alloc _)) _ (N3.free ((Off.refl _ v).alloc _)))
    · go_simp
      refine hK'.out _ _ (I.free ((Off.refl _ v).alloc _)).off (fun hS => ?_)
      exact hout.out _ _ _ _ (J0123.out _ (by kernel_rfl) _ (I.free ((Off.refl _ v).alloc _)) _ (N1.free ((Off.refl _ v).alloc _)) _ ⟨Cel.new v _ _, I.off.size⟩ _ (N3.free ((Off.refl _ v).alloc _)))
  have J023 : Hid (∀ (L : Array Bool) (hL : L = #[true, false, true, false, true, false, true, true, true, false, false, false, true, true, false, false, false, false]) (v : World) (I : Inv V v D0 D1 D2 D3 b0 b1 b2 b3 (bs, 0) (bs, 0) (bs, 0) (bs, 0)) (q7 : Nat) (N2 : New V v q7 4 (.bool false)) (q8 : Nat) (N3 : New V v q8 26 (.slice none 0 0)), F 10 L ⟨#[.slice tad bs.length cap, .pointer (some ⟨q0, 0, none⟩), .bool false, .pointer (some ⟨b0, 0, none⟩), .pointer (some ⟨b1, 0, none⟩), .pointer (some ⟨b2, 0, none⟩), .pointer (some ⟨b3, 0, none⟩), undef, undef, .pointer (some ⟨q7, 0, none⟩), .pointer (some ⟨q8, 0, none⟩), undef, .slice tad bs.length cap, .pointer (some ⟨b0, 0, none⟩), .slice tad bs.length cap, .pointer (some ⟨b1, 0, none⟩), .slice tad bs.length cap, .pointer (some ⟨b2, 0, none⟩), .slice tad bs.length cap, .pointer (some ⟨b3, 0, none⟩), .pointer (some ⟨b0, 0, none⟩), undef, .pointer (some ⟨b1, 0, none⟩), undef, .pointer (some ⟨b2, 0, none⟩), undef, .pointer (some ⟨b3, 0, none⟩), .slice tad bs.length cap, .int .i64 (bs.length : Int), undef, undef, undef, undef, undef, undef, undef, undef, undef, undef, undef, undef, undef, undef, undef, undef, undef, undef, undef, undef, undef, undef, undef, undef, undef, undef, undef], []⟩ v) := by
    intro L hL v I q7 N2 q8 N3
    subst hL
    clear J10123 J1012 J1013 J1023 J1123 J101 J102 J103 J112 J113 J10 J11 J12 J13 J1 J00123 J0012 J0013 J001 J002 J003 J012 J013
    refine hin.out _ _ _ _ ?_
    refine wpAnyH_ready (rs := [1, 10, 11]) (by kernel_rfl) (by simp) ?_
    refine AllReadyH.cons rfl (fun K' hK' => ?_) (AllReadyH.cons rfl (fun K' hK' => ?_) (AllReadyH.cons rfl (fun K' hK' => ?_) (AllReadyH.nil)))
    · go_simp
      refine (rnum_any I.r0).mono ?_
      rw [HT0.out]
      dsimp only
      rintro e v1 ⟨rfl, R, o⟩
      refine hK'.out _ _ (I.go0 o R).off (fun hS => ?_)
      exact hout.out _ _ _ _ (J123.out _ (by kernel_rfl) _ (I.go0 o R) _ (N2.go HAP.out.lt.1 o) _ (N3.go HAP.out.lt.1 o))
    · go_simp
      refine hK'.out _ _ (I.free ((Off.refl _ v).alloc _)).off (fun hS => ?_)
      exact hout.out _ _ _ _ (J0023.out _ (by kernel_rfl) _ (I.free ((Off.refl _ v).alloc _)) _ ⟨Cel.new v _ _, I.off.size⟩ _ (N2.free ((Off.refl _ v).alloc _)) _ (N3.free ((Off.refl _ v).alloc _)))
    · go_simp
      refine hK'.out _ _ (I.free ((Off.refl _ v).alloc _)).off (fun hS => ?_)
      exact hout.out _ _ _ _ (J0123.out _ (by kernel_rfl) _ (I.free ((Off.refl _ v).alloc _)) _ ⟨Cel.new v _ _, I.off.size⟩ _ (N2.free ((Off.refl _ v).alloc _)) _ (N3.free ((Off.refl _ v).alloc _)))
  have J00 : Hid (∀ (L : Array Bool) (hL : L = #[true, false, true, false, true, false, true, true, true, false, true, false, false, false, false, false, false, false]) (v : World) (I : Inv V v D0 D1 D2 D3 b0 b1 b2 b3 (bs, 0) (bs, 0) (bs, 0) (bs, 0)) (q5 : Nat) (N0 : New V v q5 30 (.int .u64 0)), F 11 L ⟨#[.slice tad bs.length cap, .pointer (some ⟨q0, 0, none⟩), .bool false, .pointer (some ⟨b0, 0, none⟩), .pointer (some ⟨b1, 0, none⟩), .pointer (some ⟨b2, 0, none⟩), .pointer (some ⟨b3, 0, none⟩), .pointer (some ⟨q5, 0, none⟩), undef, undef, undef, undef, .slice tad bs.length cap, .pointer (some ⟨b0, 0, none⟩), .slice tad bs.length cap, .pointer (some ⟨b1, 0, none⟩), .slice tad bs.length cap, .pointer (some ⟨b2, 0, none⟩), .slice tad bs.length cap, .pointer (some ⟨b3, 0, none⟩), .pointer (some ⟨b0, 0, none⟩), undef, .pointer (some ⟨b1, 0, none⟩), undef, .pointer (some ⟨b2, 0, none⟩), undef, .pointer (some ⟨b3, 0, none⟩), .slice tad bs.length cap, .int .i64 (bs.length : Int), undef, undef, undef, undef, undef, undef, undef, undef, undef, undef, undef, undef, undef, undef, undef, undef, undef, undef, undef, undef, undef, undef, undef, undef, undef, undef, undef], []⟩ v) := by
    intro L hL v I q5 N0
    subst hL
    clear J10123 J1012 J1013 J1023 J1123 J101 J102 J103 J112 J113 J123 J11 J12 J13 J1 J00123 J0012 J0013 J0023 J0123 J012 J013 J023
    refine hin.out _ _ _ _ ?_
    refine wpAnyH_ready (rs := [1, 11, 12, 13]) (by kernel_rfl) (by simp) ?_
    refine AllReadyH.cons rfl (fun K' hK' => ?_) (AllReadyH.cons rfl (fun K' hK' => ?_) (AllReadyH.cons rfl (fun K' hK' => ?_) (AllReadyH.cons rfl (fun K' hK' => ?_) (AllReadyH.nil))))
    · go_simp
      refine (rnum_any I.r0).mono ?_
      rw [HT0.out]
      dsimp only
      rintro e v1 ⟨rfl, R, o⟩
      refine hK'.out _ _ (I.go0 o R).off (fun hS => ?_)
      exact hout.out _ _ _ _ (J10.out _ (by kernel_rfl) _ (I.go0 o R) _ (N0.go HAP.out.lt.1 o))
    · go_simp
      refine hK'.out _ _ (I.free ((Off.refl _ v).alloc _)).off (fun hS => ?_)
      exact hout.out _ _ _ _ (J001.out _ (by kernel_rfl) _ (I.free ((Off.refl _ v).alloc _)) _ (N0.free ((Off.refl _ v).alloc _)) _ ⟨Cel.new v _ _, I.off.size⟩)
    · go_simp
      refine hK'.out _ _ (I.free ((Off.refl _ v).alloc _)).off (fun hS => ?_)
      exact hout.out _ _ _ _ (J002.out _ (by kernel_rfl) _ (I.free ((Off.refl _ v).alloc _)) _ (N0.free ((Off.refl _ v).alloc _)) _ ⟨Cel.new v _ _, I.off.size⟩)
    · go_simp
      refine hK'.out _ _ (I.free ((Off.refl _ v).alloc _)).off (fun hS => ?_)
      exact hout.out _ _ _ _ (J003.out _ (by kernel_rfl) _ (I.free ((Off.refl _ v).alloc _)) _ (N0.free ((Off.refl _ v).alloc _)) _ ⟨Cel.new v _ _, I.off.size⟩)
  have J01 : Hid (∀ (L : Array Bool) (hL : L = #[true, false, true, false, true, false, true, true, true, false, false, true, false, false, false, false, false, false]) (v : World) (I : Inv V v D0 D1 D2 D3 b0 b1 b2 b3 (bs, 0) (bs, 0) (bs, 0) (bs, 0)) (q6 : Nat) (N1 : New V v q6 2 (.int .i64 0)), F 11 L ⟨#[.slice tad bs.length cap, .pointer (some ⟨q0, 0, none⟩), .bool false, .pointer (some ⟨b0, 0, none⟩), .pointer (some ⟨b1, 0, none⟩), .pointer (some ⟨b2, 0, none⟩), .pointer (some ⟨b3, 0, none⟩), undef, .pointer (some ⟨q6, 0, none⟩), undef, undef, undef, .slice tad bs.length cap, .pointer (some ⟨b0, 0, none⟩), .slice tad bs.length cap, .pointer (some ⟨b1, 0, none⟩), .slice tad bs.length cap, .pointer (some ⟨b2, 0, none⟩), .slice tad bs.length cap, .pointer (some ⟨b3, 0, none⟩), .pointer (some ⟨b0, 0, none⟩), undef, .pointer (some ⟨b1, 0, none⟩), undef, .pointer (some ⟨b2, 0, none⟩), undef, .pointer (some ⟨b3, 0, none⟩), .slice tad bs.length cap, .int .i64 (bs.length : Int), undef, undef, undef, undef, undef, undef, undef, undef, undef, undef, undef, undef, undef, undef, undef, undef, undef, undef, undef, undef, undef, undef, undef, undef, undef, undef, undef], []⟩ v) := by
    intro L hL v I q6 N1
    subst hL
    clear J10123 J1012 J1013 J1023 J1123 J101 J102 J103 J112 J113 J123 J10 J12 J13 J1 J00123 J0012 J0013 J0023 J0123 J002 J003 J023 J00
    refine hin.out _ _ _ _ ?_
    refine wpAnyH_ready (rs := [1, 10, 12, 13]) (by kernel_rfl) (by simp) ?_
    refine AllReadyH.cons rfl (fun K' hK' => ?_) (AllReadyH.cons rfl (fun K' hK' => ?_) (AllReadyH.cons rfl (fun K' hK' => ?_) (AllReadyH.cons rfl (fun K' hK' => ?_) (AllReadyH.nil))))
    · go_simp
      refine (rnum_any I.r0).mono ?_
      rw [HT0.out]
      dsimp only
      rintro e v1 ⟨rfl, R, o⟩
      refine hK'.out _ _ (I.go0 o R).off (fun hS => ?_)
      exact hout.out _ _ _ _ (J11.out _ (by kernel_rfl) _ (I.go0 o R) _ (N1.go HAP.out.lt.1 o))
    · go_simp
      refine hK'.out _ _ (I.free ((Off.refl _ v).alloc _)).off (fun hS => ?_)
      exact hout.out _ _ _ _ (J001.out _ (by kernel_rfl) _ (I.free ((Off.refl _ v).alloc _)) _ ⟨Cel.new v _ _, I.off.size⟩ _ (N1.free ((Off.refl _ v).alloc _)))
    · go_simp
      refine hK'.out _ _ (I.free ((Off.refl _ v).alloc _)).off (fun hS => ?_)
      exact hout.out _ _ _ _ (J012.out _ (by kernel_rfl) _ (I.free ((Off.refl _ v).alloc _)) _ (N1.free ((Off.refl _ v).alloc _)) _ ⟨Cel.new v _ _, I.off.size⟩)
    · go_simp
      refine hK'.out _ _ (I.free ((Off.refl _ v).alloc _)).off (fun hS => ?_)
      exact hout.out _ _ _ _ (J013.out _ (by kernel_rfl) _ (I.free ((Off.refl _ v).alloc _)) _ (N1.free ((Off.refl _ v).alloc _)) _ ⟨Cel.new v _ _, I.off.size⟩)
  have J02 : Hid (∀ (L : Array Bool) (hL : L = #[true, false, true, false, true, false, true, true, true, false, false, false, true, false, false, false, false, false]) (v : World) (I : Inv V v D0 D1 D2 D3 b0 b1 b2 b3 (bs, 0) (bs, 0) (bs, 0) (bs, 0)) (q7 : Nat) (N2 : New V v q7 4 (.bool false)), F 11 L ⟨#[.slice tad bs.length cap, .pointer (some ⟨q0, 0, none⟩), .bool false, .pointer (some ⟨b0, 0, none⟩), .pointer (some ⟨b1, 0, none⟩), .pointer (some ⟨b2, 0, none⟩), .pointer (some ⟨b3, 0, none⟩), undef, undef, .pointer (some ⟨q7, 0, none⟩), undef, undef, .slice tad bs.length cap, .pointer (some ⟨b0, 0, none⟩), .slice tad bs.length cap, .pointer (some ⟨b1, 0, none⟩), .slice tad bs.length cap, .pointer (some ⟨b2, 0, none⟩), .slice tad bs.length cap, .pointer (some ⟨b3, 0, none⟩), .pointer (some ⟨b0, 0, none⟩), undef, .pointer (some ⟨b1, 0, none⟩), undef, .pointer (some ⟨b2, 0, none⟩), undef, .pointer (some ⟨b3, 0, none⟩), .slice tad bs.length cap, .int .i64 (bs.length : Int), undef, undef, undef, undef, undef, undef, undef, undef, undef, undef, undef, undef, undef, undef, undef, undef, undef, undef, undef, undef, undef, undef, undef, undef, undef, undef, undef], []⟩ v) := by
    intro L hL v I q7 N2
    subst hL
    clear J10123 J1012 J1013 J1023 J1123 J101 J102 J103 J112 J113 J123 J10 J11 J13 J1 J00123 J0012 J0013 J0023 J0123 J001 J003 J013 J00 J01
    refine hin.out _ _ _ _ ?_
    refine wpAnyH_ready (rs := [1, 10, 11, 13]) (by kernel_rfl) (by simp) ?_
    refine AllReadyH.cons rfl (fun K' hK' => ?_) (AllReadyH.cons rfl (fun K' hK' => ?_) (AllReadyH.cons rfl (fun K' hK' => ?_) (AllReadyH.cons rfl (fun K' hK' => ?_) (AllReadyH.nil))))
    · go_simp
      refine (rnum_any I.r0).mono ?_
      rw [HT0.out]
      dsimp only
      rintro e v1 ⟨rfl, R, o⟩
      refine hK'.out _ _ (I.go0 o R).off (fun hS => ?_)
      exact hout.out _ _ _ _ (J12.out _ (by kernel_rfl) _ (I.go0 o R) _ (N2.go HAP.out.lt.1 o))
    · go_simp
      refine hK'.out _ _ (I.free ((Off.refl _ v).alloc _)).off (fun hS => ?_)
      exact hout.out _ _ _ _ (J002.out _ (by kernel_rfl) _ (I.free ((Off.refl _ v).alloc _)) _ ⟨Cel.new v _ _, I.off.size⟩ _ (N2.free ((Off.refl _ v).alloc _)))
    · go_simp
      refine hK'.out _ _ (I.free ((Off.refl _ v).alloc _)).off (fun hS => ?_)
      exact hout.out _ _ _ _ (J012.out _ (by kernel_rfl) _ (I.free ((Off.refl _ v).alloc _)) _ ⟨Cel.new v _ _, I.off.size⟩ _ (N2.free ((Off.refl _ v).alloc _)))
    · go_simp
      refine hK'.out _ _ (I.free ((Off.refl _ v).alloc _)).off (fun hS => ?_)
      exact hout.out _ _ _ _ (J023.out _ (by kernel_rfl) _ (I.free ((Off.refl _ v).alloc _)) _ (N2.free ((Off.refl _ v).alloc _)) _ ⟨Cel.new v _ _, I.off.size⟩)
  have J03 : Hid (∀ (L : Array Bool) (hL : L = #[true, false, true, false, true, false, true, true, true, false, false, false, false, true, false, false, false, false]) (v : World) (I : Inv V v D0 D1 D2 D3 b0 b1 b2 b3 (bs, 0) (bs, 0) (bs, 0) (bs, 0)) (q8 : Nat) (N3 : New V v q8 26 (.slice none 0 0)), F 11 L ⟨#[.slice tad bs.length cap, .pointer (some ⟨q0, 0, none⟩), .bool false, .pointer (some ⟨b0, 0, none⟩), .pointer (some ⟨b1, 0, none⟩), .pointer (some ⟨b2, 0, none⟩), .pointer (some ⟨b3, 0, none⟩), undef, undef, undef, .pointer (some ⟨q8, 0, none⟩), undef, .slice tad bs.length cap, .pointer (some ⟨b0, 0, none⟩), .slice tad bs.length cap, .pointer (some ⟨b1, 0, none⟩), .slice tad bs.length cap, .pointer (some ⟨b2, 0, none⟩), .slice tad bs.length cap, .pointer (some ⟨b3, 0, none⟩), .pointer (some ⟨b0, 0, none⟩), undef, .pointer (some ⟨b1, 0, none⟩), undef, .pointer (some ⟨b2, 0, none⟩), undef, .pointer (some ⟨b3, 0, none⟩), .slice tad bs.length cap, .int .i64 (bs.length : Int), undef, undef, undef, undef, undef, undef, undef, undef, undef, undef, undef, undef, undef, undef, undef, undef, undef, undef, undef, undef, undef, undef, undef, undef, undef, undef, undef], []⟩ v) := by
    intro L hL v I q8 N3
    subst hL
    clear J10123 J1012 J1013 J1023 J1123 J101 J102 J103 J112 J113 J123 J10 J11 J12 J1 J00123 J0012 J0013 J0023 J0123 J001 J002 J012 J00 J01 J02
    refine hin.out _ _ _ _ ?_
    refine wpAnyH_ready (rs := [1, 10, 11, 12]) (by kernel_rfl) (by simp) ?_
    refine AllReadyH.cons rfl (fun K' hK' => ?_) (AllReadyH.cons rfl (fun K' hK' => ?_) (AllReadyH.cons rfl (fun K' hK' => ?_) (AllReadyH.cons rfl (fun K' hK' => ?_) (AllReadyH.nil))))
    · go_simp
      refine (rnum_any I.r0).mono ?_
      rw [HT0.out]
      dsimp only
      rintro e v1 ⟨rfl, R, o⟩
      refine hK'.out _ _ (I.go0 o R).off (fun hS => ?_)
      exact hout.out _ _ _ _ (J13.out _ (by kernel_rfl) _ (I.go0 o R) _ (N3.go HAP.out.lt.1 o))
    · go_simp
      refine hK'.out _ _ (I.free ((Off.refl _ v).alloc _)).off (fun hS => ?_)
      exact hout.out _ _ _ _ (J003.out _ (by kernel_rfl) _ (I.free ((Off.refl _ v).alloc _)) _ ⟨Cel.new v _ _, I.off.size⟩ _ (N3.free ((Off.refl _ v).alloc _)))
    · go_simp
      refine hK'.out _ _ (I.free ((Off.refl _ v).alloc _)).off (fun hS => ?_)
      exact hout.out _ _ _ _ (J013.out _ (by kernel_rfl) _ (I.free ((Off.refl _ v).alloc _)) _ ⟨Cel.new v _ _, I.off.size⟩ _ (N3.free ((Off.refl _ v).alloc _)))
    · go_simp
      refine hK'.out _ _ (I.free ((Off.refl _ v).alloc _)).off (fun hS => ?_)
      exact hout.out _ _ _ _ (J023.out _ (by kernel_rfl) _ (I.free ((Off.refl _ v).alloc _)) _ ⟨Cel.new v _ _, I.off.size⟩ _ (N3.free ((Off.refl _ v).alloc _)))
  have J0 : Hid (∀ (L : Array Bool) (hL : L = #[true, false, true, false, true, false, true, true, true, false, false, false, false, false, false, false, false, false]) (v : World) (I : Inv V v D0 D1 D2 D3 b0 b1 b2 b3 (bs, 0) (bs, 0) (bs, 0) (bs, 0)), F 12 L ⟨#[.slice tad bs.length cap, .pointer (some ⟨q0, 0, none⟩), .bool false, .pointer (some ⟨b0, 0, none⟩), .pointer (some ⟨b1, 0, none⟩), .pointer (some ⟨b2, 0, none⟩), .pointer (some ⟨b3, 0, none⟩), undef, undef, undef, undef, undef, .slice tad bs.length cap, .pointer (some ⟨b0, 0, none⟩), .slice tad bs.length cap, .pointer (some ⟨b1, 0, none⟩), .slice tad bs.length cap, .pointer (some ⟨b2, 0, none⟩), .slice tad bs.length cap, .pointer (some ⟨b3, 0, none⟩), .pointer (some ⟨b0, 0, none⟩), undef, .pointer (some ⟨b1, 0, none⟩), undef, .pointer (some ⟨b2, 0, none⟩), undef, .pointer (some ⟨b3, 0, none⟩), .slice tad bs.length cap, .int .i64 (bs.length : Int), undef, undef, undef, undef, undef, undef, undef, undef, undef, undef, undef, undef, undef, undef, undef, undef, undef, undef, undef, undef, undef, undef, undef, undef, undef, undef, undef], []⟩ v) := by
    intro L hL v I
    subst hL
    clear J10123 J1012 J1013 J1023 J1123 J101 J102 J103 J112 J113 J123 J10 J11 J12 J13 J00123 J0012 J0013 J0023 J0123 J001 J002 J003 J012 J013 J023
    refine hin.out _ _ _ _ ?_
    refine wpAnyH_ready (rs := [1, 10, 11, 12, 13]) (by kernel_rfl) (by simp) ?_
    refine AllReadyH.cons rfl (fun K' hK' => ?_) (AllReadyH.cons rfl (fun K' hK' => ?_) (AllReadyH.cons rfl (fun K' hK' => ?_) (AllReadyH.cons rfl (fun K' hK' => ?_) (AllReadyH.cons rfl (fun K' hK' => ?_) (AllReadyH.nil)))))
    · go_simp
      refine (rnum_any I.r0).mono ?_
      rw [HT0.out]
      dsimp only
      rintro e v1 ⟨rfl, R, o⟩
      refine hK'.out _ _ (I.go0 o R).off (fun hS => ?_)
      exact hout.out _ _ _ _ (J1.out _ (by kernel_rfl) _ (I.go0 o R))
    · go_simp
      refine hK'.out _ _ (I.free ((Off.refl _ v).alloc _)).off (fun hS => ?_)
      exact hout.out _ _ _ _ (J00.out _ (by kernel_rfl) _ (I.free ((Off.refl _ v).alloc _)) _ ⟨Cel.new v _ _, I.off.size⟩)
    · go_simp
      refine hK'.out _ _ (I.free ((Off.refl _ v).alloc _)).off (fun hS => ?_)
      exact hout.out _ _ _ _ (J01.out _ (by kernel_rfl) _ (I.free ((Off.refl _ v).alloc _)) _ ⟨Cel.new v _ _, I.off.size⟩)
    · go_simp
      refine hK'.out _ _ (I.free ((Off.refl _ v).alloc _)).off (fun hS => ?_)
      exact hout.out _ _ _ _ (J02.out _ (by kernel_rfl) _ (I.free ((Off.refl _ v).alloc _)) _ ⟨Cel.new v _ _, I.off.size⟩)
    · go_simp
      refine hK'.out _ _ (I.free ((Off.refl _ v).alloc _)).off (fun hS => ?_)
      exact hout.out _ _ _ _ (J03.out _ (by kernel_rfl) _ (I.free ((Off.refl _ v).alloc _)) _ ⟨Cel.new v _ _, I.off.size⟩)
  clear J10123 J1012 J1013 J1023 J1123 J101 J102 J103 J112 J113 J123 J10 J11 J12 J13 J1
  exact J0.out _ (by kernel_rfl) _ I
end Go.Proofs.Ytkjinhbhlcbfdaa
