/- MemberBytes. -/
import Derived.Test.YtgnchloclkjalaaMe
import Derived.Test.YtgnchloclkjalaaArb
namespace Go.Proofs.Ytgnchloclkjalaa
set_option maxRecDepth 100000
open Go.RowKit

theorem wrap_sub {a b c : Nat} (h : a = b + c) (hb : a ≤ 140737488355328) : IntKind.i64.wrap (((a : Nat) : Int) - ((b : Nat) : Int)) = ((c : Nat) : Int) := by
  simp only [IntKind.wrap, IntKind.bits, IntKind.signed]
  go_num
set_option maxHeartbeats 4000000 in
theorem bytes_walk (s i : Int) (ta : Option Addr) (ca : Nat) (bs : List Nat) (w : World) (s0 : -9223372036854775808 ≤ s ∧ s ≤ 9223372036854775807) (i0 : -9223372036854775808 ≤ i ∧ i ≤ 9223372036854775807) (hB : ArgB w ta bs.length ca bs) :
    Calls Try.prog 4 #[.agg #[.int .i64 s, .int .i64 i], .slice ta bs.length ca] w fun e w' => e = .returned (.bool true) ∧ Off (fun _ => False) w w' := by
  have HK : Hid (∀ W, Calls Try.prog 15 #[] W fun e w' => e = .returned (.bool true) ∧ Off (fun _ => False) W w') := fun W => awake_any W
  have HS : Hid (Src w ta ca bs) := hB.src
  have HLT : Hid (∀ b ∈ bs, b < 256) := hB.lt
  have HBD : Hid (bs.length ≤ 140737488355328) := by have := hB.bound; show _ ≤ _; omega
  have HCP : Hid (bs.length ≤ ca) := hB.cap
  obtain ⟨en, hen⟩ : ∃ en, en = encM s i := ⟨_, rfl⟩
  have HEL : Hid (en.length ≤ 20) := by show _ ≤ _; rw [hen]; exact enc_len i0.1 i0.2
  have HEB : Hid (∀ b ∈ en, b < 256) := by show ∀ b ∈ en, _; rw [hen]; exact enc_lt s i
  have HWR : Hid (∀ p W, Wtr (fun c => c = p) p 40 (some []) W → Calls Try.prog 17 #[.pointer (some ⟨p, 0, none⟩), .agg #[.int .i64 s, .int .i64 i]] W fun e w' => e = .returned (.tuple #[]) ∧ ∃ D', Wtr D' p 40 (some en) w' ∧ Off (fun c => c = p) W w' ∧ ∀ c, D' c → c = p ∨ W.heap.size ≤ c) := fun p W h => by
    rw [hen]
    exact mwrite_any h s i i0.1 i0.2
  obtain ⟨x, y, m, HRD, HMM, HXY⟩ : ∃ (x y : Int) (m : Bool), Hid (∀ D r W, Rdr 53 D r (en, 0) W → Calls Try.prog 20 #[.pointer (some ⟨r, 0, none⟩)] W fun e w' => e = .returned (.tuple #[.agg #[.int .i64 x, .int .i64 y], .bool m]) ∧ Rdr 53 D r ([], 0) w' ∧ Off (fun c => c = r) W w')
      ∧ Hid (∀ W, Calls Try.prog 10 #[.agg #[.int .i64 s, .int .i64 i]] W fun e w' => e = .returned (.bool m) ∧ Off (fun _ => False) W w') ∧ Hid (m = true → x = s ∧ y = i) := by
    obtain ⟨r1, r2, r3⟩ := rd_enc s0.1 s0.2 i0.1 i0.2
    refine ⟨mrX (en, 0), mrY (en, 0), mayB s i, fun D r W h => ?_, fun W => may_any s i W, by rw [hen]; exact r3⟩
    have := mread_any h
    rw [hen] at this ⊢
    rw [r1, r2] at this
    exact this
  clear s0 i0 hB hen
  go_enter Try.func4, Try.ntmps4
  go_wp2_with fail
  generalize hV : w.alloc (.cells #[.int .i64 s, .int .i64 i] 23) = V
  have O0 : Hid (Off (fun _ => False) w V) := by show Off _ _ _; rw [← hV]; exact (Off.refl _ w).alloc _
  have B0 : Hid (Cel (w.heap.size) 23 #[.int .i64 s, .int .i64 i] V) := by show Cel _ _ _ _; rw [← hV]; exact Cel.new w _ _
  clear hV
  refine (newWriter_any 40 (by decide) V).mono ?_
  rintro e w1 ⟨rfl, W1, o1⟩
  have HW1 : Hid (Wtr (fun c => c = V.heap.size) V.heap.size 40 (some []) w1) := W1
  have P1 : Hid (Off (fun _ => False) w w1) := O0.out.trans o1 (fun _ _ h => h)
  have B1 : Hid (Cel (w.heap.size) 23 #[.int .i64 s, .int .i64 i] w1) := B0.out.off o1 (fun h => h)
  have HP : Hid (w.heap.size < V.heap.size) := B0.out.lt
  clear W1 o1
  obtain ⟨p, hp⟩ : ∃ p, p = V.heap.size := ⟨_, rfl⟩
  rw [← hp] at HW1 HP ⊢
  clear hp
  have b0 : w1.cell? ⟨w.heap.size, 0, none⟩ = some (.int .i64 s) := B1.out.cell 0
  have b1 : w1.cell? ⟨w.heap.size, 1, none⟩ = some (.int .i64 i) := B1.out.cell 1
  go_wp2_with fail
  clear b0 b1
  refine (HWR.out _ _ HW1.out).mono ?_
  rintro e w2 ⟨rfl, D2, W2, o2, d2⟩
  have HW2 : Hid _ := W2
  have P2 : Hid (Off (fun _ => False) w w2) := P1.out.trans o2 (fun c hc h => by have := HP.out; omega)
  have B2 : Hid (Cel (w.heap.size) 23 #[.int .i64 s, .int .i64 i] w2) := B1.out.off o2 (fun h => by have := HP.out; omega)
  clear W2 o2 d2
  go_wp2_with fail
  have DN : Calls Try.prog 18 #[.pointer (some ⟨p, 0, none⟩)] w2 fun e w' => ∃ t c, e = .returned (.tuple #[.slice t en.length c, .int .i64 0]) ∧ OwnR w' t c en ∧ (∀ k, blk t = some k → w2.heap.size ≤ k) ∧ Off (fun _ => False) w2 w' := done_any HW2.out (by have := HEL.out; simp; omega)
  refine DN.mono ?_
  clear DN
  rintro e w3 ⟨t3, c3, rfl, own3, hb3, o3⟩
  have HN3 : Hid _ := own3
  have P3 : Hid (Off (fun _ => False) w w3) := P2.out.trans o3 (fun _ _ h => h)
  have B3 : Hid (Cel (w.heap.size) 23 #[.int .i64 s, .int .i64 i] w3) := B2.out.off o3 (fun h => h)
  clear own3 hb3 o3
  go_wp2_with fail
  refine (newReader_any t3 c3 en (by have := HEL.out; omega) HEB.out w3 HN3.out.src).mono ?_
  rintro e w4 ⟨r, D4, rfl, hr, hD4, R4, o4⟩
  have HR : Hid (w3.heap.size ≤ r) := hr
  have HR4 : Hid _ := R4
  have P4 : Hid (Off (fun _ => False) w w4) := P3.out.trans o4 (fun _ _ h => h)
  have B4 : Hid (Cel (w.heap.size) 23 #[.int .i64 s, .int .i64 i] w4) := B3.out.off o4 (fun h => h)
  clear hr hD4 R4 o4
  go_wp2_with fail
  refine (HRD.out _ _ _ HR4.out).mono ?_
  rintro e w5 ⟨rfl, R5, o5⟩
  have HR5 : Hid _ := R5
  have P5 : Hid (Off (fun _ => False) w w5) := P4.out.trans o5 (fun c hc h => by have := HR.out; have := P3.out.size; omega)
  have B5 : Hid (Cel (w.heap.size) 23 #[.int .i64 s, .int .i64 i] w5) := B4.out.off o5 (fun h => by have := HR.out; have := B3.out.lt; omega)
  clear R5 o5
  have l0 : w.heap.size < w5.heap.size := B5.out.lt
  have AA : Off (fun _ => False) w5 (w5.alloc (.cells #[.int .i64 x, .int .i64 y] 23)) := (Off.refl _ w5).alloc _
  have r0 : (w5.alloc (.cells #[.int .i64 x, .int .i64 y] 23)).cell? ⟨w.heap.size, 0, none⟩ = some (.int .i64 s) := (B5.out.off AA (fun h => h)).cell 0
  have r1 : (w5.alloc (.cells #[.int .i64 x, .int .i64 y] 23)).cell? ⟨w.heap.size, 1, none⟩ = some (.int .i64 i) := (B5.out.off AA (fun h => h)).cell 1
  clear AA
  go_wp2_with fail
  clear r0 r1
  generalize hU : w5.alloc (.cells #[.int .i64 x, .int .i64 y] 23) = w6
  have Y6 : Hid (Cel (w5.heap.size) 23 #[.int .i64 x, .int .i64 y] w6) := by show Cel _ _ _ _; rw [← hU]; exact Cel.new w5 _ _
  have O6 : Hid (Off (fun _ => False) w5 w6) := by show Off _ _ _; rw [← hU]; exact (Off.refl _ w5).alloc _
  clear hU
  have P6 : Hid (Off (fun _ => False) w w6) := P5.out.trans O6.out (fun _ _ h => h)
  have B6 : Hid (Cel (w.heap.size) 23 #[.int .i64 s, .int .i64 i] w6) := B5.out.off O6.out (fun h => h)
  have HR6 : Hid (Rdr 53 D4 r ([], 0) w6) := HR5.out.off O6.out (fun h => h) (fun _ _ _ h => h)
  clear HR5 O6 B5 B4 B3 B2 B1 B0 P5 P4 P3 P2 P1 HR4 HN3 HW2 HW1 HWR HRD HR HP O0
  have HM2 : Hid (∀ W, Calls Try.prog 10 #[.agg #[.int .i64 s, .int .i64 i]] W fun e w' => e = .returned (.bool m) ∧ Off (fun _ => False) W w') := HMM.out
  clear HMM
  refine (HM2.out _).mono ?_
  rintro e w7 ⟨rfl, o7⟩
  have P7 : Hid (Off (fun _ => False) w w7) := P6.out.trans o7 (fun _ _ h => h)
  have B7 : Hid (Cel (w.heap.size) 23 #[.int .i64 s, .int .i64 i] w7) := B6.out.off o7 (fun h => h)
  have Y7 : Hid (Cel (w5.heap.size) 23 #[.int .i64 x, .int .i64 y] w7) := Y6.out.off o7 (fun h => h)
  have HR7 : Hid (Rdr 53 D4 r ([], 0) w7) := HR6.out.off o7 (fun h => h) (fun _ _ _ h => h)
  clear o7 P6 B6 Y6 HR6 HM2
  cases m with
  | false =>
    clear HXY HR7 B7 Y7
    go_wp2_with fail
    have P0 : Hid (Off (fun _ => False) w w7) := P7.out
    generalize w7 = u0 at P0 ⊢
    clear P7
    have SR : Hid (Src u0 ta ca bs) := HS.out.off P0.out (fun _ _ _ h => h)
    refine (newReader_any ta ca bs HBD.out HLT.out u0 SR.out).mono ?_
    rintro e u1 ⟨r2, D2, rfl, hr2, hD2, R2, o⟩
    have HR2 : Hid (u0.heap.size ≤ r2) := hr2
    have HR3 : Hid _ := R2
    have P1 : Hid (Off (fun _ => False) w u1) := P0.out.trans o (fun _ _ h => h)
    clear hr2 hD2 R2 o
    go_wp2_with fail
    have RD := mread_any HR3.out
    obtain ⟨x2, hx2⟩ : ∃ x, x = mrX (bs, 0) := ⟨_, rfl⟩
    obtain ⟨y2, hy2⟩ : ∃ x, x = mrY (bs, 0) := ⟨_, rfl⟩
    obtain ⟨q2, hq2⟩ : ∃ x, x = mrB (bs, 0) := ⟨_, rfl⟩
    rw [← hx2, ← hy2, ← hq2] at RD
    have HI : Hid (q2 = true → mayB x2 y2 = true ∧ ∃ l, bs = encM x2 y2 ++ l ∧ mrS (bs, 0) = (l, 0)) := by show _ → _; rw [hx2, hy2, hq2]; exact rd_is HLT.out
    have HZ : Hid (q2 = false → x2 = 0 ∧ y2 = 0) := by show _ → _; rw [hx2, hy2, hq2]; intro h; simp [mrX, mrY, h]
    clear hx2 hy2 hq2
    refine RD.mono ?_
    clear RD
    rintro e u2 ⟨rfl, R4, o⟩
    have HR4 : Hid _ := R4
    have P2 : Hid (Off (fun _ => False) w u2) := P1.out.trans o (fun c hc h => by have := HR2.out; have := P0.out.size; omega)
    clear o R4
    cases q2 with
    | false =>
      obtain ⟨rfl, rfl⟩ := HZ.out rfl
      go_wp2_with fail
      refine (HK.out _).mono ?_
      rintro e u4 ⟨rfl, o⟩
      go_wp2_with fail
      go_ret
      exact ⟨rfl, (P2.out.alloc _).trans o (fun _ _ h => h)⟩
    | true =>
      obtain ⟨hm, l, hbs, hms⟩ := HI.out rfl
      have hy := may_of hm
      have HY : Hid (-9223372036854775808 ≤ y2 ∧ y2 ≤ 9223372036854775807) := ⟨by omega, by omega⟩
      have HMt : Hid (mayB x2 y2 = true) := hm
      obtain ⟨en, hen⟩ : ∃ en, en = encM x2 y2 := ⟨_, rfl⟩
      rw [← hen] at hbs
      rw [hms] at HR4
      have HBS : Hid (bs = en ++ l) := hbs
      have HEN : Hid (en = encM x2 y2) := hen
      clear hm hy hbs hen hms
      go_wp2_with fail
      generalize hU : u2.alloc (.cells #[.int .i64 x2, .int .i64 y2] 23) = u3
      have HZ3 : Hid (Cel (u2.heap.size) 23 #[.int .i64 x2, .int .i64 y2] u3) := by show Cel _ _ _ _; rw [← hU]; exact Cel.new u2 _ _
      have O3 : Hid (Off (fun _ => False) u2 u3) := by show Off _ _ _; rw [← hU]; exact (Off.refl _ u2).alloc _
      have P3 : Hid (Off (fun _ => False) w u3) := P2.out.trans O3.out (fun _ _ h => h)
      clear hU
      refine (newWriter_any 40 (by decide) u3).mono ?_
      rintro e u4 ⟨rfl, W4, o⟩
      have HW4 : Hid (Wtr (fun c => c = u3.heap.size) u3.heap.size 40 (some []) u4) := W4
      have O4 : Hid (Off (fun _ => False) u3 u4) := o
      clear W4 o
      have HZ4 : Hid (Cel (u2.heap.size) 23 #[.int .i64 x2, .int .i64 y2] u4) := HZ3.out.off O4.out (fun h => h)
      have z0 : u4.cell? ⟨u2.heap.size, 0, none⟩ = some (.int .i64 x2) := HZ4.out.cell 0
      have z1 : u4.cell? ⟨u2.heap.size, 1, none⟩ = some (.int .i64 y2) := HZ4.out.cell 1
      have HU : Hid (u2.heap.size < u3.heap.size) := HZ3.out.lt
      have HPZ : Hid (w.heap.size ≤ u3.heap.size) := P3.out.size
      have HRB : Hid (Rdr 53 D2 r2 (l, 0) u4) := (HR4.out.off O3.out (fun h => h) (fun _ _ _ h => h)).off O4.out (fun h => h) (fun _ _ _ h => h)
      have HRL : Hid (r2 < u3.heap.size) := by have := HR4.out.here; have := HU.out; show _ < _; omega
      have P4 : Hid (Off (fun _ => False) w u4) := P3.out.trans O4.out (fun _ _ h => h)
      have HDL : Hid (∀ c, D2 c → c < u3.heap.size) := fun c h => by have := HR4.out.lt c h; have := HU.out; omega
      obtain ⟨p2, hp2⟩ : ∃ p, p = u3.heap.size := ⟨_, rfl⟩
      rw [← hp2] at HW4 HU HPZ HRL HDL ⊢
      clear hp2
      go_wp2_with fail
      have WR := mwrite_any HW4.out x2 y2 HY.out.1 HY.out.2
      rw [← HEN.out] at WR
      refine WR.mono ?_
      clear WR
      rintro e u5 ⟨rfl, D5, W5, o5, d5⟩
      have HW5 : Hid _ := W5
      have HZ5 : Hid (Cel (u2.heap.size) 23 #[.int .i64 x2, .int .i64 y2] u5) := HZ4.out.off o5 (fun h => by have := HU.out; omega)
      have HRB5 : Hid (Rdr 53 D2 r2 (l, 0) u5) := HRB.out.off o5 (fun h => by have := HRL.out; omega) (fun c _ hc h => by have := HDL.out c hc; omega)
      have P5 : Hid (Off (fun _ => False) w u5) := P4.out.trans o5 (fun c hc h => by have := HPZ.out; omega)
      clear W5 o5 d5 z0 z1
      go_wp2_with fail
      have DN : Calls Try.prog 18 #[.pointer (some ⟨p2, 0, none⟩)] u5 fun e w' => ∃ t c, e = .returned (.tuple #[.slice t en.length c, .int .i64 0]) ∧ OwnR w' t c en ∧ (∀ k, blk t = some k → u5.heap.size ≤ k) ∧ Off (fun _ => False) u5 w' := done_any HW5.out (by have := enc_len (s := x2) HY.out.1 HY.out.2; rw [← HEN.out] at this; simp; omega)
      refine DN.mono ?_
      clear DN
      rintro e u6 ⟨t6, c6, rfl, own6, hb6, o6⟩
      have HW6 : Hid _ := own6
      have HZ6 : Hid (Cel (u2.heap.size) 23 #[.int .i64 x2, .int .i64 y2] u6) := HZ5.out.off o6 (fun h => h)
      have HRB6 : Hid (Rdr 53 D2 r2 (l, 0) u6) := HRB5.out.off o6 (fun h => h) (fun _ _ _ h => h)
      have P6 : Hid (Off (fun _ => False) w u6) := P5.out.trans o6 (fun _ _ h => h)
      have HS6 : Hid (Src u6 ta ca en) := by have h := HS.out.off P6.out (fun _ _ _ h => h); rw [HBS.out] at h; exact h.pre
      have HLEN : Hid (bs.length = en.length + l.length) := by show _ = _; rw [HBS.out, List.length_append]
      have HSL : Hid (∀ W, (Instr.slice 30 (.slice ta bs.length ca) none (some (.int .i64 ((en.length : Nat) : Int))) none).run Try.prog W = .ok (.slice ta en.length ca) W) := fun W => slice_to ta bs.length ca en.length (by have := HLEN.out; have := HCP.out; omega) W
      have HLF : Hid (∀ W, Off (fun _ => False) u6 W → Calls Try.prog 22 #[.pointer (some ⟨r2, 0, none⟩)] W fun e w' => e = .returned (.int .i64 ((l.length : Nat) : Int)) ∧ Off (fun _ => False) W w') := fun W o => (rleft_any (HRB6.out.off o (fun h => h) (fun _ _ _ h => h))).mono (fun e w' h => ⟨h.1, by rw [h.2]; exact Off.refl _ _⟩)
      have HMM : Hid (∀ W, Calls Try.prog 10 #[.agg #[.int .i64 x2, .int .i64 y2]] W fun e w' => e = .returned (.bool true) ∧ Off (fun _ => False) W w') := fun W => by have := may_any x2 y2 W; rwa [HMt.out] at this
      have HBD2 : Hid (bs.length ≤ 140737488355328) := HBD.out
      clear own6 hb6 o6 HRB6 HRB5 HRB HZ5 HZ4 HZ3 HW5 HW4 HR4 HR3 HI HZ HMt HEN HY HDL HRL P5 P4 P3 P2 P1 O3 O4 HU HPZ SR
      go_upto_region 15 with fail
      refine wp_region_held_drew (S := Off (fun _ => False) u6) (by kernel_rfl) (Off.refl _ u6).drew (fun hS => ?_)
      refine take_at (i := 0) 78 (v := .agg #[.int .i64 x2, .int .i64 y2]) rfl rfl (by kernel_rfl) (by kernel_rfl) (by kernel_rfl) (fun _ _ _ h => h) (Or.inl ⟨by rfl, fun w' hw' => by have x0 := (HZ6.out.off hw' (fun h => h)).cell 0; have x1 := (HZ6.out.off hw' (fun h => h)).cell 1; simp at x0 x1; go_simp⟩) hS ?_
      simp only [Act.put, List.setIfInBounds_toArray, List.set_cons_zero, List.set_cons_succ]
      refine wpAnyH_ready (rs := [1]) (by kernel_rfl) (by simp) ?_
      refine AllReadyH.cons rfl (fun K' hK' => ?_) AllReadyH.nil
      go_simp
      refine (HMM.out _).mono ?_
      rintro e v ⟨rfl, o⟩
      refine hK'.out _ _ (hS.trans o (fun _ _ h => h)) (fun hS => ?_)
      clear hK' K' o
      refine take_at (i := 2) 80 (v := .bool true) rfl rfl (by kernel_rfl) (by kernel_rfl) (by kernel_rfl) (fun _ _ _ h => h) (Or.inl ⟨by rfl, fun w' hw' => by go_simp⟩) hS ?_
      simp only [Act.put, List.setIfInBounds_toArray, List.set_cons_zero, List.set_cons_succ]
      refine take_at (i := 3) 81 (v := .slice t6 en.length c6) rfl rfl (by kernel_rfl) (by kernel_rfl) (by kernel_rfl) (fun _ _ _ h => h) (Or.inl ⟨by rfl, fun w' hw' => by go_simp⟩) hS ?_
      simp only [Act.put, List.setIfInBounds_toArray, List.set_cons_zero, List.set_cons_succ]
      refine take_at (i := 4) 82 (v := .int .i64 ((en.length : Nat) : Int)) rfl rfl (by kernel_rfl) (by kernel_rfl) (by kernel_rfl) (fun _ _ _ h => h) (Or.inl ⟨by rfl, fun w' hw' => by go_simp⟩) hS ?_
      simp only [Act.put, List.setIfInBounds_toArray, List.set_cons_zero, List.set_cons_succ]
      refine take_at (i := 5) 83 (v := .slice ta bs.length ca) rfl rfl (by kernel_rfl) (by kernel_rfl) (by kernel_rfl) (fun _ _ _ h => h) (Or.inl ⟨by rfl, fun w' hw' => by go_simp⟩) hS ?_
      simp only [Act.put, List.setIfInBounds_toArray, List.set_cons_zero, List.set_cons_succ]
      refine take_at (i := 6) 84 (v := .int .i64 ((bs.length : Nat) : Int)) rfl rfl (by kernel_rfl) (by kernel_rfl) (by kernel_rfl) (fun _ _ _ h => h) (Or.inl ⟨by rfl, fun w' hw' => by go_simp⟩) hS ?_
      simp only [Act.put, List.setIfInBounds_toArray, List.set_cons_zero, List.set_cons_succ]
      refine take_at (i := 7) 85 (v := .bool true) rfl rfl (by kernel_rfl) (by kernel_rfl) (by kernel_rfl) (fun _ _ _ h => h) (Or.inl ⟨by rfl, fun w' hw' => by go_simp; have := HLEN.out; omega⟩) hS ?_
      simp only [Act.put, List.setIfInBounds_toArray, List.set_cons_zero, List.set_cons_succ]
      refine take_at (i := 8) 86 (v := .bool true) rfl rfl (by kernel_rfl) (by kernel_rfl) (by kernel_rfl) (fun _ _ _ h => h) (Or.inl ⟨by rfl, fun w' hw' => by go_simp⟩) hS ?_
      simp only [Act.put, List.setIfInBounds_toArray, List.set_cons_zero, List.set_cons_succ]
      refine take_at (i := 9) 87 (v := .bool true) rfl rfl (by kernel_rfl) (by kernel_rfl) (by kernel_rfl) (fun _ _ _ h => h) (Or.inl ⟨by rfl, fun w' hw' => by go_simp⟩) hS ?_
      simp only [Act.put, List.setIfInBounds_toArray, List.set_cons_zero, List.set_cons_succ]
      refine take_at (i := 10) 88 (v := .slice t6 en.length c6) rfl rfl (by kernel_rfl) (by kernel_rfl) (by kernel_rfl) (fun _ _ _ h => h) (Or.inl ⟨by rfl, fun w' hw' => by go_simp⟩) hS ?_
      simp only [Act.put, List.setIfInBounds_toArray, List.set_cons_zero, List.set_cons_succ]
      refine take_at (i := 11) 89 (v := .string (strOf en)) rfl rfl (by kernel_rfl) (by kernel_rfl) (by kernel_rfl) (fun _ _ _ h => h) (Or.inl ⟨by rfl, fun w' hw' => by have x := conv_src (HW6.out.off hw' (fun _ _ _ h => h)).src; go_simp⟩) hS ?_
      simp only [Act.put, List.setIfInBounds_toArray, List.set_cons_zero, List.set_cons_succ]
      refine take_at (i := 12) 90 (v := .slice ta bs.length ca) rfl rfl (by kernel_rfl) (by kernel_rfl) (by kernel_rfl) (fun _ _ _ h => h) (Or.inl ⟨by rfl, fun w' hw' => by go_simp⟩) hS ?_
      simp only [Act.put, List.setIfInBounds_toArray, List.set_cons_zero, List.set_cons_succ]
      refine take_at (i := 13) 91 (v := .slice t6 en.length c6) rfl rfl (by kernel_rfl) (by kernel_rfl) (by kernel_rfl) (fun _ _ _ h => h) (Or.inl ⟨by rfl, fun w' hw' => by go_simp⟩) hS ?_
      simp only [Act.put, List.setIfInBounds_toArray, List.set_cons_zero, List.set_cons_succ]
      refine take_at (i := 14) 92 (v := .int .i64 ((en.length : Nat) : Int)) rfl rfl (by kernel_rfl) (by kernel_rfl) (by kernel_rfl) (fun _ _ _ h => h) (Or.inl ⟨by rfl, fun w' hw' => by go_simp⟩) hS ?_
      simp only [Act.put, List.setIfInBounds_toArray, List.set_cons_zero, List.set_cons_succ]
      refine take_at (i := 15) 93 (v := .slice ta en.length ca) rfl rfl (by kernel_rfl) (by kernel_rfl) (by kernel_rfl) (fun _ _ _ h => h) (Or.inl ⟨by rfl, fun w' hw' => by have x := HSL.out w'; go_simp⟩) hS ?_
      simp only [Act.put, List.setIfInBounds_toArray, List.set_cons_zero, List.set_cons_succ]
      refine take_at (i := 16) 94 (v := .string (strOf en)) rfl rfl (by kernel_rfl) (by kernel_rfl) (by kernel_rfl) (fun _ _ _ h => h) (Or.inl ⟨by rfl, fun w' hw' => by have x := conv_src (HS6.out.off hw' (fun _ _ _ h => h)); go_simp⟩) hS ?_
      simp only [Act.put, List.setIfInBounds_toArray, List.set_cons_zero, List.set_cons_succ]
      refine take_at (i := 17) 95 (v := .bool true) rfl rfl (by kernel_rfl) (by kernel_rfl) (by kernel_rfl) (fun _ _ _ h => h) (Or.inl ⟨by rfl, fun w' hw' => by go_simp⟩) hS ?_
      simp only [Act.put, List.setIfInBounds_toArray, List.set_cons_zero, List.set_cons_succ]
      refine take_at (i := 18) 96 (v := .bool true) rfl rfl (by kernel_rfl) (by kernel_rfl) (by kernel_rfl) (fun _ _ _ h => h) (Or.inl ⟨by rfl, fun w' hw' => by go_simp⟩) hS ?_
      simp only [Act.put, List.setIfInBounds_toArray, List.set_cons_zero, List.set_cons_succ]
      refine take_at (i := 19) 97 (v := .bool true) rfl rfl (by kernel_rfl) (by kernel_rfl) (by kernel_rfl) (fun _ _ _ h => h) (Or.inl ⟨by rfl, fun w' hw' => by go_simp⟩) hS ?_
      simp only [Act.put, List.setIfInBounds_toArray, List.set_cons_zero, List.set_cons_succ]
      refine take_at (i := 20) 98 (v := .pointer (some ⟨r2, 0, none⟩)) rfl rfl (by kernel_rfl) (by kernel_rfl) (by kernel_rfl) (fun _ _ _ h => h) (Or.inl ⟨by rfl, fun w' hw' => by go_simp⟩) hS ?_
      simp only [Act.put, List.setIfInBounds_toArray, List.set_cons_zero, List.set_cons_succ]
      refine take_at (i := 22) 100 (v := .slice ta bs.length ca) rfl rfl (by kernel_rfl) (by kernel_rfl) (by kernel_rfl) (fun _ _ _ h => h) (Or.inl ⟨by rfl, fun w' hw' => by go_simp⟩) hS ?_
      simp only [Act.put, List.setIfInBounds_toArray, List.set_cons_zero, List.set_cons_succ]
      refine take_at (i := 23) 101 (v := .int .i64 ((bs.length : Nat) : Int)) rfl rfl (by kernel_rfl) (by kernel_rfl) (by kernel_rfl) (fun _ _ _ h => h) (Or.inl ⟨by rfl, fun w' hw' => by go_simp⟩) hS ?_
      simp only [Act.put, List.setIfInBounds_toArray, List.set_cons_zero, List.set_cons_succ]
      refine take_at (i := 24) 102 (v := .slice t6 en.length c6) rfl rfl (by kernel_rfl) (by kernel_rfl) (by kernel_rfl) (fun _ _ _ h => h) (Or.inl ⟨by rfl, fun w' hw' => by go_simp⟩) hS ?_
      simp only [Act.put, List.setIfInBounds_toArray, List.set_cons_zero, List.set_cons_succ]
      refine take_at (i := 25) 103 (v := .int .i64 ((en.length : Nat) : Int)) rfl rfl (by kernel_rfl) (by kernel_rfl) (by kernel_rfl) (fun _ _ _ h => h) (Or.inl ⟨by rfl, fun w' hw' => by go_simp⟩) hS ?_
      simp only [Act.put, List.setIfInBounds_toArray, List.set_cons_zero, List.set_cons_succ]
      refine take_at (i := 26) 104 (v := .int .i64 ((l.length : Nat) : Int)) rfl rfl (by kernel_rfl) (by kernel_rfl) (by kernel_rfl) (fun _ _ _ h => h) (Or.inl ⟨by rfl, fun w' hw' => by have x : IntKind.i64.wrap (((bs.length : Nat) : Int) - ((en.length : Nat) : Int)) = ((l.length : Nat) : Int) := wrap_sub HLEN.out HBD2.out; go_simp⟩) hS ?_
      simp only [Act.put, List.setIfInBounds_toArray, List.set_cons_zero, List.set_cons_succ]
      refine wpAnyH_ready (rs := [21]) (by kernel_rfl) (by simp) ?_
      refine AllReadyH.cons rfl (fun K' hK' => ?_) AllReadyH.nil
      go_simp
      refine (HLF.out _ hS).mono ?_
      rintro e v ⟨rfl, o⟩
      refine hK'.out _ _ (hS.trans o (fun _ _ h => h)) (fun hS => ?_)
      clear hK' K' o
      refine take_at (i := 27) 105 (v := .bool true) rfl rfl (by kernel_rfl) (by kernel_rfl) (by kernel_rfl) (fun _ _ _ h => h) (Or.inl ⟨by rfl, fun w' hw' => by go_simp⟩) hS ?_
      simp only [Act.put, List.setIfInBounds_toArray, List.set_cons_zero, List.set_cons_succ]
      refine take_at (i := 28) 106 (v := .bool true) rfl rfl (by kernel_rfl) (by kernel_rfl) (by kernel_rfl) (fun _ _ _ h => h) (Or.inl ⟨by rfl, fun w' hw' => by go_simp⟩) hS ?_
      simp only [Act.put, List.setIfInBounds_toArray, List.set_cons_zero, List.set_cons_succ]
      refine take_at (i := 29) 107 (v := .bool true) rfl rfl (by kernel_rfl) (by kernel_rfl) (by kernel_rfl) (fun _ _ _ h => h) (Or.inl ⟨by rfl, fun w' hw' => by go_simp⟩) hS ?_
      simp only [Act.put, List.setIfInBounds_toArray, List.set_cons_zero, List.set_cons_succ]
      refine wpAnyH_ready (rs := [30]) (by kernel_rfl) (by simp) ?_
      refine AllReadyH.cons rfl (fun K' hK' => ?_) AllReadyH.nil
      go_simp
      refine (HK.out _).mono ?_
      rintro e v ⟨rfl, o⟩
      refine hK'.out _ _ (hS.trans o (fun _ _ h => h)) (fun hS => ?_)
      clear hK' K' o
      refine take_at (i := 31) 109 (v := .bool true) rfl rfl (by kernel_rfl) (by kernel_rfl) (by kernel_rfl) (fun _ _ _ h => h) (Or.inl ⟨by rfl, fun w' hw' => by go_simp⟩) hS ?_
      simp only [Act.put, List.setIfInBounds_toArray, List.set_cons_zero, List.set_cons_succ]
      refine take_at (i := 32) 4 (v := .bool true) rfl rfl (by kernel_rfl) (by kernel_rfl) (by kernel_rfl) (fun _ _ _ h => h) (Or.inl ⟨by rfl, fun w' hw' => by go_simp⟩) hS ?_
      simp only [Act.put, List.setIfInBounds_toArray, List.set_cons_zero, List.set_cons_succ]
      refine wpAnyH_done (by kernel_rfl) ?_ _
      go_wp2_with fail
      go_ret
      exact ⟨rfl, P6.out.trans hS (fun _ _ h => h)⟩
  | true =>
    obtain ⟨rfl, rfl⟩ := HXY.out rfl
    have b0 : w7.cell? ⟨w.heap.size, 0, none⟩ = some (.int .i64 x) := B7.out.cell 0
    have b1 : w7.cell? ⟨w.heap.size, 1, none⟩ = some (.int .i64 y) := B7.out.cell 1
    have y0 : w7.cell? ⟨w5.heap.size, 0, none⟩ = some (.int .i64 x) := Y7.out.cell 0
    have y1 : w7.cell? ⟨w5.heap.size, 1, none⟩ = some (.int .i64 y) := Y7.out.cell 1
    go_wp2_with fail
    have EN : Calls Try.prog 21 #[.pointer (some ⟨r, 0, none⟩)] w7 fun e w' => e = .returned (.int .i64 0) ∧ w' = w7 := rend_any HR7.out
    refine EN.mono ?_
    clear EN
    rintro e w8 ⟨rfl, hw⟩
    rw [hw]
    clear hw w8 HXY
    go_wp2_with fail
    have P0 : Hid (Off (fun _ => False) w w7) := P7.out
    clear b0 b1 y0 y1 B7 Y7 HR7 P7
    generalize w7 = u0 at P0 ⊢
    have SR : Hid (Src u0 ta ca bs) := HS.out.off P0.out (fun _ _ _ h => h)
    refine (newReader_any ta ca bs HBD.out HLT.out u0 SR.out).mono ?_
    rintro e u1 ⟨r2, D2, rfl, hr2, hD2, R2, o⟩
    have HR2 : Hid (u0.heap.size ≤ r2) := hr2
    have HR3 : Hid _ := R2
    have P1 : Hid (Off (fun _ => False) w u1) := P0.out.trans o (fun _ _ h => h)
    clear hr2 hD2 R2 o
    go_wp2_with fail
    have RD := mread_any HR3.out
    obtain ⟨x2, hx2⟩ : ∃ x, x = mrX (bs, 0) := ⟨_, rfl⟩
    obtain ⟨y2, hy2⟩ : ∃ x, x = mrY (bs, 0) := ⟨_, rfl⟩
    obtain ⟨q2, hq2⟩ : ∃ x, x = mrB (bs, 0) := ⟨_, rfl⟩
    rw [← hx2, ← hy2, ← hq2] at RD
    have HI : Hid (q2 = true → mayB x2 y2 = true ∧ ∃ l, bs = encM x2 y2 ++ l ∧ mrS (bs, 0) = (l, 0)) := by show _ → _; rw [hx2, hy2, hq2]; exact rd_is HLT.out
    have HZ : Hid (q2 = false → x2 = 0 ∧ y2 = 0) := by show _ → _; rw [hx2, hy2, hq2]; intro h; simp [mrX, mrY, h]
    clear hx2 hy2 hq2
    refine RD.mono ?_
    clear RD
    rintro e u2 ⟨rfl, R4, o⟩
    have HR4 : Hid _ := R4
    have P2 : Hid (Off (fun _ => False) w u2) := P1.out.trans o (fun c hc h => by have := HR2.out; have := P0.out.size; omega)
    clear o R4
    cases q2 with
    | false =>
      obtain ⟨rfl, rfl⟩ := HZ.out rfl
      go_wp2_with fail
      refine (HK.out _).mono ?_
      rintro e u4 ⟨rfl, o⟩
      go_wp2_with fail
      go_ret
      exact ⟨rfl, (P2.out.alloc _).trans o (fun _ _ h => h)⟩
    | true =>
      obtain ⟨hm, l, hbs, hms⟩ := HI.out rfl
      have hy := may_of hm
      have HY : Hid (-9223372036854775808 ≤ y2 ∧ y2 ≤ 9223372036854775807) := ⟨by omega, by omega⟩
      have HMt : Hid (mayB x2 y2 = true) := hm
      obtain ⟨en, hen⟩ : ∃ en, en = encM x2 y2 := ⟨_, rfl⟩
      rw [← hen] at hbs
      rw [hms] at HR4
      have HBS : Hid (bs = en ++ l) := hbs
      have HEN : Hid (en = encM x2 y2) := hen
      clear hm hy hbs hen hms
      go_wp2_with fail
      generalize hU : u2.alloc (.cells #[.int .i64 x2, .int .i64 y2] 23) = u3
      have HZ3 : Hid (Cel (u2.heap.size) 23 #[.int .i64 x2, .int .i64 y2] u3) := by show Cel _ _ _ _; rw [← hU]; exact Cel.new u2 _ _
      have O3 : Hid (Off (fun _ => False) u2 u3) := by show Off _ _ _; rw [← hU]; exact (Off.refl _ u2).alloc _
      have P3 : Hid (Off (fun _ => False) w u3) := P2.out.trans O3.out (fun _ _ h => h)
      clear hU
      refine (newWriter_any 40 (by decide) u3).mono ?_
      rintro e u4 ⟨rfl, W4, o⟩
      have HW4 : Hid (Wtr (fun c => c = u3.heap.size) u3.heap.size 40 (some []) u4) := W4
      have O4 : Hid (Off (fun _ => False) u3 u4) := o
      clear W4 o
      have HZ4 : Hid (Cel (u2.heap.size) 23 #[.int .i64 x2, .int .i64 y2] u4) := HZ3.out.off O4.out (fun h => h)
      have z0 : u4.cell? ⟨u2.heap.size, 0, none⟩ = some (.int .i64 x2) := HZ4.out.cell 0
      have z1 : u4.cell? ⟨u2.heap.size, 1, none⟩ = some (.int .i64 y2) := HZ4.out.cell 1
      have HU : Hid (u2.heap.size < u3.heap.size) := HZ3.out.lt
      have HPZ : Hid (w.heap.size ≤ u3.heap.size) := P3.out.size
      have HRB : Hid (Rdr 53 D2 r2 (l, 0) u4) := (HR4.out.off O3.out (fun h => h) (fun _ _ _ h => h)).off O4.out (fun h => h) (fun _ _ _ h => h)
      have HRL : Hid (r2 < u3.heap.size) := by have := HR4.out.here; have := HU.out; show _ < _; omega
      have P4 : Hid (Off (fun _ => False) w u4) := P3.out.trans O4.out (fun _ _ h => h)
      have HDL : Hid (∀ c, D2 c → c < u3.heap.size) := fun c h => by have := HR4.out.lt c h; have := HU.out; omega
      obtain ⟨p2, hp2⟩ : ∃ p, p = u3.heap.size := ⟨_, rfl⟩
      rw [← hp2] at HW4 HU HPZ HRL HDL ⊢
      clear hp2
      go_wp2_with fail
      have WR := mwrite_any HW4.out x2 y2 HY.out.1 HY.out.2
      rw [← HEN.out] at WR
      refine WR.mono ?_
      clear WR
      rintro e u5 ⟨rfl, D5, W5, o5, d5⟩
      have HW5 : Hid _ := W5
      have HZ5 : Hid (Cel (u2.heap.size) 23 #[.int .i64 x2, .int .i64 y2] u5) := HZ4.out.off o5 (fun h => by have := HU.out; omega)
      have HRB5 : Hid (Rdr 53 D2 r2 (l, 0) u5) := HRB.out.off o5 (fun h => by have := HRL.out; omega) (fun c _ hc h => by have := HDL.out c hc; omega)
      have P5 : Hid (Off (fun _ => False) w u5) := P4.out.trans o5 (fun c hc h => by have := HPZ.out; omega)
      clear W5 o5 d5 z0 z1
      go_wp2_with fail
      have DN : Calls Try.prog 18 #[.pointer (some ⟨p2, 0, none⟩)] u5 fun e w' => ∃ t c, e = .returned (.tuple #[.slice t en.length c, .int .i64 0]) ∧ OwnR w' t c en ∧ (∀ k, blk t = some k → u5.heap.size ≤ k) ∧ Off (fun _ => False) u5 w' := done_any HW5.out (by have := enc_len (s := x2) HY.out.1 HY.out.2; rw [← HEN.out] at this; simp; omega)
      refine DN.mono ?_
      clear DN
      rintro e u6 ⟨t6, c6, rfl, own6, hb6, o6⟩
      have HW6 : Hid _ := own6
      have HZ6 : Hid (Cel (u2.heap.size) 23 #[.int .i64 x2, .int .i64 y2] u6) := HZ5.out.off o6 (fun h => h)
      have HRB6 : Hid (Rdr 53 D2 r2 (l, 0) u6) := HRB5.out.off o6 (fun h => h) (fun _ _ _ h => h)
      have P6 : Hid (Off (fun _ => False) w u6) := P5.out.trans o6 (fun _ _ h => h)
      have HS6 : Hid (Src u6 ta ca en) := by have h := HS.out.off P6.out (fun _ _ _ h => h); rw [HBS.out] at h; exact h.pre
      have HLEN : Hid (bs.length = en.length + l.length) := by show _ = _; rw [HBS.out, List.length_append]
      have HSL : Hid (∀ W, (Instr.slice 30 (.slice ta bs.length ca) none (some (.int .i64 ((en.length : Nat) : Int))) none).run Try.prog W = .ok (.slice ta en.length ca) W) := fun W => slice_to ta bs.length ca en.length (by have := HLEN.out; have := HCP.out; omega) W
      have HLF : Hid (∀ W, Off (fun _ => False) u6 W → Calls Try.prog 22 #[.pointer (some ⟨r2, 0, none⟩)] W fun e w' => e = .returned (.int .i64 ((l.length : Nat) : Int)) ∧ Off (fun _ => False) W w') := fun W o => (rleft_any (HRB6.out.off o (fun h => h) (fun _ _ _ h => h))).mono (fun e w' h => ⟨h.1, by rw [h.2]; exact Off.refl _ _⟩)
      have HMM : Hid (∀ W, Calls Try.prog 10 #[.agg #[.int .i64 x2, .int .i64 y2]] W fun e w' => e = .returned (.bool true) ∧ Off (fun _ => False) W w') := fun W => by have := may_any x2 y2 W; rwa [HMt.out] at this
      have HBD2 : Hid (bs.length ≤ 140737488355328) := HBD.out
      clear own6 hb6 o6 HRB6 HRB5 HRB HZ5 HZ4 HZ3 HW5 HW4 HR4 HR3 HI HZ HMt HEN HY HDL HRL P5 P4 P3 P2 P1 O3 O4 HU HPZ SR
      go_upto_region 15 with fail
      refine wp_region_held_drew (S := Off (fun _ => False) u6) (by kernel_rfl) (Off.refl _ u6).drew (fun hS => ?_)
      refine take_at (i := 0) 78 (v := .agg #[.int .i64 x2, .int .i64 y2]) rfl rfl (by kernel_rfl) (by kernel_rfl) (by kernel_rfl) (fun _ _ _ h => h) (Or.inl ⟨by rfl, fun w' hw' => by have x0 := (HZ6.out.off hw' (fun h => h)).cell 0; have x1 := (HZ6.out.off hw' (fun h => h)).cell 1; simp at x0 x1; go_simp⟩) hS ?_
      simp only [Act.put, List.setIfInBounds_toArray, List.set_cons_zero, List.set_cons_succ]
      refine wpAnyH_ready (rs := [1]) (by kernel_rfl) (by simp) ?_
      refine AllReadyH.cons rfl (fun K' hK' => ?_) AllReadyH.nil
      go_simp
      refine (HMM.out _).mono ?_
      rintro e v ⟨rfl, o⟩
      refine hK'.out _ _ (hS.trans o (fun _ _ h => h)) (fun hS => ?_)
      clear hK' K' o
      refine take_at (i := 2) 80 (v := .bool true) rfl rfl (by kernel_rfl) (by kernel_rfl) (by kernel_rfl) (fun _ _ _ h => h) (Or.inl ⟨by rfl, fun w' hw' => by go_simp⟩) hS ?_
      simp only [Act.put, List.setIfInBounds_toArray, List.set_cons_zero, List.set_cons_succ]
      refine take_at (i := 3) 81 (v := .slice t6 en.length c6) rfl rfl (by kernel_rfl) (by kernel_rfl) (by kernel_rfl) (fun _ _ _ h => h) (Or.inl ⟨by rfl, fun w' hw' => by go_simp⟩) hS ?_
      simp only [Act.put, List.setIfInBounds_toArray, List.set_cons_zero, List.set_cons_succ]
      refine take_at (i := 4) 82 (v := .int .i64 ((en.length : Nat) : Int)) rfl rfl (by kernel_rfl) (by kernel_rfl) (by kernel_rfl) (fun _ _ _ h => h) (Or.inl ⟨by rfl, fun w' hw' => by go_simp⟩) hS ?_
      simp only [Act.put, List.setIfInBounds_toArray, List.set_cons_zero, List.set_cons_succ]
      refine take_at (i := 5) 83 (v := .slice ta bs.length ca) rfl rfl (by kernel_rfl) (by kernel_rfl) (by kernel_rfl) (fun _ _ _ h => h) (Or.inl ⟨by rfl, fun w' hw' => by go_simp⟩) hS ?_
      simp only [Act.put, List.setIfInBounds_toArray, List.set_cons_zero, List.set_cons_succ]
      refine take_at (i := 6) 84 (v := .int .i64 ((bs.length : Nat) : Int)) rfl rfl (by kernel_rfl) (by kernel_rfl) (by kernel_rfl) (fun _ _ _ h => h) (Or.inl ⟨by rfl, fun w' hw' => by go_simp⟩) hS ?_
      simp only [Act.put, List.setIfInBounds_toArray, List.set_cons_zero, List.set_cons_succ]
      refine take_at (i := 7) 85 (v := .bool true) rfl rfl (by kernel_rfl) (by kernel_rfl) (by kernel_rfl) (fun _ _ _ h => h) (Or.inl ⟨by rfl, fun w' hw' => by go_simp; have := HLEN.out; omega⟩) hS ?_
      simp only [Act.put, List.setIfInBounds_toArray, List.set_cons_zero, List.set_cons_succ]
      refine take_at (i := 8) 86 (v := .bool true) rfl rfl (by kernel_rfl) (by kernel_rfl) (by kernel_rfl) (fun _ _ _ h => h) (Or.inl ⟨by rfl, fun w' hw' => by go_simp⟩) hS ?_
      simp only [Act.put, List.setIfInBounds_toArray, List.set_cons_zero, List.set_cons_succ]
      refine take_at (i := 9) 87 (v := .bool true) rfl rfl (by kernel_rfl) (by kernel_rfl) (by kernel_rfl) (fun _ _ _ h => h) (Or.inl ⟨by rfl, fun w' hw' => by go_simp⟩) hS ?_
      simp only [Act.put, List.setIfInBounds_toArray, List.set_cons_zero, List.set_cons_succ]
      refine take_at (i := 10) 88 (v := .slice t6 en.length c6) rfl rfl (by kernel_rfl) (by kernel_rfl) (by kernel_rfl) (fun _ _ _ h => h) (Or.inl ⟨by rfl, fun w' hw' => by go_simp⟩) hS ?_
      simp only [Act.put, List.setIfInBounds_toArray, List.set_cons_zero, List.set_cons_succ]
      refine take_at (i := 11) 89 (v := .string (strOf en)) rfl rfl (by kernel_rfl) (by kernel_rfl) (by kernel_rfl) (fun _ _ _ h => h) (Or.inl ⟨by rfl, fun w' hw' => by have x := conv_src (HW6.out.off hw' (fun _ _ _ h => h)).src; go_simp⟩) hS ?_
      simp only [Act.put, List.setIfInBounds_toArray, List.set_cons_zero, List.set_cons_succ]
      refine take_at (i := 12) 90 (v := .slice ta bs.length ca) rfl rfl (by kernel_rfl) (by kernel_rfl) (by kernel_rfl) (fun _ _ _ h => h) (Or.inl ⟨by rfl, fun w' hw' => by go_simp⟩) hS ?_
      simp only [Act.put, List.setIfInBounds_toArray, List.set_cons_zero, List.set_cons_succ]
      refine take_at (i := 13) 91 (v := .slice t6 en.length c6) rfl rfl (by kernel_rfl) (by kernel_rfl) (by kernel_rfl) (fun _ _ _ h => h) (Or.inl ⟨by rfl, fun w' hw' => by go_simp⟩) hS ?_
      simp only [Act.put, List.setIfInBounds_toArray, List.set_cons_zero, List.set_cons_succ]
      refine take_at (i := 14) 92 (v := .int .i64 ((en.length : Nat) : Int)) rfl rfl (by kernel_rfl) (by kernel_rfl) (by kernel_rfl) (fun _ _ _ h => h) (Or.inl ⟨by rfl, fun w' hw' => by go_simp⟩) hS ?_
      simp only [Act.put, List.setIfInBounds_toArray, List.set_cons_zero, List.set_cons_succ]
      refine take_at (i := 15) 93 (v := .slice ta en.length ca) rfl rfl (by kernel_rfl) (by kernel_rfl) (by kernel_rfl) (fun _ _ _ h => h) (Or.inl ⟨by rfl, fun w' hw' => by have x := HSL.out w'; go_simp⟩) hS ?_
      simp only [Act.put, List.setIfInBounds_toArray, List.set_cons_zero, List.set_cons_succ]
      refine take_at (i := 16) 94 (v := .string (strOf en)) rfl rfl (by kernel_rfl) (by kernel_rfl) (by kernel_rfl) (fun _ _ _ h => h) (Or.inl ⟨by rfl, fun w' hw' => by have x := conv_src (HS6.out.off hw' (fun _ _ _ h => h)); go_simp⟩) hS ?_
      simp only [Act.put, List.setIfInBounds_toArray, List.set_cons_zero, List.set_cons_succ]
      refine take_at (i := 17) 95 (v := .bool true) rfl rfl (by kernel_rfl) (by kernel_rfl) (by kernel_rfl) (fun _ _ _ h => h) (Or.inl ⟨by rfl, fun w' hw' => by go_simp⟩) hS ?_
      simp only [Act.put, List.setIfInBounds_toArray, List.set_cons_zero, List.set_cons_succ]
      refine take_at (i := 18) 96 (v := .bool true) rfl rfl (by kernel_rfl) (by kernel_rfl) (by kernel_rfl) (fun _ _ _ h => h) (Or.inl ⟨by rfl, fun w' hw' => by go_simp⟩) hS ?_
      simp only [Act.put, List.setIfInBounds_toArray, List.set_cons_zero, List.set_cons_succ]
      refine take_at (i := 19) 97 (v := .bool true) rfl rfl (by kernel_rfl) (by kernel_rfl) (by kernel_rfl) (fun _ _ _ h => h) (Or.inl ⟨by rfl, fun w' hw' => by go_simp⟩) hS ?_
      simp only [Act.put, List.setIfInBounds_toArray, List.set_cons_zero, List.set_cons_succ]
      refine take_at (i := 20) 98 (v := .pointer (some ⟨r2, 0, none⟩)) rfl rfl (by kernel_rfl) (by kernel_rfl) (by kernel_rfl) (fun _ _ _ h => h) (Or.inl ⟨by rfl, fun w' hw' => by go_simp⟩) hS ?_
      simp only [Act.put, List.setIfInBounds_toArray, List.set_cons_zero, List.set_cons_succ]
      refine take_at (i := 22) 100 (v := .slice ta bs.length ca) rfl rfl (by kernel_rfl) (by kernel_rfl) (by kernel_rfl) (fun _ _ _ h => h) (Or.inl ⟨by rfl, fun w' hw' => by go_simp⟩) hS ?_
      simp only [Act.put, List.setIfInBounds_toArray, List.set_cons_zero, List.set_cons_succ]
      refine take_at (i := 23) 101 (v := .int .i64 ((bs.length : Nat) : Int)) rfl rfl (by kernel_rfl) (by kernel_rfl) (by kernel_rfl) (fun _ _ _ h => h) (Or.inl ⟨by rfl, fun w' hw' => by go_simp⟩) hS ?_
      simp only [Act.put, List.setIfInBounds_toArray, List.set_cons_zero, List.set_cons_succ]
      refine take_at (i := 24) 102 (v := .slice t6 en.length c6) rfl rfl (by kernel_rfl) (by kernel_rfl) (by kernel_rfl) (fun _ _ _ h => h) (Or.inl ⟨by rfl, fun w' hw' => by go_simp⟩) hS ?_
      simp only [Act.put, List.setIfInBounds_toArray, List.set_cons_zero, List.set_cons_succ]
      refine take_at (i := 25) 103 (v := .int .i64 ((en.length : Nat) : Int)) rfl rfl (by kernel_rfl) (by kernel_rfl) (by kernel_rfl) (fun _ _ _ h => h) (Or.inl ⟨by rfl, fun w' hw' => by go_simp⟩) hS ?_
      simp only [Act.put, List.setIfInBounds_toArray, List.set_cons_zero, List.set_cons_succ]
      refine take_at (i := 26) 104 (v := .int .i64 ((l.length : Nat) : Int)) rfl rfl (by kernel_rfl) (by kernel_rfl) (by kernel_rfl) (fun _ _ _ h => h) (Or.inl ⟨by rfl, fun w' hw' => by have x : IntKind.i64.wrap (((bs.length : Nat) : Int) - ((en.length : Nat) : Int)) = ((l.length : Nat) : Int) := wrap_sub HLEN.out HBD2.out; go_simp⟩) hS ?_
      simp only [Act.put, List.setIfInBounds_toArray, List.set_cons_zero, List.set_cons_succ]
      refine wpAnyH_ready (rs := [21]) (by kernel_rfl) (by simp) ?_
      refine AllReadyH.cons rfl (fun K' hK' => ?_) AllReadyH.nil
      go_simp
      refine (HLF.out _ hS).mono ?_
      rintro e v ⟨rfl, o⟩
      refine hK'.out _ _ (hS.trans o (fun _ _ h => h)) (fun hS => ?_)
      clear hK' K' o
      refine take_at (i := 27) 105 (v := .bool true) rfl rfl (by kernel_rfl) (by kernel_rfl) (by kernel_rfl) (fun _ _ _ h => h) (Or.inl ⟨by rfl, fun w' hw' => by go_simp⟩) hS ?_
      simp only [Act.put, List.setIfInBounds_toArray, List.set_cons_zero, List.set_cons_succ]
      refine take_at (i := 28) 106 (v := .bool true) rfl rfl (by kernel_rfl) (by kernel_rfl) (by kernel_rfl) (fun _ _ _ h => h) (Or.inl ⟨by rfl, fun w' hw' => by go_simp⟩) hS ?_
      simp only [Act.put, List.setIfInBounds_toArray, List.set_cons_zero, List.set_cons_succ]
      refine take_at (i := 29) 107 (v := .bool true) rfl rfl (by kernel_rfl) (by kernel_rfl) (by kernel_rfl) (fun _ _ _ h => h) (Or.inl ⟨by rfl, fun w' hw' => by go_simp⟩) hS ?_
      simp only [Act.put, List.setIfInBounds_toArray, List.set_cons_zero, List.set_cons_succ]
      refine wpAnyH_ready (rs := [30]) (by kernel_rfl) (by simp) ?_
      refine AllReadyH.cons rfl (fun K' hK' => ?_) AllReadyH.nil
      go_simp
      refine (HK.out _).mono ?_
      rintro e v ⟨rfl, o⟩
      refine hK'.out _ _ (hS.trans o (fun _ _ h => h)) (fun hS => ?_)
      clear hK' K' o
      refine take_at (i := 31) 109 (v := .bool true) rfl rfl (by kernel_rfl) (by kernel_rfl) (by kernel_rfl) (fun _ _ _ h => h) (Or.inl ⟨by rfl, fun w' hw' => by go_simp⟩) hS ?_
      simp only [Act.put, List.setIfInBounds_toArray, List.set_cons_zero, List.set_cons_succ]
      refine take_at (i := 32) 4 (v := .bool true) rfl rfl (by kernel_rfl) (by kernel_rfl) (by kernel_rfl) (fun _ _ _ h => h) (Or.inl ⟨by rfl, fun w' hw' => by go_simp⟩) hS ?_
      simp only [Act.put, List.setIfInBounds_toArray, List.set_cons_zero, List.set_cons_succ]
      refine wpAnyH_done (by kernel_rfl) ?_ _
      go_wp2_with fail
      go_ret
      exact ⟨rfl, P6.out.trans hS (fun _ _ h => h)⟩
end Go.Proofs.Ytgnchloclkjalaa
