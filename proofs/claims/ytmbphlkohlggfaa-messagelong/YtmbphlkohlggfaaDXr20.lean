/- Items of several texts. -/
import Derived.Test.YtmbphlkohlggfaaDQt18
import Derived.Test.YtmbphlkohlggfaaDPt20
import Derived.Test.YtmbphlkohlggfaaDRd20
namespace Go.Proofs.Ytmbphlkohlggfaa
set_option maxRecDepth 100000
open Go.RowKit
structure RdR (D : Nat → Prop) (b N : Nat) (R : Option (MD × RS)) (e : Ending) (w' : World) : Prop where
 is : (∃ (X : Mg) (es : List E) (gs : List G) (ms : List (Int × Int)) (s' : RS), e = .returned (.tuple #[(.agg #[.int .i64 X.k, .int .i64 X.fr, .int .i64 X.tn, .int .i64 X.op, .int .i64 X.fo, .string X.key, .int .i64 X.bk, .slice X.ea X.el X.ec, .slice X.da X.dl X.dc, .slice X.ma X.ml X.mc]), .bool true]) ∧ R = some (mdOf X es gs ms, s') ∧ Rdr 125 D b s' w' ∧ ∀ v, Off (fun c => c < N) w' v → MsgAt v X es gs ms) ∨ (∃ X : Mg, e = .returned (.tuple #[(.agg #[.int .i64 X.k, .int .i64 X.fr, .int .i64 X.tn, .int .i64 X.op, .int .i64 X.fo, .string X.key, .int .i64 X.bk, .slice X.ea X.el X.ec, .slice X.da X.dl X.dc, .slice X.ma X.ml X.mc]), .bool false]) ∧ R = none)
set_option maxHeartbeats 8000000 in
theorem xread_core {D : Nat → Prop} {b : Nat} {s : RS} {w : World} (hR : Rdr 125 D b s w) (so sf sk sb se sg sn : Bool) (k fr tn op fo bk : Int) (key : ByteArray) (bs : List Nat) (a1 a2 a3 a4 a5 a6 a7 : RS) (RE : Option (List K × RS)) (RG : RS → Option (List GK × RS)) (RM : RS → Option (List (Int × Int) × RS)) (R : Option (MD × RS))
  (hp : ∀ W, Calls Try.prog 60 #[.int .i64 k] W fun e w' => e = .returned (.agg #[.bool so, .bool sf, .bool sk, .bool sb, .bool se, .bool sg, .bool sn]) ∧ Off (fun _ => False) W w')
  (h1 : (∀ W, Rdr 125 D b s W → Calls Try.prog 96 #[.pointer (some ⟨b, 0, none⟩)] W fun e w' => e = .returned (.int .i64 k) ∧ Rdr 125 D b a1 w' ∧ Off (fun c => c = b) W w')) (h2 : (∀ W, Rdr 125 D b a1 W → Calls Try.prog 96 #[.pointer (some ⟨b, 0, none⟩)] W fun e w' => e = .returned (.int .i64 fr) ∧ Rdr 125 D b a2 w' ∧ Off (fun c => c = b) W w')) (h3 : (∀ W, Rdr 125 D b a2 W → Calls Try.prog 96 #[.pointer (some ⟨b, 0, none⟩)] W fun e w' => e = .returned (.int .i64 tn) ∧ Rdr 125 D b a3 w' ∧ Off (fun c => c = b) W w'))
  (h4 : (so = true → (∀ W, Rdr 125 D b a3 W → Calls Try.prog 97 #[.pointer (some ⟨b, 0, none⟩)] W fun e w' => e = .returned (.int .i64 op) ∧ Rdr 125 D b a4 w' ∧ Off (fun c => c = b) W w')) ∧ (so = false → op = 0 ∧ a4 = a3)) (h5 : (sf = true → (∀ W, Rdr 125 D b a4 W → Calls Try.prog 96 #[.pointer (some ⟨b, 0, none⟩)] W fun e w' => e = .returned (.int .i64 fo) ∧ Rdr 125 D b a5 w' ∧ Off (fun c => c = b) W w')) ∧ (sf = false → fo = 0 ∧ a5 = a4))
  (h6 : (sk = true → ∀ W, Rdr 125 D b a5 W → Calls Try.prog 98 #[.pointer (some ⟨b, 0, none⟩), .int .i64 32] W fun e w' => ∃ t c, e = .returned (.slice t bs.length c) ∧ OwnR w' t c bs ∧ Rdr 125 D b a6 w' ∧ Off (fun c => c = b) W w') ∧ (sk = false → key = ⟨#[]⟩ ∧ a6 = a5)) (hkey : sk = true → key = strOf bs)
  (h7 : (sb = true → (∀ W, Rdr 125 D b a6 W → Calls Try.prog 96 #[.pointer (some ⟨b, 0, none⟩)] W fun e w' => e = .returned (.int .i64 bk) ∧ Rdr 125 D b a7 w' ∧ Off (fun c => c = b) W w')) ∧ (sb = false → bk = 0 ∧ a7 = a6))
  (h8 : (se = true → ∀ W, Rdr 125 D b a7 W → Calls Try.prog 99 #[.pointer (some ⟨b, 0, none⟩), .int .i64 256, .func (.func 100) #[] #[]] W fun e w' => GotE D b W.heap.size RE e w' ∧ Off (fun c => c = b) W w') ∧ (se = false → RE = some ([], a7)))
  (h9 : (sg = true → ∀ a W, Rdr 125 D b a W → Calls Try.prog 101 #[.pointer (some ⟨b, 0, none⟩), .int .i64 256, .func (.func 102) #[] #[]] W fun e w' => GotD D b W.heap.size (RG a) e w' ∧ Off (fun c => c = b) W w') ∧ (sg = false → ∀ a, RG a = some ([], a)))
  (h0 : (sn = true → ∀ a W, Rdr 125 D b a W → Calls Try.prog 103 #[.pointer (some ⟨b, 0, none⟩), .int .i64 8, .func (.func 104) #[] #[]] W fun e w' => GotM D b W.heap.size (RM a) e w' ∧ Off (fun c => c = b) W w') ∧ (sn = false → ∀ a, RM a = some ([], a)))
  (hRR : R = RE.bind fun p => (RG p.2).bind fun q => (RM q.2).map fun r => (⟨k, fr, tn, op, fo, key, bk, p.1, q.1, r.1⟩, r.2)) :
  Calls Try.prog 58 #[.pointer (some ⟨b, 0, none⟩)] w fun e w' => RdR D b w.heap.size R e w' ∧ Off (fun c => c = b) w w' := by
 have HH1 : Hid _ := h1
 have HH2 : Hid _ := h2
 have HH3 : Hid _ := h3
 have HH4 : Hid _ := h4
 have HH5 : Hid _ := h5
 have HH6 : Hid _ := h6
 have HH7 : Hid _ := h7
 have HH8 : Hid _ := h8
 have HH9 : Hid _ := h9
 have HH0 : Hid _ := h0
 have HP : Hid _ := hp
 have HBW : Hid (b < w.heap.size) := hR.here
 have HDL : Hid (∀ c, D c → c < w.heap.size) := hR.lt
 have HRR : Hid _ := hRR
 have HKY : Hid _ := hkey
 clear hkey
 clear h1 h2 h3 h4 h5 h6 h7 h8 h9 h0 hp hRR
 have O0 : Off (fun _ => False) w ((w.alloc (.cells #[.int .i64 0, .int .i64 0, .int .i64 0, .int .i64 0, .int .i64 0, .string ⟨#[]⟩, .int .i64 0, .slice none 0 0, .slice none 0 0, .slice none 0 0] 26)).alloc (.cells #[.int .i64 0, .int .i64 0, .int .i64 0, .int .i64 0, .int .i64 0, .string ⟨#[]⟩, .int .i64 0, .slice none 0 0, .slice none 0 0, .slice none 0 0] 26)) := ((Off.refl _ w).alloc _).alloc _
 have C2 : Cel w.heap.size 26 #[.int .i64 0, .int .i64 0, .int .i64 0, .int .i64 0, .int .i64 0, .string ⟨#[]⟩, .int .i64 0, .slice none 0 0, .slice none 0 0, .slice none 0 0] ((w.alloc (.cells #[.int .i64 0, .int .i64 0, .int .i64 0, .int .i64 0, .int .i64 0, .string ⟨#[]⟩, .int .i64 0, .slice none 0 0, .slice none 0 0, .slice none 0 0] 26)).alloc (.cells #[.int .i64 0, .int .i64 0, .int .i64 0, .int .i64 0, .int .i64 0, .string ⟨#[]⟩, .int .i64 0, .slice none 0 0, .slice none 0 0, .slice none 0 0] 26)) := (Cel.new w _ _).alloc _
 have C4 : Cel (w.heap.size + 1) 26 #[.int .i64 0, .int .i64 0, .int .i64 0, .int .i64 0, .int .i64 0, .string ⟨#[]⟩, .int .i64 0, .slice none 0 0, .slice none 0 0, .slice none 0 0] ((w.alloc (.cells #[.int .i64 0, .int .i64 0, .int .i64 0, .int .i64 0, .int .i64 0, .string ⟨#[]⟩, .int .i64 0, .slice none 0 0, .slice none 0 0, .slice none 0 0] 26)).alloc (.cells #[.int .i64 0, .int .i64 0, .int .i64 0, .int .i64 0, .int .i64 0, .string ⟨#[]⟩, .int .i64 0, .slice none 0 0, .slice none 0 0, .slice none 0 0] 26)) := Cel.new1 w _ _ _
 have R0 := hR.off O0 (fun h => h) (fun _ _ _ h => h)
 clear hR
 go_enter Try.func58, Try.ntmps58
 go_upto_region 2 with fail
 generalize hV : (w.alloc (.cells #[.int .i64 0, .int .i64 0, .int .i64 0, .int .i64 0, .int .i64 0, .string ⟨#[]⟩, .int .i64 0, .slice none 0 0, .slice none 0 0, .slice none 0 0] 26)).alloc (.cells #[.int .i64 0, .int .i64 0, .int .i64 0, .int .i64 0, .int .i64 0, .string ⟨#[]⟩, .int .i64 0, .slice none 0 0, .slice none 0 0, .slice none 0 0] 26) = V at O0 C2 C4 R0 ⊢
 obtain ⟨q4, hq4⟩ : ∃ q, q = w.heap.size + 1 := ⟨_, rfl⟩
 obtain ⟨q2, hq2⟩ : ∃ q, q = w.heap.size := ⟨_, rfl⟩
 rw [← hq4] at C4 ⊢
 rw [← hq2] at C2 ⊢
 have HNE : Hid (q4 ≠ b ∧ q2 ≠ b ∧ q2 ≠ q4 ∧ w.heap.size ≤ q2 ∧ w.heap.size ≤ q4) := by have := HBW.out; exact ⟨by omega, by omega, by omega, by omega, by omega⟩
 have HC : Hid _ := C4
 have HZ : Hid _ := C2
 have HR : Hid _ := R0
 have HO : Hid (Off (fun c => c = b ∨ c = q4) w V) := O0.mono (fun _ _ h => h.elim)
 clear hV hq4 hq2 C2 C4 R0 O0
 have HND : Hid (¬ D q4) := fun h => by have := HDL.out q4 h; have := HNE.out; omega
 obtain ⟨x0, x1, x2, x3, x4, x5, x6, x7, x8, x9⟩ := celw10 HC.out
 have fz := HC.out.free
 go_wp2_with fail
 refine (HH1.out _ HR.out).mono ?_
 rintro e w5 ⟨rfl, r5, o5⟩
 have HR5 : Hid (Rdr 125 D b a1 w5) := r5
 have HO5 : Hid (Off (fun c => c = b) _ w5) := o5
 clear x0 x1 x2 x3 x4 x5 x6 x7 x8 x9 fz r5 o5
 have D5 := HC.out.off HO5.out (fun e => HNE.out.1 e)
 obtain ⟨y0, y1, y2, y3, y4, y5, y6, y7, y8, y9⟩ := celw10 D5
 have fy := D5.free
 go_upto_region 3 with fail
 have E5 : Cel q4 26 #[.int .i64 k, .int .i64 0, .int .i64 0, .int .i64 0, .int .i64 0, .string ⟨#[]⟩, .int .i64 0, .slice none 0 0, .slice none 0 0, .slice none 0 0] (w5.setCell ⟨q4, 0, none⟩ (.int .i64 k)) := D5.set 0 _
 have OS5 : Off (fun c => c = q4) w5 (w5.setCell ⟨q4, 0, none⟩ (.int .i64 k)) := (Off.refl (fun c => c = q4) w5).setCell (p := ⟨q4, 0, none⟩) (.inl rfl) _
 have HR6 : Hid (Rdr 125 D b a1 (w5.setCell ⟨q4, 0, none⟩ (.int .i64 k))) := HR5.out.off OS5 (fun e => HNE.out.1 e.symm) (fun c _ hc e => by have e : c = q4 := e; exact HND.out (e ▸ hc))
 have HO6 : Hid (Off (fun c => c = b ∨ c = q4) w (w5.setCell ⟨q4, 0, none⟩ (.int .i64 k))) := (HO.out.trans (HO5.out.mono (fun c _ h => .inl h)) (fun _ _ h => h)).trans (OS5.mono (fun c _ h => .inr h)) (fun _ _ h => h)
 have HZ6 : Hid (Cel q2 26 #[.int .i64 0, .int .i64 0, .int .i64 0, .int .i64 0, .int .i64 0, .string ⟨#[]⟩, .int .i64 0, .slice none 0 0, .slice none 0 0, .slice none 0 0] (w5.setCell ⟨q4, 0, none⟩ (.int .i64 k))) := (HZ.out.off HO5.out (fun e => HNE.out.2.1 e)).off OS5 (fun e => HNE.out.2.2.1 e)
 generalize w5.setCell ⟨q4, 0, none⟩ (.int .i64 k) = V0 at E5 HR6 HO6 HZ6 ⊢
 clear HC HR HO HZ HR5 HO5 OS5 D5 y0 y1 y2 y3 y4 y5 y6 y7 y8 y9 fy
 have HC : Hid _ := E5
 have HR : Hid _ := HR6.out
 have HO : Hid _ := HO6.out
 have HZ : Hid _ := HZ6.out
 clear E5 HR6 HO6 HZ6
 obtain ⟨x0, x1, x2, x3, x4, x5, x6, x7, x8, x9⟩ := celw10 HC.out
 have fz := HC.out.free
 go_wp2_with fail
 refine (HH2.out _ HR.out).mono ?_
 rintro e w5 ⟨rfl, r5, o5⟩
 have HR5 : Hid (Rdr 125 D b a2 w5) := r5
 have HO5 : Hid (Off (fun c => c = b) _ w5) := o5
 clear x0 x1 x2 x3 x4 x5 x6 x7 x8 x9 fz r5 o5
 have D5 := HC.out.off HO5.out (fun e => HNE.out.1 e)
 obtain ⟨y0, y1, y2, y3, y4, y5, y6, y7, y8, y9⟩ := celw10 D5
 have fy := D5.free
 go_upto_region 4 with fail
 have E5 : Cel q4 26 #[.int .i64 k, .int .i64 fr, .int .i64 0, .int .i64 0, .int .i64 0, .string ⟨#[]⟩, .int .i64 0, .slice none 0 0, .slice none 0 0, .slice none 0 0] (w5.setCell ⟨q4, 1, none⟩ (.int .i64 fr)) := D5.set 1 _
 have OS5 : Off (fun c => c = q4) w5 (w5.setCell ⟨q4, 1, none⟩ (.int .i64 fr)) := (Off.refl (fun c => c = q4) w5).setCell (p := ⟨q4, 1, none⟩) (.inl rfl) _
 have HR6 : Hid (Rdr 125 D b a2 (w5.setCell ⟨q4, 1, none⟩ (.int .i64 fr))) := HR5.out.off OS5 (fun e => HNE.out.1 e.symm) (fun c _ hc e => by have e : c = q4 := e; exact HND.out (e ▸ hc))
 have HO6 : Hid (Off (fun c => c = b ∨ c = q4) w (w5.setCell ⟨q4, 1, none⟩ (.int .i64 fr))) := (HO.out.trans (HO5.out.mono (fun c _ h => .inl h)) (fun _ _ h => h)).trans (OS5.mono (fun c _ h => .inr h)) (fun _ _ h => h)
 have HZ6 : Hid (Cel q2 26 #[.int .i64 0, .int .i64 0, .int .i64 0, .int .i64 0, .int .i64 0, .string ⟨#[]⟩, .int .i64 0, .slice none 0 0, .slice none 0 0, .slice none 0 0] (w5.setCell ⟨q4, 1, none⟩ (.int .i64 fr))) := (HZ.out.off HO5.out (fun e => HNE.out.2.1 e)).off OS5 (fun e => HNE.out.2.2.1 e)
 generalize w5.setCell ⟨q4, 1, none⟩ (.int .i64 fr) = V1 at E5 HR6 HO6 HZ6 ⊢
 clear HC HR HO HZ HR5 HO5 OS5 D5 y0 y1 y2 y3 y4 y5 y6 y7 y8 y9 fy
 have HC : Hid _ := E5
 have HR : Hid _ := HR6.out
 have HO : Hid _ := HO6.out
 have HZ : Hid _ := HZ6.out
 clear E5 HR6 HO6 HZ6
 obtain ⟨x0, x1, x2, x3, x4, x5, x6, x7, x8, x9⟩ := celw10 HC.out
 have fz := HC.out.free
 go_wp2_with fail
 refine (HH3.out _ HR.out).mono ?_
 rintro e w5 ⟨rfl, r5, o5⟩
 have HR5 : Hid (Rdr 125 D b a3 w5) := r5
 have HO5 : Hid (Off (fun c => c = b) _ w5) := o5
 clear x0 x1 x2 x3 x4 x5 x6 x7 x8 x9 fz r5 o5
 have D5 := HC.out.off HO5.out (fun e => HNE.out.1 e)
 obtain ⟨y0, y1, y2, y3, y4, y5, y6, y7, y8, y9⟩ := celw10 D5
 have fy := D5.free
 go_upto_region 5 with fail
 have E5 : Cel q4 26 #[.int .i64 k, .int .i64 fr, .int .i64 tn, .int .i64 0, .int .i64 0, .string ⟨#[]⟩, .int .i64 0, .slice none 0 0, .slice none 0 0, .slice none 0 0] (w5.setCell ⟨q4, 2, none⟩ (.int .i64 tn)) := D5.set 2 _
 have OS5 : Off (fun c => c = q4) w5 (w5.setCell ⟨q4, 2, none⟩ (.int .i64 tn)) := (Off.refl (fun c => c = q4) w5).setCell (p := ⟨q4, 2, none⟩) (.inl rfl) _
 have HR6 : Hid (Rdr 125 D b a3 (w5.setCell ⟨q4, 2, none⟩ (.int .i64 tn))) := HR5.out.off OS5 (fun e => HNE.out.1 e.symm) (fun c _ hc e => by have e : c = q4 := e; exact HND.out (e ▸ hc))
 have HO6 : Hid (Off (fun c => c = b ∨ c = q4) w (w5.setCell ⟨q4, 2, none⟩ (.int .i64 tn))) := (HO.out.trans (HO5.out.mono (fun c _ h => .inl h)) (fun _ _ h => h)).trans (OS5.mono (fun c _ h => .inr h)) (fun _ _ h => h)
 have HZ6 : Hid (Cel q2 26 #[.int .i64 0, .int .i64 0, .int .i64 0, .int .i64 0, .int .i64 0, .string ⟨#[]⟩, .int .i64 0, .slice none 0 0, .slice none 0 0, .slice none 0 0] (w5.setCell ⟨q4, 2, none⟩ (.int .i64 tn))) := (HZ.out.off HO5.out (fun e => HNE.out.2.1 e)).off OS5 (fun e => HNE.out.2.2.1 e)
 generalize w5.setCell ⟨q4, 2, none⟩ (.int .i64 tn) = V2 at E5 HR6 HO6 HZ6 ⊢
 clear HC HR HO HZ HR5 HO5 OS5 D5 y0 y1 y2 y3 y4 y5 y6 y7 y8 y9 fy
 have HC : Hid _ := E5
 have HR : Hid _ := HR6.out
 have HO : Hid _ := HO6.out
 have HZ : Hid _ := HZ6.out
 clear E5 HR6 HO6 HZ6
 obtain ⟨x0, x1, x2, x3, x4, x5, x6, x7, x8, x9⟩ := celw10 HC.out
 have fz := HC.out.free
 go_wp2_with fail
 refine (HP.out _).mono ?_
 rintro e w5 ⟨rfl, o5⟩
 clear x0 x1 x2 x3 x4 x5 x6 x7 x8 x9 fz
 go_upto_region 6 with fail
 have P5 : Cel w5.heap.size 99 #[.bool so, .bool sf, .bool sk, .bool sb, .bool se, .bool sg, .bool sn] (w5.alloc (.cells #[.bool so, .bool sf, .bool sk, .bool sb, .bool se, .bool sg, .bool sn] 99)) := Cel.new w5 _ _
 have O6 : Off (fun _ => False) w5 (w5.alloc (.cells #[.bool so, .bool sf, .bool sk, .bool sb, .bool se, .bool sg, .bool sn] 99)) := (Off.refl _ w5).alloc _
 generalize hv : w5.alloc (.cells #[.bool so, .bool sf, .bool sk, .bool sb, .bool se, .bool sg, .bool sn] 99) = V5 at P5 O6 ⊢
 obtain ⟨q5, hq5⟩ : ∃ q, q = w5.heap.size := ⟨_, rfl⟩
 rw [← hq5] at P5 ⊢
 have HO7 : Hid (Off (fun _ => False) V2 V5) := o5.trans O6 (fun _ _ h => h)
 have HC7 : Hid _ := HC.out.off HO7.out (fun h => h)
 have HR7 : Hid _ := HR.out.off HO7.out (fun h => h) (fun _ _ _ h => h)
 have HZ7 : Hid _ := HZ.out.off HO7.out (fun h => h)
 have HOW : Hid (Off (fun c => c = b ∨ c = q4) w V5) := HO.out.trans (HO7.out.mono (fun _ _ h => h.elim)) (fun _ _ h => h)
 have HNQ : Hid (q5 ≠ b ∧ q5 ≠ q4) := by have e1 := HC.out.lt; have e2 := HR.out.here; have e3 := o5.size; exact ⟨by omega, by omega⟩
 have HPQ : Hid _ := P5
 have HVS : Hid (b < V5.heap.size ∧ q4 < V5.heap.size ∧ q2 < V5.heap.size ∧ w.heap.size ≤ V5.heap.size) := ⟨HR7.out.here, HC7.out.lt, HZ7.out.lt, HOW.out.size⟩
 clear hv hq5 P5 O6 o5 HC HR HO HZ HP HO7
 have HC : Hid _ := HC7.out
 have HR : Hid _ := HR7.out
 have HO : Hid (Off (fun c => c = b ∨ c = q4) V5 V5) := Off.refl _ _
 clear HC7 HR7
 have p0 := (HPQ.out.off HO.out (fun e => e.elim HNQ.out.1 HNQ.out.2)).cell 0
 simp at p0
 go_upto_if 20 with fail
 go_cut [] from 21 to 23 (fun wx => Hid (Cel q4 26 #[.int .i64 k, .int .i64 fr, .int .i64 tn, .int .i64 op, .int .i64 0, .string ⟨#[]⟩, .int .i64 0, .slice none 0 0, .slice none 0 0, .slice none 0 0] wx) ∧ Hid (Rdr 125 D b a4 wx) ∧ Hid (Off (fun c => c = b ∨ c = q4) V5 wx))
 case first =>
  clear p0
  cases so
  ·go_wp2_with fail
   go_meet
   case rel => obtain ⟨e1, e2⟩ := HH4.out.2 (by simp); rw [e1, e2]; exact ⟨HC.out, HR.out, HO.out⟩
  ·go_wp2_with fail
   refine ((HH4.out.1 (by simp)) _ HR.out).mono ?_
   rintro e w5 ⟨rfl, r5, o5⟩
   have HR5 : Hid (Rdr 125 D b a4 w5) := r5
   have HO5 : Hid (Off (fun c => c = b) _ w5) := o5
   clear r5 o5
   have D5 := HC.out.off HO5.out (fun e => HNE.out.1 e)
   obtain ⟨y0, y1, y2, y3, y4, y5, y6, y7, y8, y9⟩ := celw10 D5
   have fy := D5.free
   go_wp2_with fail
   have E5 : Cel q4 26 #[.int .i64 k, .int .i64 fr, .int .i64 tn, .int .i64 op, .int .i64 0, .string ⟨#[]⟩, .int .i64 0, .slice none 0 0, .slice none 0 0, .slice none 0 0] (w5.setCell ⟨q4, 3, none⟩ (.int .i64 op)) := D5.set 3 _
   have OS5 : Off (fun c => c = q4) w5 (w5.setCell ⟨q4, 3, none⟩ (.int .i64 op)) := (Off.refl (fun c => c = q4) w5).setCell (p := ⟨q4, 3, none⟩) (.inl rfl) _
   go_meet
   case rel => exact ⟨E5, HR5.out.off OS5 (fun e => HNE.out.1 e.symm) (fun c _ hc e => by have e : c = q4 := e; exact HND.out (e ▸ hc)), (HO.out.trans (HO5.out.mono (fun c _ h => .inl h)) (fun _ _ h => h)).trans (OS5.mono (fun c _ h => .inr h)) (fun _ _ h => h)⟩
 case rest =>
  clear p0 HC HR HO
  obtain ⟨HC, HR, HO⟩ := hcut
  have p1 := (HPQ.out.off HO.out (fun e => e.elim HNQ.out.1 HNQ.out.2)).cell 1
  simp at p1
  go_upto_if 25 with fail
  go_cut [] from 26 to 28 (fun wx => Hid (Cel q4 26 #[.int .i64 k, .int .i64 fr, .int .i64 tn, .int .i64 op, .int .i64 fo, .string ⟨#[]⟩, .int .i64 0, .slice none 0 0, .slice none 0 0, .slice none 0 0] wx) ∧ Hid (Rdr 125 D b a5 wx) ∧ Hid (Off (fun c => c = b ∨ c = q4) V5 wx))
  case first =>
   clear p1
   cases sf
   ·go_wp2_with fail
    go_meet
    case rel => obtain ⟨e1, e2⟩ := HH5.out.2 (by simp); rw [e1, e2]; exact ⟨HC.out, HR.out, HO.out⟩
   ·go_wp2_with fail
    refine ((HH5.out.1 (by simp)) _ HR.out).mono ?_
    rintro e w5 ⟨rfl, r5, o5⟩
    have HR5 : Hid (Rdr 125 D b a5 w5) := r5
    have HO5 : Hid (Off (fun c => c = b) _ w5) := o5
    clear r5 o5
    have D5 := HC.out.off HO5.out (fun e => HNE.out.1 e)
    obtain ⟨y0, y1, y2, y3, y4, y5, y6, y7, y8, y9⟩ := celw10 D5
    have fy := D5.free
    go_wp2_with fail
    have E5 : Cel q4 26 #[.int .i64 k, .int .i64 fr, .int .i64 tn, .int .i64 op, .int .i64 fo, .string ⟨#[]⟩, .int .i64 0, .slice none 0 0, .slice none 0 0, .slice none 0 0] (w5.setCell ⟨q4, 4, none⟩ (.int .i64 fo)) := D5.set 4 _
    have OS5 : Off (fun c => c = q4) w5 (w5.setCell ⟨q4, 4, none⟩ (.int .i64 fo)) := (Off.refl (fun c => c = q4) w5).setCell (p := ⟨q4, 4, none⟩) (.inl rfl) _
    go_meet
    case rel => exact ⟨E5, HR5.out.off OS5 (fun e => HNE.out.1 e.symm) (fun c _ hc e => by have e : c = q4 := e; exact HND.out (e ▸ hc)), (HO.out.trans (HO5.out.mono (fun c _ h => .inl h)) (fun _ _ h => h)).trans (OS5.mono (fun c _ h => .inr h)) (fun _ _ h => h)⟩
  case rest =>
   clear p1 HC HR HO
   obtain ⟨HC, HR, HO⟩ := hcut
   have p2 := (HPQ.out.off HO.out (fun e => e.elim HNQ.out.1 HNQ.out.2)).cell 2
   simp at p2
   go_upto_if 30 with fail
   go_cut [] from 31 to 34 (fun wx => Hid (Cel q4 26 #[.int .i64 k, .int .i64 fr, .int .i64 tn, .int .i64 op, .int .i64 fo, .string key, .int .i64 0, .slice none 0 0, .slice none 0 0, .slice none 0 0] wx) ∧ Hid (Rdr 125 D b a6 wx) ∧ Hid (Off (fun c => c = b ∨ c = q4) V5 wx))
   case first =>
    clear p2
    cases sk
    ·go_wp2_with fail
     go_meet
     case rel => obtain ⟨e1, e2⟩ := HH6.out.2 (by simp); rw [e1, e2]; exact ⟨HC.out, HR.out, HO.out⟩
    ·go_wp2_with fail
     refine ((HH6.out.1 (by simp)) _ HR.out).mono ?_
     rintro e w5 ⟨t5, c5, rfl, own5, r5, o5⟩
     have HW5 : Hid _ := own5
     clear own5
     have HR5 : Hid (Rdr 125 D b a6 w5) := r5
     have HO5 : Hid (Off (fun c => c = b) _ w5) := o5
     clear r5 o5
     have x9 := conv_src HW5.out.src
     rw [← HKY.out (by simp)] at x9
     have D5 := HC.out.off HO5.out (fun e => HNE.out.1 e)
     obtain ⟨y0, y1, y2, y3, y4, y5, y6, y7, y8, y9⟩ := celw10 D5
     have fy := D5.free
     go_wp2_with fail
     have E5 : Cel q4 26 #[.int .i64 k, .int .i64 fr, .int .i64 tn, .int .i64 op, .int .i64 fo, .string key, .int .i64 0, .slice none 0 0, .slice none 0 0, .slice none 0 0] (w5.setCell ⟨q4, 5, none⟩ (.string key)) := D5.set 5 _
     have OS5 : Off (fun c => c = q4) w5 (w5.setCell ⟨q4, 5, none⟩ (.string key)) := (Off.refl (fun c => c = q4) w5).setCell (p := ⟨q4, 5, none⟩) (.inl rfl) _
     go_meet
     case rel => exact ⟨E5, HR5.out.off OS5 (fun e => HNE.out.1 e.symm) (fun c _ hc e => by have e : c = q4 := e; exact HND.out (e ▸ hc)), (HO.out.trans (HO5.out.mono (fun c _ h => .inl h)) (fun _ _ h => h)).trans (OS5.mono (fun c _ h => .inr h)) (fun _ _ h => h)⟩
   case rest =>
    clear p2 HC HR HO
    obtain ⟨HC, HR, HO⟩ := hcut
    have p3 := (HPQ.out.off HO.out (fun e => e.elim HNQ.out.1 HNQ.out.2)).cell 3
    simp at p3
    go_upto_if 36 with fail
    go_cut [] from 37 to 39 (fun wx => Hid (Cel q4 26 #[.int .i64 k, .int .i64 fr, .int .i64 tn, .int .i64 op, .int .i64 fo, .string key, .int .i64 bk, .slice none 0 0, .slice none 0 0, .slice none 0 0] wx) ∧ Hid (Rdr 125 D b a7 wx) ∧ Hid (Off (fun c => c = b ∨ c = q4) V5 wx))
    case first =>
     clear p3
     cases sb
     ·go_wp2_with fail
      go_meet
      case rel => obtain ⟨e1, e2⟩ := HH7.out.2 (by simp); rw [e1, e2]; exact ⟨HC.out, HR.out, HO.out⟩
     ·go_wp2_with fail
      refine ((HH7.out.1 (by simp)) _ HR.out).mono ?_
      rintro e w5 ⟨rfl, r5, o5⟩
      have HR5 : Hid (Rdr 125 D b a7 w5) := r5
      have HO5 : Hid (Off (fun c => c = b) _ w5) := o5
      clear r5 o5
      have D5 := HC.out.off HO5.out (fun e => HNE.out.1 e)
      obtain ⟨y0, y1, y2, y3, y4, y5, y6, y7, y8, y9⟩ := celw10 D5
      have fy := D5.free
      go_wp2_with fail
      have E5 : Cel q4 26 #[.int .i64 k, .int .i64 fr, .int .i64 tn, .int .i64 op, .int .i64 fo, .string key, .int .i64 bk, .slice none 0 0, .slice none 0 0, .slice none 0 0] (w5.setCell ⟨q4, 6, none⟩ (.int .i64 bk)) := D5.set 6 _
      have OS5 : Off (fun c => c = q4) w5 (w5.setCell ⟨q4, 6, none⟩ (.int .i64 bk)) := (Off.refl (fun c => c = q4) w5).setCell (p := ⟨q4, 6, none⟩) (.inl rfl) _
      go_meet
      case rel => exact ⟨E5, HR5.out.off OS5 (fun e => HNE.out.1 e.symm) (fun c _ hc e => by have e : c = q4 := e; exact HND.out (e ▸ hc)), (HO.out.trans (HO5.out.mono (fun c _ h => .inl h)) (fun _ _ h => h)).trans (OS5.mono (fun c _ h => .inr h)) (fun _ _ h => h)⟩
    case rest =>
     clear p3 HC HR HO
     obtain ⟨HC, HR, HO⟩ := hcut
     have p4 := (HPQ.out.off HO.out (fun e => e.elim HNQ.out.1 HNQ.out.2)).cell 4
     simp at p4
     go_upto_if 41 with fail
     go_cut [6] from 43 to 47 (fun s6 wx => (∃ (tE : Option Addr) (cE : Nat) (es : List (E)) (a8 : RS), s6 = .bool true ∧ RE = some (es.map E.abs, a8) ∧ Cel q4 26 #[.int .i64 k, .int .i64 fr, .int .i64 tn, .int .i64 op, .int .i64 fo, .string key, .int .i64 bk, .slice tE es.length cE, .slice none 0 0, .slice none 0 0] wx ∧ Rdr 125 D b a8 wx ∧ (∀ v, Off (fun c => c < V5.heap.size) wx v → Ens v tE cE es) ∧ Off (fun c => c = b ∨ c = q4) V5 wx) ∨ (s6 = .bool false ∧ RE = none ∧ Cel q4 26 #[.int .i64 k, .int .i64 fr, .int .i64 tn, .int .i64 op, .int .i64 fo, .string key, .int .i64 bk, .slice none 0 0, .slice none 0 0, .slice none 0 0] wx ∧ Off (fun c => c = b ∨ c = q4) V5 wx))
     case first =>
      clear p4
      cases se
      ·go_wp2_with fail
       go_meet
       case rel => exact .inl ⟨none, 0, [], a7, rfl, HH8.out.2 (by simp), HC.out, HR.out, fun v _ => ⟨by simp, by omega, fun i e hi => by simp at hi⟩, HO.out⟩
      ·go_wp2_with fail
       refine (((HH8.out.1 (by simp))  _ HR.out)).mono ?_
       rintro e w5 ⟨⟨⟨tE, cE, es, sx, rfl, hl, r5, hrow⟩ | ⟨rfl, hl⟩⟩, o5⟩
       ·have HR5 : Hid (Rdr 125 D b sx w5) := r5
        have HO5 : Hid (Off (fun c => c = b) _ w5) := o5
        have HRW : Hid _ := hrow
        have HLE : Hid _ := hl
        have HSZ : Hid (V5.heap.size ≤ _) := HO.out.size
        clear r5 o5 hrow hl
        have D5 := HC.out.off HO5.out (fun e => HNE.out.1 e)
        obtain ⟨y0, y1, y2, y3, y4, y5, y6, y7, y8, y9⟩ := celw10 D5
        have fy := D5.free
        go_wp2_with fail
        have E5 : Cel q4 26 #[.int .i64 k, .int .i64 fr, .int .i64 tn, .int .i64 op, .int .i64 fo, .string key, .int .i64 bk, .slice tE es.length cE, .slice none 0 0, .slice none 0 0] (w5.setCell ⟨q4, 7, none⟩ (.slice tE es.length cE)) := D5.set 7 _
        have OS5 : Off (fun c => c = q4) w5 (w5.setCell ⟨q4, 7, none⟩ (.slice tE es.length cE)) := (Off.refl (fun c => c = q4) w5).setCell (p := ⟨q4, 7, none⟩) (.inl rfl) _
        go_meet
        case rel => exact .inl ⟨tE, cE, es, sx, rfl, HLE.out, E5, HR5.out.off OS5 (fun e => HNE.out.1 e.symm) (fun c _ hc e => by have e : c = q4 := e; exact HND.out (e ▸ hc)), fun v o => HRW.out v (((OS5.mono (E := fun c => c < _) (fun c _ h => by have h : c = q4 := h; have := HVS.out; have := HSZ.out; show c < _; omega)).trans (o.mono (fun c _ h => by have h : c < V5.heap.size := h; have := HSZ.out; show c < _; omega)) (fun _ _ h => h))), (HO.out.trans (HO5.out.mono (fun c _ h => .inl h)) (fun _ _ h => h)).trans (OS5.mono (fun c _ h => .inr h)) (fun _ _ h => h)⟩
       ·have HO5 : Hid (Off (fun c => c = b) _ w5) := o5
        have HLE : Hid _ := hl
        clear o5 hl
        have D5 := HC.out.off HO5.out (fun e => HNE.out.1 e)
        obtain ⟨y0, y1, y2, y3, y4, y5, y6, y7, y8, y9⟩ := celw10 D5
        have fy := D5.free
        go_wp2_with fail
        have E5 : Cel q4 26 #[.int .i64 k, .int .i64 fr, .int .i64 tn, .int .i64 op, .int .i64 fo, .string key, .int .i64 bk, .slice none 0 0, .slice none 0 0, .slice none 0 0] (w5.setCell ⟨q4, 7, none⟩ (.slice none 0 0)) := D5.set 7 _
        have OS5 : Off (fun c => c = q4) w5 (w5.setCell ⟨q4, 7, none⟩ (.slice none 0 0)) := (Off.refl (fun c => c = q4) w5).setCell (p := ⟨q4, 7, none⟩) (.inl rfl) _
        go_meet
        case rel => exact .inr ⟨rfl, HLE.out, E5, (HO.out.trans (HO5.out.mono (fun c _ h => .inl h)) (fun _ _ h => h)).trans (OS5.mono (fun c _ h => .inr h)) (fun _ _ h => h)⟩
     case rest =>
      clear p4 HC HR HO
      rcases hcut with ⟨tE, cE, es, a8, rfl, hr, hc, hrd, hl0, ho⟩ | ⟨rfl, hrf, hcf, hof⟩
      rotate_left
      ·have HCF : Hid _ := hcf
       have HOF : Hid _ := hof
       have HN : Hid (R = none) := by show _ = _; rw [HRR.out, hrf]; rfl
       clear hcf hof hrf
       obtain ⟨x0, x1, x2, x3, x4, x5, x6, x7, x8, x9⟩ := celw10 HCF.out
       have hz := HZ7.out.off HOF.out (fun e => e.elim HNE.out.2.1 HNE.out.2.2.1)
       obtain ⟨y0, y1, y2, y3, y4, y5, y6, y7, y8, y9⟩ := celw10 hz
       have fz := hz.free
       have HZF : Hid _ := hz
       go_wp2_with fail
       refine bodyPost_ret (results_msg2 (x := (⟨k, fr, tn, op, fo, key, bk, none, 0, 0, none, 0, 0, none, 0, 0⟩ : Mg)) rfl rfl rfl (HZF.out.wrwAll (vs := mcs (⟨k, fr, tn, op, fo, key, bk, none, 0, 0, none, 0, 0, none, 0, 0⟩ : Mg)) rfl)) rfl ?_
       exact ⟨⟨.inr ⟨(⟨k, fr, tn, op, fo, key, bk, none, 0, 0, none, 0, 0, none, 0, 0⟩ : Mg), rfl, HN.out⟩⟩, ((HOW.out.trans HOF.out (fun _ _ h => h)).mono (fun c hc h => by rcases h with h | h; exact h; have := HNE.out; omega)).trans (off_wrw (D := fun c => c = q2) (g := q2) (us := mcs (⟨k, fr, tn, op, fo, key, bk, none, 0, 0, none, 0, 0, none, 0, 0⟩ : Mg)) (o := 0) (Off.refl _ _) (.inl rfl)) (fun c hc e => by have e : c = q2 := e; have := HNE.out; omega)⟩
      have HC : Hid _ := hc
      have HR : Hid _ := hrd
      have HRE : Hid _ := hr
      have HO : Hid _ := ho
      have HL0 : Hid _ := hl0
      clear hr hc hrd ho hl0
      have p5 := (HPQ.out.off HO.out (fun e => e.elim HNQ.out.1 HNQ.out.2)).cell 5
      simp at p5
      go_upto_if 52 with fail
      go_cut [6] from 54 to 58 (fun s6 wx => (∃ (tD : Option Addr) (cD : Nat) (gs : List (G)) (a9 : RS), s6 = .bool true ∧ RG a8 = some (gs.map G.abs, a9) ∧ Cel q4 26 #[.int .i64 k, .int .i64 fr, .int .i64 tn, .int .i64 op, .int .i64 fo, .string key, .int .i64 bk, .slice tE es.length cE, .slice tD gs.length cD, .slice none 0 0] wx ∧ Rdr 125 D b a9 wx ∧ (∀ v, Off (fun c => c < V5.heap.size) wx v → Dgs v tD cD gs) ∧ (∀ v, Off (fun c => c < V5.heap.size) wx v → Ens v tE cE es) ∧ Off (fun c => c = b ∨ c = q4) V5 wx) ∨ (s6 = .bool false ∧ RG a8 = none ∧ Cel q4 26 #[.int .i64 k, .int .i64 fr, .int .i64 tn, .int .i64 op, .int .i64 fo, .string key, .int .i64 bk, .slice tE es.length cE, .slice none 0 0, .slice none 0 0] wx ∧ Off (fun c => c = b ∨ c = q4) V5 wx))
      case first =>
       clear p5
       cases sg
       ·go_wp2_with fail
        go_meet
        case rel => exact .inl ⟨none, 0, [], a8, rfl, HH9.out.2 (by simp) a8, HC.out, HR.out, fun v _ => ⟨by simp, by omega, fun i e hi => by simp at hi⟩, HL0.out, HO.out⟩
       ·go_wp2_with fail
        refine (((HH9.out.1 (by simp)) a8 _ HR.out)).mono ?_
        rintro e w5 ⟨⟨⟨tD, cD, gs, sx, rfl, hl, r5, hrow⟩ | ⟨rfl, hl⟩⟩, o5⟩
        ·have HR5 : Hid (Rdr 125 D b sx w5) := r5
         have HO5 : Hid (Off (fun c => c = b) _ w5) := o5
         have HRW : Hid _ := hrow
         have HLE : Hid _ := hl
         have HSZ : Hid (V5.heap.size ≤ _) := HO.out.size
         clear r5 o5 hrow hl
         have D5 := HC.out.off HO5.out (fun e => HNE.out.1 e)
         obtain ⟨y0, y1, y2, y3, y4, y5, y6, y7, y8, y9⟩ := celw10 D5
         have fy := D5.free
         go_wp2_with fail
         have E5 : Cel q4 26 #[.int .i64 k, .int .i64 fr, .int .i64 tn, .int .i64 op, .int .i64 fo, .string key, .int .i64 bk, .slice tE es.length cE, .slice tD gs.length cD, .slice none 0 0] (w5.setCell ⟨q4, 8, none⟩ (.slice tD gs.length cD)) := D5.set 8 _
         have OS5 : Off (fun c => c = q4) w5 (w5.setCell ⟨q4, 8, none⟩ (.slice tD gs.length cD)) := (Off.refl (fun c => c = q4) w5).setCell (p := ⟨q4, 8, none⟩) (.inl rfl) _
         go_meet
         case rel => exact .inl ⟨tD, cD, gs, sx, rfl, HLE.out, E5, HR5.out.off OS5 (fun e => HNE.out.1 e.symm) (fun c _ hc e => by have e : c = q4 := e; exact HND.out (e ▸ hc)), fun v o => HRW.out v (((OS5.mono (E := fun c => c < _) (fun c _ h => by have h : c = q4 := h; have := HVS.out; have := HSZ.out; show c < _; omega)).trans (o.mono (fun c _ h => by have h : c < V5.heap.size := h; have := HSZ.out; show c < _; omega)) (fun _ _ h => h))), fun v o => HL0.out v ((HO5.out.mono (E := fun c => c < V5.heap.size) (fun c _ h => by have h : c = b := h; have := HVS.out; show c < _; omega)).trans ((OS5.mono (E := fun c => c < V5.heap.size) (fun c _ h => by have h : c = q4 := h; have := HVS.out; show c < _; omega)).trans o (fun _ _ h => h)) (fun _ _ h => h)), (HO.out.trans (HO5.out.mono (fun c _ h => .inl h)) (fun _ _ h => h)).trans (OS5.mono (fun c _ h => .inr h)) (fun _ _ h => h)⟩
        ·have HO5 : Hid (Off (fun c => c = b) _ w5) := o5
         have HLE : Hid _ := hl
         clear o5 hl
         have D5 := HC.out.off HO5.out (fun e => HNE.out.1 e)
         obtain ⟨y0, y1, y2, y3, y4, y5, y6, y7, y8, y9⟩ := celw10 D5
         have fy := D5.free
         go_wp2_with fail
         have E5 : Cel q4 26 #[.int .i64 k, .int .i64 fr, .int .i64 tn, .int .i64 op, .int .i64 fo, .string key, .int .i64 bk, .slice tE es.length cE, .slice none 0 0, .slice none 0 0] (w5.setCell ⟨q4, 8, none⟩ (.slice none 0 0)) := D5.set 8 _
         have OS5 : Off (fun c => c = q4) w5 (w5.setCell ⟨q4, 8, none⟩ (.slice none 0 0)) := (Off.refl (fun c => c = q4) w5).setCell (p := ⟨q4, 8, none⟩) (.inl rfl) _
         go_meet
         case rel => exact .inr ⟨rfl, HLE.out, E5, (HO.out.trans (HO5.out.mono (fun c _ h => .inl h)) (fun _ _ h => h)).trans (OS5.mono (fun c _ h => .inr h)) (fun _ _ h => h)⟩
      case rest =>
       clear p5 HC HR HO HL0
       rcases hcut with ⟨tD, cD, gs, a9, rfl, hr, hc, hrd, hl1, hl0, ho⟩ | ⟨rfl, hrf, hcf, hof⟩
       rotate_left
       ·have HCF : Hid _ := hcf
        have HOF : Hid _ := hof
        have HN : Hid (R = none) := by show _ = _; rw [HRR.out, HRE.out]; show (RG a8).bind _ = none; rw [hrf]; rfl
        clear hcf hof hrf
        obtain ⟨x0, x1, x2, x3, x4, x5, x6, x7, x8, x9⟩ := celw10 HCF.out
        have hz := HZ7.out.off HOF.out (fun e => e.elim HNE.out.2.1 HNE.out.2.2.1)
        obtain ⟨y0, y1, y2, y3, y4, y5, y6, y7, y8, y9⟩ := celw10 hz
        have fz := hz.free
        have HZF : Hid _ := hz
        go_wp2_with fail
        refine bodyPost_ret (results_msg2 (x := (⟨k, fr, tn, op, fo, key, bk, tE, es.length, cE, none, 0, 0, none, 0, 0⟩ : Mg)) rfl rfl rfl (HZF.out.wrwAll (vs := mcs (⟨k, fr, tn, op, fo, key, bk, tE, es.length, cE, none, 0, 0, none, 0, 0⟩ : Mg)) rfl)) rfl ?_
        exact ⟨⟨.inr ⟨(⟨k, fr, tn, op, fo, key, bk, tE, es.length, cE, none, 0, 0, none, 0, 0⟩ : Mg), rfl, HN.out⟩⟩, ((HOW.out.trans HOF.out (fun _ _ h => h)).mono (fun c hc h => by rcases h with h | h; exact h; have := HNE.out; omega)).trans (off_wrw (D := fun c => c = q2) (g := q2) (us := mcs (⟨k, fr, tn, op, fo, key, bk, tE, es.length, cE, none, 0, 0, none, 0, 0⟩ : Mg)) (o := 0) (Off.refl _ _) (.inl rfl)) (fun c hc e => by have e : c = q2 := e; have := HNE.out; omega)⟩
       have HC : Hid _ := hc
       have HR : Hid _ := hrd
       have HRG : Hid _ := hr
       have HO : Hid _ := ho
       have HL0 : Hid _ := hl0
       have HL1 : Hid _ := hl1
       clear hr hc hrd ho hl0 hl1
       have p6 := (HPQ.out.off HO.out (fun e => e.elim HNQ.out.1 HNQ.out.2)).cell 6
       simp at p6
       cases sn
       ·have HCF : Hid _ := HC.out
        have HOF : Hid _ := HO.out
        have HRD : Hid _ := HR.out
        have HF0 : Hid _ := HL0.out
        have HF1 : Hid _ := HL1.out
        obtain ⟨x0, x1, x2, x3, x4, x5, x6, x7, x8, x9⟩ := celw10 HCF.out
        have hz := HZ7.out.off HOF.out (fun e => e.elim HNE.out.2.1 HNE.out.2.2.1)
        obtain ⟨y0, y1, y2, y3, y4, y5, y6, y7, y8, y9⟩ := celw10 hz
        have fz := hz.free
        have HZF : Hid _ := hz
        go_wp2_with fail
        refine bodyPost_ret (results_msg2 (x := (⟨k, fr, tn, op, fo, key, bk, tE, es.length, cE, tD, gs.length, cD, none, 0, 0⟩ : Mg)) rfl rfl rfl (HZF.out.wrwAll (vs := mcs (⟨k, fr, tn, op, fo, key, bk, tE, es.length, cE, tD, gs.length, cD, none, 0, 0⟩ : Mg)) rfl)) rfl ?_
        refine ⟨⟨.inl ⟨(⟨k, fr, tn, op, fo, key, bk, tE, es.length, cE, tD, gs.length, cD, none, 0, 0⟩ : Mg), es, gs, [], a9, rfl, ?_, ?_, fun v o => ?_⟩⟩, ((HOW.out.trans HOF.out (fun _ _ h => h)).mono (fun c hc h => by rcases h with h | h; exact h; have := HNE.out; omega)).trans (off_wrw (D := fun c => c = q2) (g := q2) (us := mcs (⟨k, fr, tn, op, fo, key, bk, tE, es.length, cE, tD, gs.length, cD, none, 0, 0⟩ : Mg)) (o := 0) (Off.refl _ _) (.inl rfl)) (fun c hc e => by have e : c = q2 := e; have := HNE.out; omega)⟩
        ·rw [HRR.out, HRE.out]
         show (RG a8).bind _ = _
         rw [HRG.out]
         show (RM a9).map _ = _
         rw [HH0.out.2 (by simp) a9]
         rfl
        ·exact HRD.out.off (off_wrw (D := fun c => c = q2) (g := q2) (us := mcs (⟨k, fr, tn, op, fo, key, bk, tE, es.length, cE, tD, gs.length, cD, none, 0, 0⟩ : Mg)) (o := 0) (Off.refl _ _) (.inl rfl)) (fun e => HNE.out.2.1 e.symm) (fun c _ hc e => by have e : c = q2 := e; have := HDL.out c hc; have := HNE.out; omega)
        ·have o' := ((off_wrw (D := fun c => c = q2) (g := q2) (us := mcs (⟨k, fr, tn, op, fo, key, bk, tE, es.length, cE, tD, gs.length, cD, none, 0, 0⟩ : Mg)) (o := 0) (Off.refl _ _) (.inl rfl)).mono (E := fun c => c < V5.heap.size) (fun c _ h => by have h : c = q2 := h; have := HVS.out; show c < _; omega)).trans (o.mono (fun c _ h => by have h : c < w.heap.size := h; have := HVS.out; show c < _; omega)) (fun _ _ h => h)
         exact ⟨HF0.out v o', rfl, HF1.out v o', rfl, RowD.nil _ _ _ (by show (0 : Nat) ≤ _; omega), rfl⟩
       ·go_wp2_with fail
        refine (((HH0.out.1 (by simp)) a9 _ HR.out)).mono ?_
        rintro e w5 ⟨⟨⟨tM, cM, ms, sx, rfl, hl, r5, hrow⟩ | ⟨rfl, hl⟩⟩, o5⟩
        ·have HR5 : Hid (Rdr 125 D b sx w5) := r5
         have HO5 : Hid (Off (fun c => c = b) _ w5) := o5
         have HRW : Hid _ := hrow
         have HLE : Hid _ := hl
         have HSZ : Hid (V5.heap.size ≤ _) := HO.out.size
         clear r5 o5 hrow hl
         have D5 := HC.out.off HO5.out (fun e => HNE.out.1 e)
         obtain ⟨y0, y1, y2, y3, y4, y5, y6, y7, y8, y9⟩ := celw10 D5
         have fy := D5.free
         go_upto_region 21 with fail
         have E5 : Cel q4 26 #[.int .i64 k, .int .i64 fr, .int .i64 tn, .int .i64 op, .int .i64 fo, .string key, .int .i64 bk, .slice tE es.length cE, .slice tD gs.length cD, .slice tM ms.length cM] (w5.setCell ⟨q4, 9, none⟩ (.slice tM ms.length cM)) := D5.set 9 _
         have OS5 : Off (fun c => c = q4) w5 (w5.setCell ⟨q4, 9, none⟩ (.slice tM ms.length cM)) := (Off.refl (fun c => c = q4) w5).setCell (p := ⟨q4, 9, none⟩) (.inl rfl) _
         have HRD : Hid (Rdr 125 D b sx (w5.setCell ⟨q4, 9, none⟩ (.slice tM ms.length cM))) := HR5.out.off OS5 (fun e => HNE.out.1 e.symm) (fun c _ hc e => by have e : c = q4 := e; exact HND.out (e ▸ hc))
         have HOF : Hid (Off (fun c => c = b ∨ c = q4) V5 (w5.setCell ⟨q4, 9, none⟩ (.slice tM ms.length cM))) := (HO.out.trans (HO5.out.mono (fun c _ h => .inl h)) (fun _ _ h => h)).trans (OS5.mono (fun c _ h => .inr h)) (fun _ _ h => h)
         have HS5 : Hid (Off (fun c => c < V5.heap.size) w5 (w5.setCell ⟨q4, 9, none⟩ (.slice tM ms.length cM))) := OS5.mono (fun c _ h => by have h : c = q4 := h; have := HVS.out; show c < _; omega)
         generalize w5.setCell ⟨q4, 9, none⟩ (.slice tM ms.length cM) = V9 at E5 HRD HOF HS5 ⊢
         have HF0 : Hid (∀ v, Off (fun c => c < V5.heap.size) V9 v → Ens v tE cE es) := fun v o => HL0.out v ((HO5.out.mono (E := fun c => c < V5.heap.size) (fun c _ h => by have h : c = b := h; have := HVS.out; show c < _; omega)).trans (HS5.out.trans o (fun _ _ h => h)) (fun _ _ h => h))
         have HF1 : Hid (∀ v, Off (fun c => c < V5.heap.size) V9 v → Dgs v tD cD gs) := fun v o => HL1.out v ((HO5.out.mono (E := fun c => c < V5.heap.size) (fun c _ h => by have h : c = b := h; have := HVS.out; show c < _; omega)).trans (HS5.out.trans o (fun _ _ h => h)) (fun _ _ h => h))
         have HF2 : Hid (∀ v, Off (fun c => c < V5.heap.size) V9 v → RowD v tM cM ms) := fun v o => HRW.out v ((HS5.out.trans o (fun _ _ h => h)).mono (fun c _ h => by have h : c < V5.heap.size := h; have := HSZ.out; show c < _; omega))
         clear OS5 D5 y0 y1 y2 y3 y4 y5 y6 y7 y8 y9 fy
         have HCF : Hid _ := E5
         clear E5
         obtain ⟨x0, x1, x2, x3, x4, x5, x6, x7, x8, x9⟩ := celw10 HCF.out
         have hz := HZ7.out.off HOF.out (fun e => e.elim HNE.out.2.1 HNE.out.2.2.1)
         obtain ⟨y0, y1, y2, y3, y4, y5, y6, y7, y8, y9⟩ := celw10 hz
         have fz := hz.free
         have HZF : Hid _ := hz
         go_wp2_with fail
         refine bodyPost_ret (results_msg2 (x := (⟨k, fr, tn, op, fo, key, bk, tE, es.length, cE, tD, gs.length, cD, tM, ms.length, cM⟩ : Mg)) rfl rfl rfl (HZF.out.wrwAll (vs := mcs (⟨k, fr, tn, op, fo, key, bk, tE, es.length, cE, tD, gs.length, cD, tM, ms.length, cM⟩ : Mg)) rfl)) rfl ?_
         refine ⟨⟨.inl ⟨(⟨k, fr, tn, op, fo, key, bk, tE, es.length, cE, tD, gs.length, cD, tM, ms.length, cM⟩ : Mg), es, gs, ms, sx, rfl, ?_, ?_, fun v o => ?_⟩⟩, ((HOW.out.trans HOF.out (fun _ _ h => h)).mono (fun c hc h => by rcases h with h | h; exact h; have := HNE.out; omega)).trans (off_wrw (D := fun c => c = q2) (g := q2) (us := mcs (⟨k, fr, tn, op, fo, key, bk, tE, es.length, cE, tD, gs.length, cD, tM, ms.length, cM⟩ : Mg)) (o := 0) (Off.refl _ _) (.inl rfl)) (fun c hc e => by have e : c = q2 := e; have := HNE.out; omega)⟩
         ·rw [HRR.out, HRE.out]
          show (RG a8).bind _ = _
          rw [HRG.out]
          show (RM a9).map _ = _
          rw [HLE.out]
          rfl
         ·exact HRD.out.off (off_wrw (D := fun c => c = q2) (g := q2) (us := mcs (⟨k, fr, tn, op, fo, key, bk, tE, es.length, cE, tD, gs.length, cD, tM, ms.length, cM⟩ : Mg)) (o := 0) (Off.refl _ _) (.inl rfl)) (fun e => HNE.out.2.1 e.symm) (fun c _ hc e => by have e : c = q2 := e; have := HDL.out c hc; have := HNE.out; omega)
         ·have o' := ((off_wrw (D := fun c => c = q2) (g := q2) (us := mcs (⟨k, fr, tn, op, fo, key, bk, tE, es.length, cE, tD, gs.length, cD, tM, ms.length, cM⟩ : Mg)) (o := 0) (Off.refl _ _) (.inl rfl)).mono (E := fun c => c < V5.heap.size) (fun c _ h => by have h : c = q2 := h; have := HVS.out; show c < _; omega)).trans (o.mono (fun c _ h => by have h : c < w.heap.size := h; have := HVS.out; show c < _; omega)) (fun _ _ h => h)
          exact ⟨HF0.out v o', rfl, HF1.out v o', rfl, HF2.out v o', rfl⟩
        ·have HO5 : Hid (Off (fun c => c = b) _ w5) := o5
         have HLE : Hid _ := hl
         clear o5 hl
         have D5 := HC.out.off HO5.out (fun e => HNE.out.1 e)
         obtain ⟨y0, y1, y2, y3, y4, y5, y6, y7, y8, y9⟩ := celw10 D5
         have fy := D5.free
         go_upto_region 21 with fail
         have E5 : Cel q4 26 #[.int .i64 k, .int .i64 fr, .int .i64 tn, .int .i64 op, .int .i64 fo, .string key, .int .i64 bk, .slice tE es.length cE, .slice tD gs.length cD, .slice none 0 0] (w5.setCell ⟨q4, 9, none⟩ (.slice none 0 0)) := D5.set 9 _
         have OS5 : Off (fun c => c = q4) w5 (w5.setCell ⟨q4, 9, none⟩ (.slice none 0 0)) := (Off.refl (fun c => c = q4) w5).setCell (p := ⟨q4, 9, none⟩) (.inl rfl) _
         have HOF : Hid (Off (fun c => c = b ∨ c = q4) V5 (w5.setCell ⟨q4, 9, none⟩ (.slice none 0 0))) := (HO.out.trans (HO5.out.mono (fun c _ h => .inl h)) (fun _ _ h => h)).trans (OS5.mono (fun c _ h => .inr h)) (fun _ _ h => h)
         generalize w5.setCell ⟨q4, 9, none⟩ (.slice none 0 0) = V9 at E5 HOF ⊢
         clear OS5 D5 y0 y1 y2 y3 y4 y5 y6 y7 y8 y9 fy
         have HCF : Hid _ := E5
         clear E5
         have HN : Hid (R = none) := by show _ = _; rw [HRR.out, HRE.out]; show (RG a8).bind _ = none; rw [HRG.out]; show (RM a9).map _ = none; rw [HLE.out]; rfl
         obtain ⟨x0, x1, x2, x3, x4, x5, x6, x7, x8, x9⟩ := celw10 HCF.out
         have hz := HZ7.out.off HOF.out (fun e => e.elim HNE.out.2.1 HNE.out.2.2.1)
         obtain ⟨y0, y1, y2, y3, y4, y5, y6, y7, y8, y9⟩ := celw10 hz
         have fz := hz.free
         have HZF : Hid _ := hz
         go_wp2_with fail
         refine bodyPost_ret (results_msg2 (x := (⟨k, fr, tn, op, fo, key, bk, tE, es.length, cE, tD, gs.length, cD, none, 0, 0⟩ : Mg)) rfl rfl rfl (HZF.out.wrwAll (vs := mcs (⟨k, fr, tn, op, fo, key, bk, tE, es.length, cE, tD, gs.length, cD, none, 0, 0⟩ : Mg)) rfl)) rfl ?_
         exact ⟨⟨.inr ⟨(⟨k, fr, tn, op, fo, key, bk, tE, es.length, cE, tD, gs.length, cD, none, 0, 0⟩ : Mg), rfl, HN.out⟩⟩, ((HOW.out.trans HOF.out (fun _ _ h => h)).mono (fun c hc h => by rcases h with h | h; exact h; have := HNE.out; omega)).trans (off_wrw (D := fun c => c = q2) (g := q2) (us := mcs (⟨k, fr, tn, op, fo, key, bk, tE, es.length, cE, tD, gs.length, cD, none, 0, 0⟩ : Mg)) (o := 0) (Off.refl _ _) (.inl rfl)) (fun c hc e => by have e : c = q2 := e; have := HNE.out; omega)⟩
end Go.Proofs.Ytmbphlkohlggfaa
