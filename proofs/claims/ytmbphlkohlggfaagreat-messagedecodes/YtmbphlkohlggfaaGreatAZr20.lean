/- Items of several texts. -/
import Derived.Test.YtmbphlkohlggfaaGreatAQt18
import Derived.Test.YtmbphlkohlggfaaGreatAPt20
import Derived.Test.YtmbphlkohlggfaaGreatANodP
import Derived.Test.YtmbphlkohlggfaaGreatADbP
import Derived.Test.YtmbphlkohlggfaaGreatARd20
namespace Go.Proofs.YtmbphlkohlggfaaGreat
set_option maxRecDepth 100000
open Go.RowKit
structure RdR (D : Nat → Prop) (b N : Nat) (R : Option (MD × RS)) (e : Ending) (w' : World) : Prop where
 is : (∃ (X : Mg) (es : List E) (gs : List G) (ms : List (Int × Int)) (s' : RS), e = .returned (.tuple #[(.agg #[.int .i64 X.k, .int .i64 X.fr, .int .i64 X.tn, .int .i64 X.op, .int .i64 X.fo, .string X.key, .int .i64 X.bk, .slice X.ea X.el X.ec, .slice X.da X.dl X.dc, .slice X.ma X.ml X.mc]), .bool true]) ∧ R = some (mdOf X es gs ms, s') ∧ Rdr 96 D b s' w' ∧ ∀ v, Off (fun c => c < N) w' v → MsgAt v X es gs ms) ∨ (∃ X : Mg, e = .returned (.tuple #[(.agg #[.int .i64 X.k, .int .i64 X.fr, .int .i64 X.tn, .int .i64 X.op, .int .i64 X.fo, .string X.key, .int .i64 X.bk, .slice X.ea X.el X.ec, .slice X.da X.dl X.dc, .slice X.ma X.ml X.mc]), .bool false]) ∧ R = none)
set_option maxHeartbeats 8000000 in
theorem xread_core {D : Nat → Prop} {b : Nat} {s : RS} {w : World} (hR : Rdr 96 D b s w) (so sf sk sb se sg sn : Bool) (k fr tn op fo bk : Int) (key : ByteArray) (bs : List Nat) (a1 a2 a3 a4 a5 a6 a7 : RS) (RE : Option (List K × RS)) (RG : RS → Option (List GK × RS)) (RM : RS → Option (List (Int × Int) × RS)) (R : Option (MD × RS))
  (hp : ∀ W, Calls Tryz.prog 46 #[.int .i64 k] W fun e w' => e = .returned (.agg #[.bool so, .bool sf, .bool sk, .bool sb, .bool se, .bool sg, .bool sn]) ∧ Off (fun _ => False) W w')
  (h1 : (∀ W, Rdr 96 D b s W → Calls Tryz.prog 45 #[.pointer (some ⟨b, 0, none⟩)] W fun e w' => e = .returned (.int .i64 k) ∧ Rdr 96 D b a1 w' ∧ Off (fun c => c = b) W w')) (h2 : (∀ W, Rdr 96 D b a1 W → Calls Tryz.prog 45 #[.pointer (some ⟨b, 0, none⟩)] W fun e w' => e = .returned (.int .i64 fr) ∧ Rdr 96 D b a2 w' ∧ Off (fun c => c = b) W w')) (h3 : (∀ W, Rdr 96 D b a2 W → Calls Tryz.prog 45 #[.pointer (some ⟨b, 0, none⟩)] W fun e w' => e = .returned (.int .i64 tn) ∧ Rdr 96 D b a3 w' ∧ Off (fun c => c = b) W w'))
  (h4 : (so = true → (∀ W, Rdr 96 D b a3 W → Calls Tryz.prog 47 #[.pointer (some ⟨b, 0, none⟩)] W fun e w' => e = .returned (.int .i64 op) ∧ Rdr 96 D b a4 w' ∧ Off (fun c => c = b) W w')) ∧ (so = false → op = 0 ∧ a4 = a3)) (h5 : (sf = true → (∀ W, Rdr 96 D b a4 W → Calls Tryz.prog 45 #[.pointer (some ⟨b, 0, none⟩)] W fun e w' => e = .returned (.int .i64 fo) ∧ Rdr 96 D b a5 w' ∧ Off (fun c => c = b) W w')) ∧ (sf = false → fo = 0 ∧ a5 = a4))
  (h6 : (sk = true → ∀ W, Rdr 96 D b a5 W → Calls Tryz.prog 48 #[.pointer (some ⟨b, 0, none⟩), .int .i64 32] W fun e w' => ∃ t c, e = .returned (.slice t bs.length c) ∧ OwnR w' t c bs ∧ Rdr 96 D b a6 w' ∧ Off (fun c => c = b) W w') ∧ (sk = false → key = ⟨#[]⟩ ∧ a6 = a5)) (hkey : sk = true → key = strOf bs)
  (h7 : (sb = true → (∀ W, Rdr 96 D b a6 W → Calls Tryz.prog 45 #[.pointer (some ⟨b, 0, none⟩)] W fun e w' => e = .returned (.int .i64 bk) ∧ Rdr 96 D b a7 w' ∧ Off (fun c => c = b) W w')) ∧ (sb = false → bk = 0 ∧ a7 = a6))
  (h8 : (se = true → ∀ W, Rdr 96 D b a7 W → Calls Tryz.prog 49 #[.pointer (some ⟨b, 0, none⟩), .int .i64 256, .func (.func 50) #[] #[]] W fun e w' => GotE D b W.heap.size RE e w' ∧ Off (fun c => c = b) W w') ∧ (se = false → RE = some ([], a7)))
  (h9 : (sg = true → ∀ a W, Rdr 96 D b a W → Calls Tryz.prog 51 #[.pointer (some ⟨b, 0, none⟩), .int .i64 256, .func (.func 52) #[] #[]] W fun e w' => GotD D b W.heap.size (RG a) e w' ∧ Off (fun c => c = b) W w') ∧ (sg = false → ∀ a, RG a = some ([], a)))
  (h0 : (sn = true → ∀ a W, Rdr 96 D b a W → Calls Tryz.prog 53 #[.pointer (some ⟨b, 0, none⟩), .int .i64 8, .func (.func 54) #[] #[]] W fun e w' => GotM D b W.heap.size (RM a) e w' ∧ Off (fun c => c = b) W w') ∧ (sn = false → ∀ a, RM a = some ([], a)))
  (hRR : R = RE.bind fun p => (RG p.2).bind fun q => (RM q.2).map fun r => (⟨k, fr, tn, op, fo, key, bk, p.1, q.1, r.1⟩, r.2)) :
  Calls Tryz.prog 19 #[.pointer (some ⟨b, 0, none⟩)] w fun e w' => RdR D b w.heap.size R e w' ∧ Off (fun c => c = b) w w' := by
 have HH1 : Hid _ := h1
 have HH2 : Hid _ := h2
 have HH3 : Hid _ := h3
 have HH4 : Hid _ := h4
 have HH5 : Hid _ := h5
 have HH6 : Hid _ := h6
 have HH7 : Hid _ := h7
 have HH8 : Hid _ := h8
 have HH9 : Hid _ := h9
 have HH0 : Hid _ := h0
 have HP : Hid _ := hp
 have HBW : Hid (b < w.heap.size) := hR.here
 have HDL : Hid (∀ c, D c → c < w.heap.size) := hR.lt
 have HRR : Hid _ := hRR
 have HKY : Hid _ := hkey
 clear hkey
 clear h1 h2 h3 h4 h5 h6 h7 h8 h9 h0 hp hRR
 have O0 : Off (fun _ => False) w ((w.alloc (.cells #[.int .i64 0, .int .i64 0, .int .i64 0, .int .i64 0, .int .i64 0, .string ⟨#[]⟩, .int .i64 0, .slice none 0 0, .slice none 0 0, .slice none 0 0] 26)).alloc (.cells #[.int .i64 0, .int .i64 0, .int .i64 0, .int .i64 0, .int .i64 0, .string ⟨#[]⟩, .int .i64 0, .slice none 0 0, .slice none 0 0, .slice none 0 0] 26)) := ((Off.refl _ w).alloc _).alloc _
 have C2 : Cel w.heap.size 26 #[.int .i64 0, .int .i64 0, .int .i64 0, .int .i64 0, .int .i64 0, .string ⟨#[]⟩, .int .i64 0, .slice none 0 0, .slice none 0 0, .slice none 0 0] ((w.alloc (.cells #[.int .i64 0, .int .i64 0, .int .i64 0, .int .i64 0, .int .i64 0, .string ⟨#[]⟩, .int .i64 0, .slice none 0 0, .slice none 0 0, .slice none 0 0] 26)).alloc (.cells #[.int .i64 0, .int .i64 0, .int .i64 0, .int .i64 0, .int .i64 0, .string ⟨#[]⟩, .int .i64 0, .slice none 0 0, .slice none 0 0, .slice none 0 0] 26)) := (Cel.new w _ _).alloc _
 have C4 : Cel (w.heap.size + 1) 26 #[.int .i64 0, .int .i64 0, .int .i64 0, .int .i64 0, .int .i64 0, .string ⟨#[]⟩, .int .i64 0, .slice none 0 0, .slice none 0 0, .slice none 0 0] ((w.alloc (.cells #[.int .i64 0, .int .i64 0, .int .i64 0, .int .i64 0, .int .i64 0, .string ⟨#[]⟩, .int .i64 0, .slice none 0 0, .slice none 0 0, .slice none 0 0] 26)).alloc (.cells #[.int .i64 0, .int .i64 0, .int .i64 0, .int .i64 0, .int .i64 0, .string ⟨#[]⟩, .int .i64 0, .slice none 0 0, .slice none 0 0, .slice none 0 0] 26)) := Cel.new1 w _ _ _
 have R0 := hR.off O0 (fun h => h) (fun _ _ _ h => h)
 clear hR
 go_enter Tryz.func19, Tryz.ntmps19
 go_upto_region 2 with fail
 generalize hV : (w.alloc (.cells #[.int .i64 0, .int .i64 0, .int .i64 0, .int .i64 0, .int .i64 0, .string ⟨#[]⟩, .int .i64 0, .slice none 0 0, .slice none 0 0, .slice none 0 0] 26)).alloc (.cells #[.int .i64 0, .int .i64 0, .int .i64 0, .int .i64 0, .int .i64 0, .string ⟨#[]⟩, .int .i64 0, .slice none 0 0, .slice none 0 0, .slice none 0 0] 26) = V at O0 C2 C4 R0 ⊢
 obtain ⟨q4, hq4⟩ : ∃ q, q = w.heap.size + 1 := ⟨_, rfl⟩
 obtain ⟨q2, hq2⟩ : ∃ q, q = w.heap.size := ⟨_, rfl⟩
 rw [← hq4] at C4 ⊢
 rw [← hq2] at C2 ⊢
 have HNE : Hid (q4 ≠ b ∧ q2 ≠ b ∧ q2 ≠ q4 ∧ w.heap.size ≤ q2 ∧ w.heap.size ≤ q4) := by have := HBW.out; exact ⟨by omega, by omega, by omega, by omega, by omega⟩
 have HC : Hid _ := C4
 have HZ : Hid _ := C2
 have HR : Hid _ := R0
 have HO : Hid (Off (fun c => c = b ∨ c = q4) w V) := O0.mono (fun _ _ h => h.elim)
 clear hV hq4 hq2 C2 C4 R0 O0
 have HND : Hid (¬ D q4) := fun h => by have := HDL.out q4 h; have := HNE.out; omega
 obtain ⟨x0, x1, x2, x3, x4, x5, x6, x7, x8, x9⟩ := celw10 HC.out
 have fz := HC.out.free
 go_wp2_with fail
 refine (HH1.out _ HR.out).mono ?_
 rintro e w5 ⟨rfl, r5, o5⟩
 have HR5 : Hid (Rdr 96 D b a1 w5) := r5
 have HO5 : Hid (Off (fun c => c = b) _ w5) := o5
 clear x0 x1 x2 x3 x4 x5 x6 x7 x8 x9 fz r5 o5
 have D5 := HC.out.off HO5.out (fun e => HNE.out.1 e)
 obtain ⟨y0, y1, y2, y3, y4, y5, y6, y7, y8, y9⟩ := celw10 D5
 have fy := D5.free
 go_upto_region 3 with fail
 have E5 : Cel q4 26 #[.int .i64 k, .int .i64 0, .int .i64 0, .int .i64 0, .int .i64 0, .string ⟨#[]⟩, .int .i64 0, .slice none 0 0, .slice none 0 0, .slice none 0 0] (w5.setCell ⟨q4, 0, none⟩ (.int .i64 k)) := D5.set 0 _
 have OS5 : Off (fun c => c = q4) w5 (w5.setCell ⟨q4, 0, none⟩ (.int .i64 k)) := (Off.refl (fun c => c = q4) w5).setCell (p := ⟨q4, 0, none⟩) (.inl rfl) _
 have HR6 : Hid (Rdr 96 D b a1 (w5.setCell ⟨q4, 0, none⟩ (.int .i64 k))) := HR5.out.off OS5 (fun e => HNE.out.1 e.symm) (fun c _ hc e => by have e : c = q4 := e; exact HND.out (e ▸ hc))
 have HO6 : Hid (Off (fun c => c = b ∨ c = q4) w (w5.setCell ⟨q4, 0, none⟩ (.int .i64 k))) := (HO.out.trans (HO5.out.mono (fun c _ h => .inl h)) (fun _ _ h => h)).trans (OS5.mono (fun c _ h => .inr h)) (fun _ _ h => h)
 have HZ6 : Hid (Cel q2 26 #[.int .i64 0, .int .i64 0, .int .i64 0, .int .i64 0, .int .i64 0, .string ⟨#[]⟩, .int .i64 0, .slice none 0 0, .slice none 0 0, .slice none 0 0] (w5.setCell ⟨q4, 0, none⟩ (.int .i64 k))) := (HZ.out.off HO5.out (fun e => HNE.out.2.1 e)).off OS5 (fun e => HNE.out.2.2.1 e)
 generalize w5.setCell ⟨q4, 0, none⟩ (.int .i64 k) = V0 at E5 HR6 HO6 HZ6 ⊢
 clear HC HR HO HZ HR5 HO5 OS5 D5 y0 y1 y2 y3 y4 y5 y6 y7 y8 y9 fy
 have HC : Hid _ := E5
 have HR : Hid _ := HR6.out
 have HO : Hid _ := HO6.out
 have HZ : Hid _ := HZ6.out
 clear E5 HR6 HO6 HZ6
 obtain ⟨x0, x1, x2, x3, x4, x5, x6, x7, x8, x9⟩ := celw10 HC.out
 have fz := HC.out.free
 go_wp2_with fail
 refine (HH2.out _ HR.out).mono ?_
 rintro e w5 ⟨rfl, r5, o5⟩
 have HR5 : Hid (Rdr 96 D b a2 w5) := r5
 have HO5 : Hid (Off (fun c => c = b) _ w5) := o5
 clear x0 x1 x2 x3 x4 x5 x6 x7 x8 x9 fz r5 o5
 have D5 := HC.out.off HO5.out (fun e => HNE.out.1 e)
 obtain ⟨y0, y1, y2, y3, y4, y5, y6, y7, y8, y9⟩ := celw10 D5
 have fy := D5.free
 go_upto_region 4 with fail
 have E5 : Cel q4 26 #[.int .i64 k, .int .i64 fr, .int .i64 0, .int .i64 0, .int .i64 0, .string ⟨#[]⟩, .int .i64 0, .slice none 0 0, .slice none 0 0, .slice none 0 0] (w5.setCell ⟨q4, 1, none⟩ (.int .i64 fr)) := D5.set 1 _
 have OS5 : Off (fun c => c = q4) w5 (w5.setCell ⟨q4, 1, none⟩ (.int .i64 fr)) := (Off.refl (fun c => c = q4) w5).setCell (p := ⟨q4, 1, none⟩) (.inl rfl) _
 have HR6 : Hid (Rdr 96 D b a2 (w5.setCell ⟨q4, 1, none⟩ (.int .i64 fr))) := HR5.out.off OS5 (fun e => HNE.out.1 e.symm) (fun c _ hc e => by have e : c = q4 := e; exact HND.out (e ▸ hc))
 have HO6 : Hid (Off (fun c => c = b ∨ c = q4) w (w5.setCell ⟨q4, 1, none⟩ (.int .i64 fr))) := (HO.out.trans (HO5.out.mono (fun c _ h => .inl h)) (fun _ _ h => h)).trans (OS5.mono (fun c _ h => .inr h)) (fun _ _ h => h)
 have HZ6 : Hid (Cel q2 26 #[.int .i64 0, .int .i64 0, .int .i64 0, .int .i64 0, .int .i64 0, .string ⟨#[]⟩, .int .i64 0, .slice none 0 0, .slice none 0 0, .slice none 0 0] (w5.setCell ⟨q4, 1, none⟩ (.int .i64 fr))) := (HZ.out.off HO5.out (fun e => HNE.out.2.1 e)).off OS5 (fun e => HNE.out.2.2.1 e)
 generalize w5.setCell ⟨q4, 1, none⟩ (.int .i64 fr) = V1 at E5 HR6 HO6 HZ6 ⊢
 clear HC HR HO HZ HR5 HO5 OS5 D5 y0 y1 y2 y3 y4 y5 y6 y7 y8 y9 fy
 have HC : Hid _ := E5
 have HR : Hid _ := HR6.out
 have HO : Hid _ := HO6.out
 have HZ : Hid _ := HZ6.out
 clear E5 HR6 HO6 HZ6
 obtain ⟨x0, x1, x2, x3, x4, x5, x6, x7, x8, x9⟩ := celw10 HC.out
 have fz := HC.out.free
 go_wp2_with fail
 refine (HH3.out _ HR.out).mono ?_
 rintro e w5 ⟨rfl, r5, o5⟩
 have HR5 : Hid (Rdr 96 D b a3 w5) := r5
 have HO5 : Hid (Off (fun c => c = b) _ w5) := o5
 clear x0 x1 x2 x3 x4 x5 x6 x7 x8 x9 fz r5 o5
 have D5 := HC.out.off HO5.out (fun e => HNE.out.1 e)
 obtain ⟨y0, y1, y2, y3, y4, y5, y6, y7, y8, y9⟩ := celw10 D5
 have fy := D5.free
 go_upto_region 5 with fail
 have E5 : Cel q4 26 #[.int .i64 k, .int .i64 fr, .int .i64 tn, .int .i64 0, .int .i64 0, .string ⟨#[]⟩, .int .i64 0, .slice none 0 0, .slice none 0 0, .slice none 0 0] (w5.setCell ⟨q4, 2, none⟩ (.int .i64 tn)) := D5.set 2 _
 have OS5 : Off (fun c => c = q4) w5 (w5.setCell ⟨q4, 2, none⟩ (.int .i64 tn)) := (Off.refl (fun c => c = q4) w5).setCell (p := ⟨q4, 2, none⟩) (.inl rfl) _
 have HR6 : Hid (Rdr 96 D b a3 (w5.setCell ⟨q4, 2, none⟩ (.int .i64 tn))) := HR5.out.off OS5 (fun e => HNE.out.1 e.symm) (fun c _ hc e => by have e : c = q4 := e; exact HND.out (e ▸ hc))
 have HO6 : Hid (Off (fun c => c = b ∨ c = q4) w (w5.setCell ⟨q4, 2, none⟩ (.int .i64 tn))) := (HO.out.trans (HO5.out.mono (fun c _ h => .inl h)) (fun _ _ h => h)).trans (OS5.mono (fun c _ h => .inr h)) (fun _ _ h => h)
 have HZ6 : Hid (Cel q2 26 #[.int .i64 0, .int .i64 0, .int .i64 0, .int .i64 0, .int .i64 0, .string ⟨#[]⟩, .int .i64 0, .slice none 0 0, .slice none 0 0, .slice none 0 0] (w5.setCell ⟨q4, 2, none⟩ (.int .i64 tn))) := (HZ.out.off HO5.out (fun e => HNE.out.2.1 e)).off OS5 (fun e => HNE.out.2.2.1 e)
 generalize w5.setCell ⟨q4, 2, none⟩ (.int .i64 tn) = V2 at E5 HR6 HO6 HZ6 ⊢
 clear HC HR HO HZ HR5 HO5 OS5 D5 y0 y1 y2 y3 y4 y5 y6 y7 y8 y9 fy
 have HC : Hid _ := E5
 have HR : Hid _ := HR6.out
 have HO : Hid _ := HO6.out
 have HZ : Hid _ := HZ6.out
 clear E5 HR6 HO6 HZ6
 obtain ⟨x0, x1, x2, x3, x4, x5, x6, x7, x8, x9⟩ := celw10 HC.out
 have fz := HC.out.free
 go_wp2_with fail
 refine (HP.out _).mono ?_
 rintro e w5 ⟨rfl, o5⟩
 clear x0 x1 x2 x3 x4 x5 x6 x7 x8 x9 fz
 go_upto_region 6 with fail
 have P5 : Cel w5.heap.size 99 #[.bool so, .bool sf, .bool sk, .bool sb, .bool se, .bool sg, .bool sn] (w5.alloc (.cells #[.bool so, .bool sf, .bool sk, .bool sb, .bool se, .bool sg, .bool sn] 99)) := Cel.new w5 _ _
 have O6 : Off (fun _ => False) w5 (w5.alloc (.cells #[.bool so, .bool sf, .bool sk, .bool sb, .bool se, .bool sg, .bool sn] 99)) := (Off.refl _ w5).alloc _
 generalize hv : w5.alloc (.cells #[.bool so, .bool sf, .bool sk, .bool sb, .bool se, .bool sg, .bool sn] 99) = V5 at P5 O6 ⊢
 obtain ⟨q5, hq5⟩ : ∃ q, q = w5.heap.size := ⟨_, rfl⟩
 rw [← hq5] at P5 ⊢
 have HO7 : Hid (Off (fun _ => False) V2 V5) := o5.trans O6 (fun _ _ h => h)
 have HC7 : Hid _ := HC.out.off HO7.out (fun h => h)
 have HR7 : Hid _ := HR.out.off HO7.out (fun h => h) (fun _ _ _ h => h)
 have HZ7 : Hid _ := HZ.out.off HO7.out (fun h => h)
 have HOW : Hid (Off (fun c => c = b ∨ c = q4) w V5) := HO.out.trans (HO7.out.mono (fun _ _ h => h.elim)) (fun _ _ h => h)
 have HNQ : Hid (q5 ≠ b ∧ q5 ≠ q4) := by have e1 := HC.out.lt; have e2 := HR.out.here; have e3 := o5.size; exact ⟨by omega, by omega⟩
 have HPQ : Hid _ := P5
 have HVS : Hid (b < V5.heap.size ∧ q4 < V5.heap.size ∧ q2 < V5.heap.size ∧ w.heap.size ≤ V5.heap.size) := ⟨HR7.out.here, HC7.out.lt, HZ7.out.lt, HOW.out.size⟩
 clear hv hq5 P5 O6 o5 HC HR HO HZ HP HO7
 have HC : Hid _ := HC7.out
 have HR : Hid _ := HR7.out
 have HO : Hid (Off (fun c => c = b ∨ c = q4) V5 V5) := Off.refl _ _
 clear HC7 HR7
 have p0 := (HPQ.out.off HO.out (fun e => e.elim HNQ.out.1 HNQ.out.2)).cell 0
 simp at p0
 go_upto_if 20 with fail
 go_cut [] from 21 to 23 (fun wx => Hid (Cel q4 26 #[.int .i64 k, .int .i64 fr, .int .i64 tn, .int .i64 op, .int .i64 0, .string ⟨#[]⟩, .int .i64 0, .slice none 0 0, .slice none 0 0, .slice none 0 0] wx) ∧ Hid (Rdr 96 D b a4 wx) ∧ Hid (Off (fun c => c = b ∨ c = q4) V5 wx))
 case first =>
  clear p0
  cases so
  ·go_wp2_with fail
   go_meet
   case rel => obtain ⟨e1, e2⟩ := HH4.out.2 (by simp); rw [e1, e2]; exact ⟨HC.out, HR.out, HO.out⟩
  ·go_wp2_with fail
   refine ((HH4.out.1 (by simp)) _ HR.out).mono ?_
   rintro e w5 ⟨rfl, r5, o5⟩
   have HR5 : Hid (Rdr 96 D b a4 w5) := r5
   have HO5 : Hid (Off (fun c => c = b) _ w5) := o5
   clear r5 o5
   have D5 := HC.out.off HO5.out (fun e => HNE.out.1 e)
   obtain ⟨y0, y1, y2, y3, y4, y5, y6, y7, y8, y9⟩ := celw10 D5
   have fy := D5.free
   go_wp2_with fail
   have E5 : Cel q4 26 #[.int .i64 k, .int .i64 fr, .int .i64 tn, .int .i64 op, .int .i64 0, .string ⟨#[]⟩, .int .i64 0, .slice none 0 0, .slice none 0 0, .slice none 0 0] (w5.setCell ⟨q4, 3, none⟩ (.int .i64 op)) := D5.set 3 _
   have OS5 : Off (fun c => c = q4) w5 (w5.setCell ⟨q4, 3, none⟩ (.int .i64 op)) := (Off.refl (fun c => c = q4) w5).setCell (p := ⟨q4, 3, none⟩) (.inl rfl) _
   go_meet
   case rel => exact ⟨E5, HR5.out.off OS5 (fun e => HNE.out.1 e.symm) (fun c _ hc e => by have e : c = q4 := e; exact HND.out (e ▸ hc)), (HO.out.trans (HO5.out.mono (fun c _ h => .inl h)) (fun _ _ h => h)).trans (OS5.mono (fun c _ h => .inr h)) (fun _ _ h => h)⟩
 case rest =>
  clear p0 HC HR HO
  obtain ⟨HC, HR, HO⟩ := hcut
  have p1 := (HPQ.out.off HO.out (fun e => e.elim HNQ.out.1 HNQ.out.2)).cell 1
  simp at p1
  go_upto_if 25 with fail
  go_cut [] from 26 to 28 (fun wx => Hid (Cel q4 26 #[.int .i64 k, .int .i64 fr, .int .i64 tn, .int .i64 op, .int .i64 fo, .string ⟨#[]⟩, .int .i64 0, .slice none 0 0, .slice none 0 0, .slice none 0 0] wx) ∧ Hid (Rdr 96 D b a5 wx) ∧ Hid (Off (fun c => c = b ∨ c = q4) V5 wx))
  case first =>
   clear p1
   cases sf
   ·go_wp2_with fail
    go_meet
    case rel => obtain ⟨e1, e2⟩ := HH5.out.2 (by simp); rw [e1, e2]; exact ⟨HC.out, HR.out, HO.out⟩
   ·go_wp2_with fail
    refine ((HH5.out.1 (by simp)) _ HR.out).mono ?_
    rintro e w5 ⟨rfl, r5, o5⟩
    have HR5 : Hid (Rdr 96 D b a5 w5) := r5
    have HO5 : Hid (Off (fun c => c = b) _ w5) := o5
    clear r5 o5
    have D5 := HC.out.off HO5.out (fun e => HNE.out.1 e)
    obtain ⟨y0, y1, y2, y3, y4, y5, y6, y7, y8, y9⟩ := celw10 D5
    have fy := D5.free
    go_wp2_with fail
    have E5 : Cel q4 26 #[.int .i64 k, .int .i64 fr, .int .i64 tn, .int .i64 op, .int .i64 fo, .string ⟨#[]⟩, .int .i64 0, .slice none 0 0, .slice none 0 0, .slice none 0 0] (w5.setCell ⟨q4, 4, none⟩ (.int .i64 fo)) := D5.set 4 _
    have OS5 : Off (fun c => c = q4) w5 (w5.setCell ⟨q4, 4, none⟩ (.int .i64 fo)) := (Off.refl (fun c => c = q4) w5).setCell (p := ⟨q4, 4, none⟩) (.inl rfl) _
    go_meet
    case rel => exact ⟨E5, HR5.out.off OS5 (fun e => HNE.out.1 e.symm) (fun c _ hc e => by have e : c = q4 := e; exact HND.out (e ▸ hc)), (HO.out.trans (HO5.out.mono (fun c _ h => .inl h)) (fun _ _ h => h)).trans (OS5.mono (fun c _ h => .inr h)) (fun _ _ h => h)⟩
  case rest =>
   clear p1 HC HR HO
   obtain ⟨HC, HR, HO⟩ := hcut
   have p2 := (HPQ.out.off HO.out (fun e => e.elim HNQ.out.1 HNQ.out.2)).cell 2
   simp at p2
   go_upto_if 30 with fail
   go_cut [] from 31 to 34 (fun wx => Hid (Cel q4 26 #[.int .i64 k, .int .i64 fr, .int .i64 tn, .int .i64 op, .int .i64 fo, .string key, .int .i64 0, .slice none 0 0, .slice none 0 0, .slice none 0 0] wx) ∧ Hid (Rdr 96 D b a6 wx) ∧ Hid (Off (fun c => c = b ∨ c = q4) V5 wx))
   case first =>
    clear p2
    cases sk
    ·go_wp2_with fail
     go_meet
     case rel => obtain ⟨e1, e2⟩ := HH6.out.2 (by simp); rw [e1, e2]; exact ⟨HC.out, HR.out, HO.out⟩
    ·go_wp2_with fail
     refine ((HH6.out.1 (by simp)) _ HR.out).mono ?_
     rintro e w5 ⟨t5, c5, rfl, own5, r5, o5⟩
     have HW5 : Hid _ := own5
     clear own5
     have HR5 : Hid (Rdr 96 D b a6 w5) := r5
     have HO5 : Hid (Off (fun c => c = b) _ w5) := o5
     clear r5 o5
     have x9 := conv_src HW5.out.src
     rw [← HKY.out (by simp)] at x9
     have D5 := HC.out.off HO5.out (fun e => HNE.out.1 e)
     obtain ⟨y0, y1, y2, y3, y4, y5, y6, y7, y8, y9⟩ := celw10 D5
     have fy := D5.free
     go_wp2_with fail
     have E5 : Cel q4 26 #[.int .i64 k, .int .i64 fr, .int .i64 tn, .int .i64 op, .int .i64 fo, .string key, .int .i64 0, .slice none 0 0, .slice none 0 0, .slice none 0 0] (w5.setCell ⟨q4, 5, none⟩ (.string key)) := D5.set 5 _
     have OS5 : Off (fun c => c = q4) w5 (w5.setCell ⟨q4, 5, none⟩ (.string key)) := (Off.refl (fun c => c = q4) w5).setCell (p := ⟨q4, 5, none⟩) (.inl rfl) _
     go_meet
     case rel => exact ⟨E5, HR5.out.off OS5 (fun e => HNE.out.1 e.symm) (fun c _ hc e => by have e : c = q4 := e; exact HND.out (e ▸ hc)), (HO.out.trans (HO5.out.mono (fun c _ h => .inl h)) (fun _ _ h => h)).trans (OS5.mono (fun c _ h => .inr h)) (fun _ _ h => h)⟩
   case rest =>
    clear p2 HC HR HO
    obtain ⟨HC, HR, HO⟩ := hcut
    have p3 := (HPQ.out.off HO.out (fun e => e.elim HNQ.out.1 HNQ.out.2)).cell 3
    simp at p3
    go_upto_if 36 with fail
    go_cut [] from 37 to 39 (fun wx => Hid (Cel q4 26 #[.int .i64 k, .int .i64 fr, .int .i64 tn, .int .i64 op, .int .i64 fo, .string key, .int .i64 bk, .slice none 0 0, .slice none 0 0, .slice none 0 0] wx) ∧ Hid (Rdr 96 D b a7 wx) ∧ Hid (Off (fun c => c = b ∨ c = q4) V5 wx))
    case first =>
     clear p3
     cases sb
     ·go_wp2_with fail
      go_meet
      case rel => obtain ⟨e1, e2⟩ := HH7.out.2 (by simp); rw [e1, e2]; exact ⟨HC.out, HR.out, HO.out⟩
     ·go_wp2_with fail
      refine ((HH7.out.1 (by simp)) _ HR.out).mono ?_
      rintro e w5 ⟨rfl, r5, o5⟩
      have HR5 : Hid (Rdr 96 D b a7 w5) := r5
      have HO5 : Hid (Off (fun c => c = b) _ w5) := o5
      clear r5 o5
      have D5 := HC.out.off HO5.out (fun e => HNE.out.1 e)
      obtain ⟨y0, y1, y2, y3, y4, y5, y6, y7, y8, y9⟩ := celw10 D5
      have fy := D5.free
      go_wp2_with fail
      have E5 : Cel q4 26 #[.int .i64 k, .int .i64 fr, .int .i64 tn, .int .i64 op, .int .i64 fo, .string key, .int .i64 bk, .slice none 0 0, .slice none 0 0, .slice none 0 0] (w5.setCell ⟨q4, 6, none⟩ (.int .i64 bk)) := D5.set 6 _
      have OS5 : Off (fun c => c = q4) w5 (w5.setCell ⟨q4, 6, none⟩ (.int .i64 bk)) := (Off.refl (fun c => c = q4) w5).setCell (p := ⟨q4, 6, none⟩) (.inl rfl) _
      go_meet
      case rel => exact ⟨E5, HR5.out.off OS5 (fun e => HNE.out.1 e.symm) (fun c _ hc e => by have e : c = q4 := e; exact HND.out (e ▸ hc)), (HO.out.trans (HO5.out.mono (fun c _ h => .inl h)) (fun _ _ h => h)).trans (OS5.mono (fun c _ h => .inr h)) (fun _ _ h => h)⟩
    case rest =>
     clear p3 HC HR HO
     obtain ⟨HC, HR, HO⟩ := hcut
     have p4 := (HPQ.out.off HO.out (fun e => e.elim HNQ.out.1 HNQ.out.2)).cell 4
     simp at p4
     go_upto_if 41 with fail
     go_cut [6] from 43 to 47 (fun s6 wx => (∃ (tE : Option Addr) (cE : Nat) (es : List (E)) (a8 : RS), s6 = .bool true ∧ RE = some (es.map E.abs, a8) ∧ Cel q4 26 #[.int .i64 k, .int .i64 fr, .int .i64 tn, .int .i64 op, .int .i64 fo, .string key, .int .i64 bk, .slice tE es.length cE, .slice none 0 0, .slice none 0 0] wx ∧ Rdr 96 D b a8 wx ∧ (∀ v, Off (fun c => c < V5.heap.size) wx v → Ens v tE cE es) ∧ Off (fun c => c = b ∨ c = q4) V5 wx) ∨ (s6 = .bool false ∧ RE = none ∧ Cel q4 26 #[.int .i64 k, .int .i64 fr, .int .i64 tn, .int .i64 op, .int .i64 fo, .string key, .int .i64 bk, .slice none 0 0, .slice none 0 0, .slice none 0 0] wx ∧ Off (fun c => c = b ∨ c = q4) V5 wx))
     case first =>
      clear p4
      cases se
      ·go_wp2_with fail
       go_meet
       case rel => exact .inl ⟨none, 0, [], a7, rfl, HH8.out.2 (by simp), HC.out, HR.out, fun v _ => ⟨by simp, by omega, fun i e hi => by simp at hi⟩, HO.out⟩
      ·go_wp2_with fail
       refine (((HH8.out.1 (by simp))  _ HR.out)).mono ?_
       rintro e w5 ⟨⟨⟨tE, cE, es, sx, rfl, hl, r5, hrow⟩ | ⟨rfl, hl⟩⟩, o5⟩
       ·have HR5 : Hid (Rdr 96 D b sx w5) := r5
        have HO5 : Hid (Off (fun c => c = b) _ w5) := o5
        have HRW : Hid _ := hrow
        have HLE : Hid _ := hl
        have HSZ : Hid (V5.heap.size ≤ _) := HO.out.size
        clear r5 o5 hrow hl
        have D5 := HC.out.off HO5.out (fun e => HNE.out.1 e)
        obtain ⟨y0, y1, y2, y3, y4, y5, y6, y7, y8, y9⟩ := celw10 D5
        have fy := D5.free
        go_wp2_with fail
        have E5 : Cel q4 26 #[.int .i64 k, .int .i64 fr, .int .i64 tn, .int .i64 op, .int .i64 fo, .string key, .int .i64 bk, .slice tE es.length cE, .slice none 0 0, .slice none 0 0] (w5.setCell ⟨q4, 7, none⟩ (.slice tE es.length cE)) := D5.set 7 _
        have OS5 : Off (fun c => c = q4) w5 (w5.setCell ⟨q4, 7, none⟩ (.slice tE es.length cE)) := (Off.refl (fun c => c = q4) w5).setCell (p := ⟨q4, 7, none⟩) (.inl rfl) _
        go_meet
        case rel => exact .inl ⟨tE, cE, es, sx, rfl, HLE.out, E5, HR5.out.off OS5 (fun e => HNE.out.1 e.symm) (fun c _ hc e => by have e : c = q4 := e; exact HND.out (e ▸ hc)), fun v o => HRW.out v (((OS5.mono (E := fun c => c < _) (fun c _ h => by have h : c = q4 := h; have := HVS.out; have := HSZ.out; show c < _; omega)).trans (o.mono (fun c _ h => by have h : c < V5.heap.size := h; have := HSZ.out; show c < _; omega)) (fun _ _ h => h))), (HO.out.trans (HO5.out.mono (fun c _ h => .inl h)) (fun _ _ h => h)).trans (OS5.mono (fun c _ h => .inr h)) (fun _ _ h => h)⟩
       ·have HO5 : Hid (Off (fun c => c = b) _ w5) := o5
        have HLE : Hid _ := hl
        clear o5 hl
        have D5 := HC.out.off HO5.out (fun e => HNE.out.1 e)
        obtain ⟨y0, y1, y2, y3, y4, y5, y6, y7, y8, y9⟩ := celw10 D5
        have fy := D5.free
        go_wp2_with fail
        have E5 : Cel q4 26 #[.int .i64 k, .int .i64 fr, .int .i64 tn, .int .i64 op, .int .i64 fo, .string key, .int .i64 bk, .slice none 0 0, .slice none 0 0, .slice none 0 0] (w5.setCell ⟨q4, 7, none⟩ (.slice none 0 0)) := D5.set 7 _
        have OS5 : Off (fun c => c = q4) w5 (w5.setCell ⟨q4, 7, none⟩ (.slice none 0 0)) := (Off.refl (fun c => c = q4) w5).setCell (p := ⟨q4, 7, none⟩) (.inl rfl) _
        go_meet
        case rel => exact .inr ⟨rfl, HLE.out, E5, (HO.out.trans (HO5.out.mono (fun c _ h => .inl h)) (fun _ _ h => h)).trans (OS5.mono (fun c _ h => .inr h)) (fun _ _ h => h)⟩
     case rest =>
      clear p4 HC HR HO
      rcases hcut with ⟨tE, cE, es, a8, rfl, hr, hc, hrd, hl0, ho⟩ | ⟨rfl, hrf, hcf, hof⟩
      rotate_left
      ·have HCF : Hid _ := hcf
       have HOF : Hid _ := hof
       have HN : Hid (R = none) := by show _ = _; rw [HRR.out, hrf]; rfl
       clear hcf hof hrf
       obtain ⟨x0, x1, x2, x3, x4, x5, x6, x7, x8, x9⟩ := celw10 HCF.out
       have hz := HZ7.out.off HOF.out (fun e => e.elim HNE.out.2.1 HNE.out.2.2.1)
       obtain ⟨y0, y1, y2, y3, y4, y5, y6, y7, y8, y9⟩ := celw10 hz
       have fz := hz.free
       have HZF : Hid _ := hz
       go_wp2_with fail
       refine bodyPost_ret (results_msg2 (x := (⟨k, fr, tn, op, fo, key, bk, none, 0, 0, none, 0, 0, none, 0, 0⟩ : Mg)) rfl rfl rfl (HZF.out.wrwAll (vs := mcs (⟨k, fr, tn, op, fo, key, bk, none, 0, 0, none, 0, 0, none, 0, 0⟩ : Mg)) rfl)) rfl ?_
       exact ⟨⟨.inr ⟨(⟨k, fr, tn, op, fo, key, bk, none, 0, 0, none, 0, 0, none, 0, 0⟩ : Mg), rfl, HN.out⟩⟩, ((HOW.out.trans HOF.out (fun _ _ h => h)).mono (fun c hc h => by rcases h with h | h; exact h; have := HNE.out; omega)).trans (off_wrw (D := fun c => c = q2) (g := q2) (us := mcs (⟨k, fr, tn, op, fo, key, bk, none, 0, 0, none, 0, 0, none, 0, 0⟩ : Mg)) (o := 0) (Off.refl _ _) (.inl rfl)) (fun c hc e => by have e : c = q2 := e; have := HNE.out; omega)⟩
      have HC : Hid _ := hc
      have HR : Hid _ := hrd
      have HRE : Hid _ := hr
      have HO : Hid _ := ho
      have HL0 : Hid _ := hl0
      clear hr hc hrd ho hl0
      have p5 := (HPQ.out.off HO.out (fun e => e.elim HNQ.out.1 HNQ.out.2)).cell 5
      simp at p5
      go_upto_if 52 with fail
      go_cut [6] from 54 to 58 (fun s6 wx => (∃ (tD : Option Addr) (cD : Nat) (gs : List (G)) (a9 : RS), s6 = .bool true ∧ RG a8 = some (gs.map G.abs, a9) ∧ Cel q4 26 #[.int .i64 k, .int .i64 fr, .int .i64 tn, .int .i64 op, .int .i64 fo, .string key, .int .i64 bk, .slice tE es.length cE, .slice tD gs.length cD, .slice none 0 0] wx ∧ Rdr 96 D b a9 wx ∧ (∀ v, Off (fun c => c < V5.heap.size) wx v → Dgs v tD cD gs) ∧ (∀ v, Off (fun c => c < V5.heap.size) wx v → Ens v tE cE es) ∧ Off (fun c => c = b ∨ c = q4) V5 wx) ∨ (s6 = .bool false ∧ RG a8 = none ∧ Cel q4 26 #[.int .i64 k, .int .i64 fr, .int .i64 tn, .int .i64 op, .int .i64 fo, .string key, .int .i64 bk, .slice tE es.length cE, .slice none 0 0, .slice none 0 0] wx ∧ Off (fun c => c = b ∨ c = q4) V5 wx))
      case first =>
       clear p5
       cases sg
       ·go_wp2_with fail
        go_meet
        case rel => exact .inl ⟨none, 0, [], a8, rfl, HH9.out.2 (by simp) a8, HC.out, HR.out, fun v _ => ⟨by simp, by omega, fun i e hi => by simp at hi⟩, HL0.out, HO.out⟩
       ·go_wp2_with fail
        refine (((HH9.out.1 (by simp)) a8 _ HR.out)).mono ?_
        rintro e w5 ⟨⟨⟨tD, cD, gs, sx, rfl, hl, r5, hrow⟩ | ⟨rfl, hl⟩⟩, o5⟩
        ·have HR5 : Hid (Rdr 96 D b sx w5) := r5
         have HO5 : Hid (Off (fun c => c = b) _ w5) := o5
         have HRW : Hid _ := hrow
         have HLE : Hid _ := hl
         have HSZ : Hid (V5.heap.size ≤ _) := HO.out.size
         clear r5 o5 hrow hl
         have D5 := HC.out.off HO5.out (fun e => HNE.out.1 e)
         obtain ⟨y0, y1, y2, y3, y4, y5, y6, y7, y8, y9⟩ := celw10 D5
         have fy := D5.free
         go_wp2_with fail
         have E5 : Cel q4 26 #[.int .i64 k, .int .i64 fr, .int .i64 tn, .int .i64 op, .int .i64 fo, .string key, .int .i64 bk, .slice tE es.length cE, .slice tD gs.length cD, .slice none 0 0] (w5.setCell ⟨q4, 8, none⟩ (.slice tD gs.length cD)) := D5.set 8 _
         have OS5 : Off (fun c => c = q4) w5 (w5.setCell ⟨q4, 8, none⟩ (.slice tD gs.length cD)) := (Off.refl (fun c => c = q4) w5).setCell (p := ⟨q4, 8, none⟩) (.inl rfl) _
         go_meet
         case rel => exact .inl ⟨tD, cD, gs, sx, rfl, HLE.out, E5, HR5.out.off OS5 (fun e => HNE.out.1 e.symm) (fun c _ hc e => by have e : c = q4 := e; exact HND.out (e ▸ hc)), fun v o => HRW.out v (((OS5.mono (E := fun c => c < _) (fun c _ h => by have h : c = q4 := h; have := HVS.out; have := HSZ.out; show c < _; omega)).trans (o.mono (fun c _ h => by have h : c < V5.heap.size := h; have := HSZ.out; show c < _; omega)) (fun _ _ h => h))), fun v o => HL0.out v ((HO5.out.mono (E := fun c => c < V5.heap.size) (fun c _ h => by have h : c = b := h; have := HVS.out; show c < _; omega)).trans ((OS5.mono (E := fun c => c < V5.heap.size) (fun c _ h => by have h : c = q4 := h; have := HVS.out; show c < _; omega)).trans o (fun _ _ h => h)) (fun _ _ h => h)), (HO.out.trans (HO5.out.mono (fun c _ h => .inl h)) (fun _ _ h => h)).trans (OS5.mono (fun c _ h => .inr h)) (fun _ _ h => h)⟩
        ·have HO5 : Hid (Off (fun c => c = b) _ w5) := o5
         have HLE : Hid _ := hl
         clear o5 hl
         have D5 := HC.out.off HO5.out (fun e => HNE.out.1 e)
         obtain ⟨y0, y1, y2, y3, y4, y5, y6, y7, y8, y9⟩ := celw10 D5
         have fy := D5.free
         go_wp2_with fail
         have E5 : Cel q4 26 #[.int .i64 k, .int .i64 fr, .int .i64 tn, .int .i64 op, .int .i64 fo, .string key, .int .i64 bk, .slice tE es.length cE, .slice none 0 0, .slice none 0 0] (w5.setCell ⟨q4, 8, none⟩ (.slice none 0 0)) := D5.set 8 _
         have OS5 : Off (fun c => c = q4) w5 (w5.setCell ⟨q4, 8, none⟩ (.slice none 0 0)) := (Off.refl (fun c => c = q4) w5).setCell (p := ⟨q4, 8, none⟩) (.inl rfl) _
         go_meet
         case rel => exact .inr ⟨rfl, HLE.out, E5, (HO.out.trans (HO5.out.mono (fun c _ h => .inl h)) (fun _ _ h => h)).trans (OS5.mono (fun c _ h => .inr h)) (fun _ _ h => h)⟩
      case rest =>
       clear p5 HC HR HO HL0
       rcases hcut with ⟨tD, cD, gs, a9, rfl, hr, hc, hrd, hl1, hl0, ho⟩ | ⟨rfl, hrf, hcf, hof⟩
       rotate_left
       ·have HCF : Hid _ := hcf
        have HOF : Hid _ := hof
        have HN : Hid (R = none) := by show _ = _; rw [HRR.out, HRE.out]; show (RG a8).bind _ = none; rw [hrf]; rfl
        clear hcf hof hrf
        obtain ⟨x0, x1, x2, x3, x4, x5, x6, x7, x8, x9⟩ := celw10 HCF.out
        have hz := HZ7.out.off HOF.out (fun e => e.elim HNE.out.2.1 HNE.out.2.2.1)
        obtain ⟨y0, y1, y2, y3, y4, y5, y6, y7, y8, y9⟩ := celw10 hz
        have fz := hz.free
        have HZF : Hid _ := hz
        go_wp2_with fail
        refine bodyPost_ret (results_msg2 (x := (⟨k, fr, tn, op, fo, key, bk, tE, es.length, cE, none, 0, 0, none, 0, 0⟩ : Mg)) rfl rfl rfl (HZF.out.wrwAll (vs := mcs (⟨k, fr, tn, op, fo, key, bk, tE, es.length, cE, none, 0, 0, none, 0, 0⟩ : Mg)) rfl)) rfl ?_
        exact ⟨⟨.inr ⟨(⟨k, fr, tn, op, fo, key, bk, tE, es.length, cE, none, 0, 0, none, 0, 0⟩ : Mg), rfl, HN.out⟩⟩, ((HOW.out.trans HOF.out (fun _ _ h => h)).mono (fun c hc h => by rcases h with h | h; exact h; have := HNE.out; omega)).trans (off_wrw (D := fun c => c = q2) (g := q2) (us := mcs (⟨k, fr, tn, op, fo, key, bk, tE, es.length, cE, none, 0, 0, none, 0, 0⟩ : Mg)) (o := 0) (Off.refl _ _) (.inl rfl)) (fun c hc e => by have e : c = q2 := e; have := HNE.out; omega)⟩
       have HC : Hid _ := hc
       have HR : Hid _ := hrd
       have HRG : Hid _ := hr
       have HO : Hid _ := ho
       have HL0 : Hid _ := hl0
       have HL1 : Hid _ := hl1
       clear hr hc hrd ho hl0 hl1
       have p6 := (HPQ.out.off HO.out (fun e => e.elim HNQ.out.1 HNQ.out.2)).cell 6
       simp at p6
       cases sn
       ·have HCF : Hid _ := HC.out
        have HOF : Hid _ := HO.out
        have HRD : Hid _ := HR.out
        have HF0 : Hid _ := HL0.out
        have HF1 : Hid _ := HL1.out
        obtain ⟨x0, x1, x2, x3, x4, x5, x6, x7, x8, x9⟩ := celw10 HCF.out
        have hz := HZ7.out.off HOF.out (fun e => e.elim HNE.out.2.1 HNE.out.2.2.1)
        obtain ⟨y0, y1, y2, y3, y4, y5, y6, y7, y8, y9⟩ := celw10 hz
        have fz := hz.free
        have HZF : Hid _ := hz
        go_wp2_with fail
        refine bodyPost_ret (results_msg2 (x := (⟨k, fr, tn, op, fo, key, bk, tE, es.length, cE, tD, gs.length, cD, none, 0, 0⟩ : Mg)) rfl rfl rfl (HZF.out.wrwAll (vs := mcs (⟨k, fr, tn, op, fo, key, bk, tE, es.length, cE, tD, gs.length, cD, none, 0, 0⟩ : Mg)) rfl)) rfl ?_
        refine ⟨⟨.inl ⟨(⟨k, fr, tn, op, fo, key, bk, tE, es.length, cE, tD, gs.length, cD, none, 0, 0⟩ : Mg), es, gs, [], a9, rfl, ?_, ?_, fun v o => ?_⟩⟩, ((HOW.out.trans HOF.out (fun _ _ h => h)).mono (fun c hc h => by rcases h with h | h; exact h; have := HNE.out; omega)).trans (off_wrw (D := fun c => c = q2) (g := q2) (us := mcs (⟨k, fr, tn, op, fo, key, bk, tE, es.length, cE, tD, gs.length, cD, none, 0, 0⟩ : Mg)) (o := 0) (Off.refl _ _) (.inl rfl)) (fun c hc e => by have e : c = q2 := e; have := HNE.out; omega)⟩
        ·rw [HRR.out, HRE.out]
         show (RG a8).bind _ = _
         rw [HRG.out]
         show (RM a9).map _ = _
         rw [HH0.out.2 (by simp) a9]
         rfl
        ·exact HRD.out.off (off_wrw (D := fun c => c = q2) (g := q2) (us := mcs (⟨k, fr, tn, op, fo, key, bk, tE, es.length, cE, tD, gs.length, cD, none, 0, 0⟩ : Mg)) (o := 0) (Off.refl _ _) (.inl rfl)) (fun e => HNE.out.2.1 e.symm) (fun c _ hc e => by have e : c = q2 := e; have := HDL.out c hc; have := HNE.out; omega)
        ·have o' := ((off_wrw (D := fun c => c = q2) (g := q2) (us := mcs (⟨k, fr, tn, op, fo, key, bk, tE, es.length, cE, tD, gs.length, cD, none, 0, 0⟩ : Mg)) (o := 0) (Off.refl _ _) (.inl rfl)).mono (E := fun c => c < V5.heap.size) (fun c _ h => by have h : c = q2 := h; have := HVS.out; show c < _; omega)).trans (o.mono (fun c _ h => by have h : c < w.heap.size := h; have := HVS.out; show c < _; omega)) (fun _ _ h => h)
         exact ⟨HF0.out v o', rfl, HF1.out v o', rfl, RowD.nil _ _ _ (by show (0 : Nat) ≤ _; omega), rfl⟩
       ·go_wp2_with fail
        refine (((HH0.out.1 (by simp)) a9 _ HR.out)).mono ?_
        rintro e w5 ⟨⟨⟨tM, cM, ms, sx, rfl, hl, r5, hrow⟩ | ⟨rfl, hl⟩⟩, o5⟩
        ·have HR5 : Hid (Rdr 96 D b sx w5) := r5
         have HO5 : Hid (Off (fun c => c = b) _ w5) := o5
         have HRW : Hid _ := hrow
         have HLE : Hid _ := hl
         have HSZ : Hid (V5.heap.size ≤ _) := HO.out.size
         clear r5 o5 hrow hl
         have D5 := HC.out.off HO5.out (fun e => HNE.out.1 e)
         obtain ⟨y0, y1, y2, y3, y4, y5, y6, y7, y8, y9⟩ := celw10 D5
         have fy := D5.free
         go_upto_region 21 with fail
         have E5 : Cel q4 26 #[.int .i64 k, .int .i64 fr, .int .i64 tn, .int .i64 op, .int .i64 fo, .string key, .int .i64 bk, .slice tE es.length cE, .slice tD gs.length cD, .slice tM ms.length cM] (w5.setCell ⟨q4, 9, none⟩ (.slice tM ms.length cM)) := D5.set 9 _
         have OS5 : Off (fun c => c = q4) w5 (w5.setCell ⟨q4, 9, none⟩ (.slice tM ms.length cM)) := (Off.refl (fun c => c = q4) w5).setCell (p := ⟨q4, 9, none⟩) (.inl rfl) _
         have HRD : Hid (Rdr 96 D b sx (w5.setCell ⟨q4, 9, none⟩ (.slice tM ms.length cM))) := HR5.out.off OS5 (fun e => HNE.out.1 e.symm) (fun c _ hc e => by have e : c = q4 := e; exact HND.out (e ▸ hc))
         have HOF : Hid (Off (fun c => c = b ∨ c = q4) V5 (w5.setCell ⟨q4, 9, none⟩ (.slice tM ms.length cM))) := (HO.out.trans (HO5.out.mono (fun c _ h => .inl h)) (fun _ _ h => h)).trans (OS5.mono (fun c _ h => .inr h)) (fun _ _ h => h)
         have HS5 : Hid (Off (fun c => c < V5.heap.size) w5 (w5.setCell ⟨q4, 9, none⟩ (.slice tM ms.length cM))) := OS5.mono (fun c _ h => by have h : c = q4 := h; have := HVS.out; show c < _; omega)
         generalize w5.setCell ⟨q4, 9, none⟩ (.slice tM ms.length cM) = V9 at E5 HRD HOF HS5 ⊢
         have HF0 : Hid (∀ v, Off (fun c => c < V5.heap.size) V9 v → Ens v tE cE es) := fun v o => HL0.out v ((HO5.out.mono (E := fun c => c < V5.heap.size) (fun c _ h => by have h : c = b := h; have := HVS.out; show c < _; omega)).trans (HS5.out.trans o (fun _ _ h => h)) (fun _ _ h => h))
         have HF1 : Hid (∀ v, Off (fun c => c < V5.heap.size) V9 v → Dgs v tD cD gs) := fun v o => HL1.out v ((HO5.out.mono (E := fun c => c < V5.heap.size) (fun c _ h => by have h : c = b := h; have := HVS.out; show c < _; omega)).trans (HS5.out.trans o (fun _ _ h => h)) (fun _ _ h => h))
         have HF2 : Hid (∀ v, Off (fun c => c < V5.heap.size) V9 v → RowD v tM cM ms) := fun v o => HRW.out v ((HS5.out.trans o (fun _ _ h => h)).mono (fun c _ h => by have h : c < V5.heap.size := h; have := HSZ.out; show c < _; omega))
         clear OS5 D5 y0 y1 y2 y3 y4 y5 y6 y7 y8 y9 fy
         have HCF : Hid _ := E5
         clear E5
         obtain ⟨x0, x1, x2, x3, x4, x5, x6, x7, x8, x9⟩ := celw10 HCF.out
         have hz := HZ7.out.off HOF.out (fun e => e.elim HNE.out.2.1 HNE.out.2.2.1)
         obtain ⟨y0, y1, y2, y3, y4, y5, y6, y7, y8, y9⟩ := celw10 hz
         have fz := hz.free
         have HZF : Hid _ := hz
         go_wp2_with fail
         refine bodyPost_ret (results_msg2 (x := (⟨k, fr, tn, op, fo, key, bk, tE, es.length, cE, tD, gs.length, cD, tM, ms.length, cM⟩ : Mg)) rfl rfl rfl (HZF.out.wrwAll (vs := mcs (⟨k, fr, tn, op, fo, key, bk, tE, es.length, cE, tD, gs.length, cD, tM, ms.length, cM⟩ : Mg)) rfl)) rfl ?_
         refine ⟨⟨.inl ⟨(⟨k, fr, tn, op, fo, key, bk, tE, es.length, cE, tD, gs.length, cD, tM, ms.length, cM⟩ : Mg), es, gs, ms, sx, rfl, ?_, ?_, fun v o => ?_⟩⟩, ((HOW.out.trans HOF.out (fun _ _ h => h)).mono (fun c hc h => by rcases h with h | h; exact h; have := HNE.out; omega)).trans (off_wrw (D := fun c => c = q2) (g := q2) (us := mcs (⟨k, fr, tn, op, fo, key, bk, tE, es.length, cE, tD, gs.length, cD, tM, ms.length, cM⟩ : Mg)) (o := 0) (Off.refl _ _) (.inl rfl)) (fun c hc e => by have e : c = q2 := e; have := HNE.out; omega)⟩
         ·rw [HRR.out, HRE.out]
          show (RG a8).bind _ = _
          rw [HRG.out]
          show (RM a9).map _ = _
          rw [HLE.out]
          rfl
         ·exact HRD.out.off (off_wrw (D := fun c => c = q2) (g := q2) (us := mcs (⟨k, fr, tn, op, fo, key, bk, tE, es.length, cE, tD, gs.length, cD, tM, ms.length, cM⟩ : Mg)) (o := 0) (Off.refl _ _) (.inl rfl)) (fun e => HNE.out.2.1 e.symm) (fun c _ hc e => by have e : c = q2 := e; have := HDL.out c hc; have := HNE.out; omega)
         ·have o' := ((off_wrw (D := fun c => c = q2) (g := q2) (us := mcs (⟨k, fr, tn, op, fo, key, bk, tE, es.length, cE, tD, gs.length, cD, tM, ms.length, cM⟩ : Mg)) (o := 0) (Off.refl _ _) (.inl rfl)).mono (E := fun c => c < V5.heap.size) (fun c _ h => by have h : c = q2 := h; have := HVS.out; show c < _; omega)).trans (o.mono (fun c _ h => by have h : c < w.heap.size := h; have := HVS.out; show c < _; omega)) (fun _ _ h => h)
          exact ⟨HF0.out v o', rfl, HF1.out v o', rfl, HF2.out v o', rfl⟩
        ·have HO5 : Hid (Off (fun c => c = b) _ w5) := o5
         have HLE : Hid _ := hl
         clear o5 hl
         have D5 := HC.out.off HO5.out (fun e => HNE.out.1 e)
         obtain ⟨y0, y1, y2, y3, y4, y5, y6, y7, y8, y9⟩ := celw10 D5
         have fy := D5.free
         go_upto_region 21 with fail
         have E5 : Cel q4 26 #[.int .i64 k, .int .i64 fr, .int .i64 tn, .int .i64 op, .int .i64 fo, .string key, .int .i64 bk, .slice tE es.length cE, .slice tD gs.length cD, .slice none 0 0] (w5.setCell ⟨q4, 9, none⟩ (.slice none 0 0)) := D5.set 9 _
         have OS5 : Off (fun c => c = q4) w5 (w5.setCell ⟨q4, 9, none⟩ (.slice none 0 0)) := (Off.refl (fun c => c = q4) w5).setCell (p := ⟨q4, 9, none⟩) (.inl rfl) _
         have HOF : Hid (Off (fun c => c = b ∨ c = q4) V5 (w5.setCell ⟨q4, 9, none⟩ (.slice none 0 0))) := (HO.out.trans (HO5.out.mono (fun c _ h => .inl h)) (fun _ _ h => h)).trans (OS5.mono (fun c _ h => .inr h)) (fun _ _ h => h)
         generalize w5.setCell ⟨q4, 9, none⟩ (.slice none 0 0) = V9 at E5 HOF ⊢
         clear OS5 D5 y0 y1 y2 y3 y4 y5 y6 y7 y8 y9 fy
         have HCF : Hid _ := E5
         clear E5
         have HN : Hid (R = none) := by show _ = _; rw [HRR.out, HRE.out]; show (RG a8).bind _ = none; rw [HRG.out]; show (RM a9).map _ = none; rw [HLE.out]; rfl
         obtain ⟨x0, x1, x2, x3, x4, x5, x6, x7, x8, x9⟩ := celw10 HCF.out
         have hz := HZ7.out.off HOF.out (fun e => e.elim HNE.out.2.1 HNE.out.2.2.1)
         obtain ⟨y0, y1, y2, y3, y4, y5, y6, y7, y8, y9⟩ := celw10 hz
         have fz := hz.free
         have HZF : Hid _ := hz
         go_wp2_with fail
         refine bodyPost_ret (results_msg2 (x := (⟨k, fr, tn, op, fo, key, bk, tE, es.length, cE, tD, gs.length, cD, none, 0, 0⟩ : Mg)) rfl rfl rfl (HZF.out.wrwAll (vs := mcs (⟨k, fr, tn, op, fo, key, bk, tE, es.length, cE, tD, gs.length, cD, none, 0, 0⟩ : Mg)) rfl)) rfl ?_
         exact ⟨⟨.inr ⟨(⟨k, fr, tn, op, fo, key, bk, tE, es.length, cE, tD, gs.length, cD, none, 0, 0⟩ : Mg), rfl, HN.out⟩⟩, ((HOW.out.trans HOF.out (fun _ _ h => h)).mono (fun c hc h => by rcases h with h | h; exact h; have := HNE.out; omega)).trans (off_wrw (D := fun c => c = q2) (g := q2) (us := mcs (⟨k, fr, tn, op, fo, key, bk, tE, es.length, cE, tD, gs.length, cD, none, 0, 0⟩ : Mg)) (o := 0) (Off.refl _ _) (.inl rfl)) (fun c hc e => by have e : c = q2 := e; have := HNE.out; omega)⟩
end Go.Proofs.YtmbphlkohlggfaaGreat

namespace Go.Proofs.YtmbphlkohlggfaaGreat
set_option maxRecDepth 100000
open Go.RowKit
theorem rInt_t {b : Bool} {s : RS} (h : b = true) : rInt b s = intS s := by rw [h]; rfl
theorem rInt_f {b : Bool} {s : RS} (h : b = false) : rInt b s = (0, s) := by rw [h]; rfl
theorem rNum_t {b : Bool} {s : RS} (h : b = true) : rNum b s = (i64w (numS s).1, (numS s).2) := by rw [h]; rfl
theorem rNum_f {b : Bool} {s : RS} (h : b = false) : rNum b s = (0, s) := by rw [h]; rfl
theorem rKey_t {b : Bool} {s : RS} (h : b = true) : rKey b s = (strOf (textS 32 s).1, (textS 32 s).2) := by rw [h]; rfl
theorem rKey_f {b : Bool} {s : RS} (h : b = false) : rKey b s = (⟨#[]⟩, s) := by rw [h]; rfl
theorem opt3 {α β γ δ : Type} (A : Option (α × RS)) (B : RS → Option (β × RS)) (C : RS → Option (γ × RS)) (F : α → β → γ → δ) :
  ((A.bind fun p => (B p.2).bind fun q1 => (C q1.2).map fun r => ((p.1, q1.1, r.1), r.2)).map fun p => (F p.1.1 p.1.2.1 p.1.2.2, p.2)) = A.bind fun p => (B p.2).bind fun q => (C q.2).map fun r => (F p.1 q.1 r.1, r.2) := by
 cases A with
 | none => rfl
 | some p =>
  show ((B p.2).bind _).map _ = (B p.2).bind _
  cases B p.2 with
  | none => rfl
  | some q =>
   show ((C q.2).map _).map _ = (C q.2).map _
   cases C q.2 <;> rfl
theorem xread_any {D : Nat → Prop} {b : Nat} {s : RS} {w : World} (hR : Rdr 96 D b s w) :
  Calls Tryz.prog 19 #[.pointer (some ⟨b, 0, none⟩)] w fun e w' => RdR D b w.heap.size (rdMsg s) e w' ∧ Off (fun c => c = b) w w' := by
 obtain ⟨k, hk⟩ : ∃ k, k = i64w (numS s).1 := ⟨_, rfl⟩
 obtain ⟨a1, h1⟩ : ∃ a, a = (numS s).2 := ⟨_, rfl⟩
 obtain ⟨a2, h2⟩ : ∃ a, a = (numS a1).2 := ⟨_, rfl⟩
 obtain ⟨a3, h3⟩ : ∃ a, a = (numS a2).2 := ⟨_, rfl⟩
 obtain ⟨a4, h4⟩ : ∃ a, a = (rInt (msk k).op a3).2 := ⟨_, rfl⟩
 obtain ⟨a5, h5⟩ : ∃ a, a = (rNum (msk k).fo a4).2 := ⟨_, rfl⟩
 obtain ⟨a6, h6⟩ : ∃ a, a = (rKey (msk k).key a5).2 := ⟨_, rfl⟩
 obtain ⟨a7, h7⟩ : ∃ a, a = (rNum (msk k).bk a6).2 := ⟨_, rfl⟩
 refine xread_core hR (msk k).op (msk k).fo (msk k).key (msk k).bk (msk k).es (msk k).gs (msk k).ms k (i64w (numS a1).1) (i64w (numS a2).1) (rInt (msk k).op a3).1 (rNum (msk k).fo a4).1 (rNum (msk k).bk a6).1 (rKey (msk k).key a5).1 (textS 32 a5).1 a1 a2 a3 a4 a5 a6 a7 (rES (msk k).es a7) (fun a => rGS (msk k).gs a) (fun a => rMS (msk k).ms a) (rdMsg s)
  (fun W => xpartsOf_any k W) (fun W h => by rw [hk, h1]; exact readInt_any h) (fun W h => by rw [h2]; exact readInt_any h) (fun W h => by rw [h3]; exact readInt_any h)
  ⟨fun e W h => by rw [h4, rInt_t e]; exact rint_any h, fun e => by rw [h4, rInt_f e]; exact ⟨rfl, rfl⟩⟩ ⟨fun e W h => by rw [h5, rNum_t e]; exact readInt_any h, fun e => by rw [h5, rNum_f e]; exact ⟨rfl, rfl⟩⟩
  ⟨fun e W h => ?_, fun e => by rw [h6, rKey_f e]; exact ⟨rfl, rfl⟩⟩ (fun e => by rw [rKey_t e]) ⟨fun e W h => by rw [h7, rNum_t e]; exact readInt_any h, fun e => by rw [h7, rNum_f e]; exact ⟨rfl, rfl⟩⟩
  ⟨fun e W h => by rw [e]; exact readAllE_any h, fun e => by rw [e]; rfl⟩ ⟨fun e a W h => by rw [e]; exact readAllD_any h, fun e a => by rw [e]; rfl⟩ ⟨fun e a W h => by rw [e]; exact readAllM_any h, fun e a => by rw [e]; rfl⟩ ?_
 ·rw [h6, rKey_t e]
  refine (rtext_any h 32 (by decide) (by decide)).mono ?_
  rintro e1 w1 ⟨t, c, he, ho, -, hr, o⟩
  exact ⟨t, c, he, ho, hr, o⟩
 ·subst hk h1 h2 h3 h4 h5 h6 h7
  exact opt3 _ _ _ (fun es gs ms => (⟨_, _, _, _, _, _, _, es, gs, ms⟩ : MD))
def bareD (d : MD) : MD := ⟨d.k, d.fr, d.tn, cond (msk d.k).op d.op 0, cond (msk d.k).fo d.fo 0, cond (msk d.k).key d.key ⟨#[]⟩, cond (msk d.k).bk d.bk 0, cond (msk d.k).es d.es [], cond (msk d.k).gs d.gs [], cond (msk d.k).ms d.ms []⟩
theorem map_cond {α β : Type} (f : α → β) (b : Bool) (l : List α) : (cond b l []).map f = cond b (l.map f) [] := by cases b <;> rfl
theorem mdM_bare (X : Mg) (es : List E) (gs : List G) (ms : List (Int × Int)) : mdM X es gs ms = bareD (mdOf X es gs ms) := by
 unfold mdM mdOf bareD plM
 simp only [map_cond]
def DecOk (bs : List Nat) (d : MD) : Prop := rdMsg (bs, 0) = some (d, ([], 0)) ∧ MayM (bareD d)
theorem endS_zero {s : RS} : endS s = 0 ↔ s = ([], 0) := by
 obtain ⟨l, e⟩ := s
 unfold endS
 by_cases h : e = 0
 ·subst h
  by_cases hl : l = []
  ·simp [hl]
  ·simp [hl]
 ·simp [h]
structure DecR (bs : List Nat) (N : Nat) (e : Ending) (w' : World) : Prop where
 is : (60000 < bs.length ∧ e = .returned (.tuple #[.agg #[.int .i64 0, .int .i64 0, .int .i64 0, .int .i64 0, .int .i64 0, .string ⟨#[]⟩, .int .i64 0, .slice none 0 0, .slice none 0 0, .slice none 0 0], .int .i64 4])) ∨ (bs.length ≤ 60000 ∧ ∃ (X : Mg) (es : List E) (gs : List G) (ms : List (Int × Int)), e = .returned (.tuple #[(.agg #[.int .i64 X.k, .int .i64 X.fr, .int .i64 X.tn, .int .i64 X.op, .int .i64 X.fo, .string X.key, .int .i64 X.bk, .slice X.ea X.el X.ec, .slice X.da X.dl X.dc, .slice X.ma X.ml X.mc]), .int .i64 0]) ∧ DecOk bs (mdOf X es gs ms) ∧ ∀ v, Off (fun c => c < N) w' v → MsgAt v X es gs ms) ∨ (bs.length ≤ 60000 ∧ e = .returned (.tuple #[.agg #[.int .i64 0, .int .i64 0, .int .i64 0, .int .i64 0, .int .i64 0, .string ⟨#[]⟩, .int .i64 0, .slice none 0 0, .slice none 0 0, .slice none 0 0], .int .i64 3]) ∧ ∀ d, ¬ DecOk bs d)
set_option maxHeartbeats 4000000 in
theorem xdecode_any (t : Option Addr) (c : Nat) (bs : List Nat) (w : World) (hs : Src w t c bs) (hlt : ∀ x ∈ bs, x < 256) (hb : bs.length ≤ 140737488355328) :
  Calls Tryz.prog 7 #[.slice t bs.length c] w fun e w' => DecR bs w.heap.size e w' ∧ Off (fun _ => False) w w' := by
 have HS : Hid _ := hs
 have HLT : Hid (∀ x ∈ bs, x < 256) := hlt
 have HLN : Hid (bs.length ≤ 140737488355328) := hb
 clear hs hlt
 have C2 := Cel.new w 26 #[.int .i64 0, .int .i64 0, .int .i64 0, .int .i64 0, .int .i64 0, .string ⟨#[]⟩, .int .i64 0, .slice none 0 0, .slice none 0 0, .slice none 0 0]
 have O2 : Off (fun _ => False) w (w.alloc (.cells #[.int .i64 0, .int .i64 0, .int .i64 0, .int .i64 0, .int .i64 0, .string ⟨#[]⟩, .int .i64 0, .slice none 0 0, .slice none 0 0, .slice none 0 0] 26)) := (Off.refl _ w).alloc _
 go_enter Tryz.func7, Tryz.ntmps7
 go_upto_region 1 with fail
 generalize hv : w.alloc (.cells #[.int .i64 0, .int .i64 0, .int .i64 0, .int .i64 0, .int .i64 0, .string ⟨#[]⟩, .int .i64 0, .slice none 0 0, .slice none 0 0, .slice none 0 0] 26) = V at C2 O2 ⊢
 obtain ⟨q2, hq⟩ : ∃ q, q = w.heap.size := ⟨_, rfl⟩
 rw [← hq] at C2 ⊢
 have HQ : Hid (q2 = w.heap.size) := hq
 have HC2 : Hid _ := C2
 have HO2 : Hid (Off (fun _ => False) w V) := O2
 clear hv hq C2 O2
 by_cases hl : 60000 < bs.length
 ·have g1 : decide ((60000 : Int) < (bs.length : Int)) = true := decide_eq_true (by omega)
  obtain ⟨x0, x1, x2, x3, x4, x5, x6, x7, x8, x9⟩ := celw10 HC2.out
  have fz := HC2.out.free
  go_wp2_with fail
  refine bodyPost_ret (results_msg2 (x := (⟨0, 0, 0, 0, 0, ⟨#[]⟩, 0, none, 0, 0, none, 0, 0, none, 0, 0⟩ : Mg)) rfl rfl rfl (HC2.out.wrwAll (vs := mcs (⟨0, 0, 0, 0, 0, ⟨#[]⟩, 0, none, 0, 0, none, 0, 0, none, 0, 0⟩ : Mg)) rfl)) rfl ?_
  exact ⟨⟨.inl ⟨hl, rfl⟩⟩, off_wrw (g := q2) (us := mcs (⟨0, 0, 0, 0, 0, ⟨#[]⟩, 0, none, 0, 0, none, 0, 0, none, 0, 0⟩ : Mg)) HO2.out (.inr (by have := HQ.out; omega))⟩
 have HL6 : Hid (bs.length ≤ 60000) := by show _ ≤ _; omega
 have g1 : decide ((60000 : Int) < (bs.length : Int)) = false := decide_eq_false (by omega)
 go_wp2_with fail
 refine (newReader_any t c bs HLN.out HLT.out _ (HS.out.off HO2.out (fun _ _ _ h => h))).mono ?_
 rintro e w1 ⟨b, D, rfl, hbn, hDn, R1, o1⟩
 have HBN : Hid (V.heap.size ≤ b) := hbn
 have HDN : Hid (∀ c, D c → V.heap.size ≤ c) := hDn
 have HR1 : Hid _ := R1
 have HO1 : Hid _ := o1
 clear hbn hDn R1 o1 g1 hl hb
 go_wp2_with fail
 refine (xread_any HR1.out).mono ?_
 rintro e w2 ⟨hrd, o2⟩
 have HO3 : Hid (Off (fun _ => False) V w2) := HO1.out.trans o2 (fun c hc e => by have e : c = b := e; have := HBN.out; omega)
 have HOR : Hid (Off (fun c => c = b) w1 w2) := o2
 clear o2
 have HSV : Hid (q2 < V.heap.size) := HC2.out.lt
 obtain ⟨hrd⟩ := hrd
 rcases hrd with ⟨X, es, gs, ms, s', rfl, hR, R2, hat⟩ | ⟨X, rfl, hR⟩
 ·have HRD : Hid _ := hR
  have HAT : Hid (∀ v, Off (fun c => c < w1.heap.size) w2 v → MsgAt v X es gs ms) := hat
  have HR2 : Hid _ := R2
  clear hR hat R2
  go_upto_region 5 with fail
  have C5 := Cel.new w2 26 #[.int .i64 X.k, .int .i64 X.fr, .int .i64 X.tn, .int .i64 X.op, .int .i64 X.fo, .string X.key, .int .i64 X.bk, .slice X.ea X.el X.ec, .slice X.da X.dl X.dc, .slice X.ma X.ml X.mc]
  have O5 : Off (fun _ => False) w2 (w2.alloc (.cells #[.int .i64 X.k, .int .i64 X.fr, .int .i64 X.tn, .int .i64 X.op, .int .i64 X.fo, .string X.key, .int .i64 X.bk, .slice X.ea X.el X.ec, .slice X.da X.dl X.dc, .slice X.ma X.ml X.mc] 26)) := (Off.refl _ w2).alloc _
  generalize hv : w2.alloc (.cells #[.int .i64 X.k, .int .i64 X.fr, .int .i64 X.tn, .int .i64 X.op, .int .i64 X.fo, .string X.key, .int .i64 X.bk, .slice X.ea X.el X.ec, .slice X.da X.dl X.dc, .slice X.ma X.ml X.mc] 26) = V5 at C5 O5 ⊢
  generalize w2.heap.size = q5 at C5 ⊢
  clear hv
  have HO5 : Hid (Off (fun _ => False) w2 V5) := O5
  have HC5 : Hid _ := C5
  clear C5 O5
  have HR5 : Hid _ := HR2.out.off HO5.out (fun h => h) (fun _ _ _ h => h)
  have HMX : Hid (∀ v, Off (fun _ => False) V5 v → MsgAt v X es gs ms) := fun v o => HAT.out v ((HO5.out.trans o (fun _ _ h => h)).mono (fun _ _ h => h.elim))
  go_wp2_with fail
  refine (rend_any HR5.out).mono ?_
  rintro e w6 ⟨rfl, rfl⟩
  by_cases he : endS s' = 0
  case neg =>
   have e0 : (((endS s' : Nat) : Int) != 0) = true := by simp [he]
   have HEN : Hid (¬ endS s' = 0) := he
   clear he
   have HZF : Hid _ := HC2.out.off (HO3.out.trans HO5.out (fun _ _ h => h)) (fun h => h)
   obtain ⟨y0, y1, y2, y3, y4, y5, y6, y7, y8, y9⟩ := celw10 HZF.out
   have fz := HZF.out.free
   go_wp2_with fail
   refine bodyPost_ret (results_msg2 (x := (⟨0, 0, 0, 0, 0, ⟨#[]⟩, 0, none, 0, 0, none, 0, 0, none, 0, 0⟩ : Mg)) rfl rfl rfl (HZF.out.wrwAll (vs := mcs (⟨0, 0, 0, 0, 0, ⟨#[]⟩, 0, none, 0, 0, none, 0, 0, none, 0, 0⟩ : Mg)) rfl)) rfl ?_
   exact ⟨⟨.inr (.inr ⟨HL6.out, rfl, fun d hd => HEN.out (by have h1 := hd.1; rw [HRD.out] at h1; simp only [Option.some.injEq, Prod.mk.injEq] at h1; rw [endS_zero]; exact h1.2)⟩)⟩, off_wrw (g := q2) (us := mcs (⟨0, 0, 0, 0, 0, ⟨#[]⟩, 0, none, 0, 0, none, 0, 0, none, 0, 0⟩ : Mg)) (HO2.out.trans (HO3.out.trans HO5.out (fun _ _ h => h)) (fun _ _ h => h)) (.inr (by have := HQ.out; omega))⟩
  have e0 : (((endS s' : Nat) : Int) != 0) = false := by simp [he]
  have HEN : Hid (s' = ([], 0)) := endS_zero.1 he
  clear he
  obtain ⟨x0, x1, x2, x3, x4, x5, x6, x7, x8, x9⟩ := celw10 HC5.out
  go_wp2_with fail
  refine (xmay_any X es gs ms _ (HMX.out _ (Off.refl _ _))).mono ?_
  rintro e w7 ⟨⟨bb, rfl, hbb⟩, o7⟩
  clear x0 x1 x2 x3 x4 x5 x6 x7 x8 x9 e0
  have HO7 : Hid (Off (fun _ => False) V w7) := (HO3.out.trans HO5.out (fun _ _ h => h)).trans o7 (fun _ _ h => h)
  have HO75 : Hid (Off (fun _ => False) _ w7) := o7
  have HC7 : Hid _ := HC5.out.off o7 (fun h => h)
  have HBB : Hid (bb = true ↔ MayM (mdM X es gs ms)) := hbb
  clear o7 hbb
  cases bb with
  | false =>
   have HZF : Hid _ := HC2.out.off (HO7.out) (fun h => h)
   obtain ⟨y0, y1, y2, y3, y4, y5, y6, y7, y8, y9⟩ := celw10 HZF.out
   have fz := HZF.out.free
   go_wp2_with fail
   refine bodyPost_ret (results_msg2 (x := (⟨0, 0, 0, 0, 0, ⟨#[]⟩, 0, none, 0, 0, none, 0, 0, none, 0, 0⟩ : Mg)) rfl rfl rfl (HZF.out.wrwAll (vs := mcs (⟨0, 0, 0, 0, 0, ⟨#[]⟩, 0, none, 0, 0, none, 0, 0, none, 0, 0⟩ : Mg)) rfl)) rfl ?_
   exact ⟨⟨.inr (.inr ⟨HL6.out, rfl, fun d hd => by have h1 := hd.1; rw [HRD.out] at h1; simp only [Option.some.injEq, Prod.mk.injEq] at h1; have h2 := hd.2; rw [← h1.1, ← mdM_bare] at h2; exact absurd (HBB.out.2 h2) (by simp)⟩)⟩, off_wrw (g := q2) (us := mcs (⟨0, 0, 0, 0, 0, ⟨#[]⟩, 0, none, 0, 0, none, 0, 0, none, 0, 0⟩ : Mg)) (HO2.out.trans (HO7.out) (fun _ _ h => h)) (.inr (by have := HQ.out; omega))⟩
  | true =>
   obtain ⟨x0, x1, x2, x3, x4, x5, x6, x7, x8, x9⟩ := celw10 HC7.out
   have HZF : Hid _ := HC2.out.off HO7.out (fun h => h)
   obtain ⟨y0, y1, y2, y3, y4, y5, y6, y7, y8, y9⟩ := celw10 HZF.out
   have fz := HZF.out.free
   go_wp2_with fail
   refine bodyPost_ret (results_msg2 (x := X) rfl rfl rfl (HZF.out.wrwAll (vs := mcs X) rfl)) rfl ?_
   refine ⟨⟨.inr (.inl ⟨HL6.out, X, es, gs, ms, rfl, ⟨by rw [HRD.out, HEN.out], by rw [← mdM_bare]; exact HBB.out.1 (by simp)⟩, fun v o => ?_⟩)⟩, off_wrw (g := q2) (us := mcs X) (HO2.out.trans HO7.out (fun _ _ h => h)) (.inr (by have := HQ.out; omega))⟩
   have hO := off_wrw (D := fun c => c = q2) (g := q2) (us := mcs X) (o := 0) (Off.refl _ w7) (.inl rfl)
   refine HAT.out v (((((HO5.out.trans HO75.out (fun _ _ h => h)).mono (fun _ _ h => h.elim)).trans (hO.mono (E := fun c => c < w1.heap.size) (fun c _ h => by have h : c = q2 := h; have := HSV.out; have := HO1.out.size; show c < _; omega)) (fun _ _ h => h))).trans (o.mono (fun c _ h => by have h : c < w.heap.size := h; have := HO2.out.size; have := HO1.out.size; show c < _; omega)) (fun _ _ h => h))
 ·have HRD : Hid (rdMsg (bs, 0) = none) := hR
  clear hR
  go_upto_region 5 with fail
  have C5 := Cel.new w2 26 #[.int .i64 X.k, .int .i64 X.fr, .int .i64 X.tn, .int .i64 X.op, .int .i64 X.fo, .string X.key, .int .i64 X.bk, .slice X.ea X.el X.ec, .slice X.da X.dl X.dc, .slice X.ma X.ml X.mc]
  have O5 : Off (fun _ => False) w2 (w2.alloc (.cells #[.int .i64 X.k, .int .i64 X.fr, .int .i64 X.tn, .int .i64 X.op, .int .i64 X.fo, .string X.key, .int .i64 X.bk, .slice X.ea X.el X.ec, .slice X.da X.dl X.dc, .slice X.ma X.ml X.mc] 26)) := (Off.refl _ w2).alloc _
  generalize hv : w2.alloc (.cells #[.int .i64 X.k, .int .i64 X.fr, .int .i64 X.tn, .int .i64 X.op, .int .i64 X.fo, .string X.key, .int .i64 X.bk, .slice X.ea X.el X.ec, .slice X.da X.dl X.dc, .slice X.ma X.ml X.mc] 26) = V5 at C5 O5 ⊢
  generalize w2.heap.size = q5 at C5 ⊢
  clear hv
  have HO5 : Hid (Off (fun _ => False) w2 V5) := O5
  have HC5 : Hid _ := C5
  clear C5 O5
  have HZF : Hid _ := HC2.out.off (HO3.out.trans HO5.out (fun _ _ h => h)) (fun h => h)
  obtain ⟨y0, y1, y2, y3, y4, y5, y6, y7, y8, y9⟩ := celw10 HZF.out
  have fz := HZF.out.free
  go_wp2_with fail
  refine bodyPost_ret (results_msg2 (x := (⟨0, 0, 0, 0, 0, ⟨#[]⟩, 0, none, 0, 0, none, 0, 0, none, 0, 0⟩ : Mg)) rfl rfl rfl (HZF.out.wrwAll (vs := mcs (⟨0, 0, 0, 0, 0, ⟨#[]⟩, 0, none, 0, 0, none, 0, 0, none, 0, 0⟩ : Mg)) rfl)) rfl ?_
  exact ⟨⟨.inr (.inr ⟨HL6.out, rfl, fun d hd => by have h1 := hd.1; rw [HRD.out] at h1; cases h1⟩)⟩, off_wrw (g := q2) (us := mcs (⟨0, 0, 0, 0, 0, ⟨#[]⟩, 0, none, 0, 0, none, 0, 0, none, 0, 0⟩ : Mg)) (HO2.out.trans (HO3.out.trans HO5.out (fun _ _ h => h)) (fun _ _ h => h)) (.inr (by have := HQ.out; omega))⟩
end Go.Proofs.YtmbphlkohlggfaaGreat

namespace Go.Proofs.YtmbphlkohlggfaaGreat
set_option maxRecDepth 100000
open Go.RowKit
def zNum (b : Bool) (s : RS) : Int × RS := cond b (nodeR (numS s).1, (numS s).2) (0, s)
def zEs : Nat → RS → (Bool × List K) × RS
 | 0, s => ((true, []), s)
 | n + 1, s => ((reB nodeR s && (zEs n (reS s)).1.1, ⟨reKey nodeR s, reF nodeR s, reL nodeR s⟩ :: (zEs n (reS s)).1.2), (zEs n (reS s)).2)
def zGs : Nat → RS → (Bool × List GK) × RS
 | 0, s => ((true, []), s)
 | n + 1, s => ((drB nodeR s && (zGs n (drS s)).1.1, ⟨drKey nodeR s, drF nodeR s, drL nodeR s⟩ :: (zGs n (drS s)).1.2), (zGs n (drS s)).2)
def zMs : Nat → RS → List (Int × Int) × RS
 | 0, s => ([], s)
 | n + 1, s => ((nodeR (numS s).1, (intS (numS s).2).1) :: (zMs n (mrS s)).1, (zMs n (mrS s)).2)
theorem zEs_succ (n : Nat) (s : RS) : zEs (n + 1) s = ((reB nodeR s && (zEs n (reS s)).1.1, ⟨reKey nodeR s, reF nodeR s, reL nodeR s⟩ :: (zEs n (reS s)).1.2), (zEs n (reS s)).2) := rfl
theorem zGs_succ (n : Nat) (s : RS) : zGs (n + 1) s = ((drB nodeR s && (zGs n (drS s)).1.1, ⟨drKey nodeR s, drF nodeR s, drL nodeR s⟩ :: (zGs n (drS s)).1.2), (zGs n (drS s)).2) := rfl
theorem zMs_succ (n : Nat) (s : RS) : zMs (n + 1) s = ((nodeR (numS s).1, (intS (numS s).2).1) :: (zMs n (mrS s)).1, (zMs n (mrS s)).2) := rfl
def zES (b : Bool) (s : RS) : (Bool × List K) × RS := cond b (zEs (countS 256 s).1 (countS 256 s).2) ((true, []), s)
def zGS (b : Bool) (s : RS) : (Bool × List GK) × RS := cond b (zGs (countS 256 s).1 (countS 256 s).2) ((true, []), s)
def zMS (b : Bool) (s : RS) : List (Int × Int) × RS := cond b (zMs (countS 8 s).1 (countS 8 s).2) ([], s)
def zhd (s : RS) : HdR × RS :=
 let k := nodeR (numS s).1
 let a := (numS s).2
 let b := (numS a).2
 let c := rInt (msk k).op (numS b).2
 let d := zNum (msk k).fo c.2
 let e := rKey (msk k).key d.2
 let f := zNum (msk k).bk e.2
 (⟨k, nodeR (numS a).1, nodeR (numS b).1, c.1, d.1, e.1, f.1⟩, f.2)
structure ZM where
 ok : Bool
 d : MD
 s : RS
def zMsg (s : RS) : ZM :=
 let h := (zhd s).1
 let q := msk h.k
 let A := zES q.es (zhd s).2
 let B := zGS q.gs A.2
 let C := zMS q.ms B.2
 ⟨A.1.1 && B.1.1, ⟨h.k, h.fr, h.tn, h.op, h.fo, h.key, h.bk, A.1.2, B.1.2, C.1⟩, C.2⟩
def ZOk (bs : List Nat) (d : MD) : Prop := zMsg (bs, 0) = ⟨true, d, ([], 0)⟩ ∧ MayM (bareD d)
theorem reS_ok {s : RS} (h : Ok s) : Ok (reS s) := rdSt_ok (count_ok 16 (rdV_ok (text_ok 32 h) 8)).1 _
theorem drS_ok {s : RS} (h : Ok s) : Ok (drS s) := dtSt_ok (count_ok 16 (rdV_ok (text_ok 32 h) 8)).1 _
theorem rdEs_z : ∀ (n : Nat) (s : RS), Ok s → rdEs n s = cond (zEs n s).1.1 (some ((zEs n s).1.2, (zEs n s).2)) none
 | 0, _, _ => rfl
 | n + 1, s, h => by
  obtain ⟨e1, e2, e3, e4⟩ := re_eq h
  rw [rdEs_succ, rdEs_z n _ (reS_ok h), e1, e2, e3, e4, zEs_succ]
  generalize zEs n (reS s) = z
  obtain ⟨⟨zb, zl⟩, zs⟩ := z
  generalize reB nodeR s = bb
  dsimp only
  cases bb
  ·rfl
  ·cases zb <;> rfl
theorem rdGs_z : ∀ (n : Nat) (s : RS), Ok s → rdGs n s = cond (zGs n s).1.1 (some ((zGs n s).1.2, (zGs n s).2)) none
 | 0, _, _ => rfl
 | n + 1, s, h => by
  obtain ⟨e1, e2, e3, e4⟩ := dr_eq h
  rw [rdGs_succ, rdGs_z n _ (drS_ok h), e1, e2, e3, e4, zGs_succ]
  generalize zGs n (drS s) = z
  obtain ⟨⟨zb, zl⟩, zs⟩ := z
  generalize drB nodeR s = bb
  dsimp only
  cases bb
  ·rfl
  ·cases zb <;> rfl
theorem zEs_ok : ∀ (n : Nat) (s : RS), Ok s → Ok (zEs n s).2
 | 0, _, h => h
 | n + 1, s, h => by
  rw [zEs_succ]
  exact zEs_ok n (reS s) (reS_ok h)
theorem zGs_ok : ∀ (n : Nat) (s : RS), Ok s → Ok (zGs n s).2
 | 0, _, h => h
 | n + 1, s, h => by
  rw [zGs_succ]
  exact zGs_ok n (drS s) (drS_ok h)
theorem rES_z (b : Bool) {s : RS} (h : Ok s) : rES b s = cond (zES b s).1.1 (some ((zES b s).1.2, (zES b s).2)) none := by
 cases b
 ·rfl
 ·exact rdEs_z _ _ (count_ok 256 h).1
theorem rGS_z (b : Bool) {s : RS} (h : Ok s) : rGS b s = cond (zGS b s).1.1 (some ((zGS b s).1.2, (zGS b s).2)) none := by
 cases b
 ·rfl
 ·exact rdGs_z _ _ (count_ok 256 h).1
theorem zES_ok (b : Bool) {s : RS} (h : Ok s) : Ok (zES b s).2 := by
 cases b
 ·exact h
 ·exact zEs_ok _ _ (count_ok 256 h).1
theorem zGS_ok (b : Bool) {s : RS} (h : Ok s) : Ok (zGS b s).2 := by
 cases b
 ·exact h
 ·exact zGs_ok _ _ (count_ok 256 h).1
theorem rInt_ok (b : Bool) {s : RS} (h : Ok s) : Ok (rInt b s).2 := by
 cases b
 ·exact h
 ·exact (num_ok h).1
theorem zNum_ok (b : Bool) {s : RS} (h : Ok s) : Ok (zNum b s).2 := by
 cases b
 ·exact h
 ·exact (num_ok h).1
theorem rKey_ok (b : Bool) {s : RS} (h : Ok s) : Ok (rKey b s).2 := by
 cases b
 ·exact h
 ·exact text_ok 32 h
theorem zhd_ok {s : RS} (h : Ok s) : Ok (zhd s).2 := zNum_ok _ (rKey_ok _ (zNum_ok _ (rInt_ok _ (num_ok (num_ok (num_ok h).1).1).1)))
theorem node_p {m : Nat} (hm : m < 18446744073709551616) (h : 0 ≤ i64w m ∧ i64w m ≤ 1000) : nodeR m = i64w m := by
 rw [i64w_eq _ hm] at h ⊢
 unfold nodeR
 split at h
 ·rename_i hh
  rw [if_pos hh]
  omega
 ·omega
theorem node_r {m : Nat} (h : 0 ≤ nodeR m ∧ nodeR m ≤ 1000) : nodeR m = i64w m := by
 unfold nodeR at h
 have hm : m ≤ 1000 := by omega
 rw [i64w_eq _ (by omega)]
 unfold nodeR
 rw [if_pos (by omega)]
 omega
theorem msE_err {s : RS} (h : s.2 ≠ 0) : mrS s = s := by
 unfold mrS intS
 rw [er_num h, er_num h]
theorem zMs_err : ∀ (n : Nat) (s : RS), s.2 ≠ 0 → (zMs n s).2 = s
 | 0, _, _ => rfl
 | n + 1, s, h => by
  show (zMs n (mrS s)).2 = s
  rw [msE_err h]
  exact zMs_err n s h
theorem rdMs_z : ∀ (n : Nat) (s : RS), Ok s → (zMs n s).2.2 = 0 → (∀ x ∈ (zMs n s).1, mbB x.1 x.2 = true) → rdMs n s = some (zMs n s)
 | 0, _, _, _, _ => rfl
 | n + 1, s, h, h2, h3 => by
  have h2 : (zMs n (mrS s)).2.2 = 0 := h2
  have e0 : (mrS s).2 = 0 := by
   by_cases e : (mrS s).2 = 0
   ·exact e
   ·rw [zMs_err n _ e] at h2
    exact h2
  have hx : mbB (nodeR (numS s).1) (intS (numS s).2).1 = true := h3 (nodeR (numS s).1, (intS (numS s).2).1) (List.mem_cons_self ..)
  have hn : nodeR (numS s).1 = i64w (numS s).1 := by
   have h4 := hx
   simp only [mbB, decide_eq_true_eq] at h4
   exact node_r ⟨h4.1, by omega⟩
  have hb : mrB s = true := by
   unfold mrB
   rw [← hn, hx, e0]
   rfl
  rw [rdMs_succ, if_pos hb, rdMs_z n (mrS s) (mrS_ok h) h2 (fun x hx => h3 x (List.mem_cons_of_mem _ hx))]
  show some _ = some ((nodeR (numS s).1, (intS (numS s).2).1) :: (zMs n (mrS s)).1, (zMs n (mrS s)).2)
  unfold mrX mrY
  rw [if_pos hb, if_pos hb, hn]
theorem z_rdMs : ∀ (n : Nat) (s : RS) (ms : List (Int × Int)) (s' : RS), Ok s → rdMs n s = some (ms, s') → zMs n s = (ms, s')
 | 0, s, ms, s', _, h => by
  have h : some (([] : List (Int × Int)), s) = some (ms, s') := h
  simp only [Option.some.injEq] at h
  exact h
 | n + 1, s, ms, s', h, h1 => by
  rw [rdMs_succ] at h1
  by_cases hb : mrB s = true
  ·rw [if_pos hb] at h1
   cases hr : rdMs n (mrS s) with
   | none =>
    rw [hr] at h1
    cases h1
   | some p =>
    rw [hr] at h1
    have h1 : some ((mrX s, mrY s) :: p.1, p.2) = some (ms, s') := h1
    simp only [Option.some.injEq, Prod.mk.injEq] at h1
    have ih := z_rdMs n (mrS s) p.1 p.2 (mrS_ok h) hr
    show ((nodeR (numS s).1, (intS (numS s).2).1) :: (zMs n (mrS s)).1, (zMs n (mrS s)).2) = (ms, s')
    rw [ih]
    have hx : mbB (i64w (numS s).1) (intS (numS s).2).1 = true := by
     have h5 := hb
     unfold mrB at h5
     simp only [Bool.and_eq_true] at h5
     exact h5.2
    have hn : nodeR (numS s).1 = i64w (numS s).1 := by
     have h4 := hx
     simp only [mbB, decide_eq_true_eq] at h4
     exact node_p (num_ok h).2.1 ⟨h4.1, by omega⟩
    rw [← h1.1, ← h1.2, hn]
    unfold mrX mrY
    rw [if_pos hb, if_pos hb]
  ·rw [if_neg hb] at h1
   cases h1
theorem zNum_p (b : Bool) {s : RS} (h : Ok s) (hb : b = true → 0 ≤ (rNum b s).1 ∧ (rNum b s).1 ≤ 1000) : zNum b s = rNum b s := by
 cases b
 ·rfl
 ·show (nodeR (numS s).1, (numS s).2) = (i64w (numS s).1, (numS s).2)
  rw [node_p (num_ok h).2.1 (hb rfl)]
theorem zNum_r (b : Bool) {s : RS} (hb : b = true → 0 ≤ (zNum b s).1 ∧ (zNum b s).1 ≤ 1000) : zNum b s = rNum b s := by
 cases b
 ·rfl
 ·show (nodeR (numS s).1, (numS s).2) = (i64w (numS s).1, (numS s).2)
  rw [node_r (hb rfl)]
theorem hd_p {s : RS} (h : Ok s) (hk : 1 ≤ (hdS msk s).1.k ∧ (hdS msk s).1.k ≤ 9) (hf : ndB (hdS msk s).1.fr = true) (ht : ndB (hdS msk s).1.tn = true) (ho : (msk (hdS msk s).1.k).fo = true → ndB (hdS msk s).1.fo = true) (hb : (msk (hdS msk s).1.k).bk = true → 0 ≤ (hdS msk s).1.bk ∧ (hdS msk s).1.bk < 4) : zhd s = hdS msk s := by
 have hk : 1 ≤ i64w (numS s).1 ∧ i64w (numS s).1 ≤ 9 := hk
 have ok1 : Ok (numS s).2 := (num_ok h).1
 have ok2 : Ok (numS (numS s).2).2 := (num_ok ok1).1
 have e1 : nodeR (numS s).1 = i64w (numS s).1 := node_p (num_ok h).2.1 ⟨by omega, by omega⟩
 have hf := ndB_rng (n := i64w (numS (numS s).2).1) hf
 have ht := ndB_rng (n := i64w (numS (numS (numS s).2).2).1) ht
 have e2 : nodeR (numS (numS s).2).1 = i64w (numS (numS s).2).1 := node_p (num_ok ok1).2.1 ⟨hf.1, by omega⟩
 have e3 : nodeR (numS (numS (numS s).2).2).1 = i64w (numS (numS (numS s).2).2).1 := node_p (num_ok ok2).2.1 ⟨ht.1, by omega⟩
 have ok4 : Ok (rInt (msk (i64w (numS s).1)).op (numS (numS (numS s).2).2).2).2 := rInt_ok _ (num_ok ok2).1
 have e4 : zNum (msk (i64w (numS s).1)).fo (rInt (msk (i64w (numS s).1)).op (numS (numS (numS s).2).2).2).2 = rNum (msk (i64w (numS s).1)).fo (rInt (msk (i64w (numS s).1)).op (numS (numS (numS s).2).2).2).2 :=
  zNum_p _ ok4 (fun e => by
   have := ndB_rng (ho e)
   exact ⟨this.1, by have h2 := this.2; exact Int.le_trans (Int.le_of_lt h2) (by decide)⟩)
 have ok5 : Ok (rNum (msk (i64w (numS s).1)).fo (rInt (msk (i64w (numS s).1)).op (numS (numS (numS s).2).2).2).2).2 := by
  rw [← e4]
  exact zNum_ok _ ok4
 have e5 : zNum (msk (i64w (numS s).1)).bk (rKey (msk (i64w (numS s).1)).key (rNum (msk (i64w (numS s).1)).fo (rInt (msk (i64w (numS s).1)).op (numS (numS (numS s).2).2).2).2).2).2 = rNum (msk (i64w (numS s).1)).bk (rKey (msk (i64w (numS s).1)).key (rNum (msk (i64w (numS s).1)).fo (rInt (msk (i64w (numS s).1)).op (numS (numS (numS s).2).2).2).2).2).2 :=
  zNum_p _ (rKey_ok _ ok5) (fun e => by
   have := hb e
   exact ⟨this.1, by have h2 := this.2; exact Int.le_trans (Int.le_of_lt h2) (by decide)⟩)
 unfold zhd hdS
 dsimp only
 rw [e1, e2, e3, e4, e5]
theorem hd_r {s : RS} (hk : 1 ≤ (zhd s).1.k ∧ (zhd s).1.k ≤ 9) (hf : ndB (zhd s).1.fr = true) (ht : ndB (zhd s).1.tn = true) (ho : (msk (zhd s).1.k).fo = true → ndB (zhd s).1.fo = true) (hb : (msk (zhd s).1.k).bk = true → 0 ≤ (zhd s).1.bk ∧ (zhd s).1.bk < 4) : zhd s = hdS msk s := by
 have hk : 1 ≤ nodeR (numS s).1 ∧ nodeR (numS s).1 ≤ 9 := hk
 have e1 : nodeR (numS s).1 = i64w (numS s).1 := node_r ⟨by omega, by omega⟩
 have hf := ndB_rng (n := nodeR (numS (numS s).2).1) hf
 have ht := ndB_rng (n := nodeR (numS (numS (numS s).2).2).1) ht
 have e2 : nodeR (numS (numS s).2).1 = i64w (numS (numS s).2).1 := node_r ⟨hf.1, by omega⟩
 have e3 : nodeR (numS (numS (numS s).2).2).1 = i64w (numS (numS (numS s).2).2).1 := node_r ⟨ht.1, by omega⟩
 have e4 : zNum (msk (nodeR (numS s).1)).fo (rInt (msk (nodeR (numS s).1)).op (numS (numS (numS s).2).2).2).2 = rNum (msk (nodeR (numS s).1)).fo (rInt (msk (nodeR (numS s).1)).op (numS (numS (numS s).2).2).2).2 :=
  zNum_r _ (fun e => by
   have := ndB_rng (ho e)
   exact ⟨this.1, by have h2 := this.2; exact Int.le_trans (Int.le_of_lt h2) (by decide)⟩)
 have e5 : zNum (msk (nodeR (numS s).1)).bk (rKey (msk (nodeR (numS s).1)).key (rNum (msk (nodeR (numS s).1)).fo (rInt (msk (nodeR (numS s).1)).op (numS (numS (numS s).2).2).2).2).2).2 = rNum (msk (nodeR (numS s).1)).bk (rKey (msk (nodeR (numS s).1)).key (rNum (msk (nodeR (numS s).1)).fo (rInt (msk (nodeR (numS s).1)).op (numS (numS (numS s).2).2).2).2).2).2 :=
  zNum_r _ (fun e => by
   have h1 : 0 ≤ (zNum (msk (nodeR (numS s).1)).bk (rKey (msk (nodeR (numS s).1)).key (zNum (msk (nodeR (numS s).1)).fo (rInt (msk (nodeR (numS s).1)).op (numS (numS (numS s).2).2).2).2).2).2).1 ∧ (zNum (msk (nodeR (numS s).1)).bk (rKey (msk (nodeR (numS s).1)).key (zNum (msk (nodeR (numS s).1)).fo (rInt (msk (nodeR (numS s).1)).op (numS (numS (numS s).2).2).2).2).2).2).1 < 4 := hb e
   rw [e4] at h1
   exact ⟨h1.1, by have h2 := h1.2; exact Int.le_trans (Int.le_of_lt h2) (by decide)⟩)
 unfold zhd hdS
 dsimp only
 rw [e4, e5, e1, e2, e3]
theorem cond_t {α : Type} {b : Bool} {x y : α} (h : b = true) : cond b x y = x := by rw [h]; rfl
theorem ok0 {bs : List Nat} (h : ∀ x ∈ bs, x < 256) : Ok (bs, 0) := ⟨h, fun e => absurd rfl e, Nat.zero_le _⟩
theorem dec_z {bs : List Nat} {d : MD} (hlt : ∀ x ∈ bs, x < 256) (h : DecOk bs d) : ZOk bs d := by
 obtain ⟨h1, hm⟩ := h
 refine ⟨?_, hm⟩
 have hok := ok0 hlt
 obtain ⟨x, hx⟩ : ∃ x, x = hdS msk (bs, 0) := ⟨_, rfl⟩
 unfold rdMsg listsOf at h1
 rw [← hx] at h1
 cases hE : rES (msk x.1.k).es x.2 with
 | none =>
  rw [hE] at h1
  cases h1
 | some p =>
  rw [hE] at h1
  cases hG : rGS (msk x.1.k).gs p.2 with
  | none =>
   have h1 : (((rGS (msk x.1.k).gs p.2).bind fun q1 => (rMS (msk x.1.k).ms q1.2).map fun r => ((p.1, q1.1, r.1), r.2)).map _) = some (d, ([], 0)) := h1
   rw [hG] at h1
   cases h1
  | some q =>
   have h1 : (((rGS (msk x.1.k).gs p.2).bind fun q1 => (rMS (msk x.1.k).ms q1.2).map fun r => ((p.1, q1.1, r.1), r.2)).map (fun p => ((⟨x.1.k, x.1.fr, x.1.tn, x.1.op, x.1.fo, x.1.key, x.1.bk, p.1.1, p.1.2.1, p.1.2.2⟩ : MD), p.2))) = some (d, ([], 0)) := h1
   rw [hG] at h1
   cases hM : rMS (msk x.1.k).ms q.2 with
   | none =>
    have h1 : (((rMS (msk x.1.k).ms q.2).map fun r => ((p.1, q.1, r.1), r.2)).map (fun p => ((⟨x.1.k, x.1.fr, x.1.tn, x.1.op, x.1.fo, x.1.key, x.1.bk, p.1.1, p.1.2.1, p.1.2.2⟩ : MD), p.2))) = some (d, ([], 0)) := h1
    rw [hM] at h1
    cases h1
   | some r =>
    have h1 : (((rMS (msk x.1.k).ms q.2).map fun r => ((p.1, q.1, r.1), r.2)).map (fun p => ((⟨x.1.k, x.1.fr, x.1.tn, x.1.op, x.1.fo, x.1.key, x.1.bk, p.1.1, p.1.2.1, p.1.2.2⟩ : MD), p.2))) = some (d, ([], 0)) := h1
    rw [hM] at h1
    have h1 : some ((⟨x.1.k, x.1.fr, x.1.tn, x.1.op, x.1.fo, x.1.key, x.1.bk, p.1, q.1, r.1⟩ : MD), r.2) = some (d, ([], 0)) := h1
    simp only [Option.some.injEq, Prod.mk.injEq] at h1
    obtain ⟨hd, hs⟩ := h1
    rw [← hd] at hm
    have hz : zhd (bs, 0) = x := by
     rw [hx]
     refine hd_p hok ?_ ?_ ?_ ?_ ?_ <;> rw [← hx]
     ·exact hm.k
     ·exact hm.fr
     ·exact hm.tn
     ·intro e
      have h9 := hm.fo
      have h9 : ndB (cond (msk x.1.k).fo x.1.fo 0) = true := h9
      rw [cond_t e] at h9
      exact h9
     ·intro e
      have h9 : 0 ≤ cond (msk x.1.k).bk x.1.bk 0 ∧ cond (msk x.1.k).bk x.1.bk 0 < 4 := hm.bk
      rw [cond_t e] at h9
      exact h9
    have okx : Ok x.2 := by
     rw [← hz]
     exact zhd_ok hok
    rw [rES_z _ okx] at hE
    have okE : Ok (zES (msk x.1.k).es x.2).2 := zES_ok _ okx
    cases bE : (zES (msk x.1.k).es x.2).1.1 with
    | false =>
     rw [bE] at hE
     cases hE
    | true =>
     rw [bE] at hE
     have hE : some ((zES (msk x.1.k).es x.2).1.2, (zES (msk x.1.k).es x.2).2) = some p := hE
     simp only [Option.some.injEq] at hE
     rw [← hE] at hG
     have hG : rGS (msk x.1.k).gs (zES (msk x.1.k).es x.2).2 = some q := hG
     rw [rGS_z _ okE] at hG
     have okG : Ok (zGS (msk x.1.k).gs (zES (msk x.1.k).es x.2).2).2 := zGS_ok _ okE
     cases bG : (zGS (msk x.1.k).gs (zES (msk x.1.k).es x.2).2).1.1 with
     | false =>
      rw [bG] at hG
      cases hG
     | true =>
      rw [bG] at hG
      have hG : some ((zGS (msk x.1.k).gs (zES (msk x.1.k).es x.2).2).1.2, (zGS (msk x.1.k).gs (zES (msk x.1.k).es x.2).2).2) = some q := hG
      simp only [Option.some.injEq] at hG
      rw [← hG] at hM
      have hM : rMS (msk x.1.k).ms (zGS (msk x.1.k).gs (zES (msk x.1.k).es x.2).2).2 = some r := hM
      have hC : zMS (msk x.1.k).ms (zGS (msk x.1.k).gs (zES (msk x.1.k).es x.2).2).2 = r := by
       cases hms : (msk x.1.k).ms with
       | false =>
        rw [hms] at hM
        have hM : some (([] : List (Int × Int)), (zGS (msk x.1.k).gs (zES (msk x.1.k).es x.2).2).2) = some r := hM
        simp only [Option.some.injEq] at hM
        exact hM
       | true =>
        rw [hms] at hM
        exact z_rdMs _ _ r.1 r.2 (count_ok 8 okG).1 hM
      unfold zMsg
      dsimp only
      rw [hz, bE, bG, hC, ← hd, ← hs, ← hE, ← hG]
      rfl
theorem z_dec {bs : List Nat} {d : MD} (hlt : ∀ x ∈ bs, x < 256) (h : ZOk bs d) : DecOk bs d := by
 obtain ⟨h1, hm⟩ := h
 refine ⟨?_, hm⟩
 have hok := ok0 hlt
 obtain ⟨x, hx⟩ : ∃ x, x = zhd (bs, 0) := ⟨_, rfl⟩
 unfold zMsg at h1
 dsimp only at h1
 rw [← hx] at h1
 simp only [ZM.mk.injEq, Bool.and_eq_true] at h1
 obtain ⟨⟨bE, bG⟩, hd, hs⟩ := h1
 rw [← hd] at hm
 have hz : x = hdS msk (bs, 0) := by
  rw [hx]
  refine hd_r ?_ ?_ ?_ ?_ ?_ <;> rw [← hx]
  ·exact hm.k
  ·exact hm.fr
  ·exact hm.tn
  ·intro e
   have h9 := hm.fo
   have h9 : ndB (cond (msk x.1.k).fo x.1.fo 0) = true := h9
   rw [cond_t e] at h9
   exact h9
  ·intro e
   have h9 : 0 ≤ cond (msk x.1.k).bk x.1.bk 0 ∧ cond (msk x.1.k).bk x.1.bk 0 < 4 := hm.bk
   rw [cond_t e] at h9
   exact h9
 have okx : Ok x.2 := by
  rw [hx]
  exact zhd_ok hok
 have okE : Ok (zES (msk x.1.k).es x.2).2 := zES_ok _ okx
 have okG : Ok (zGS (msk x.1.k).gs (zES (msk x.1.k).es x.2).2).2 := zGS_ok _ okE
 unfold rdMsg listsOf
 rw [← hz, rES_z _ okx, bE]
 show ((rGS (msk x.1.k).gs (zES (msk x.1.k).es x.2).2).bind _).map _ = _
 rw [rGS_z _ okE, bG]
 show ((rMS (msk x.1.k).ms (zGS (msk x.1.k).gs (zES (msk x.1.k).es x.2).2).2).map _).map _ = _
 have hC : rMS (msk x.1.k).ms (zGS (msk x.1.k).gs (zES (msk x.1.k).es x.2).2).2 = some (zMS (msk x.1.k).ms (zGS (msk x.1.k).gs (zES (msk x.1.k).es x.2).2).2) := by
  have h9 : ∀ y ∈ cond (msk x.1.k).ms (zMS (msk x.1.k).ms (zGS (msk x.1.k).gs (zES (msk x.1.k).es x.2).2).2).1 [], mbB y.1 y.2 = true := hm.ms
  cases hms : (msk x.1.k).ms with
  | false => rfl
  | true =>
   rw [hms] at h9 hs
   have hs : (zMs (countS 8 (zGS (msk x.1.k).gs (zES (msk x.1.k).es x.2).2).2).1 (countS 8 (zGS (msk x.1.k).gs (zES (msk x.1.k).es x.2).2).2).2).2 = ([], 0) := hs
   exact rdMs_z _ _ (count_ok 8 okG).1 (by rw [hs]) h9
 rw [hC, ← hd, ← hs]
 rfl
theorem dec_iff {bs : List Nat} (hlt : ∀ x ∈ bs, x < 256) (d : MD) : DecOk bs d ↔ ZOk bs d := ⟨dec_z hlt, z_dec hlt⟩
theorem dec_one {bs : List Nat} {d e : MD} (h1 : DecOk bs d) (h2 : DecOk bs e) : d = e := by
 have h := h1.1
 rw [h2.1] at h
 simp only [Option.some.injEq, Prod.mk.injEq] at h
 exact h.1.symm
end Go.Proofs.YtmbphlkohlggfaaGreat
