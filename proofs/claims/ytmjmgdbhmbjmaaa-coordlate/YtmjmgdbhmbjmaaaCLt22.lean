/- Items of several texts. -/
import Derived.Maps.Views
import Derived.Test.YtmjmgdbhmbjmaaaCLa22
import Derived.Test.YtmjmgdbhmbjmaaaCGt22
namespace Go.Proofs.Ytmjmgdbhmbjmaaa
set_option maxRecDepth 100000
open Go.RowKit Go.Maps
set_option maxHeartbeats 8000000 in
theorem late_walk (q0 : Int) (a : Option Addr) (len cap : Nat) (B : Nat → Int) (w : World) (_ : -9223372036854775808 ≤ q0 ∧ q0 ≤ 9223372036854775807) (hb : Inz w a len cap B) :
  Calls Try.prog 8 #[.int .i64 q0, .slice a len cap] w fun e w' => e = .returned (.bool true) ∧ Off (fun _ => False) w w' := by
 obtain ⟨r, er, hr⟩ := rem_any q0 5 (by omega)
 obtain ⟨m, hm⟩ : ∃ m : Nat, m = r + 2 := ⟨_, rfl⟩
 have HB : Hid (Inz w a len cap B) := hb
 have HM : Hid (2 ≤ m ∧ m ≤ 6) := ⟨by omega, by omega⟩
 have hlen : len ≤ 9223372036854775807 := hb.hlen
 have HN : Hid _ := cnew_any (Z := fun _ => False) 9 w (by omega) (fun _ h => h.elim)
 have w1 : IntKind.i64.wrap (r : Int) = (r : Int) := by rw [IntKind.wrap_i64]; omega
 have w2 : IntKind.i64.wrap ((r : Int) + 2) = (r : Int) + 2 := by rw [IntKind.wrap_i64]; omega
 clear hb
 have HRM : Hid ((r : Int) + 2 = (m : Int)) := by show (r : Int) + 2 = (m : Int); omega
 clear hm
 go_enter Try.func8, Try.ntmps8
 go_upto_region 2 with fail
 rw [HRM.out]
 go_wp2_with fail
 clear er w1 w2 hr
 refine Calls.mono HN.out ?_
 rintro e v1 ⟨p, rfl, hp, c1, g1⟩
 have HC1 : Hid _ := c1
 have HG1 : Hid _ := g1
 have HW1 : Hid _ := write_any c1 0 (m : Int) kk SV.zero (SOk.zero _ _) (by show (0 : Int) < _; omega)
 clear c1 g1 hp HN
 go_wp2_with fail
 refine Calls.mono HW1.out ?_
 rintro e v2 ⟨x2, D2, Z2, c2, g2, e2, hr2⟩
 have hb1 : beginA (newM 9).abs 0 (m : Int) false kk SV.zero.abs = (⟨9, 1, [ltO 1 false m f0L], []⟩, 1, 0) := by
  rw [show (newM 9).abs = ⟨9, 0, [], []⟩ from rfl, show SV.zero.abs = SA.zero from rfl]
  exact lt_begin1 HM.out.1
 rw [hb1] at e2 hr2
 obtain rfl := hr2
 have HE2 : Hid (x2.abs = ⟨9, 1, [ltO 1 false m f0L], []⟩) := e2
 have HG2 : Hid _ := HG1.out.trans g2
 have HR2 : Hid _ := read_any c2 0 (m : Int) kk SV.zero (SOk.zero _ _) (by have : x2.last = 1 := congrArg CA.last e2; omega)
 clear c2 g2 e2 HG1 HW1 HC1 hb1
 go_wp2_with fail
 refine Calls.mono HR2.out ?_
 rintro e v3 ⟨x3, D3, Z3, c3, g3, e3, hr3⟩
 rw [HE2.out, show SV.zero.abs = SA.zero from rfl, lt_begin2 HM.out.1] at e3 hr3
 obtain rfl := hr3
 have HE3 : Hid (x3.abs = ltA m f0L) := e3
 have HG3 : Hid _ := HG2.out.trans g3
 have HC3 : Hid _ := c3
 have S3 := SeenM.new v3
 obtain ⟨v4, hup, S4, gr4⟩ := S3.put (n := 0) (by omega)
 obtain ⟨b, hbb⟩ : ∃ b, b = v3.heap.size := ⟨_, rfl⟩
 have O3 : Off (fun _ => False) v3 v4 := ((Off.refl (fun _ => False) v3).alloc _).grown gr4 (fun k hk => .inr (by cases hk; exact Nat.le_refl _))
 have HC4 : Hid (CST D3 (fun c => Z3 c ∨ c = b) p x3 v4) := c3.beside (Gro.mk (D := fun _ => False) (D' := fun _ => False) O3 (fun _ e => e.elim) (fun c z => z.imp (fun h => h) (fun e => by omega)) (fun c z => .inl z)) (fun c e => e.elim) (fun c e => e.elim) (fun c z => z.elim (fun z => Nat.lt_of_lt_of_le (c3.lt c z) O3.size) (fun e => by have := S4.own.lt; rw [e, hbb]; exact this))
 have HD4 : Hid ((Z3 b ∨ b = b) ∧ ¬ D3 b) := ⟨.inr rfl, fun d => by have := c3.lt b (c3.sub b d); omega⟩
 rw [← hbb] at S4
 have HS4 : Hid _ := S4
 have HO4 : Hid (Off (fun _ => False) w v4) := HG3.out.off.trans O3 (fun _ _ h => h)
 have HDO : Hid (∀ i, i < w.heap.size → D3 i → False) := fun i hi d => (HG3.out.new i d).elim (fun h => h) (fun h => by omega)
 have HBL : Hid (w.heap.size ≤ b) := by rw [hbb]; exact HG3.out.off.size
 rw [← hbb, show ((0 : Nat) : Int) = 0 from rfl] at hup
 have HBB : Hid (b = v3.heap.size) := hbb
 clear c3 g3 e3 HG2 HR2 S3 S4 gr4 O3 HC3 hbb
 have hmm : (Instr.makeMap 74 none).run Try.prog v3 = .ok (.map (some b)) (v3.alloc (.map #[] 0)) := by rw [HBB.out]; rfl
 go_wp2_with fail
 clear hmm hup
 go_loopw [50] (fun s50 wr => ∃ (i : Nat) (x : CM) (D Z : Nat → Prop) (f : Nat → Bool) (G : DataW Value), s50 = .int .i64 (i : Int) ∧ i ≤ len ∧ CST D Z p x wr ∧ Off (fun _ => False) w wr ∧ x.abs = ltA m f ∧ SeenM b f G wr ∧ (Z b ∧ ¬ D b) ∧ (∀ i, i < w.heap.size → D i → False)) (fun s50 _ => ((len : Int) - vInt s50).toNat)
 case atStart => exact ⟨0, _, _, _, _, _, rfl, by omega, HC4.out, HO4.out, HE3.out, HS4.out, ⟨.inr rfl, HD4.out.2⟩, HDO.out⟩
 case round =>
  obtain ⟨i, x, D, Z, f, G, rfl, hi, hC, hO, hA, hS, hD, hDO⟩ := hrel
  clear HC4 HO4 HE3 HS4 HD4 HDO
  have HC : Hid _ := hC
  have HO : Hid _ := hO
  have HA : Hid _ := hA
  have HS : Hid _ := hS
  have HD : Hid _ := hD
  have HDO : Hid _ := hDO
  clear hC hO hA hS hD hDO
  by_cases hend : i < len ∧ i < 30
  ·obtain ⟨hlt, h30⟩ := hend
   have hd : decide ((i : Int) < (len : Int)) = true := decide_eq_true (by omega)
   have h3 : decide ((30 : Int) ≤ (i : Int)) = false := decide_eq_false (by omega)
   obtain ⟨n, en, hn⟩ := rem_any (B i) 8 (by omega)
   have hn8 : n < 8 := by omega
   have wn : IntKind.i64.wrap (n : Int) = (n : Int) := by rw [IntKind.wrap_i64]; omega
   have hln0 : decide ((len : Int) ≤ (i : Int)) = false := decide_eq_false (by omega)
   have hneg : decide ((i : Int) < 0) = false := decide_eq_false (by omega)
   obtain ⟨ba, off, ha, hc0⟩ := HB.out.at_ i hlt
   have hcell : wr.cell? ⟨ba, off + i, none⟩ = some (.int .i64 (B i)) := by
    rw [← hc0]
    exact World.cell?_of_block (a := ⟨ba, off + i, none⟩) (HO.out.block ba (cell_lt hc0) (fun h => h))
   subst ha
   clear hc0 hn
   cases hfn : f n
   ·by_cases hcm0 : cnt f 8 + 1 = m
    ·have hcm : ((cnt (ans f n) 8 : Int) == (m : Int)) = true := beq_iff_eq.2 (by rw [cnt_ans hfn hn8]; omega)
     have HW_ : Hid (want m f n = true) := by show want m f n = true; unfold want; rw [hfn, decide_eq_true hcm0]; rfl
     clear hcm0
     obtain ⟨w4, hup, S4, gr4⟩ := HS.out.put hn8
     have hlk : (Instr.lookup 74 (.map (some b)) (.int .i64 (n : Int)) false).run Try.prog wr = .ok (.int .i64 0) wr := by have := HS.out.look hn8; rw [hfn] at this; exact this
     have hln : ∀ ty, (Builtin.len_ #[74] ty #[.map (some b)]).run Try.prog w4 = .ok (.int .i64 (cnt (ans f n) 8 : Int)) w4 := fun ty => S4.len ty
     have C4 := HC.out.beside (Gro.of (D := fun c => c = b) ((Off.refl (fun c => c = b) wr).grown gr4 (fun k hk => .inl (by cases hk; rfl)))) (fun c e d => HD.out.2 (e ▸ d)) (fun c e => e ▸ HD.out.1) (fun c z => Nat.lt_of_lt_of_le (HC.out.lt c z) ((Off.refl (fun c => c = b) wr).grown gr4 (fun k hk => .inl (by cases hk; rfl))).size)
     have HO4 : Hid (Off (fun _ => False) w w4) := HO.out.grown gr4 (fun k hk => .inr (by cases hk; exact HBL.out))
     have HS4 : Hid _ := S4
     have HG4 : Hid _ := got_any C4 (n := 2) ⟨by omega, by omega⟩ (n : Int) kk SV.zero (SOk.zero _ _)
     clear S4 gr4 C4 HC HS
     go_wp2_with fail
     refine Calls.mono HG4.out ?_
     rintro e v5 ⟨x5, D5, Z5, c5, g5, e5, hr5⟩
     obtain ⟨al, ll, cl, rfl⟩ := hr5.val
     have hwant : want m f n = true := HW_.out
     rw [HA.out, show SV.zero.abs = SA.zero from rfl, (lt_got m f hn8).1] at e5
     have hv5 : (gotA x.abs 2 (n : Int) kk SV.zero.abs).2.isSome = true := by rw [HA.out, show SV.zero.abs = SA.zero from rfl, (lt_got m f hn8).2, want_lt, hwant]
     rw [hv5]
     clear hv5
     have HC5 : Hid _ := c5
     have HE5 : Hid _ := e5
     have HS5 : Hid _ := HS4.out.off g5.off (fun d => HD.out.2 d)
     have HD5 : Hid (Z5 b ∧ ¬ D5 b) := ⟨g5.zz b HD.out.1, fun d => (g5.new b d).elim HD.out.2 (fun h => by have := HS4.out.own.lt; omega)⟩
     have HO5 : Hid (Off (fun _ => False) w v5) := HO4.out.trans g5.off (fun i hi d => HDO.out i hi d)
     have HDO5 : Hid (∀ i, i < w.heap.size → D5 i → False) := fun i hi d => (g5.new i d).elim (HDO.out i hi) (fun h => by have := HO4.out.size; omega)
     have HK5 : Hid _ := ack_any c5 (n := 1) ⟨by omega, by omega⟩ (n : Int)
     clear c5 g5 e5 HG4 HS4 HO4 hr5 HD HDO
     go_wp2_with fail
     refine Calls.mono HK5.out ?_
     rintro e v6 ⟨x6, D6, Z6, c6, g6, e6, hr6⟩
     rw [HE5.out, lt_ack m f hn8] at e6 hr6
     simp only [hwant] at hr6
     obtain rfl := hr6
     have HC6 : Hid _ := c6
     have HE6 : Hid (x6.abs = ltA m (ans f n)) := e6
     have HS6 : Hid _ := HS5.out.off g6.off (fun d => HD5.out.2 d)
     have HD6 : Hid (Z6 b ∧ ¬ D6 b) := ⟨g6.zz b HD5.out.1, fun d => (g6.new b d).elim HD5.out.2 (fun h => by have := HS5.out.own.lt; omega)⟩
     have HO6 : Hid (Off (fun _ => False) w v6) := HO5.out.trans g6.off (fun i hi d => HDO5.out i hi d)
     have HDO6 : Hid (∀ i, i < w.heap.size → D6 i → False) := fun i hi d => (g6.new i d).elim (HDO5.out i hi) (fun h => by have := HO5.out.size; omega)
     have HK6 : Hid _ := ack_any c6 (n := 2) ⟨by omega, by omega⟩ (n : Int)
     clear c6 g6 e6 HK5 HS5 HO5 HD5 HDO5 HC5 HE5 hwant
     go_wp2_with fail
     refine Calls.mono HK6.out ?_
     rintro e v7 ⟨x7, D7, Z7, c7, g7, e7, hr7⟩
     rw [HE6.out, lt_ack2] at e7 hr7
     obtain rfl := hr7
     have HC7 : Hid _ := c7
     have HE7 : Hid (x7.abs = ltA m (ans f n)) := e7
     have HS7 : Hid _ := HS6.out.off g7.off (fun d => HD6.out.2 d)
     have HD7 : Hid (Z7 b ∧ ¬ D7 b) := ⟨g7.zz b HD6.out.1, fun d => (g7.new b d).elim HD6.out.2 (fun h => by have := HS6.out.own.lt; omega)⟩
     have HO7 : Hid (Off (fun _ => False) w v7) := HO6.out.trans g7.off (fun i hi d => HDO6.out i hi d)
     have HDO7 : Hid (∀ i, i < w.heap.size → D7 i → False) := fun i hi d => (g7.new i d).elim (HDO6.out i hi) (fun h => by have := HO6.out.size; omega)
     have HG7 : Hid _ := got_any c7 (n := 1) ⟨by omega, by omega⟩ (n : Int) kk SV.zero (SOk.zero _ _)
     clear c7 g7 e7 HK6 HS6 HO6 HD6 HDO6 HC6 HE6
     go_wp2_with fail
     refine Calls.mono HG7.out ?_
     rintro e v8 ⟨x8, D8, Z8, c8, g8, e8, hr8⟩
     obtain ⟨al8, ll8, cl8, rfl⟩ := hr8.val
     rw [HE7.out, show SV.zero.abs = SA.zero from rfl, lt_got1] at e8
     have hv8 : (gotA x7.abs 1 (n : Int) kk SV.zero.abs).2.isSome = false := by rw [HE7.out, show SV.zero.abs = SA.zero from rfl, lt_got1]; rfl
     rw [hv8]
     clear hv8
     have HC8 : Hid _ := c8
     have HE8 : Hid (x8.abs = ltA m (ans f n)) := e8
     have HS8 : Hid _ := HS7.out.off g8.off (fun d => HD7.out.2 d)
     have HD8 : Hid (Z8 b ∧ ¬ D8 b) := ⟨g8.zz b HD7.out.1, fun d => (g8.new b d).elim HD7.out.2 (fun h => by have := HS7.out.own.lt; omega)⟩
     have HO8 : Hid (Off (fun _ => False) w v8) := HO7.out.trans g8.off (fun i hi d => HDO7.out i hi d)
     have HDO8 : Hid (∀ i, i < w.heap.size → D8 i → False) := fun i hi d => (g8.new i d).elim (HDO7.out i hi) (fun h => by have := HO7.out.size; omega)
     have wi : IntKind.i64.wrap ((i : Int) + 1) = (i : Int) + 1 := by rw [IntKind.wrap_i64]; omega
     clear c8 g8 e8 HG7 HS7 HO7 HD7 HDO7 HC7 HE7 hr8
     go_wp2_with fail
     go_roundw
     case rel => exact ⟨i + 1, x8, D8, Z8, ans f n, _, by go_num, by omega, HC8.out, HO8.out, HE8.out, HS8.out, HD8.out, HDO8.out⟩
     case measure => simp [vInt]; omega
    ·have hcm : ((cnt (ans f n) 8 : Int) == (m : Int)) = false := beq_eq_false_iff_ne.2 (by rw [cnt_ans hfn hn8]; omega)
     have HW_ : Hid (want m f n = false) := by show want m f n = false; unfold want; rw [hfn, decide_eq_false hcm0]; rfl
     clear hcm0
     obtain ⟨w4, hup, S4, gr4⟩ := HS.out.put hn8
     have hlk : (Instr.lookup 74 (.map (some b)) (.int .i64 (n : Int)) false).run Try.prog wr = .ok (.int .i64 0) wr := by have := HS.out.look hn8; rw [hfn] at this; exact this
     have hln : ∀ ty, (Builtin.len_ #[74] ty #[.map (some b)]).run Try.prog w4 = .ok (.int .i64 (cnt (ans f n) 8 : Int)) w4 := fun ty => S4.len ty
     have C4 := HC.out.beside (Gro.of (D := fun c => c = b) ((Off.refl (fun c => c = b) wr).grown gr4 (fun k hk => .inl (by cases hk; rfl)))) (fun c e d => HD.out.2 (e ▸ d)) (fun c e => e ▸ HD.out.1) (fun c z => Nat.lt_of_lt_of_le (HC.out.lt c z) ((Off.refl (fun c => c = b) wr).grown gr4 (fun k hk => .inl (by cases hk; rfl))).size)
     have HO4 : Hid (Off (fun _ => False) w w4) := HO.out.grown gr4 (fun k hk => .inr (by cases hk; exact HBL.out))
     have HS4 : Hid _ := S4
     have HG4 : Hid _ := got_any C4 (n := 2) ⟨by omega, by omega⟩ (n : Int) kk SV.zero (SOk.zero _ _)
     clear S4 gr4 C4 HC HS
     go_wp2_with fail
     refine Calls.mono HG4.out ?_
     rintro e v5 ⟨x5, D5, Z5, c5, g5, e5, hr5⟩
     obtain ⟨al, ll, cl, rfl⟩ := hr5.val
     have hwant : want m f n = false := HW_.out
     rw [HA.out, show SV.zero.abs = SA.zero from rfl, (lt_got m f hn8).1] at e5
     have hv5 : (gotA x.abs 2 (n : Int) kk SV.zero.abs).2.isSome = false := by rw [HA.out, show SV.zero.abs = SA.zero from rfl, (lt_got m f hn8).2, want_lt, hwant]
     rw [hv5]
     clear hv5
     have HC5 : Hid _ := c5
     have HE5 : Hid _ := e5
     have HS5 : Hid _ := HS4.out.off g5.off (fun d => HD.out.2 d)
     have HD5 : Hid (Z5 b ∧ ¬ D5 b) := ⟨g5.zz b HD.out.1, fun d => (g5.new b d).elim HD.out.2 (fun h => by have := HS4.out.own.lt; omega)⟩
     have HO5 : Hid (Off (fun _ => False) w v5) := HO4.out.trans g5.off (fun i hi d => HDO.out i hi d)
     have HDO5 : Hid (∀ i, i < w.heap.size → D5 i → False) := fun i hi d => (g5.new i d).elim (HDO.out i hi) (fun h => by have := HO4.out.size; omega)
     have HK5 : Hid _ := ack_any c5 (n := 1) ⟨by omega, by omega⟩ (n : Int)
     clear c5 g5 e5 HG4 HS4 HO4 hr5 HD HDO
     go_wp2_with fail
     refine Calls.mono HK5.out ?_
     rintro e v6 ⟨x6, D6, Z6, c6, g6, e6, hr6⟩
     rw [HE5.out, lt_ack m f hn8] at e6 hr6
     simp only [hwant] at hr6
     obtain rfl := hr6
     have HC6 : Hid _ := c6
     have HE6 : Hid (x6.abs = ltA m (ans f n)) := e6
     have HS6 : Hid _ := HS5.out.off g6.off (fun d => HD5.out.2 d)
     have HD6 : Hid (Z6 b ∧ ¬ D6 b) := ⟨g6.zz b HD5.out.1, fun d => (g6.new b d).elim HD5.out.2 (fun h => by have := HS5.out.own.lt; omega)⟩
     have HO6 : Hid (Off (fun _ => False) w v6) := HO5.out.trans g6.off (fun i hi d => HDO5.out i hi d)
     have HDO6 : Hid (∀ i, i < w.heap.size → D6 i → False) := fun i hi d => (g6.new i d).elim (HDO5.out i hi) (fun h => by have := HO5.out.size; omega)
     have HK6 : Hid _ := ack_any c6 (n := 2) ⟨by omega, by omega⟩ (n : Int)
     clear c6 g6 e6 HK5 HS5 HO5 HD5 HDO5 HC5 HE5 hwant
     go_wp2_with fail
     refine Calls.mono HK6.out ?_
     rintro e v7 ⟨x7, D7, Z7, c7, g7, e7, hr7⟩
     rw [HE6.out, lt_ack2] at e7 hr7
     obtain rfl := hr7
     have HC7 : Hid _ := c7
     have HE7 : Hid (x7.abs = ltA m (ans f n)) := e7
     have HS7 : Hid _ := HS6.out.off g7.off (fun d => HD6.out.2 d)
     have HD7 : Hid (Z7 b ∧ ¬ D7 b) := ⟨g7.zz b HD6.out.1, fun d => (g7.new b d).elim HD6.out.2 (fun h => by have := HS6.out.own.lt; omega)⟩
     have HO7 : Hid (Off (fun _ => False) w v7) := HO6.out.trans g7.off (fun i hi d => HDO6.out i hi d)
     have HDO7 : Hid (∀ i, i < w.heap.size → D7 i → False) := fun i hi d => (g7.new i d).elim (HDO6.out i hi) (fun h => by have := HO6.out.size; omega)
     have HG7 : Hid _ := got_any c7 (n := 1) ⟨by omega, by omega⟩ (n : Int) kk SV.zero (SOk.zero _ _)
     clear c7 g7 e7 HK6 HS6 HO6 HD6 HDO6 HC6 HE6
     go_wp2_with fail
     refine Calls.mono HG7.out ?_
     rintro e v8 ⟨x8, D8, Z8, c8, g8, e8, hr8⟩
     obtain ⟨al8, ll8, cl8, rfl⟩ := hr8.val
     rw [HE7.out, show SV.zero.abs = SA.zero from rfl, lt_got1] at e8
     have hv8 : (gotA x7.abs 1 (n : Int) kk SV.zero.abs).2.isSome = false := by rw [HE7.out, show SV.zero.abs = SA.zero from rfl, lt_got1]; rfl
     rw [hv8]
     clear hv8
     have HC8 : Hid _ := c8
     have HE8 : Hid (x8.abs = ltA m (ans f n)) := e8
     have HS8 : Hid _ := HS7.out.off g8.off (fun d => HD7.out.2 d)
     have HD8 : Hid (Z8 b ∧ ¬ D8 b) := ⟨g8.zz b HD7.out.1, fun d => (g8.new b d).elim HD7.out.2 (fun h => by have := HS7.out.own.lt; omega)⟩
     have HO8 : Hid (Off (fun _ => False) w v8) := HO7.out.trans g8.off (fun i hi d => HDO7.out i hi d)
     have HDO8 : Hid (∀ i, i < w.heap.size → D8 i → False) := fun i hi d => (g8.new i d).elim (HDO7.out i hi) (fun h => by have := HO7.out.size; omega)
     have wi : IntKind.i64.wrap ((i : Int) + 1) = (i : Int) + 1 := by rw [IntKind.wrap_i64]; omega
     clear c8 g8 e8 HG7 HS7 HO7 HD7 HDO7 HC7 HE7 hr8
     go_wp2_with fail
     go_roundw
     case rel => exact ⟨i + 1, x8, D8, Z8, ans f n, _, by go_num, by omega, HC8.out, HO8.out, HE8.out, HS8.out, HD8.out, HDO8.out⟩
     case measure => simp [vInt]; omega
   ·have HW_ : Hid (want m f n = false) := by show want m f n = false; unfold want; rw [hfn]; rfl
    obtain ⟨w4, hup, S4, gr4⟩ := HS.out.put hn8
    have hlk : (Instr.lookup 74 (.map (some b)) (.int .i64 (n : Int)) false).run Try.prog wr = .ok (.int .i64 1) wr := by have := HS.out.look hn8; rw [hfn] at this; exact this
    have hln : ∀ ty, (Builtin.len_ #[74] ty #[.map (some b)]).run Try.prog w4 = .ok (.int .i64 (cnt (ans f n) 8 : Int)) w4 := fun ty => S4.len ty
    have C4 := HC.out.beside (Gro.of (D := fun c => c = b) ((Off.refl (fun c => c = b) wr).grown gr4 (fun k hk => .inl (by cases hk; rfl)))) (fun c e d => HD.out.2 (e ▸ d)) (fun c e => e ▸ HD.out.1) (fun c z => Nat.lt_of_lt_of_le (HC.out.lt c z) ((Off.refl (fun c => c = b) wr).grown gr4 (fun k hk => .inl (by cases hk; rfl))).size)
    have HO4 : Hid (Off (fun _ => False) w w4) := HO.out.grown gr4 (fun k hk => .inr (by cases hk; exact HBL.out))
    have HS4 : Hid _ := S4
    have HG4 : Hid _ := got_any C4 (n := 2) ⟨by omega, by omega⟩ (n : Int) kk SV.zero (SOk.zero _ _)
    clear S4 gr4 C4 HC HS
    go_wp2_with fail
    refine Calls.mono HG4.out ?_
    rintro e v5 ⟨x5, D5, Z5, c5, g5, e5, hr5⟩
    obtain ⟨al, ll, cl, rfl⟩ := hr5.val
    have hwant : want m f n = false := HW_.out
    rw [HA.out, show SV.zero.abs = SA.zero from rfl, (lt_got m f hn8).1] at e5
    have hv5 : (gotA x.abs 2 (n : Int) kk SV.zero.abs).2.isSome = false := by rw [HA.out, show SV.zero.abs = SA.zero from rfl, (lt_got m f hn8).2, want_lt, hwant]
    rw [hv5]
    clear hv5
    have HC5 : Hid _ := c5
    have HE5 : Hid _ := e5
    have HS5 : Hid _ := HS4.out.off g5.off (fun d => HD.out.2 d)
    have HD5 : Hid (Z5 b ∧ ¬ D5 b) := ⟨g5.zz b HD.out.1, fun d => (g5.new b d).elim HD.out.2 (fun h => by have := HS4.out.own.lt; omega)⟩
    have HO5 : Hid (Off (fun _ => False) w v5) := HO4.out.trans g5.off (fun i hi d => HDO.out i hi d)
    have HDO5 : Hid (∀ i, i < w.heap.size → D5 i → False) := fun i hi d => (g5.new i d).elim (HDO.out i hi) (fun h => by have := HO4.out.size; omega)
    have HK5 : Hid _ := ack_any c5 (n := 1) ⟨by omega, by omega⟩ (n : Int)
    clear c5 g5 e5 HG4 HS4 HO4 hr5 HD HDO
    go_wp2_with fail
    refine Calls.mono HK5.out ?_
    rintro e v6 ⟨x6, D6, Z6, c6, g6, e6, hr6⟩
    rw [HE5.out, lt_ack m f hn8] at e6 hr6
    simp only [hwant] at hr6
    obtain rfl := hr6
    have HC6 : Hid _ := c6
    have HE6 : Hid (x6.abs = ltA m (ans f n)) := e6
    have HS6 : Hid _ := HS5.out.off g6.off (fun d => HD5.out.2 d)
    have HD6 : Hid (Z6 b ∧ ¬ D6 b) := ⟨g6.zz b HD5.out.1, fun d => (g6.new b d).elim HD5.out.2 (fun h => by have := HS5.out.own.lt; omega)⟩
    have HO6 : Hid (Off (fun _ => False) w v6) := HO5.out.trans g6.off (fun i hi d => HDO5.out i hi d)
    have HDO6 : Hid (∀ i, i < w.heap.size → D6 i → False) := fun i hi d => (g6.new i d).elim (HDO5.out i hi) (fun h => by have := HO5.out.size; omega)
    have HK6 : Hid _ := ack_any c6 (n := 2) ⟨by omega, by omega⟩ (n : Int)
    clear c6 g6 e6 HK5 HS5 HO5 HD5 HDO5 HC5 HE5 hwant
    go_wp2_with fail
    refine Calls.mono HK6.out ?_
    rintro e v7 ⟨x7, D7, Z7, c7, g7, e7, hr7⟩
    rw [HE6.out, lt_ack2] at e7 hr7
    obtain rfl := hr7
    have HC7 : Hid _ := c7
    have HE7 : Hid (x7.abs = ltA m (ans f n)) := e7
    have HS7 : Hid _ := HS6.out.off g7.off (fun d => HD6.out.2 d)
    have HD7 : Hid (Z7 b ∧ ¬ D7 b) := ⟨g7.zz b HD6.out.1, fun d => (g7.new b d).elim HD6.out.2 (fun h => by have := HS6.out.own.lt; omega)⟩
    have HO7 : Hid (Off (fun _ => False) w v7) := HO6.out.trans g7.off (fun i hi d => HDO6.out i hi d)
    have HDO7 : Hid (∀ i, i < w.heap.size → D7 i → False) := fun i hi d => (g7.new i d).elim (HDO6.out i hi) (fun h => by have := HO6.out.size; omega)
    have HG7 : Hid _ := got_any c7 (n := 1) ⟨by omega, by omega⟩ (n : Int) kk SV.zero (SOk.zero _ _)
    clear c7 g7 e7 HK6 HS6 HO6 HD6 HDO6 HC6 HE6
    go_wp2_with fail
    refine Calls.mono HG7.out ?_
    rintro e v8 ⟨x8, D8, Z8, c8, g8, e8, hr8⟩
    obtain ⟨al8, ll8, cl8, rfl⟩ := hr8.val
    rw [HE7.out, show SV.zero.abs = SA.zero from rfl, lt_got1] at e8
    have hv8 : (gotA x7.abs 1 (n : Int) kk SV.zero.abs).2.isSome = false := by rw [HE7.out, show SV.zero.abs = SA.zero from rfl, lt_got1]; rfl
    rw [hv8]
    clear hv8
    have HC8 : Hid _ := c8
    have HE8 : Hid (x8.abs = ltA m (ans f n)) := e8
    have HS8 : Hid _ := HS7.out.off g8.off (fun d => HD7.out.2 d)
    have HD8 : Hid (Z8 b ∧ ¬ D8 b) := ⟨g8.zz b HD7.out.1, fun d => (g8.new b d).elim HD7.out.2 (fun h => by have := HS7.out.own.lt; omega)⟩
    have HO8 : Hid (Off (fun _ => False) w v8) := HO7.out.trans g8.off (fun i hi d => HDO7.out i hi d)
    have HDO8 : Hid (∀ i, i < w.heap.size → D8 i → False) := fun i hi d => (g8.new i d).elim (HDO7.out i hi) (fun h => by have := HO7.out.size; omega)
    have wi : IntKind.i64.wrap ((i : Int) + 1) = (i : Int) + 1 := by rw [IntKind.wrap_i64]; omega
    clear c8 g8 e8 HG7 HS7 HO7 HD7 HDO7 HC7 HE7 hr8
    go_wp2_with fail
    go_roundw
    case rel => exact ⟨i + 1, x8, D8, Z8, ans f n, _, by go_num, by omega, HC8.out, HO8.out, HE8.out, HS8.out, HD8.out, HDO8.out⟩
    case measure => simp [vInt]; omega
  ·by_cases hlt : i < len
   ·have hd : decide ((i : Int) < (len : Int)) = true := decide_eq_true (by omega)
    have h3 : decide ((30 : Int) ≤ (i : Int)) = true := decide_eq_true (by omega)
    have hln0 : decide ((len : Int) ≤ (i : Int)) = false := decide_eq_false (by omega)
    have hneg : decide ((i : Int) < 0) = false := decide_eq_false (by omega)
    obtain ⟨ba, off, ha, hc0⟩ := HB.out.at_ i hlt
    have hcell : wr.cell? ⟨ba, off + i, none⟩ = some (.int .i64 (B i)) := by
     rw [← hc0]
     exact World.cell?_of_block (a := ⟨ba, off + i, none⟩) (HO.out.block ba (cell_lt hc0) (fun h => h))
    subst ha
    clear hc0
    by_cases hc : cnt f 8 < m
    ·have dge : decide ((m : Int) ≤ (cnt f 8 : Int)) = false := decide_eq_false (by omega)
     have dgn : decide (m ≤ cnt f 8) = false := decide_eq_false (by omega)
     have dgl : decide ((cnt f 8 : Int) < (m : Int)) = true := decide_eq_true (by omega)
     have hln : ∀ ty, (Builtin.len_ #[74] ty #[.map (some b)]).run Try.prog wr = .ok (.int .i64 (cnt f 8 : Int)) wr := fun ty => HS.out.len ty
     have hL := clen_any HC.out
     have hlen : x.t.length = 2 := by have := congrArg (fun c => c.t.length) HA.out; simpa [CM.abs, ltA, hc] using this
     have hanl : x.an.length = 0 := by have := congrArg (fun c => c.an.length) HA.out; simpa [CM.abs, ltA, hc] using this
     rw [hlen, show ((2 : Nat) : Int) = 2 from rfl] at hL
     have HL : Hid _ := hL
     have HAN : Hid _ := canswers_any HC.out
     have HANL : Hid (x.an.length = 0) := hanl
     clear hL hlen hanl hc HS HA HC
     go_wp2_with fail
     refine Calls.mono HL.out ?_
     rintro e v5 ⟨rfl, hw⟩
     rw [hw]
     clear hw v5 HL
     go_wp2_with fail
     refine Calls.mono HAN.out ?_
     rintro e v6 ⟨rfl, own, oks, c6, g6⟩
     rw [HANL.out]
     have HO6 : Hid (Off (fun _ => False) w v6) := HO.out.trans g6.off (fun i hi d => HDO.out i hi d)
     clear own oks c6 g6 HAN HO
     go_wp2_with fail
     refine Calls.mono (awake_any v6) ?_
     rintro e v7 ⟨rfl, o7⟩
     have HO7 : Hid _ := HO6.out.trans o7 (fun _ _ h => h)
     clear o7 HO6
     go_wp2_with fail
     go_ret
     exact ⟨rfl, HO7.out⟩
    ·have dge : decide ((m : Int) ≤ (cnt f 8 : Int)) = true := decide_eq_true (by omega)
     have dgn : decide (m ≤ cnt f 8) = true := decide_eq_true (by omega)
     have dgl : decide ((cnt f 8 : Int) < (m : Int)) = false := decide_eq_false (by omega)
     have hln : ∀ ty, (Builtin.len_ #[74] ty #[.map (some b)]).run Try.prog wr = .ok (.int .i64 (cnt f 8 : Int)) wr := fun ty => HS.out.len ty
     have hL := clen_any HC.out
     have hlen : x.t.length = 0 := by have := congrArg (fun c => c.t.length) HA.out; simpa [CM.abs, ltA, hc] using this
     have hanl : x.an.length = 2 := by have := congrArg (fun c => c.an.length) HA.out; simpa [CM.abs, ltA, hc] using this
     rw [hlen, show ((0 : Nat) : Int) = 0 from rfl] at hL
     have HL : Hid _ := hL
     have HAN : Hid _ := canswers_any HC.out
     have HANL : Hid (x.an.length = 2) := hanl
     clear hL hlen hanl hc HS HA HC
     go_wp2_with fail
     refine Calls.mono HL.out ?_
     rintro e v5 ⟨rfl, hw⟩
     rw [hw]
     clear hw v5 HL
     go_wp2_with fail
     refine Calls.mono HAN.out ?_
     rintro e v6 ⟨rfl, own, oks, c6, g6⟩
     rw [HANL.out]
     have HO6 : Hid (Off (fun _ => False) w v6) := HO.out.trans g6.off (fun i hi d => HDO.out i hi d)
     clear own oks c6 g6 HAN HO
     go_wp2_with fail
     refine Calls.mono (awake_any v6) ?_
     rintro e v7 ⟨rfl, o7⟩
     have HO7 : Hid _ := HO6.out.trans o7 (fun _ _ h => h)
     clear o7 HO6
     go_wp2_with fail
     go_ret
     exact ⟨rfl, HO7.out⟩
   ·have hd : decide ((i : Int) < (len : Int)) = false := decide_eq_false (by omega)
    by_cases hc : cnt f 8 < m
    ·have dge : decide ((m : Int) ≤ (cnt f 8 : Int)) = false := decide_eq_false (by omega)
     have dgn : decide (m ≤ cnt f 8) = false := decide_eq_false (by omega)
     have dgl : decide ((cnt f 8 : Int) < (m : Int)) = true := decide_eq_true (by omega)
     have hln : ∀ ty, (Builtin.len_ #[74] ty #[.map (some b)]).run Try.prog wr = .ok (.int .i64 (cnt f 8 : Int)) wr := fun ty => HS.out.len ty
     have hL := clen_any HC.out
     have hlen : x.t.length = 2 := by have := congrArg (fun c => c.t.length) HA.out; simpa [CM.abs, ltA, hc] using this
     have hanl : x.an.length = 0 := by have := congrArg (fun c => c.an.length) HA.out; simpa [CM.abs, ltA, hc] using this
     rw [hlen, show ((2 : Nat) : Int) = 2 from rfl] at hL
     have HL : Hid _ := hL
     have HAN : Hid _ := canswers_any HC.out
     have HANL : Hid (x.an.length = 0) := hanl
     clear hL hlen hanl hc HS HA HC
     go_wp2_with fail
     refine Calls.mono HL.out ?_
     rintro e v5 ⟨rfl, hw⟩
     rw [hw]
     clear hw v5 HL
     go_wp2_with fail
     refine Calls.mono HAN.out ?_
     rintro e v6 ⟨rfl, own, oks, c6, g6⟩
     rw [HANL.out]
     have HO6 : Hid (Off (fun _ => False) w v6) := HO.out.trans g6.off (fun i hi d => HDO.out i hi d)
     clear own oks c6 g6 HAN HO
     go_wp2_with fail
     refine Calls.mono (awake_any v6) ?_
     rintro e v7 ⟨rfl, o7⟩
     have HO7 : Hid _ := HO6.out.trans o7 (fun _ _ h => h)
     clear o7 HO6
     go_wp2_with fail
     go_ret
     exact ⟨rfl, HO7.out⟩
    ·have dge : decide ((m : Int) ≤ (cnt f 8 : Int)) = true := decide_eq_true (by omega)
     have dgn : decide (m ≤ cnt f 8) = true := decide_eq_true (by omega)
     have dgl : decide ((cnt f 8 : Int) < (m : Int)) = false := decide_eq_false (by omega)
     have hln : ∀ ty, (Builtin.len_ #[74] ty #[.map (some b)]).run Try.prog wr = .ok (.int .i64 (cnt f 8 : Int)) wr := fun ty => HS.out.len ty
     have hL := clen_any HC.out
     have hlen : x.t.length = 0 := by have := congrArg (fun c => c.t.length) HA.out; simpa [CM.abs, ltA, hc] using this
     have hanl : x.an.length = 2 := by have := congrArg (fun c => c.an.length) HA.out; simpa [CM.abs, ltA, hc] using this
     rw [hlen, show ((0 : Nat) : Int) = 0 from rfl] at hL
     have HL : Hid _ := hL
     have HAN : Hid _ := canswers_any HC.out
     have HANL : Hid (x.an.length = 2) := hanl
     clear hL hlen hanl hc HS HA HC
     go_wp2_with fail
     refine Calls.mono HL.out ?_
     rintro e v5 ⟨rfl, hw⟩
     rw [hw]
     clear hw v5 HL
     go_wp2_with fail
     refine Calls.mono HAN.out ?_
     rintro e v6 ⟨rfl, own, oks, c6, g6⟩
     rw [HANL.out]
     have HO6 : Hid (Off (fun _ => False) w v6) := HO.out.trans g6.off (fun i hi d => HDO.out i hi d)
     clear own oks c6 g6 HAN HO
     go_wp2_with fail
     refine Calls.mono (awake_any v6) ?_
     rintro e v7 ⟨rfl, o7⟩
     have HO7 : Hid _ := HO6.out.trans o7 (fun _ _ h => h)
     clear o7 HO6
     go_wp2_with fail
     go_ret
     exact ⟨rfl, HO7.out⟩
end Go.Proofs.Ytmjmgdbhmbjmaaa
