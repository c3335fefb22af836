/- Items of several texts. -/
import Derived.Test.YtmbphlkohlggfaaDXr20
namespace Go.Proofs.Ytmbphlkohlggfaa
set_option maxRecDepth 100000
open Go.RowKit
theorem rInt_t {b : Bool} {s : RS} (h : b = true) : rInt b s = intS s := by rw [h]; rfl
theorem rInt_f {b : Bool} {s : RS} (h : b = false) : rInt b s = (0, s) := by rw [h]; rfl
theorem rNum_t {b : Bool} {s : RS} (h : b = true) : rNum b s = (i64w (numS s).1, (numS s).2) := by rw [h]; rfl
theorem rNum_f {b : Bool} {s : RS} (h : b = false) : rNum b s = (0, s) := by rw [h]; rfl
theorem rKey_t {b : Bool} {s : RS} (h : b = true) : rKey b s = (strOf (textS 32 s).1, (textS 32 s).2) := by rw [h]; rfl
theorem rKey_f {b : Bool} {s : RS} (h : b = false) : rKey b s = (⟨#[]⟩, s) := by rw [h]; rfl
theorem opt3 {α β γ δ : Type} (A : Option (α × RS)) (B : RS → Option (β × RS)) (C : RS → Option (γ × RS)) (F : α → β → γ → δ) :
  ((A.bind fun p => (B p.2).bind fun q1 => (C q1.2).map fun r => ((p.1, q1.1, r.1), r.2)).map fun p => (F p.1.1 p.1.2.1 p.1.2.2, p.2)) = A.bind fun p => (B p.2).bind fun q => (C q.2).map fun r => (F p.1 q.1 r.1, r.2) := by
 cases A with
 | none => rfl
 | some p =>
  show ((B p.2).bind _).map _ = (B p.2).bind _
  cases B p.2 with
  | none => rfl
  | some q =>
   show ((C q.2).map _).map _ = (C q.2).map _
   cases C q.2 <;> rfl
theorem xread_any {D : Nat → Prop} {b : Nat} {s : RS} {w : World} (hR : Rdr 125 D b s w) :
  Calls Try.prog 58 #[.pointer (some ⟨b, 0, none⟩)] w fun e w' => RdR D b w.heap.size (rdMsg s) e w' ∧ Off (fun c => c = b) w w' := by
 obtain ⟨k, hk⟩ : ∃ k, k = i64w (numS s).1 := ⟨_, rfl⟩
 obtain ⟨a1, h1⟩ : ∃ a, a = (numS s).2 := ⟨_, rfl⟩
 obtain ⟨a2, h2⟩ : ∃ a, a = (numS a1).2 := ⟨_, rfl⟩
 obtain ⟨a3, h3⟩ : ∃ a, a = (numS a2).2 := ⟨_, rfl⟩
 obtain ⟨a4, h4⟩ : ∃ a, a = (rInt (msk k).op a3).2 := ⟨_, rfl⟩
 obtain ⟨a5, h5⟩ : ∃ a, a = (rNum (msk k).fo a4).2 := ⟨_, rfl⟩
 obtain ⟨a6, h6⟩ : ∃ a, a = (rKey (msk k).key a5).2 := ⟨_, rfl⟩
 obtain ⟨a7, h7⟩ : ∃ a, a = (rNum (msk k).bk a6).2 := ⟨_, rfl⟩
 refine xread_core hR (msk k).op (msk k).fo (msk k).key (msk k).bk (msk k).es (msk k).gs (msk k).ms k (i64w (numS a1).1) (i64w (numS a2).1) (rInt (msk k).op a3).1 (rNum (msk k).fo a4).1 (rNum (msk k).bk a6).1 (rKey (msk k).key a5).1 (textS 32 a5).1 a1 a2 a3 a4 a5 a6 a7 (rES (msk k).es a7) (fun a => rGS (msk k).gs a) (fun a => rMS (msk k).ms a) (rdMsg s)
  (fun W => xpartsOf_any k W) (fun W h => by rw [hk, h1]; exact readInt_any h) (fun W h => by rw [h2]; exact readInt_any h) (fun W h => by rw [h3]; exact readInt_any h)
  ⟨fun e W h => by rw [h4, rInt_t e]; exact rint_any h, fun e => by rw [h4, rInt_f e]; exact ⟨rfl, rfl⟩⟩ ⟨fun e W h => by rw [h5, rNum_t e]; exact readInt_any h, fun e => by rw [h5, rNum_f e]; exact ⟨rfl, rfl⟩⟩
  ⟨fun e W h => ?_, fun e => by rw [h6, rKey_f e]; exact ⟨rfl, rfl⟩⟩ (fun e => by rw [rKey_t e]) ⟨fun e W h => by rw [h7, rNum_t e]; exact readInt_any h, fun e => by rw [h7, rNum_f e]; exact ⟨rfl, rfl⟩⟩
  ⟨fun e W h => by rw [e]; exact readAllE_any h, fun e => by rw [e]; rfl⟩ ⟨fun e a W h => by rw [e]; exact readAllD_any h, fun e a => by rw [e]; rfl⟩ ⟨fun e a W h => by rw [e]; exact readAllM_any h, fun e a => by rw [e]; rfl⟩ ?_
 ·rw [h6, rKey_t e]
  refine (rtext_any h 32 (by decide) (by decide)).mono ?_
  rintro e1 w1 ⟨t, c, he, ho, -, hr, o⟩
  exact ⟨t, c, he, ho, hr, o⟩
 ·subst hk h1 h2 h3 h4 h5 h6 h7
  exact opt3 _ _ _ (fun es gs ms => (⟨_, _, _, _, _, _, _, es, gs, ms⟩ : MD))
def bareD (d : MD) : MD := ⟨d.k, d.fr, d.tn, cond (msk d.k).op d.op 0, cond (msk d.k).fo d.fo 0, cond (msk d.k).key d.key ⟨#[]⟩, cond (msk d.k).bk d.bk 0, cond (msk d.k).es d.es [], cond (msk d.k).gs d.gs [], cond (msk d.k).ms d.ms []⟩
theorem map_cond {α β : Type} (f : α → β) (b : Bool) (l : List α) : (cond b l []).map f = cond b (l.map f) [] := by cases b <;> rfl
theorem mdM_bare (X : Mg) (es : List E) (gs : List G) (ms : List (Int × Int)) : mdM X es gs ms = bareD (mdOf X es gs ms) := by
 unfold mdM mdOf bareD plM
 simp only [map_cond]
def DecOk (bs : List Nat) (d : MD) : Prop := rdMsg (bs, 0) = some (d, ([], 0)) ∧ MayM (bareD d)
theorem endS_zero {s : RS} : endS s = 0 ↔ s = ([], 0) := by
 obtain ⟨l, e⟩ := s
 unfold endS
 by_cases h : e = 0
 ·subst h
  by_cases hl : l = []
  ·simp [hl]
  ·simp [hl]
 ·simp [h]
structure DecR (bs : List Nat) (N : Nat) (e : Ending) (w' : World) : Prop where
 is : (60000 < bs.length ∧ e = .returned (.tuple #[.agg #[.int .i64 0, .int .i64 0, .int .i64 0, .int .i64 0, .int .i64 0, .string ⟨#[]⟩, .int .i64 0, .slice none 0 0, .slice none 0 0, .slice none 0 0], .int .i64 4])) ∨ (bs.length ≤ 60000 ∧ ∃ (X : Mg) (es : List E) (gs : List G) (ms : List (Int × Int)), e = .returned (.tuple #[(.agg #[.int .i64 X.k, .int .i64 X.fr, .int .i64 X.tn, .int .i64 X.op, .int .i64 X.fo, .string X.key, .int .i64 X.bk, .slice X.ea X.el X.ec, .slice X.da X.dl X.dc, .slice X.ma X.ml X.mc]), .int .i64 0]) ∧ DecOk bs (mdOf X es gs ms) ∧ ∀ v, Off (fun c => c < N) w' v → MsgAt v X es gs ms) ∨ (bs.length ≤ 60000 ∧ e = .returned (.tuple #[.agg #[.int .i64 0, .int .i64 0, .int .i64 0, .int .i64 0, .int .i64 0, .string ⟨#[]⟩, .int .i64 0, .slice none 0 0, .slice none 0 0, .slice none 0 0], .int .i64 3]) ∧ ∀ d, ¬ DecOk bs d)
set_option maxHeartbeats 4000000 in
theorem xdecode_any (t : Option Addr) (c : Nat) (bs : List Nat) (w : World) (hs : Src w t c bs) (hlt : ∀ x ∈ bs, x < 256) (hb : bs.length ≤ 140737488355328) :
  Calls Try.prog 18 #[.slice t bs.length c] w fun e w' => DecR bs w.heap.size e w' ∧ Off (fun _ => False) w w' := by
 have HS : Hid _ := hs
 have HLT : Hid (∀ x ∈ bs, x < 256) := hlt
 have HLN : Hid (bs.length ≤ 140737488355328) := hb
 clear hs hlt
 have C2 := Cel.new w 26 #[.int .i64 0, .int .i64 0, .int .i64 0, .int .i64 0, .int .i64 0, .string ⟨#[]⟩, .int .i64 0, .slice none 0 0, .slice none 0 0, .slice none 0 0]
 have O2 : Off (fun _ => False) w (w.alloc (.cells #[.int .i64 0, .int .i64 0, .int .i64 0, .int .i64 0, .int .i64 0, .string ⟨#[]⟩, .int .i64 0, .slice none 0 0, .slice none 0 0, .slice none 0 0] 26)) := (Off.refl _ w).alloc _
 go_enter Try.func18, Try.ntmps18
 go_upto_region 1 with fail
 generalize hv : w.alloc (.cells #[.int .i64 0, .int .i64 0, .int .i64 0, .int .i64 0, .int .i64 0, .string ⟨#[]⟩, .int .i64 0, .slice none 0 0, .slice none 0 0, .slice none 0 0] 26) = V at C2 O2 ⊢
 obtain ⟨q2, hq⟩ : ∃ q, q = w.heap.size := ⟨_, rfl⟩
 rw [← hq] at C2 ⊢
 have HQ : Hid (q2 = w.heap.size) := hq
 have HC2 : Hid _ := C2
 have HO2 : Hid (Off (fun _ => False) w V) := O2
 clear hv hq C2 O2
 by_cases hl : 60000 < bs.length
 ·have g1 : decide ((60000 : Int) < (bs.length : Int)) = true := decide_eq_true (by omega)
  obtain ⟨x0, x1, x2, x3, x4, x5, x6, x7, x8, x9⟩ := celw10 HC2.out
  have fz := HC2.out.free
  go_wp2_with fail
  refine bodyPost_ret (results_msg2 (x := (⟨0, 0, 0, 0, 0, ⟨#[]⟩, 0, none, 0, 0, none, 0, 0, none, 0, 0⟩ : Mg)) rfl rfl rfl (HC2.out.wrwAll (vs := mcs (⟨0, 0, 0, 0, 0, ⟨#[]⟩, 0, none, 0, 0, none, 0, 0, none, 0, 0⟩ : Mg)) rfl)) rfl ?_
  exact ⟨⟨.inl ⟨hl, rfl⟩⟩, off_wrw (g := q2) (us := mcs (⟨0, 0, 0, 0, 0, ⟨#[]⟩, 0, none, 0, 0, none, 0, 0, none, 0, 0⟩ : Mg)) HO2.out (.inr (by have := HQ.out; omega))⟩
 have HL6 : Hid (bs.length ≤ 60000) := by show _ ≤ _; omega
 have g1 : decide ((60000 : Int) < (bs.length : Int)) = false := decide_eq_false (by omega)
 go_wp2_with fail
 refine (newReader_any t c bs HLN.out HLT.out _ (HS.out.off HO2.out (fun _ _ _ h => h))).mono ?_
 rintro e w1 ⟨b, D, rfl, hbn, hDn, R1, o1⟩
 have HBN : Hid (V.heap.size ≤ b) := hbn
 have HDN : Hid (∀ c, D c → V.heap.size ≤ c) := hDn
 have HR1 : Hid _ := R1
 have HO1 : Hid _ := o1
 clear hbn hDn R1 o1 g1 hl hb
 go_wp2_with fail
 refine (xread_any HR1.out).mono ?_
 rintro e w2 ⟨hrd, o2⟩
 have HO3 : Hid (Off (fun _ => False) V w2) := HO1.out.trans o2 (fun c hc e => by have e : c = b := e; have := HBN.out; omega)
 have HOR : Hid (Off (fun c => c = b) w1 w2) := o2
 clear o2
 have HSV : Hid (q2 < V.heap.size) := HC2.out.lt
 obtain ⟨hrd⟩ := hrd
 rcases hrd with ⟨X, es, gs, ms, s', rfl, hR, R2, hat⟩ | ⟨X, rfl, hR⟩
 ·have HRD : Hid _ := hR
  have HAT : Hid (∀ v, Off (fun c => c < w1.heap.size) w2 v → MsgAt v X es gs ms) := hat
  have HR2 : Hid _ := R2
  clear hR hat R2
  go_upto_region 5 with fail
  have C5 := Cel.new w2 26 #[.int .i64 X.k, .int .i64 X.fr, .int .i64 X.tn, .int .i64 X.op, .int .i64 X.fo, .string X.key, .int .i64 X.bk, .slice X.ea X.el X.ec, .slice X.da X.dl X.dc, .slice X.ma X.ml X.mc]
  have O5 : Off (fun _ => False) w2 (w2.alloc (.cells #[.int .i64 X.k, .int .i64 X.fr, .int .i64 X.tn, .int .i64 X.op, .int .i64 X.fo, .string X.key, .int .i64 X.bk, .slice X.ea X.el X.ec, .slice X.da X.dl X.dc, .slice X.ma X.ml X.mc] 26)) := (Off.refl _ w2).alloc _
  generalize hv : w2.alloc (.cells #[.int .i64 X.k, .int .i64 X.fr, .int .i64 X.tn, .int .i64 X.op, .int .i64 X.fo, .string X.key, .int .i64 X.bk, .slice X.ea X.el X.ec, .slice X.da X.dl X.dc, .slice X.ma X.ml X.mc] 26) = V5 at C5 O5 ⊢
  generalize w2.heap.size = q5 at C5 ⊢
  clear hv
  have HO5 : Hid (Off (fun _ => False) w2 V5) := O5
  have HC5 : Hid _ := C5
  clear C5 O5
  have HR5 : Hid _ := HR2.out.off HO5.out (fun h => h) (fun _ _ _ h => h)
  have HMX : Hid (∀ v, Off (fun _ => False) V5 v → MsgAt v X es gs ms) := fun v o => HAT.out v ((HO5.out.trans o (fun _ _ h => h)).mono (fun _ _ h => h.elim))
  go_wp2_with fail
  refine (rend_any HR5.out).mono ?_
  rintro e w6 ⟨rfl, rfl⟩
  by_cases he : endS s' = 0
  case neg =>
   have e0 : (((endS s' : Nat) : Int) != 0) = true := by simp [he]
   have HEN : Hid (¬ endS s' = 0) := he
   clear he
   have HZF : Hid _ := HC2.out.off (HO3.out.trans HO5.out (fun _ _ h => h)) (fun h => h)
   obtain ⟨y0, y1, y2, y3, y4, y5, y6, y7, y8, y9⟩ := celw10 HZF.out
   have fz := HZF.out.free
   go_wp2_with fail
   refine bodyPost_ret (results_msg2 (x := (⟨0, 0, 0, 0, 0, ⟨#[]⟩, 0, none, 0, 0, none, 0, 0, none, 0, 0⟩ : Mg)) rfl rfl rfl (HZF.out.wrwAll (vs := mcs (⟨0, 0, 0, 0, 0, ⟨#[]⟩, 0, none, 0, 0, none, 0, 0, none, 0, 0⟩ : Mg)) rfl)) rfl ?_
   exact ⟨⟨.inr (.inr ⟨HL6.out, rfl, fun d hd => HEN.out (by have h1 := hd.1; rw [HRD.out] at h1; simp only [Option.some.injEq, Prod.mk.injEq] at h1; rw [endS_zero]; exact h1.2)⟩)⟩, off_wrw (g := q2) (us := mcs (⟨0, 0, 0, 0, 0, ⟨#[]⟩, 0, none, 0, 0, none, 0, 0, none, 0, 0⟩ : Mg)) (HO2.out.trans (HO3.out.trans HO5.out (fun _ _ h => h)) (fun _ _ h => h)) (.inr (by have := HQ.out; omega))⟩
  have e0 : (((endS s' : Nat) : Int) != 0) = false := by simp [he]
  have HEN : Hid (s' = ([], 0)) := endS_zero.1 he
  clear he
  obtain ⟨x0, x1, x2, x3, x4, x5, x6, x7, x8, x9⟩ := celw10 HC5.out
  go_wp2_with fail
  refine (xmay_any X es gs ms _ (HMX.out _ (Off.refl _ _))).mono ?_
  rintro e w7 ⟨⟨bb, rfl, hbb⟩, o7⟩
  clear x0 x1 x2 x3 x4 x5 x6 x7 x8 x9 e0
  have HO7 : Hid (Off (fun _ => False) V w7) := (HO3.out.trans HO5.out (fun _ _ h => h)).trans o7 (fun _ _ h => h)
  have HO75 : Hid (Off (fun _ => False) _ w7) := o7
  have HC7 : Hid _ := HC5.out.off o7 (fun h => h)
  have HBB : Hid (bb = true ↔ MayM (mdM X es gs ms)) := hbb
  clear o7 hbb
  cases bb with
  | false =>
   have HZF : Hid _ := HC2.out.off (HO7.out) (fun h => h)
   obtain ⟨y0, y1, y2, y3, y4, y5, y6, y7, y8, y9⟩ := celw10 HZF.out
   have fz := HZF.out.free
   go_wp2_with fail
   refine bodyPost_ret (results_msg2 (x := (⟨0, 0, 0, 0, 0, ⟨#[]⟩, 0, none, 0, 0, none, 0, 0, none, 0, 0⟩ : Mg)) rfl rfl rfl (HZF.out.wrwAll (vs := mcs (⟨0, 0, 0, 0, 0, ⟨#[]⟩, 0, none, 0, 0, none, 0, 0, none, 0, 0⟩ : Mg)) rfl)) rfl ?_
   exact ⟨⟨.inr (.inr ⟨HL6.out, rfl, fun d hd => by have h1 := hd.1; rw [HRD.out] at h1; simp only [Option.some.injEq, Prod.mk.injEq] at h1; have h2 := hd.2; rw [← h1.1, ← mdM_bare] at h2; exact absurd (HBB.out.2 h2) (by simp)⟩)⟩, off_wrw (g := q2) (us := mcs (⟨0, 0, 0, 0, 0, ⟨#[]⟩, 0, none, 0, 0, none, 0, 0, none, 0, 0⟩ : Mg)) (HO2.out.trans (HO7.out) (fun _ _ h => h)) (.inr (by have := HQ.out; omega))⟩
  | true =>
   obtain ⟨x0, x1, x2, x3, x4, x5, x6, x7, x8, x9⟩ := celw10 HC7.out
   have HZF : Hid _ := HC2.out.off HO7.out (fun h => h)
   obtain ⟨y0, y1, y2, y3, y4, y5, y6, y7, y8, y9⟩ := celw10 HZF.out
   have fz := HZF.out.free
   go_wp2_with fail
   refine bodyPost_ret (results_msg2 (x := X) rfl rfl rfl (HZF.out.wrwAll (vs := mcs X) rfl)) rfl ?_
   refine ⟨⟨.inr (.inl ⟨HL6.out, X, es, gs, ms, rfl, ⟨by rw [HRD.out, HEN.out], by rw [← mdM_bare]; exact HBB.out.1 (by simp)⟩, fun v o => ?_⟩)⟩, off_wrw (g := q2) (us := mcs X) (HO2.out.trans HO7.out (fun _ _ h => h)) (.inr (by have := HQ.out; omega))⟩
   have hO := off_wrw (D := fun c => c = q2) (g := q2) (us := mcs X) (o := 0) (Off.refl _ w7) (.inl rfl)
   refine HAT.out v (((((HO5.out.trans HO75.out (fun _ _ h => h)).mono (fun _ _ h => h.elim)).trans (hO.mono (E := fun c => c < w1.heap.size) (fun c _ h => by have h : c = q2 := h; have := HSV.out; have := HO1.out.size; show c < _; omega)) (fun _ _ h => h))).trans (o.mono (fun c _ h => by have h : c < w.heap.size := h; have := HO2.out.size; have := HO1.out.size; show c < _; omega)) (fun _ _ h => h))
 ·have HRD : Hid (rdMsg (bs, 0) = none) := hR
  clear hR
  go_upto_region 5 with fail
  have C5 := Cel.new w2 26 #[.int .i64 X.k, .int .i64 X.fr, .int .i64 X.tn, .int .i64 X.op, .int .i64 X.fo, .string X.key, .int .i64 X.bk, .slice X.ea X.el X.ec, .slice X.da X.dl X.dc, .slice X.ma X.ml X.mc]
  have O5 : Off (fun _ => False) w2 (w2.alloc (.cells #[.int .i64 X.k, .int .i64 X.fr, .int .i64 X.tn, .int .i64 X.op, .int .i64 X.fo, .string X.key, .int .i64 X.bk, .slice X.ea X.el X.ec, .slice X.da X.dl X.dc, .slice X.ma X.ml X.mc] 26)) := (Off.refl _ w2).alloc _
  generalize hv : w2.alloc (.cells #[.int .i64 X.k, .int .i64 X.fr, .int .i64 X.tn, .int .i64 X.op, .int .i64 X.fo, .string X.key, .int .i64 X.bk, .slice X.ea X.el X.ec, .slice X.da X.dl X.dc, .slice X.ma X.ml X.mc] 26) = V5 at C5 O5 ⊢
  generalize w2.heap.size = q5 at C5 ⊢
  clear hv
  have HO5 : Hid (Off (fun _ => False) w2 V5) := O5
  have HC5 : Hid _ := C5
  clear C5 O5
  have HZF : Hid _ := HC2.out.off (HO3.out.trans HO5.out (fun _ _ h => h)) (fun h => h)
  obtain ⟨y0, y1, y2, y3, y4, y5, y6, y7, y8, y9⟩ := celw10 HZF.out
  have fz := HZF.out.free
  go_wp2_with fail
  refine bodyPost_ret (results_msg2 (x := (⟨0, 0, 0, 0, 0, ⟨#[]⟩, 0, none, 0, 0, none, 0, 0, none, 0, 0⟩ : Mg)) rfl rfl rfl (HZF.out.wrwAll (vs := mcs (⟨0, 0, 0, 0, 0, ⟨#[]⟩, 0, none, 0, 0, none, 0, 0, none, 0, 0⟩ : Mg)) rfl)) rfl ?_
  exact ⟨⟨.inr (.inr ⟨HL6.out, rfl, fun d hd => by have h1 := hd.1; rw [HRD.out] at h1; cases h1⟩)⟩, off_wrw (g := q2) (us := mcs (⟨0, 0, 0, 0, 0, ⟨#[]⟩, 0, none, 0, 0, none, 0, 0, none, 0, 0⟩ : Mg)) (HO2.out.trans (HO3.out.trans HO5.out (fun _ _ h => h)) (fun _ _ h => h)) (.inr (by have := HQ.out; omega))⟩
end Go.Proofs.Ytmbphlkohlggfaa
