/- Items of several texts. -/
import Derived.Test.YtmbphlkohlggfaaCEn20
import Derived.Test.YtmbphlkohlggfaaCQk18
namespace Go.Proofs.Ytmbphlkohlggfaa
set_option maxRecDepth 100000
open Go.RowKit
def encEs : List K → List Nat
 | [] => []
 | k :: l => encE (keyL k.key) k.f k.l ++ encEs l
def encGs : List GK → List Nat
 | [] => []
 | g :: l => encG (keyL g.key) g.f g.ds ++ encGs l
def encMs : List (Int × Int) → List Nat
 | [] => []
 | x :: l => encM x.1 x.2 ++ encMs l
def oNum (b : Bool) (n : Nat) : List Nat := cond b (numB n) []
def encMsg (s : Msk) (d : MD) : List Nat :=
 (numB (u64N d.k) ++ (numB (u64N d.fr) ++ numB (u64N d.tn))) ++ (oNum s.op (zig d.op) ++ (oNum s.fo (u64N d.fo) ++ (cond s.key (numB (keyL d.key).length ++ keyL d.key) [] ++ (oNum s.bk (u64N d.bk) ++ (cond s.es (numB d.es.length ++ encEs d.es) [] ++ (cond s.gs (numB d.gs.length ++ encGs d.gs) [] ++ cond s.ms (numB d.ms.length ++ encMs d.ms) []))))))
theorem wrE_encS {most : Nat} {st : Option (List Nat)} (h : (st.getD []).length ≤ most) (key : ByteArray) (f : Nat → Int) (l : List A) : wrE most st key f l = putS most st (encE (keyL key) f l) := by
 unfold wrE wrS
 rw [wrL_enc (put_le (wrV_le (put_le h _) f 8) _), wrV_enc (put_le h _), put_put, put_put, put_put]
 unfold encE
 simp only [List.append_assoc]
theorem wrG_encS {most : Nat} {st : Option (List Nat)} (h : (st.getD []).length ≤ most) (key : ByteArray) (f : Nat → Int) (ds : List (Int × Int)) : wrG most st key f ds = putS most st (encG (keyL key) f ds) := by
 unfold wrG
 rw [wrDs_enc (put_le (wrV_le (put_le h _) f 8) _), wrV_enc (put_le h _), put_put, put_put, put_put]
 unfold encG
 simp only [List.append_assoc]
theorem wrEs_enc {most : Nat} : ∀ {st : Option (List Nat)}, (st.getD []).length ≤ most → ∀ es, wrEs most st es = putS most st (encEs es)
 | _, h, [] => (put_none h).symm
 | st, h, k :: l => by
  show wrEs most (wrE most st k.key k.f k.l) l = _
  rw [wrEs_enc (wrE_le h _ _ _) l, wrE_encS h, put_put]
  rfl
theorem wrGs_enc {most : Nat} : ∀ {st : Option (List Nat)}, (st.getD []).length ≤ most → ∀ gs, wrGs most st gs = putS most st (encGs gs)
 | _, h, [] => (put_none h).symm
 | st, h, k :: l => by
  show wrGs most (wrG most st k.key k.f k.ds) l = _
  rw [wrGs_enc (wrG_le h _ _ _) l, wrG_encS h, put_put]
  rfl
theorem wrMs_enc {most : Nat} : ∀ {st : Option (List Nat)}, (st.getD []).length ≤ most → ∀ ms, wrMs most st ms = putS most st (encMs ms)
 | _, h, [] => (put_none h).symm
 | st, h, x :: l => by
  show wrMs most (wrM most st x) l = _
  rw [wrMs_enc (wrM_le h _) l]
  have e : encMs (x :: l) = encM x.1 x.2 ++ encMs l := rfl
  unfold wrM
  rw [put_put, put_put, e]
  unfold encM
  simp only [List.append_assoc]
theorem oNum_put {most : Nat} {x : Option (List Nat)} (h : (x.getD []).length ≤ most) (b : Bool) (n : Nat) : cond b (putS most x (numB n)) x = putS most x (oNum b n) := by
 cases b
 ·exact (put_none h).symm
 ·rfl
theorem cond_put {most : Nat} {x : Option (List Nat)} (h : (x.getD []).length ≤ most) (b : Bool) {y : Option (List Nat)} {l : List Nat} (hy : y = putS most x l) : cond b y x = putS most x (cond b l []) := by
 cases b
 ·exact (put_none h).symm
 ·exact hy
theorem wrMsg_enc (most : Nat) (s : Msk) (d : MD) : wrMsg most (some []) s d = putS most (some []) (encMsg s d) := by
 have h0 : ((some [] : Option (List Nat)).getD []).length ≤ most := by simp
 have e3 : wr3 most (some []) d = putS most (some []) (numB (u64N d.k) ++ (numB (u64N d.fr) ++ numB (u64N d.tn))) := by
  unfold wr3
  rw [put_put, put_put]
 unfold wrMsg
 rw [e3]
 have l3 := put_le h0 (numB (u64N d.k) ++ (numB (u64N d.fr) ++ numB (u64N d.tn)))
 generalize putS most (some []) (numB (u64N d.k) ++ (numB (u64N d.fr) ++ numB (u64N d.tn))) = x3 at l3 e3
 have e4 : wrOp most s.op d x3 = putS most x3 (oNum s.op (zig d.op)) := oNum_put l3 _ _
 have e5 : ∀ x : Option (List Nat), (x.getD []).length ≤ most → wrFo most s.fo d x = putS most x (oNum s.fo (u64N d.fo)) := fun x h => oNum_put h _ _
 have e6 : ∀ x : Option (List Nat), (x.getD []).length ≤ most → wrKey most s.key d x = putS most x (cond s.key (numB (keyL d.key).length ++ keyL d.key) []) := fun x h => cond_put h _ rfl
 have e7 : ∀ x : Option (List Nat), (x.getD []).length ≤ most → wrBk most s.bk d x = putS most x (oNum s.bk (u64N d.bk)) := fun x h => oNum_put h _ _
 have e8 : ∀ x : Option (List Nat), (x.getD []).length ≤ most → wrES most s.es d x = putS most x (cond s.es (numB d.es.length ++ encEs d.es) []) := fun x h => cond_put h _ (by rw [wrEs_enc (put_le h _), put_put])
 have e9 : ∀ x : Option (List Nat), (x.getD []).length ≤ most → wrGS most s.gs d x = putS most x (cond s.gs (numB d.gs.length ++ encGs d.gs) []) := fun x h => cond_put h _ (by rw [wrGs_enc (put_le h _), put_put])
 have e10 : ∀ x : Option (List Nat), (x.getD []).length ≤ most → wrMS most s.ms d x = putS most x (cond s.ms (numB d.ms.length ++ encMs d.ms) []) := fun x h => cond_put h _ (by rw [wrMs_enc (put_le h _), put_put])
 rw [e4, e5 _ (put_le l3 _), put_put, e6 _ (put_le l3 _), put_put, e7 _ (put_le l3 _), put_put, e8 _ (put_le l3 _), put_put, e9 _ (put_le l3 _), put_put, e10 _ (put_le l3 _), put_put, ← e3]
 unfold wr3
 rw [put_put, put_put, put_put]
 unfold encMsg
 simp only [List.append_assoc]
theorem bkE {key : ByteArray} {f : Nat → Int} {l : List A} (hm : (keyB key && mayS f l) = true) (hl : ∀ x ∈ l, Rng x) (r : List Nat) (s : RS) (hs : s = (encE (keyL key) f l ++ r, 0)) :
  reB nodeP s = true ∧ reKey nodeP s = key ∧ (∀ j, j < 8 → reF nodeP s j = f j) ∧ reL nodeP s = l ∧ reS s = (r, 0) := by
 have hk := keyL_len key
 obtain ⟨hks, hr⟩ := may_rng hm
 rw [Bool.and_eq_true] at hm
 have hmp := may_iff.1 hm.2
 have es : s = (numB (keyL key).length ++ (keyL key ++ (encV f 8 ++ (numB l.length ++ (encL l ++ r)))), 0) := by rw [hs]; simp [encE, List.append_assoc]
 have ht : textS 32 s = (keyL key, (encV f 8 ++ (numB l.length ++ (encL l ++ r)), 0)) := by rw [es]; exact bk_text _ _ (by omega) (by omega)
 have hK : reK s = key := by unfold reK; rw [ht]; exact strOf_key key
 have hT : reT s = (encV f 8 ++ (numB l.length ++ (encL l ++ r)), 0) := by unfold reT; rw [ht]
 have hv : rdV (reT s) 8 = (numB l.length ++ (encL l ++ r), 0) := by rw [hT]; exact bk_vec hr 8 (by omega) _
 have hF : ∀ j, j < 8 → rdF (reT s) j = f j := fun j hj => by rw [hT]; exact bk_vecF hr hj _
 have hB : readB (reT s) = true := by
  unfold readB
  rw [hv, mayB_congr hF]
  simpa [mayB] using hmp.seen
 have hR : readF (reT s) = rdF (reT s) := by unfold readF; rw [if_pos hB]
 have hc : countS 16 (rdV (reT s) 8) = (l.length, (encL l ++ r, 0)) := by rw [hv]; exact bk_count (by have := hmp.few; omega) _ hmp.few
 have hd : ∀ x ∈ l, x.data.length ≤ 200 := fun x hx => by
  have := (hmp.cov x hx).2
  unfold okData at this
  split at this <;> (have := of_decide_eq_true this; omega)
 obtain ⟨l1, l2⟩ := bk_list hl hd r
 have hV : srV nodeP (reT s) = l := by unfold srV; rw [hc]; exact l2
 have hS : srS (reT s) = (r, 0) := by unfold srS; rw [hc]; exact l1
 have h3 : mayS (readF (reT s)) (srV nodeP (reT s)) = true := by rw [hR, hV, mayS_congr hF]; exact hm.2
 obtain ⟨y1, y2, y3⟩ := sr_yes (nd := nodeP) hB (by rw [hS]; rfl) h3
 have e : reB nodeP s = true := by
  unfold reB
  rw [y1, hK, ← y2, ← y3, h3, hm.1]
  rfl
 obtain ⟨z1, z2, z3⟩ := re_yes e
 refine ⟨e, by rw [← z1]; exact hK, fun j hj => ?_, ?_, ?_⟩
 ·rw [← z2, ← y2, hR]
  exact hF j hj
 ·rw [← z3, ← y3]
  exact hV
 ·unfold reS
  exact hS
theorem bkG {key : ByteArray} {f : Nat → Int} {ds : List (Int × Int)} (hm : mayD ⟨key, f, ds⟩ = true) (r : List Nat) (s : RS) (hs : s = (encG (keyL key) f ds ++ r, 0)) :
  drB nodeP s = true ∧ drKey nodeP s = key ∧ (∀ j, j < 8 → drF nodeP s j = f j) ∧ drL nodeP s = ds ∧ drS s = (r, 0) := by
 have hkl := keyL_len key
 obtain ⟨hks, hr, hl⟩ := mayD_rng hm
 have hm2 : (keyB key && (mayB f && (decide (ds.length ≤ 16) && okD f none ds))) = true := hm
 simp only [Bool.and_eq_true, decide_eq_true_eq] at hm2
 obtain ⟨m1, m2, m3, m4⟩ := hm2
 have hE : s = (numB (keyL key).length ++ (keyL key ++ (encV f 8 ++ (numB ds.length ++ (encDs ds ++ r)))), 0) := by rw [hs]; unfold encG; simp only [List.append_assoc]
 have ht := bk_text (keyL key) (encV f 8 ++ (numB ds.length ++ (encDs ds ++ r))) (by omega) (most := 32) (by omega)
 have eT : drT s = (encV f 8 ++ (numB ds.length ++ (encDs ds ++ r)), 0) := by unfold drT; rw [hE, ht]
 have eK : drK s = key := by unfold drK; rw [hE, ht]; exact strOf_key key
 have hv := bk_vec hr 8 (by omega) (numB ds.length ++ (encDs ds ++ r))
 have hF : ∀ j, j < 8 → rdF (encV f 8 ++ (numB ds.length ++ (encDs ds ++ r)), 0) j = f j := fun j hj => bk_vecF hr hj _
 have hrb : readB (encV f 8 ++ (numB ds.length ++ (encDs ds ++ r)), 0) = true := by
  unfold readB
  rw [hv, mayB_congr hF, m2]
  rfl
 have hc := bk_count (n := ds.length) (by omega) (encDs ds ++ r) m3
 have hd := bk_dots hl r
 have eS : drS s = (r, 0) := by
  unfold drS
  rw [eT, hv, hc]
  exact hd.1
 have eD : drD nodeP s = ds := by
  unfold drD
  rw [eT, hv, hc]
  exact hd.2
 have e : readF (encV f 8 ++ (numB ds.length ++ (encDs ds ++ r)), 0) = rdF (encV f 8 ++ (numB ds.length ++ (encDs ds ++ r)), 0) := by unfold readF; rw [hrb]; rfl
 have hb : drB nodeP s = true := by
  unfold drB
  rw [eS, eD, eK, eT, hrb, e, mayD_congr hF, hm]
  rfl
 obtain ⟨z1, z2, z3⟩ := dr_yes hb
 refine ⟨hb, by rw [← z1]; exact eK, fun j hj => ?_, by rw [← z3]; exact eD, eS⟩
 rw [← z2, eT, e]
 exact hF j hj
theorem i64_u64 {n : Int} (h0 : -9223372036854775808 ≤ n) (h1 : n ≤ 9223372036854775807) : i64w (u64N n) = n := by
 rw [i64w_eq _ (u64N_lt n)]
 unfold u64N
 split <;> omega
theorem bkM {x : Int × Int} (hm : mbB x.1 x.2 = true) (r : List Nat) (s : RS) (hs : s = (encM x.1 x.2 ++ r, 0)) : mrB s = true ∧ mrX s = x.1 ∧ mrY s = x.2 ∧ mrS s = (r, 0) := by
 have hr := mb_of hm
 have a : numS s = (u64N x.1, (numB (zig x.2) ++ r, 0)) := by
  rw [hs]
  unfold encM
  rw [List.append_assoc]
  exact bk_num (u64N_lt x.1) _
 have b := bk_int (i := x.2) (by omega) (by omega) r
 have c := i64_u64 (n := x.1) (by omega) (by omega)
 have hS : mrS s = (r, 0) := by simp only [mrS, a, b]
 have hb : mrB s = true := by
  simp only [mrB, hS, a, b, c, hm]
  rfl
 refine ⟨hb, ?_, ?_, hS⟩
 ·simp only [mrX, hb, if_true, a, c]
 ·simp only [mrY, hb, if_true, a, b]
def rdEs : Nat → RS → Option (List K × RS)
 | 0, s => some ([], s)
 | n + 1, s => if reB nodeP s = true then (rdEs n (reS s)).map (fun p => (⟨reKey nodeP s, reF nodeP s, reL nodeP s⟩ :: p.1, p.2)) else none
def rdGs : Nat → RS → Option (List GK × RS)
 | 0, s => some ([], s)
 | n + 1, s => if drB nodeP s = true then (rdGs n (drS s)).map (fun p => (⟨drKey nodeP s, drF nodeP s, drL nodeP s⟩ :: p.1, p.2)) else none
def rdMs : Nat → RS → Option (List (Int × Int) × RS)
 | 0, s => some ([], s)
 | n + 1, s => if mrB s = true then (rdMs n (mrS s)).map (fun p => ((mrX s, mrY s) :: p.1, p.2)) else none
def rInt (b : Bool) (s : RS) : Int × RS := cond b (intS s) (0, s)
def rNum (b : Bool) (s : RS) : Int × RS := cond b (i64w (numS s).1, (numS s).2) (0, s)
def rKey (b : Bool) (s : RS) : ByteArray × RS := cond b (strOf (textS 32 s).1, (textS 32 s).2) (⟨#[]⟩, s)
def rES (b : Bool) (s : RS) : Option (List K × RS) := cond b (rdEs (countS 256 s).1 (countS 256 s).2) (some ([], s))
def rGS (b : Bool) (s : RS) : Option (List GK × RS) := cond b (rdGs (countS 256 s).1 (countS 256 s).2) (some ([], s))
def rMS (b : Bool) (s : RS) : Option (List (Int × Int) × RS) := cond b (rdMs (countS 8 s).1 (countS 8 s).2) (some ([], s))
structure HdR where
 k : Int
 fr : Int
 tn : Int
 op : Int
 fo : Int
 key : ByteArray
 bk : Int
def hdS (m : Int → Msk) (s : RS) : HdR × RS :=
 let k := i64w (numS s).1
 let a := (numS s).2
 let b := (numS a).2
 let c := rInt (m k).op (numS b).2
 let d := rNum (m k).fo c.2
 let e := rKey (m k).key d.2
 let f := rNum (m k).bk e.2
 (⟨k, i64w (numS a).1, i64w (numS b).1, c.1, d.1, e.1, f.1⟩, f.2)
def listsOf (q : Msk) (s : RS) : Option ((List K × List GK × List (Int × Int)) × RS) :=
 (rES q.es s).bind fun p => (rGS q.gs p.2).bind fun q1 => (rMS q.ms q1.2).map fun r => ((p.1, q1.1, r.1), r.2)
def rdMsg (s : RS) : Option (MD × RS) :=
 (listsOf (msk (hdS msk s).1.k) (hdS msk s).2).map fun p => (⟨(hdS msk s).1.k, (hdS msk s).1.fr, (hdS msk s).1.tn, (hdS msk s).1.op, (hdS msk s).1.fo, (hdS msk s).1.key, (hdS msk s).1.bk, p.1.1, p.1.2.1, p.1.2.2⟩, p.2)
theorem rdEs_succ (n : Nat) (s : RS) : rdEs (n + 1) s = if reB nodeP s = true then (rdEs n (reS s)).map (fun p => (⟨reKey nodeP s, reF nodeP s, reL nodeP s⟩ :: p.1, p.2)) else none := rfl
theorem rdGs_succ (n : Nat) (s : RS) : rdGs (n + 1) s = if drB nodeP s = true then (rdGs n (drS s)).map (fun p => (⟨drKey nodeP s, drF nodeP s, drL nodeP s⟩ :: p.1, p.2)) else none := rfl
theorem rdMs_succ (n : Nat) (s : RS) : rdMs (n + 1) s = if mrB s = true then (rdMs n (mrS s)).map (fun p => ((mrX s, mrY s) :: p.1, p.2)) else none := rfl
theorem v8_of {f g : Nat → Int} (h : ∀ j, j < 8 → f j = g j) : v8 f = v8 g := by
 unfold v8
 rw [h 0 (by omega), h 1 (by omega), h 2 (by omega), h 3 (by omega), h 4 (by omega), h 5 (by omega), h 6 (by omega), h 7 (by omega)]
theorem bkEs : ∀ (es : List K), (∀ k ∈ es, mayK k = true ∧ ∀ x ∈ k.l, Rng x) → ∀ r, ∃ ks, rdEs es.length (encEs es ++ r, 0) = some (ks, (r, 0)) ∧ ks.map nK = es.map nK := by
 intro es
 induction es with
 | nil => exact fun _ r => ⟨[], rfl, rfl⟩
 | cons k es ih =>
  intro h r
  obtain ⟨h1, h2⟩ := h k (by simp)
  obtain ⟨ks, e1, e2⟩ := ih (fun x hx => h x (by simp [hx])) r
  obtain ⟨s, hs⟩ : ∃ s : RS, s = (encE (keyL k.key) k.f k.l ++ (encEs es ++ r), 0) := ⟨_, rfl⟩
  have hs2 : ((encEs (k :: es) ++ r, 0) : RS) = s := by
   have e : encEs (k :: es) = encE (keyL k.key) k.f k.l ++ encEs es := rfl
   rw [hs, e, List.append_assoc]
  obtain ⟨b1, b2, b3, b4, b5⟩ := bkE (key := k.key) (f := k.f) (l := k.l) h1 h2 (encEs es ++ r) s hs
  refine ⟨⟨reKey nodeP s, reF nodeP s, reL nodeP s⟩ :: ks, ?_, ?_⟩
  ·rw [hs2, List.length_cons, rdEs_succ, if_pos b1, b5, e1, Option.map_some]
  ·have e : nK ⟨reKey nodeP s, reF nodeP s, reL nodeP s⟩ = nK k := by
    unfold nK
    simp only
    rw [b2, b4, v8_of b3]
   rw [List.map_cons, List.map_cons, e2, e]
theorem bkGs : ∀ (gs : List GK), (∀ g ∈ gs, mayD g = true) → ∀ r, ∃ ks, rdGs gs.length (encGs gs ++ r, 0) = some (ks, (r, 0)) ∧ ks.map nGK = gs.map nGK := by
 intro gs
 induction gs with
 | nil => exact fun _ r => ⟨[], rfl, rfl⟩
 | cons k gs ih =>
  intro h r
  have h1 := h k (by simp)
  obtain ⟨ks, e1, e2⟩ := ih (fun x hx => h x (by simp [hx])) r
  obtain ⟨s, hs⟩ : ∃ s : RS, s = (encG (keyL k.key) k.f k.ds ++ (encGs gs ++ r), 0) := ⟨_, rfl⟩
  have hs2 : ((encGs (k :: gs) ++ r, 0) : RS) = s := by
   have e : encGs (k :: gs) = encG (keyL k.key) k.f k.ds ++ encGs gs := rfl
   rw [hs, e, List.append_assoc]
  obtain ⟨b1, b2, b3, b4, b5⟩ := bkG (key := k.key) (f := k.f) (ds := k.ds) h1 (encGs gs ++ r) s hs
  refine ⟨⟨drKey nodeP s, drF nodeP s, drL nodeP s⟩ :: ks, ?_, ?_⟩
  ·rw [hs2, List.length_cons, rdGs_succ, if_pos b1, b5, e1, Option.map_some]
  ·have e : nGK ⟨drKey nodeP s, drF nodeP s, drL nodeP s⟩ = nGK k := by
    unfold nGK
    simp only
    rw [b2, b4, v8_of b3]
   rw [List.map_cons, List.map_cons, e2, e]
theorem bkMs : ∀ (ms : List (Int × Int)), (∀ x ∈ ms, mbB x.1 x.2 = true) → ∀ r, rdMs ms.length (encMs ms ++ r, 0) = some (ms, (r, 0))
 | [], _, r => rfl
 | x :: ms, h, r => by
  have e1 := bkMs ms (fun y hy => h y (by simp [hy])) r
  obtain ⟨s, hs⟩ : ∃ s : RS, s = (encM x.1 x.2 ++ (encMs ms ++ r), 0) := ⟨_, rfl⟩
  have hs2 : ((encMs (x :: ms) ++ r, 0) : RS) = s := by
   have e : encMs (x :: ms) = encM x.1 x.2 ++ encMs ms := rfl
   rw [hs, e, List.append_assoc]
  obtain ⟨b1, b2, b3, b4⟩ := bkM (x := x) (h x (by simp)) (encMs ms ++ r) s hs
  rw [hs2, List.length_cons, rdMs_succ, if_pos b1, b4, e1, b2, b3, Option.map_some]
def nfD (d : MD) : NF := ⟨d.k, d.fr, d.tn, d.op, d.fo, d.key, d.bk, d.es.map nK, d.gs.map nGK, d.ms⟩
theorem nf_md (X : Mg) (es : List E) (gs : List G) (ms : List (Int × Int)) : nfP X es gs ms = nfD (mdOf X es gs ms) := by
 unfold nfP nfD mdOf
 simp only [List.map_map]
 rfl
theorem ndB_rng {n : Int} (h : ndB n = true) : 0 ≤ n ∧ n < 8 := by simpa [ndB] using h
structure Bare (d : MD) : Prop where
 op : (msk d.k).op = false → d.op = 0
 fo : (msk d.k).fo = false → d.fo = 0
 key : (msk d.k).key = false → d.key = ⟨#[]⟩
 bk : (msk d.k).bk = false → d.bk = 0
 es : (msk d.k).es = false → d.es = []
 gs : (msk d.k).gs = false → d.gs = []
 ms : (msk d.k).ms = false → d.ms = []
theorem bare_mdM (m : Mg) (es : List E) (gs : List G) (ms : List (Int × Int)) : Bare (mdM m es gs ms) := by
 have hk : (mdM m es gs ms).k = m.k := rfl
 refine ⟨fun h => ?_, fun h => ?_, fun h => ?_, fun h => ?_, fun h => ?_, fun h => ?_, fun h => ?_⟩
 all_goals
  rw [hk] at h
  simp only [mdM, mdOf, plM]
  rw [h]
  rfl
theorem rInt_back {b : Bool} {i : Int} (h0 : -9223372036854775808 ≤ i) (h1 : i ≤ 9223372036854775807) (hb : b = false → i = 0) (r : List Nat) : rInt b (oNum b (zig i) ++ r, 0) = (i, (r, 0)) := by
 cases b
 ·rw [hb rfl]
  rfl
 ·exact bk_int h0 h1 r
theorem rNum_back {b : Bool} {i : Int} (h0 : -9223372036854775808 ≤ i) (h1 : i ≤ 9223372036854775807) (hb : b = false → i = 0) (r : List Nat) : rNum b (oNum b (u64N i) ++ r, 0) = (i, (r, 0)) := by
 cases b
 ·rw [hb rfl]
  rfl
 ·show (i64w (numS (numB (u64N i) ++ r, 0)).1, (numS (numB (u64N i) ++ r, 0)).2) = _
  rw [bk_num (u64N_lt i), i64_u64 h0 h1]
theorem rKey_back {b : Bool} {key : ByteArray} (h : key.size ≤ 32) (hb : b = false → key = ⟨#[]⟩) (r : List Nat) : rKey b (cond b (numB (keyL key).length ++ keyL key) [] ++ r, 0) = (key, (r, 0)) := by
 have hk := keyL_len key
 cases b
 ·rw [hb rfl]
  rfl
 ·show (strOf (textS 32 (numB (keyL key).length ++ keyL key ++ r, 0)).1, (textS 32 (numB (keyL key).length ++ keyL key ++ r, 0)).2) = _
  rw [List.append_assoc, bk_text _ _ (by omega) (by omega), strOf_key]
theorem may_keysz {d : MD} (h : MayM d) : d.key.size ≤ 32 := by
 have h2 := h.key
 cases hd : decide (d.k = 4)
 ·rw [hd] at h2
  simpa using h2
 ·rw [hd] at h2
  simp [keyB] at h2
  omega
theorem bkMsg {d : MD} (hm : MayM d) (hb : Bare d) (hl : ∀ k ∈ d.es, ∀ x ∈ k.l, Rng x) (r : List Nat) : ∃ d', rdMsg (encMsg (msk d.k) d ++ r, 0) = some (d', (r, 0)) ∧ nfD d' = nfD d ∧ d'.k = d.k := by
 have k0 := hm.k
 have f0 := ndB_rng hm.fr
 have t0 := ndB_rng hm.tn
 have o0 := hm.op
 have fo0 := ndB_rng hm.fo
 have b0 := hm.bk
 obtain ⟨s, hs⟩ : ∃ s, s = msk d.k := ⟨_, rfl⟩
 rw [← hs]
 obtain ⟨L, hL⟩ : ∃ L, L = cond s.es (numB d.es.length ++ encEs d.es) [] ++ (cond s.gs (numB d.gs.length ++ encGs d.gs) [] ++ (cond s.ms (numB d.ms.length ++ encMs d.ms) [] ++ r)) := ⟨_, rfl⟩
 have e : encMsg s d ++ r = numB (u64N d.k) ++ (numB (u64N d.fr) ++ (numB (u64N d.tn) ++ (oNum s.op (zig d.op) ++ (oNum s.fo (u64N d.fo) ++ (cond s.key (numB (keyL d.key).length ++ keyL d.key) [] ++ (oNum s.bk (u64N d.bk) ++ L)))))) := by
  rw [hL]
  unfold encMsg
  simp only [List.append_assoc]
 have n1 := bk_num (u64N_lt d.k) (numB (u64N d.fr) ++ (numB (u64N d.tn) ++ (oNum s.op (zig d.op) ++ (oNum s.fo (u64N d.fo) ++ (cond s.key (numB (keyL d.key).length ++ keyL d.key) [] ++ (oNum s.bk (u64N d.bk) ++ L))))))
 have n2 := bk_num (u64N_lt d.fr) (numB (u64N d.tn) ++ (oNum s.op (zig d.op) ++ (oNum s.fo (u64N d.fo) ++ (cond s.key (numB (keyL d.key).length ++ keyL d.key) [] ++ (oNum s.bk (u64N d.bk) ++ L)))))
 have n3 := bk_num (u64N_lt d.tn) (oNum s.op (zig d.op) ++ (oNum s.fo (u64N d.fo) ++ (cond s.key (numB (keyL d.key).length ++ keyL d.key) [] ++ (oNum s.bk (u64N d.bk) ++ L))))
 have hh : hdS msk (encMsg s d ++ r, 0) = (⟨d.k, d.fr, d.tn, d.op, d.fo, d.key, d.bk⟩, (L, 0)) := by
  unfold hdS
  rw [e]
  simp only [n1, n2, n3, i64_u64 (n := d.k) (by omega) (by omega), i64_u64 (n := d.fr) (by omega) (by omega), i64_u64 (n := d.tn) (by omega) (by omega), ← hs]
  rw [rInt_back (by omega) (by omega) (fun h => hb.op (by rw [← hs]; exact h))]
  simp only
  rw [rNum_back (by omega) (by omega) (fun h => hb.fo (by rw [← hs]; exact h))]
  simp only
  rw [rKey_back (may_keysz hm) (fun h => hb.key (by rw [← hs]; exact h))]
  simp only
  rw [rNum_back (by omega) (by omega) (fun h => hb.bk (by rw [← hs]; exact h))]
 have hi : d.es.length ≤ 256 := by
  have := hm.hi
  unfold eHi at this
  split at this <;> omega
 have h1 : ∃ ks, rES s.es (L, 0) = some (ks, (cond s.gs (numB d.gs.length ++ encGs d.gs) [] ++ (cond s.ms (numB d.ms.length ++ encMs d.ms) [] ++ r), 0)) ∧ ks.map nK = d.es.map nK := by
  rw [hL]
  cases h : s.es
  ·have := hb.es (by rw [← hs]; exact h)
   exact ⟨[], rfl, by rw [this]⟩
  ·obtain ⟨ks, e1, e2⟩ := bkEs d.es (fun k hk => ⟨hm.es k hk, hl k hk⟩) (cond s.gs (numB d.gs.length ++ encGs d.gs) [] ++ (cond s.ms (numB d.ms.length ++ encMs d.ms) [] ++ r))
   refine ⟨ks, ?_, e2⟩
   show rdEs (countS 256 (numB d.es.length ++ encEs d.es ++ _, 0)).1 (countS 256 (numB d.es.length ++ encEs d.es ++ _, 0)).2 = _
   rw [List.append_assoc, bk_count (by omega) _ hi]
   exact e1
 have h2 : ∃ ks, rGS s.gs (cond s.gs (numB d.gs.length ++ encGs d.gs) [] ++ (cond s.ms (numB d.ms.length ++ encMs d.ms) [] ++ r), 0) = some (ks, (cond s.ms (numB d.ms.length ++ encMs d.ms) [] ++ r, 0)) ∧ ks.map nGK = d.gs.map nGK := by
  cases h : s.gs
  ·have := hb.gs (by rw [← hs]; exact h)
   exact ⟨[], rfl, by rw [this]⟩
  ·obtain ⟨ks, e1, e2⟩ := bkGs d.gs hm.gs (cond s.ms (numB d.ms.length ++ encMs d.ms) [] ++ r)
   refine ⟨ks, ?_, e2⟩
   have hg := hm.gl
   show rdGs (countS 256 (numB d.gs.length ++ encGs d.gs ++ _, 0)).1 (countS 256 (numB d.gs.length ++ encGs d.gs ++ _, 0)).2 = _
   rw [List.append_assoc, bk_count (by omega) _ hg]
   exact e1
 have h3 : rMS s.ms (cond s.ms (numB d.ms.length ++ encMs d.ms) [] ++ r, 0) = some (d.ms, (r, 0)) := by
  cases h : s.ms
  ·have := hb.ms (by rw [← hs]; exact h)
   rw [this]
   rfl
  ·have e1 := bkMs d.ms hm.ms r
   have hg := hm.ml
   show rdMs (countS 8 (numB d.ms.length ++ encMs d.ms ++ _, 0)).1 (countS 8 (numB d.ms.length ++ encMs d.ms ++ _, 0)).2 = _
   rw [List.append_assoc, bk_count (by omega) _ hg]
   exact e1
 obtain ⟨ks, e1, e2⟩ := h1
 obtain ⟨js, e3, e4⟩ := h2
 refine ⟨⟨d.k, d.fr, d.tn, d.op, d.fo, d.key, d.bk, ks, js, d.ms⟩, ?_, ?_, rfl⟩
 ·unfold rdMsg listsOf
  rw [hh]
  simp only
  rw [← hs, e1]
  simp only [Option.bind_some]
  rw [e3]
  simp only [Option.bind_some]
  rw [h3]
  rfl
 ·unfold nfD
  simp only
  rw [e2, e4]
theorem enc_inj {d1 d2 : MD} (h1 : MayM d1) (b1 : Bare d1) (l1 : ∀ k ∈ d1.es, ∀ x ∈ k.l, Rng x) (h2 : MayM d2) (b2 : Bare d2) (l2 : ∀ k ∈ d2.es, ∀ x ∈ k.l, Rng x) (h : encMsg (msk d1.k) d1 = encMsg (msk d2.k) d2) : nfD d1 = nfD d2 := by
 obtain ⟨x1, e1, f1, -⟩ := bkMsg h1 b1 l1 []
 obtain ⟨x2, e2, f2, -⟩ := bkMsg h2 b2 l2 []
 rw [h, e2] at e1
 simp only [Option.some.injEq, Prod.mk.injEq, and_true] at e1
 rw [← f1, ← f2, e1]
theorem encV_congr {f g : Nat → Int} : ∀ n, (∀ j, j < n → f j = g j) → encV f n = encV g n
 | 0, _ => rfl
 | n + 1, h => by
  unfold encV
  rw [encV_congr n (fun j hj => h j (by omega)), h n (by omega)]
theorem v8_all {f g : Nat → Int} (h : v8 f = v8 g) : ∀ j, j < 8 → f j = g j := by
 have := v8_iff.2 h
 simpa [eqB] using this
theorem encEs_congr : ∀ {a b : List K}, a.map nK = b.map nK → encEs a = encEs b
 | [], [], _ => rfl
 | [], _ :: _, h => by simp at h
 | _ :: _, [], h => by simp at h
 | x :: a, y :: b, h => by
  rw [List.map_cons, List.map_cons, List.cons.injEq] at h
  obtain ⟨h1, h2⟩ := h
  unfold nK at h1
  simp only [Prod.mk.injEq] at h1
  obtain ⟨h3, h4, h5⟩ := h1
  have e1 : encEs (x :: a) = encE (keyL x.key) x.f x.l ++ encEs a := rfl
  have e2 : encEs (y :: b) = encE (keyL y.key) y.f y.l ++ encEs b := rfl
  rw [e1, e2, encEs_congr h2, h3, h5]
  unfold encE
  rw [encV_congr 8 (v8_all h4)]
theorem encGs_congr : ∀ {a b : List GK}, a.map nGK = b.map nGK → encGs a = encGs b
 | [], [], _ => rfl
 | [], _ :: _, h => by simp at h
 | _ :: _, [], h => by simp at h
 | x :: a, y :: b, h => by
  rw [List.map_cons, List.map_cons, List.cons.injEq] at h
  obtain ⟨h1, h2⟩ := h
  unfold nGK at h1
  simp only [Prod.mk.injEq] at h1
  obtain ⟨h3, h4, h5⟩ := h1
  have e1 : encGs (x :: a) = encG (keyL x.key) x.f x.ds ++ encGs a := rfl
  have e2 : encGs (y :: b) = encG (keyL y.key) y.f y.ds ++ encGs b := rfl
  rw [e1, e2, encGs_congr h2, h3, h5]
  unfold encG
  rw [encV_congr 8 (v8_all h4)]
theorem enc_congr {d1 d2 : MD} (h : nfD d1 = nfD d2) : encMsg (msk d1.k) d1 = encMsg (msk d2.k) d2 := by
 unfold nfD at h
 simp only [NF.mk.injEq] at h
 obtain ⟨h1, h2, h3, h4, h5, h6, h7, h8, h9, h10⟩ := h
 have l8 : d1.es.length = d2.es.length := by have := congrArg List.length h8; simpa using this
 have l9 : d1.gs.length = d2.gs.length := by have := congrArg List.length h9; simpa using this
 unfold encMsg
 rw [h1, h2, h3, h4, h5, h6, h7, h10, l8, l9, encEs_congr h8, encGs_congr h9]
end Go.Proofs.Ytmbphlkohlggfaa
