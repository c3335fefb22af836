/- Items of several texts. -/
import Derived.Test.YtmbphlkohlggfaaGreatAEn20
import Derived.Test.YtmbphlkohlggfaaGreatAQk18
namespace Go.Proofs.YtmbphlkohlggfaaGreat
set_option maxRecDepth 100000
open Go.RowKit
def encEs : List K → List Nat
 | [] => []
 | k :: l => encE (keyL k.key) k.f k.l ++ encEs l
def encGs : List GK → List Nat
 | [] => []
 | g :: l => encG (keyL g.key) g.f g.ds ++ encGs l
def encMs : List (Int × Int) → List Nat
 | [] => []
 | x :: l => encM x.1 x.2 ++ encMs l
def oNum (b : Bool) (n : Nat) : List Nat := cond b (numB n) []
def encMsg (s : Msk) (d : MD) : List Nat :=
 (numB (u64N d.k) ++ (numB (u64N d.fr) ++ numB (u64N d.tn))) ++ (oNum s.op (zig d.op) ++ (oNum s.fo (u64N d.fo) ++ (cond s.key (numB (keyL d.key).length ++ keyL d.key) [] ++ (oNum s.bk (u64N d.bk) ++ (cond s.es (numB d.es.length ++ encEs d.es) [] ++ (cond s.gs (numB d.gs.length ++ encGs d.gs) [] ++ cond s.ms (numB d.ms.length ++ encMs d.ms) []))))))
theorem wrE_encS {most : Nat} {st : Option (List Nat)} (h : (st.getD []).length ≤ most) (key : ByteArray) (f : Nat → Int) (l : List A) : wrE most st key f l = putS most st (encE (keyL key) f l) := by
 unfold wrE wrS
 rw [wrL_enc (put_le (wrV_le (put_le h _) f 8) _), wrV_enc (put_le h _), put_put, put_put, put_put]
 unfold encE
 simp only [List.append_assoc]
theorem wrG_encS {most : Nat} {st : Option (List Nat)} (h : (st.getD []).length ≤ most) (key : ByteArray) (f : Nat → Int) (ds : List (Int × Int)) : wrG most st key f ds = putS most st (encG (keyL key) f ds) := by
 unfold wrG
 rw [wrDs_enc (put_le (wrV_le (put_le h _) f 8) _), wrV_enc (put_le h _), put_put, put_put, put_put]
 unfold encG
 simp only [List.append_assoc]
theorem wrEs_enc {most : Nat} : ∀ {st : Option (List Nat)}, (st.getD []).length ≤ most → ∀ es, wrEs most st es = putS most st (encEs es)
 | _, h, [] => (put_none h).symm
 | st, h, k :: l => by
  show wrEs most (wrE most st k.key k.f k.l) l = _
  rw [wrEs_enc (wrE_le h _ _ _) l, wrE_encS h, put_put]
  rfl
theorem wrGs_enc {most : Nat} : ∀ {st : Option (List Nat)}, (st.getD []).length ≤ most → ∀ gs, wrGs most st gs = putS most st (encGs gs)
 | _, h, [] => (put_none h).symm
 | st, h, k :: l => by
  show wrGs most (wrG most st k.key k.f k.ds) l = _
  rw [wrGs_enc (wrG_le h _ _ _) l, wrG_encS h, put_put]
  rfl
theorem wrMs_enc {most : Nat} : ∀ {st : Option (List Nat)}, (st.getD []).length ≤ most → ∀ ms, wrMs most st ms = putS most st (encMs ms)
 | _, h, [] => (put_none h).symm
 | st, h, x :: l => by
  show wrMs most (wrM most st x) l = _
  rw [wrMs_enc (wrM_le h _) l]
  have e : encMs (x :: l) = encM x.1 x.2 ++ encMs l := rfl
  unfold wrM
  rw [put_put, put_put, e]
  unfold encM
  simp only [List.append_assoc]
theorem oNum_put {most : Nat} {x : Option (List Nat)} (h : (x.getD []).length ≤ most) (b : Bool) (n : Nat) : cond b (putS most x (numB n)) x = putS most x (oNum b n) := by
 cases b
 ·exact (put_none h).symm
 ·rfl
theorem cond_put {most : Nat} {x : Option (List Nat)} (h : (x.getD []).length ≤ most) (b : Bool) {y : Option (List Nat)} {l : List Nat} (hy : y = putS most x l) : cond b y x = putS most x (cond b l []) := by
 cases b
 ·exact (put_none h).symm
 ·exact hy
theorem wrMsg_enc (most : Nat) (s : Msk) (d : MD) : wrMsg most (some []) s d = putS most (some []) (encMsg s d) := by
 have h0 : ((some [] : Option (List Nat)).getD []).length ≤ most := by simp
 have e3 : wr3 most (some []) d = putS most (some []) (numB (u64N d.k) ++ (numB (u64N d.fr) ++ numB (u64N d.tn))) := by
  unfold wr3
  rw [put_put, put_put]
 unfold wrMsg
 rw [e3]
 have l3 := put_le h0 (numB (u64N d.k) ++ (numB (u64N d.fr) ++ numB (u64N d.tn)))
 generalize putS most (some []) (numB (u64N d.k) ++ (numB (u64N d.fr) ++ numB (u64N d.tn))) = x3 at l3 e3
 have e4 : wrOp most s.op d x3 = putS most x3 (oNum s.op (zig d.op)) := oNum_put l3 _ _
 have e5 : ∀ x : Option (List Nat), (x.getD []).length ≤ most → wrFo most s.fo d x = putS most x (oNum s.fo (u64N d.fo)) := fun x h => oNum_put h _ _
 have e6 : ∀ x : Option (List Nat), (x.getD []).length ≤ most → wrKey most s.key d x = putS most x (cond s.key (numB (keyL d.key).length ++ keyL d.key) []) := fun x h => cond_put h _ rfl
 have e7 : ∀ x : Option (List Nat), (x.getD []).length ≤ most → wrBk most s.bk d x = putS most x (oNum s.bk (u64N d.bk)) := fun x h => oNum_put h _ _
 have e8 : ∀ x : Option (List Nat), (x.getD []).length ≤ most → wrES most s.es d x = putS most x (cond s.es (numB d.es.length ++ encEs d.es) []) := fun x h => cond_put h _ (by rw [wrEs_enc (put_le h _), put_put])
 have e9 : ∀ x : Option (List Nat), (x.getD []).length ≤ most → wrGS most s.gs d x = putS most x (cond s.gs (numB d.gs.length ++ encGs d.gs) []) := fun x h => cond_put h _ (by rw [wrGs_enc (put_le h _), put_put])
 have e10 : ∀ x : Option (List Nat), (x.getD []).length ≤ most → wrMS most s.ms d x = putS most x (cond s.ms (numB d.ms.length ++ encMs d.ms) []) := fun x h => cond_put h _ (by rw [wrMs_enc (put_le h _), put_put])
 rw [e4, e5 _ (put_le l3 _), put_put, e6 _ (put_le l3 _), put_put, e7 _ (put_le l3 _), put_put, e8 _ (put_le l3 _), put_put, e9 _ (put_le l3 _), put_put, e10 _ (put_le l3 _), put_put, ← e3]
 unfold wr3
 rw [put_put, put_put, put_put]
 unfold encMsg
 simp only [List.append_assoc]
def rdEs : Nat → RS → Option (List K × RS)
 | 0, s => some ([], s)
 | n + 1, s => if reB nodeP s = true then (rdEs n (reS s)).map (fun p => (⟨reKey nodeP s, reF nodeP s, reL nodeP s⟩ :: p.1, p.2)) else none
def rdGs : Nat → RS → Option (List GK × RS)
 | 0, s => some ([], s)
 | n + 1, s => if drB nodeP s = true then (rdGs n (drS s)).map (fun p => (⟨drKey nodeP s, drF nodeP s, drL nodeP s⟩ :: p.1, p.2)) else none
def rdMs : Nat → RS → Option (List (Int × Int) × RS)
 | 0, s => some ([], s)
 | n + 1, s => if mrB s = true then (rdMs n (mrS s)).map (fun p => ((mrX s, mrY s) :: p.1, p.2)) else none
def rInt (b : Bool) (s : RS) : Int × RS := cond b (intS s) (0, s)
def rNum (b : Bool) (s : RS) : Int × RS := cond b (i64w (numS s).1, (numS s).2) (0, s)
def rKey (b : Bool) (s : RS) : ByteArray × RS := cond b (strOf (textS 32 s).1, (textS 32 s).2) (⟨#[]⟩, s)
def rES (b : Bool) (s : RS) : Option (List K × RS) := cond b (rdEs (countS 256 s).1 (countS 256 s).2) (some ([], s))
def rGS (b : Bool) (s : RS) : Option (List GK × RS) := cond b (rdGs (countS 256 s).1 (countS 256 s).2) (some ([], s))
def rMS (b : Bool) (s : RS) : Option (List (Int × Int) × RS) := cond b (rdMs (countS 8 s).1 (countS 8 s).2) (some ([], s))
structure HdR where
 k : Int
 fr : Int
 tn : Int
 op : Int
 fo : Int
 key : ByteArray
 bk : Int
def hdS (m : Int → Msk) (s : RS) : HdR × RS :=
 let k := i64w (numS s).1
 let a := (numS s).2
 let b := (numS a).2
 let c := rInt (m k).op (numS b).2
 let d := rNum (m k).fo c.2
 let e := rKey (m k).key d.2
 let f := rNum (m k).bk e.2
 (⟨k, i64w (numS a).1, i64w (numS b).1, c.1, d.1, e.1, f.1⟩, f.2)
def listsOf (q : Msk) (s : RS) : Option ((List K × List GK × List (Int × Int)) × RS) :=
 (rES q.es s).bind fun p => (rGS q.gs p.2).bind fun q1 => (rMS q.ms q1.2).map fun r => ((p.1, q1.1, r.1), r.2)
def rdMsg (s : RS) : Option (MD × RS) :=
 (listsOf (msk (hdS msk s).1.k) (hdS msk s).2).map fun p => (⟨(hdS msk s).1.k, (hdS msk s).1.fr, (hdS msk s).1.tn, (hdS msk s).1.op, (hdS msk s).1.fo, (hdS msk s).1.key, (hdS msk s).1.bk, p.1.1, p.1.2.1, p.1.2.2⟩, p.2)
theorem rdEs_succ (n : Nat) (s : RS) : rdEs (n + 1) s = if reB nodeP s = true then (rdEs n (reS s)).map (fun p => (⟨reKey nodeP s, reF nodeP s, reL nodeP s⟩ :: p.1, p.2)) else none := rfl
theorem rdGs_succ (n : Nat) (s : RS) : rdGs (n + 1) s = if drB nodeP s = true then (rdGs n (drS s)).map (fun p => (⟨drKey nodeP s, drF nodeP s, drL nodeP s⟩ :: p.1, p.2)) else none := rfl
theorem rdMs_succ (n : Nat) (s : RS) : rdMs (n + 1) s = if mrB s = true then (rdMs n (mrS s)).map (fun p => ((mrX s, mrY s) :: p.1, p.2)) else none := rfl
def nfD (d : MD) : NF := ⟨d.k, d.fr, d.tn, d.op, d.fo, d.key, d.bk, d.es.map nK, d.gs.map nGK, d.ms⟩
theorem nf_md (X : Mg) (es : List E) (gs : List G) (ms : List (Int × Int)) : nfP X es gs ms = nfD (mdOf X es gs ms) := by
 unfold nfP nfD mdOf
 simp only [List.map_map]
 rfl
theorem ndB_rng {n : Int} (h : ndB n = true) : 0 ≤ n ∧ n < 8 := by simpa [ndB] using h
end Go.Proofs.YtmbphlkohlggfaaGreat
