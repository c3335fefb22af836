/- Items of several texts. -/
import Derived.Deep.CutRange
import Derived.Lib.SlBytesConst
import Derived.Test.YtmbphlkohlggfaaDLiv
import Derived.Test.YtmbphlkohlggfaaDQo18
import Derived.Test.YtmbphlkohlggfaaDMay20
import Derived.Test.YtmbphlkohlggfaaDEn20
import Derived.Test.YtmbphlkohlggfaaDDrd
namespace Go.Proofs.Ytmbphlkohlggfaa
set_option maxRecDepth 100000
open Go.RowKit
def rdEs : Nat → RS → Option (List K × RS)
 | 0, s => some ([], s)
 | n + 1, s => if reB nodeP s = true then (rdEs n (reS s)).map (fun p => (⟨reKey nodeP s, reF nodeP s, reL nodeP s⟩ :: p.1, p.2)) else none
def rdGs : Nat → RS → Option (List GK × RS)
 | 0, s => some ([], s)
 | n + 1, s => if drB nodeP s = true then (rdGs n (drS s)).map (fun p => (⟨drKey nodeP s, drF nodeP s, drL nodeP s⟩ :: p.1, p.2)) else none
def rdMs : Nat → RS → Option (List (Int × Int) × RS)
 | 0, s => some ([], s)
 | n + 1, s => if mrB s = true then (rdMs n (mrS s)).map (fun p => ((mrX s, mrY s) :: p.1, p.2)) else none
def rInt (b : Bool) (s : RS) : Int × RS := cond b (intS s) (0, s)
def rNum (b : Bool) (s : RS) : Int × RS := cond b (i64w (numS s).1, (numS s).2) (0, s)
def rKey (b : Bool) (s : RS) : ByteArray × RS := cond b (strOf (textS 32 s).1, (textS 32 s).2) (⟨#[]⟩, s)
def rES (b : Bool) (s : RS) : Option (List K × RS) := cond b (rdEs (countS 256 s).1 (countS 256 s).2) (some ([], s))
def rGS (b : Bool) (s : RS) : Option (List GK × RS) := cond b (rdGs (countS 256 s).1 (countS 256 s).2) (some ([], s))
def rMS (b : Bool) (s : RS) : Option (List (Int × Int) × RS) := cond b (rdMs (countS 8 s).1 (countS 8 s).2) (some ([], s))
structure HdR where
 k : Int
 fr : Int
 tn : Int
 op : Int
 fo : Int
 key : ByteArray
 bk : Int
def hdS (m : Int → Msk) (s : RS) : HdR × RS :=
 let k := i64w (numS s).1
 let a := (numS s).2
 let b := (numS a).2
 let c := rInt (m k).op (numS b).2
 let d := rNum (m k).fo c.2
 let e := rKey (m k).key d.2
 let f := rNum (m k).bk e.2
 (⟨k, i64w (numS a).1, i64w (numS b).1, c.1, d.1, e.1, f.1⟩, f.2)
def listsOf (q : Msk) (s : RS) : Option ((List K × List GK × List (Int × Int)) × RS) :=
 (rES q.es s).bind fun p => (rGS q.gs p.2).bind fun q1 => (rMS q.ms q1.2).map fun r => ((p.1, q1.1, r.1), r.2)
def rdMsg (s : RS) : Option (MD × RS) :=
 (listsOf (msk (hdS msk s).1.k) (hdS msk s).2).map fun p => (⟨(hdS msk s).1.k, (hdS msk s).1.fr, (hdS msk s).1.tn, (hdS msk s).1.op, (hdS msk s).1.fo, (hdS msk s).1.key, (hdS msk s).1.bk, p.1.1, p.1.2.1, p.1.2.2⟩, p.2)
theorem rdEs_succ (n : Nat) (s : RS) : rdEs (n + 1) s = if reB nodeP s = true then (rdEs n (reS s)).map (fun p => (⟨reKey nodeP s, reF nodeP s, reL nodeP s⟩ :: p.1, p.2)) else none := rfl
theorem rdGs_succ (n : Nat) (s : RS) : rdGs (n + 1) s = if drB nodeP s = true then (rdGs n (drS s)).map (fun p => (⟨drKey nodeP s, drF nodeP s, drL nodeP s⟩ :: p.1, p.2)) else none := rfl
theorem rdMs_succ (n : Nat) (s : RS) : rdMs (n + 1) s = if mrB s = true then (rdMs n (mrS s)).map (fun p => ((mrX s, mrY s) :: p.1, p.2)) else none := rfl
end Go.Proofs.Ytmbphlkohlggfaa

namespace Go.Proofs.Ytmbphlkohlggfaa
set_option maxRecDepth 100000
open Go.RowKit
theorem Src.of_nil {w : World} {a : Option Addr} {c : Nat} (h : Src w a c []) (w' : World) : Src w' a c [] := by
 rcases h.is with h | ⟨ad, e, -⟩
 ·exact ⟨.inl h⟩
 ·exact ⟨.inr ⟨ad, e, fun j u hj => by simp [vl] at hj⟩⟩
theorem Src.ltD {w : World} {a : Option Addr} {c : Nat} {bs : List Nat} (h : Src w a c bs) (hb : bs ≠ []) : ∀ i, blk a = some i → i < w.heap.size := by
 intro i hi
 rcases h.is with ⟨h1, -, -⟩ | ⟨ad, rfl, h1⟩
 ·rw [h1] at hi
  simp [blk] at hi
 ·cases bs with
  | nil => exact absurd rfl hb
  | cons x l =>
   have h2 := cell_lt (h1 0 _ rfl)
   rw [add_block] at h2
   have hi : ad.block = i := by simpa [blk] using hi
   omega
theorem Row.ltA {w : World} {a : Option Addr} {c : Nat} {l : List V} (h : Row w a c l) (hl : l ≠ []) : ∀ i, blk a = some i → i < w.heap.size := by
 intro i hi
 cases l with
 | nil => exact absurd rfl hl
 | cons x l =>
  obtain ⟨b, off, rfl, h1, -⟩ := h.at_ 0 x rfl
  have h2 := cell_lt h1.c0
  have hi : b = i := by simpa [blk] using hi
  have h2 : b < w.heap.size := h2
  omega
theorem Row.offS {D : Nat → Prop} {w w' : World} {a : Option Addr} {c : Nat} {l : List V} (h : Row w a c l) (o : Off D w w') (ha : l ≠ [] → ∀ i, blk a = some i → ¬ D i) (hv : ∀ v ∈ l, v.data ≠ [] → ∀ i, blk v.ad = some i → ¬ D i) : Row w' a c l :=
 ⟨h.len, h.bound, fun i v hi => by
  obtain ⟨b, off, e, h1, h2⟩ := h.at_ i v hi
  have hl : l ≠ [] := by
   rintro rfl
   simp at hi
  refine ⟨b, off, e, h1.off o (fun _ => ha hl b (by rw [e]; rfl)), ?_⟩
  by_cases hd : v.data = []
  ·refine ⟨?_, h2.lt, h2.n0, h2.n1, h2.m0, h2.m1, h2.len⟩
   have := h2.src
   rw [hd] at this ⊢
   exact this.of_nil w'
  ·exact h2.off o (fun c _ hc => hv v (List.mem_of_getElem? hi) hd c hc)⟩
structure AptE (N : Nat) (t : Option Addr) (w : World) (x : E) : Prop where
 row : Row w x.a x.cap x.l
 a : x.l ≠ [] → ∀ i, blk x.a = some i → N ≤ i ∧ blk t ≠ some i
 d : ∀ v ∈ x.l, v.data ≠ [] → ∀ i, blk v.ad = some i → N ≤ i ∧ blk t ≠ some i
theorem AptE.off {b N : Nat} {t : Option Addr} {w w' : World} {x : E} (h : AptE N t w x) (o : Off (fun c => c = b) w w') (hb : b < N) : AptE N t w' x :=
 ⟨h.row.offS o (fun hl i hi e => by have := (h.a hl i hi).1; omega) (fun v hv hd i hi e => by have := (h.d v hv hd i hi).1; omega), h.a, h.d⟩
theorem AptE.app {N : Nat} {t t' : Option Addr} {w w' : World} {x : E} (h : AptE N t w x) (o : Off (fun c => blk t = some c) w w') (at' : blk t' = blk t ∨ blk t' = some w.heap.size) : AptE N t' w' x := by
 refine ⟨h.row.offS o (fun hl i hi => (h.a hl i hi).2) (fun v hv hd i hi => (h.d v hv hd i hi).2), fun hl i hi => ⟨(h.a hl i hi).1, ?_⟩, fun v hv hd i hi => ⟨(h.d v hv hd i hi).1, ?_⟩⟩
 ·rcases at' with e | e
  ·rw [e]
   exact (h.a hl i hi).2
  ·rw [e]
   intro e2
   have := h.row.ltA hl i hi
   simp at e2
   omega
 ·rcases at' with e | e
  ·rw [e]
   exact (h.d v hv hd i hi).2
  ·rw [e]
   intro e2
   have := (h.row.ok v hv).src.ltD hd i hi
   simp at e2
   omega
theorem AptE.new {N M : Nat} {t : Option Addr} {w : World} {key : ByteArray} {f : Nat → Int} {a : Option Addr} {c : Nat} {l : List V} (h : Row w a c l) (fr : Frh M a l) (hN : N ≤ M) (ht : ∀ i, blk t = some i → i < M) : AptE N t w ⟨key, f, a, c, l⟩ :=
 ⟨h, fun _ i hi => by have := fr.lo i hi; exact ⟨by omega, fun e => by have := ht i e; omega⟩, fun v hv _ i hi => by have := fr.val v hv i hi; exact ⟨by omega, fun e => by have := ht i e; omega⟩⟩
theorem AptE.keep {N : Nat} {t : Option Addr} {w v : World} {x : E} (h : AptE N t w x) (o : Off (fun c => c < N) w v) : Row v x.a x.cap x.l :=
 h.row.offS o (fun hl i hi e => by have := (h.a hl i hi).1; omega) (fun y hy hd i hi e => by have := (h.d y hy hd i hi).1; omega)
theorem RowD.ltA {w : World} {a : Option Addr} {c : Nat} {l : List (Int × Int)} (h : RowD w a c l) (hl : l ≠ []) : ∀ i, blk a = some i → i < w.heap.size := by
 intro i hi
 cases l with
 | nil => exact absurd rfl hl
 | cons x l =>
  obtain ⟨b, off, rfl, h1, -⟩ := h.at_ 0 x rfl
  have h2 := cell_lt h1
  have hi : b = i := by simpa [blk] using hi
  have h2 : b < w.heap.size := h2
  omega
theorem RowD.offS {D : Nat → Prop} {w w' : World} {a : Option Addr} {c : Nat} {l : List (Int × Int)} (h : RowD w a c l) (o : Off D w w') (ha : l ≠ [] → ∀ i, blk a = some i → ¬ D i) : RowD w' a c l := by
 by_cases hl : l = []
 ·subst hl
  exact RowD.nil w' a c h.bound
 ·exact h.offD o (fun i _ hi => ha hl i hi)
structure AptD (N : Nat) (t : Option Addr) (w : World) (x : G) : Prop where
 row : RowD w x.a x.cap x.ds
 a : x.ds ≠ [] → ∀ i, blk x.a = some i → N ≤ i ∧ blk t ≠ some i
theorem AptD.off {b N : Nat} {t : Option Addr} {w w' : World} {x : G} (h : AptD N t w x) (o : Off (fun c => c = b) w w') (hb : b < N) : AptD N t w' x :=
 ⟨h.row.offS o (fun hl i hi e => by have := (h.a hl i hi).1; omega), h.a⟩
theorem AptD.app {N : Nat} {t t' : Option Addr} {w w' : World} {x : G} (h : AptD N t w x) (o : Off (fun c => blk t = some c) w w') (at' : blk t' = blk t ∨ blk t' = some w.heap.size) : AptD N t' w' x := by
 refine ⟨h.row.offS o (fun hl i hi => (h.a hl i hi).2), fun hl i hi => ⟨(h.a hl i hi).1, ?_⟩⟩
 rcases at' with e | e
 ·rw [e]
  exact (h.a hl i hi).2
 ·rw [e]
  intro e2
  have := h.row.ltA hl i hi
  simp at e2
  omega
theorem AptD.new {N M : Nat} {t : Option Addr} {w : World} {key : ByteArray} {f : Nat → Int} {a : Option Addr} {c : Nat} {l : List (Int × Int)} (h : RowD w a c l) (fr : NewA M a) (hN : N ≤ M) (ht : ∀ i, blk t = some i → i < M) : AptD N t w ⟨key, f, a, c, l⟩ :=
 ⟨h, fun _ i hi => by have := fr.lo i hi; exact ⟨by omega, fun e => by have := ht i e; omega⟩⟩
theorem AptD.keep {N : Nat} {t : Option Addr} {w v : World} {x : G} (h : AptD N t w x) (o : Off (fun c => c < N) w v) : RowD v x.a x.cap x.ds :=
 h.row.offS o (fun hl i hi e => by have := (h.a hl i hi).1; omega)
structure AptM (N : Nat) (t : Option Addr) (w : World) (x : Int × Int) : Prop where
 ok : True
def pre {α : Type} (P : List α) (p : List α × RS) : List α × RS := (P ++ p.1, p.2)
theorem pre_nil {α : Type} (o : Option (List α × RS)) : o.map (pre []) = o := by cases o <;> rfl
theorem pre_one {α : Type} (P : List α) (x : α) (o : Option (List α × RS)) : (o.map (fun p => (x :: p.1, p.2))).map (pre P) = o.map (pre (P ++ [x])) := by
 cases o
 ·rfl
 ·simp [pre]
theorem rdEs_go {R : Option (List (K) × RS)} {P : List (K)} {n m : Nat} {s : RS} (h : R = (rdEs n s).map (pre P)) (hn : n = m + 1) (hb : reB nodeP s = true) : R = (rdEs m (reS s)).map (pre (P ++ [⟨reKey nodeP s, reF nodeP s, reL nodeP s⟩])) := by
 rw [h, hn, rdEs_succ, if_pos hb, pre_one]
theorem rdEs_no {R : Option (List (K) × RS)} {P : List (K)} {n m : Nat} {s : RS} (h : R = (rdEs n s).map (pre P)) (hn : n = m + 1) (hb : reB nodeP s = false) : R = none := by
 rw [h, hn, rdEs_succ, if_neg (by rw [hb]; decide)]
 rfl
theorem rdEs_end {R : Option (List (K) × RS)} {P : List (K)} {n : Nat} {s : RS} (h : R = (rdEs n s).map (pre P)) (hn : n = 0) : R = some (P, s) := by
 rw [h, hn]
 show some (P ++ [], s) = _
 rw [List.append_nil]
theorem rdGs_go {R : Option (List (GK) × RS)} {P : List (GK)} {n m : Nat} {s : RS} (h : R = (rdGs n s).map (pre P)) (hn : n = m + 1) (hb : drB nodeP s = true) : R = (rdGs m (drS s)).map (pre (P ++ [⟨drKey nodeP s, drF nodeP s, drL nodeP s⟩])) := by
 rw [h, hn, rdGs_succ, if_pos hb, pre_one]
theorem rdGs_no {R : Option (List (GK) × RS)} {P : List (GK)} {n m : Nat} {s : RS} (h : R = (rdGs n s).map (pre P)) (hn : n = m + 1) (hb : drB nodeP s = false) : R = none := by
 rw [h, hn, rdGs_succ, if_neg (by rw [hb]; decide)]
 rfl
theorem rdGs_end {R : Option (List (GK) × RS)} {P : List (GK)} {n : Nat} {s : RS} (h : R = (rdGs n s).map (pre P)) (hn : n = 0) : R = some (P, s) := by
 rw [h, hn]
 show some (P ++ [], s) = _
 rw [List.append_nil]
theorem rdMs_go {R : Option (List (Int × Int) × RS)} {P : List (Int × Int)} {n m : Nat} {s : RS} (h : R = (rdMs n s).map (pre P)) (hn : n = m + 1) (hb : mrB s = true) : R = (rdMs m (mrS s)).map (pre (P ++ [(mrX s, mrY s)])) := by
 rw [h, hn, rdMs_succ, if_pos hb, pre_one]
theorem rdMs_no {R : Option (List (Int × Int) × RS)} {P : List (Int × Int)} {n m : Nat} {s : RS} (h : R = (rdMs n s).map (pre P)) (hn : n = m + 1) (hb : mrB s = false) : R = none := by
 rw [h, hn, rdMs_succ, if_neg (by rw [hb]; decide)]
 rfl
theorem rdMs_end {R : Option (List (Int × Int) × RS)} {P : List (Int × Int)} {n : Nat} {s : RS} (h : R = (rdMs n s).map (pre P)) (hn : n = 0) : R = some (P, s) := by
 rw [h, hn]
 show some (P ++ [], s) = _
 rw [List.append_nil]
end Go.Proofs.Ytmbphlkohlggfaa
