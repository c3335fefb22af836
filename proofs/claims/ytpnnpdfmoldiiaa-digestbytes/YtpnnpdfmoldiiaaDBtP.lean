/- Items of several texts. -/
import Derived.Test.YtpnnpdfmoldiiaaDThy2
import Derived.Test.YtpnnpdfmoldiiaaDRefA
import Derived.Test.YtpnnpdfmoldiiaaDArg13
import Derived.Test.YtpnnpdfmoldiiaaDDmy
import Derived.Test.YtpnnpdfmoldiiaaDDof
import Derived.Test.YtpnnpdfmoldiiaaDSRe
import Derived.Test.YtpnnpdfmoldiiaaDDr0
import Derived.Test.YtpnnpdfmoldiiaaDSWe
import Derived.Test.YtpnnpdfmoldiiaaDDwr
import Derived.Test.YtpnnpdfmoldiiaaDDrd
import Derived.Test.YtpnnpdfmoldiiaaDGdr
import Derived.Test.YtpnnpdfmoldiiaaDLaw13
import Derived.Test.YtpnnpdfmoldiiaaDSmd
import Derived.Test.YtpnnpdfmoldiiaaDSmd2
namespace Go.Proofs.Ytpnnpdfmoldiiaa
open Go.RowKit
def dtNx (s : RS) : RS := (intS (numS s).2).2
theorem dtSt_in (s : RS) : ∀ n, dtSt s (n + 1) = dtSt (dtNx s) n
 | 0 => rfl
 | n + 1 => by show dtNx (dtSt s (n + 1)) = dtNx (dtSt (dtNx s) n); rw [dtSt_in s n]
theorem okD_cov {f : Nat → Int} : ∀ {p : Option (Int × Int)} {ds : List (Int × Int)}, okD f p ds = true → ∀ d ∈ ds, coversB f d.1 d.2 = true
 | _, [], _, d, hd => by simp at hd
 | none, x :: r, h, d, hd => by
  unfold okD at h
  simp only [Bool.and_eq_true] at h
  rcases List.mem_cons.1 hd with rfl | hd
  ·exact h.1
  ·exact okD_cov h.2 d hd
 | some _, x :: r, h, d, hd => by
  unfold okD at h
  simp only [Bool.and_eq_true] at h
  rcases List.mem_cons.1 hd with rfl | hd
  ·exact h.2.1
  ·exact okD_cov h.2.2 d hd
theorem dtSt_ok {s : RS} (h : Ok s) : ∀ n, Ok (dtSt s n)
 | 0 => h
 | n + 1 => (num_ok (num_ok (dtSt_ok h n)).1).1
theorem rdDs_eq {f : Nat → Int} {s : RS} {n : Nat} (hok : Ok s) (h : (∀ d ∈ rdDs nodeP n s, coversB f d.1 d.2 = true) ∨ ∀ d ∈ rdDs nodeR n s, coversB f d.1 d.2 = true) : rdDs nodeP n s = rdDs nodeR n s := by
 unfold rdDs
 refine List.map_congr_left fun i hi => ?_
 have hlt := (num_ok (dtSt_ok hok i)).2.1
 have e : nodeP (numS (dtSt s i)).1 = nodeR (numS (dtSt s i)).1 := by
  refine node_eq (f := f) (N := (intS (numS (dtSt s i)).2).1) hlt ?_
  rcases h with h | h
  ·exact .inl (h _ (List.mem_map.2 ⟨i, hi, rfl⟩))
  ·exact .inr (h _ (List.mem_map.2 ⟨i, hi, rfl⟩))
 unfold rdDt
 rw [e]
theorem mayD_cov {k : ByteArray} {f : Nat → Int} {ds : List (Int × Int)} (h : mayD ⟨k, f, ds⟩ = true) : ∀ d ∈ ds, coversB f d.1 d.2 = true := by
 unfold mayD at h
 have h : (keyB k && (mayB f && (decide (ds.length ≤ 16) && okD f none ds))) = true := h
 simp only [Bool.and_eq_true] at h
 exact okD_cov h.2.2.2
theorem dr_eq {s : RS} (hok : Ok s) : drB nodeP s = drB nodeR s ∧ drKey nodeP s = drKey nodeR s ∧ drF nodeP s = drF nodeR s ∧ drL nodeP s = drL nodeR s := by
 have ok2 : Ok (countS 16 (rdV (drT s) 8)).2 := (count_ok 16 (rdV_ok (text_ok 32 hok) 8)).1
 have key : mayD ⟨drK s, readF (drT s), drD nodeP s⟩ = true ∨ mayD ⟨drK s, readF (drT s), drD nodeR s⟩ = true → drD nodeP s = drD nodeR s := fun h =>
  rdDs_eq (f := readF (drT s)) ok2 (h.imp (fun h => mayD_cov h) (fun h => mayD_cov h))
 have hb : drB nodeP s = drB nodeR s := by
  unfold drB
  cases h1 : mayD ⟨drK s, readF (drT s), drD nodeP s⟩
  ·cases h2 : mayD ⟨drK s, readF (drT s), drD nodeR s⟩
   ·rfl
   ·rw [key (.inr h2), h2] at h1
    cases h1
  ·rw [← key (.inl h1), h1]
 refine ⟨hb, by unfold drKey; rw [hb], by unfold drF; rw [hb], ?_⟩
 unfold drL
 rw [← hb]
 split
 ·rename_i h
  unfold drB at h
  simp only [Bool.and_eq_true] at h
  exact key (.inl h.2.2)
 ·rfl
end Go.Proofs.Ytpnnpdfmoldiiaa

namespace Go.Proofs.Ytpnnpdfmoldiiaa
open Go.RowKit
theorem dgs_one {b : Nat} {d : G} {w : World} (h : Cel b 27 #[.string d.key, .int .i64 (d.f 0), .int .i64 (d.f 1), .int .i64 (d.f 2), .int .i64 (d.f 3), .int .i64 (d.f 4), .int .i64 (d.f 5), .int .i64 (d.f 6), .int .i64 (d.f 7), .slice d.a d.ds.length d.cap] w) (hr : RowD w d.a d.cap d.ds) : Dgs w (some ⟨b, 0, none⟩) 1 [d] := by
 refine ⟨by simp, by omega, fun i g hi => ?_⟩
 rcases i with _ | i
 ·simp at hi
  subst hi
  refine ⟨b, 0, rfl, fun j u hj => ?_, hr⟩
  rw [show 0 + 0 * 10 + j = j by omega, h.cell j, ← hj, List.getElem?_toArray]
  rfl
 ·simp at hi
end Go.Proofs.Ytpnnpdfmoldiiaa

namespace Go.Proofs.Ytpnnpdfmoldiiaa
open Go.RowKit
def gv : Bool → Value → Value
 | true, v => v
 | false, _ => undef
def erZ : Bool → Int
 | true => 0
 | false => 4
theorem neq_same (x : Bool) (W : World) : (binOp .neq 4 (.bool x) (.bool x)).run Try.prog W = .ok (.bool false) W := by
 cases x <;> go_simp
theorem eql_bool (x : Bool) (W : World) : (binOp .eql 4 (.bool x) (.bool x)).run Try.prog W = .ok (.bool true) W := by cases x <;> go_simp
theorem er4 (x : Bool) : (erZ x == 4) = !x := by cases x <;> rfl
theorem er0 (x : Bool) : (erZ x == 0) = x := by cases x <;> rfl
theorem FW.tell {D : Nat → Prop} {b most : Nat} {st : Option (List Nat)} {w : World} (h : FW D b most st w) : ∃ sm tm nm km, ((errW st : Nat) : Int) = erZ sm ∧ Cel b 51 #[.slice tm nm km, .int .i64 (most : Int), .bool (!sm)] w ∧ (sm = true → nm = (st.getD []).length ∧ OwnR w tm km (st.getD [])) := by
 rcases h.is with ⟨rfl, t, n, c, h1⟩ | ⟨bs, tad, cap, rfl, h2, h3, -⟩
 ·exact ⟨false, t, n, c, rfl, h1, fun h => by cases h⟩
 ·exact ⟨true, tad, bs.length, cap, rfl, h2, fun _ => ⟨rfl, h3⟩⟩
theorem two_new {W x y : World} (O : Off (fun _ => False) W x) (hW : Wtr (fun c => c = x.heap.size) x.heap.size 5000 (some []) y) (o3 : Off (fun _ => False) x y) :
  ∃ (v : World) (p1 p2 : Nat) (D E : Nat → Prop), v = y.alloc (.cells #[.slice none 0 0, .int .i64 5000, .bool false] 51) ∧ p1 = x.heap.size ∧ p2 = y.heap.size ∧ Wtr D p1 5000 (some []) v ∧ FW E p2 5000 (some []) v ∧ (∀ c, D c → E c → False) ∧ (∀ c, D c → W.heap.size ≤ c) ∧ (∀ c, E c → W.heap.size ≤ c) ∧ Off (fun _ => False) W v := by
 have o2 : Off (fun _ => False) y (y.alloc (.cells #[.slice none 0 0, .int .i64 5000, .bool false] 51)) := (Off.refl _ y).alloc _
 have h1 := hW.lt _ hW.here
 have h2 := O.size
 have h3 := o3.size
 refine ⟨_, _, _, (fun c => c = x.heap.size), (fun c => c = y.heap.size), rfl, rfl, rfl, hW.off o2 (fun _ _ _ h => h), ⟨rfl, fun c h => by simp [h], by decide, .inr ⟨[], none, 0, rfl, Cel.new y _ _, OwnR.nil _, fun k hk => by simp [blk] at hk⟩⟩, fun c h1 h2 => by omega, fun c h => by omega, fun c h => by omega, (O.trans o3 (fun _ _ h => h)).trans o2 (fun _ _ h => h)⟩
theorem two_rd {bs : List Nat} {w x1 x2 : World} {rb : Nat} {Dr : Nat → Prop} {t2 : Option Addr} {c2 : Nat} (hlt : ∀ b ∈ bs, b < 256) (hbl : bs.length ≤ 140737488355328) (hrb : w.heap.size ≤ rb) (hD : ∀ c, Dr c → w.heap.size ≤ c) (R : Rdr 106 Dr rb (bs, 0) x1) (o6 : Off (fun _ => False) w x1) (o7 : Off (fun _ => False) x1 x2) (own : OwnR x2 t2 c2 bs) (hb : ∀ k, blk t2 = some k → x1.heap.size ≤ k) :
  ∃ (V0 : World) (mb : Nat) (Dm : Nat → Prop), V0 = x2.alloc (.cells #[.slice t2 bs.length c2, .int .i64 0] 61) ∧ mb = x2.heap.size ∧ Rdr 106 Dr rb (bs, 0) V0 ∧ Rdr 61 Dm mb (bs, 0) V0 ∧ rb ≠ mb ∧ ¬ Dr mb ∧ ¬ Dm rb ∧ w.heap.size ≤ rb ∧ w.heap.size ≤ mb ∧ (∀ c, Dr c → w.heap.size ≤ c) ∧ (∀ c, Dm c → w.heap.size ≤ c) ∧ Off (fun _ => False) w V0 := by
 have oo : Off (fun _ => False) x2 (x2.alloc (.cells #[.slice t2 bs.length c2, .int .i64 0] 61)) := (Off.refl _ x2).alloc _
 have h1 := R.here
 have h2 := o6.size
 have h3 := o7.size
 have hl2 : ∀ k, blk t2 = some k → k < x2.heap.size := own.lt
 refine ⟨_, _, (fun c => blk t2 = some c), rfl, rfl, (R.off o7 (fun h => h) (fun _ _ _ h => h)).off oo (fun h => h) (fun _ _ _ h => h), ?_, by omega, fun h => by have := R.lt _ h; omega, fun h => by have := hb _ h; omega, hrb, by omega, hD, fun c h => by have := hb _ h; omega, (o6.trans o7 (fun _ _ h => h)).trans oo (fun _ _ h => h)⟩
 refine ⟨⟨hlt, by simp, by simp⟩, fun c h => ?_, fun h => ?_, by simp only; omega, t2, c2, Cel.new x2 _ _, (own.off oo (fun _ _ _ h => h)).lie (fun c h => h)⟩
 ·have := hl2 c h
  have := oo.size
  omega
 ·have := hl2 _ h
  omega
end Go.Proofs.Ytpnnpdfmoldiiaa
