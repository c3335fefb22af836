/- Items of several texts. -/
import Derived.Lib.Bytealg
import Derived.Lib.BytesEntry
import Derived.Laws.Externs
import Derived.Test.YtmjmgdbhmbjmaaaEMay
namespace Go.Proofs.Ytmjmgdbhmbjmaaa
open Go.RowKit
theorem bclone_any (t : Option Addr) (c : Nat) (bs : List Nat) (hb : bs.length ≤ 140737488355328) (w : World) (hs : Src w t c bs) :
  Calls Try.prog 96 #[.slice t bs.length c] w fun e w' => ∃ t' c', e = .returned (.slice t' bs.length c') ∧ OwnR w' t' c' bs ∧ (∀ k, blk t' = some k → w.heap.size ≤ k) ∧ Off (fun _ => False) w w' := by
 have hq := eql_nil
 rcases hs.is with ⟨rfl, rfl, rfl⟩ | ⟨ad, rfl, -⟩
 ·go_enter Try.func96, Try.ntmps96
  go_wp2
  go_ret
  exact ⟨none, 0, rfl, OwnR.nil w, fun k hk => by simp [blk] at hk, Off.refl _ w⟩
 ·have HS : Hid (Src w (some ad) c bs) := hs
  clear hs
  have L0 : OwnR (w.alloc (.cells #[] 5)) (some ⟨w.heap.size, 0, none⟩) 0 [] := ⟨World.ownsRow_lit w #[] 0 (Nat.zero_le _) (by decide) rfl⟩
  have O0 : Off (fun _ => False) w (w.alloc (.cells #[] 5)) := (Off.refl _ w).alloc _
  go_enter Try.func96, Try.ntmps96
  go_wp2_with (at_builtin; refine wpList_app rfl (.tmp 5) (.tmp 6) rfl _ 0 [] rfl L0 _ c bs rfl (HS.out.off O0 (fun _ _ _ h => h)) (by simpa using hb) ?_; intro t' c' w' ys hys own' off' at')
  go_ret
  obtain rfl : ys = bs := hys.out
  refine ⟨t', c', rfl, own', fun k hk => ?_, O0.trans off' (fun i hi hb => ?_)⟩
  ·rcases at' with a | a
   ·rw [a] at hk
    simp [blk] at hk
    omega
   ·rw [a] at hk
    simp at hk
    omega
  ·simp [blk] at hb
   omega
theorem results_val {fn : Func} {p : Tmp} (h : fn.results = #[.cell p 92]) {tmps : Array Value} {w : World} {b : Nat} {v : V} (hp : tmps.getD p undef = .pointer (some ⟨b, 0, none⟩)) (hc : Cel b 92 #[.int .i64 v.node, .int .i64 v.num, .slice v.ad v.data.length v.cap, .bool v.dead] w) :
  (results fn tmps).run Try.prog w = .ok (.agg #[.int .i64 v.node, .int .i64 v.num, .slice v.ad v.data.length v.cap, .bool v.dead]) w := by
 obtain ⟨d, hd⟩ : ∃ d, Try.prog.underlying 92 = some (.struct d) := ⟨_, Try.underlying92⟩
 exact results_cell_row h tmps w b 92 _ (0, 0) (.struct d) hp hc.is hd rfl (by kernel_rfl)
theorem Cel.st4 {b : Nat} {t : TypeId} {v : V} {w : World} (h : Cel b t #[.int .i64 v.node, .int .i64 v.num, .slice v.ad v.data.length v.cap, .bool v.dead] w) (u : V) : Cel b t #[.int .i64 u.node, .int .i64 u.num, .slice u.ad u.data.length u.cap, .bool u.dead] ((((w.setCell ⟨b, 0, none⟩ (.int .i64 u.node)).setCell ⟨b, 1, none⟩ (.int .i64 u.num)).setCell ⟨b, 2, none⟩ (.slice u.ad u.data.length u.cap)).setCell ⟨b, 3, none⟩ (.bool u.dead)) := by
 replace h := h.set 0 (.int .i64 u.node)
 simp only [List.setIfInBounds_toArray, List.set_cons_zero] at h
 replace h := h.set 1 (.int .i64 u.num)
 simp only [lsA, lsZ, lsS] at h
 replace h := h.set 2 (.slice u.ad u.data.length u.cap)
 simp only [lsA, lsZ, lsS] at h
 replace h := h.set 3 (.bool u.dead)
 simp only [lsA, lsZ, lsS] at h
 exact h
theorem Cel.st4o {b c : Nat} {t : TypeId} {cs : Array Value} {w : World} (h : Cel c t cs w) (hb : c ≠ b) (u : V) : Cel c t cs ((((w.setCell ⟨b, 0, none⟩ (.int .i64 u.node)).setCell ⟨b, 1, none⟩ (.int .i64 u.num)).setCell ⟨b, 2, none⟩ (.slice u.ad u.data.length u.cap)).setCell ⟨b, 3, none⟩ (.bool u.dead)) :=
 (((h.other hb _).other hb _).other hb _).other hb _
theorem Off.st4 {D : Nat → Prop} {a w : World} {b : Nat} (h : Off D a w) (hb : D b ∨ a.heap.size ≤ b) (u : V) : Off D a ((((w.setCell ⟨b, 0, none⟩ (.int .i64 u.node)).setCell ⟨b, 1, none⟩ (.int .i64 u.num)).setCell ⟨b, 2, none⟩ (.slice u.ad u.data.length u.cap)).setCell ⟨b, 3, none⟩ (.bool u.dead)) :=
 (((h.setCell hb _).setCell hb _).setCell hb _).setCell hb _
def zeroV : V := ⟨0, 0, none, 0, [], false⟩
set_option maxRecDepth 100000 in
set_option maxHeartbeats 1000000 in
theorem copyOf_any (v : V) (w : World) (hv : VOk w v) :
  Calls Try.prog 80 #[.agg #[.int .i64 v.node, .int .i64 v.num, .slice v.ad v.data.length v.cap, .bool v.dead]] w fun e w' => ∃ u : V, e = .returned (.agg #[.int .i64 u.node, .int .i64 u.num, .slice u.ad u.data.length u.cap, .bool u.dead]) ∧ u.abs = v.abs ∧ OwnR w' u.ad u.cap u.data ∧ VOk w' u ∧ (∀ k, blk u.ad = some k → w.heap.size ≤ k) ∧ Off (fun _ => False) w w' := by
 obtain ⟨W, hW⟩ : ∃ W, W = ((w.alloc (.cells #[.int .i64 v.node, .int .i64 v.num, .slice v.ad v.data.length v.cap, .bool v.dead] 92)).alloc (.cells #[.int .i64 zeroV.node, .int .i64 zeroV.num, .slice zeroV.ad zeroV.data.length zeroV.cap, .bool zeroV.dead] 92)) := ⟨_, rfl⟩
 have O : Off (fun _ => False) w W := by rw [hW]; exact ((Off.refl _ w).alloc _).alloc _
 have C0 : Cel w.heap.size 92 #[.int .i64 v.node, .int .i64 v.num, .slice v.ad v.data.length v.cap, .bool v.dead] W := by rw [hW]; exact (Cel.new w _ _).alloc _
 have C1 : Cel (w.heap.size + 1) 92 #[.int .i64 zeroV.node, .int .i64 zeroV.num, .slice zeroV.ad zeroV.data.length zeroV.cap, .bool zeroV.dead] W := by rw [hW]; exact Cel.new1 w _ _ _
 have hs := hv.src.off O (fun _ _ _ h => h)
 have HC1 : Hid _ := C1
 have HC0 : Hid _ := C0
 obtain ⟨x0, x1, x2, x3⟩ := cel4 C0
 have HW : Hid _ := hW
 clear C0 C1 hW
 go_enter Try.func80, Try.ntmps80
 go_wp2_with fail
 have eW : ((w.alloc (.cells #[.int .i64 v.node, .int .i64 v.num, .slice v.ad v.data.length v.cap, .bool v.dead] 92)).alloc (.cells #[.int .i64 0, .int .i64 0, .slice none 0 0, .bool false] 92)) = W := HW.out.symm
 rw [eW]
 refine (bclone_any v.ad v.cap v.data (by have := hv.len; omega) W hs).mono ?_
 rintro e w1 ⟨t, c, rfl, own, hn, o1⟩
 have D0 := HC0.out.off o1 (fun h => h)
 have D1 := HC1.out.off o1 (fun h => h)
 have O1 := O.trans o1 (fun _ _ h => h)
 have hne : ∀ k, blk t = some k → k ≠ w.heap.size ∧ k ≠ w.heap.size + 1 := fun k hk => by
  have h1 := hn k hk
  have h2 := HC1.out.lt
  constructor <;> omega
 clear x0 x1 x2 x3 eW
 obtain ⟨x0, x1, x2, x3⟩ := cel4 D0
 obtain ⟨z0, z1, z2, z3⟩ := cel4 D1
 have f0 := D0.free
 have f1 := D1.free
 have hs0 : w.heap.size ≤ W.heap.size := O.size
 have E0 : Cel w.heap.size 92 #[.int .i64 (⟨v.node, v.num, t, c, v.data, v.dead⟩ : V).node, .int .i64 (⟨v.node, v.num, t, c, v.data, v.dead⟩ : V).num, .slice (⟨v.node, v.num, t, c, v.data, v.dead⟩ : V).ad (⟨v.node, v.num, t, c, v.data, v.dead⟩ : V).data.length (⟨v.node, v.num, t, c, v.data, v.dead⟩ : V).cap, .bool (⟨v.node, v.num, t, c, v.data, v.dead⟩ : V).dead] (w1.setCell ⟨w.heap.size, 2, none⟩ (.slice t v.data.length c)) := by
  have := D0.set 2 (.slice t v.data.length c)
  simpa using this
 have E1 : Cel (w.heap.size + 1) 92 #[.int .i64 zeroV.node, .int .i64 zeroV.num, .slice zeroV.ad zeroV.data.length zeroV.cap, .bool zeroV.dead] (w1.setCell ⟨w.heap.size, 2, none⟩ (.slice t v.data.length c)) := D1.other (by simp) _
 have HO : Hid _ := O1
 have HE1 : Hid _ := E1
 have HOW : Hid _ := own
 have HN : Hid _ := hn
 have HNE : Hid _ := hne
 have HHS : Hid _ := hs0
 clear own hn hne hs0 O O1 o1 D0 D1 E0 E1 HC0 HC1 hs HW
 go_wp2_with fail
 refine bodyPost_ret (results_val rfl rfl (HE1.out.st4 ⟨v.node, v.num, t, c, v.data, v.dead⟩)) rfl ?_
 have OF : Off (fun _ => False) w ((((((w1.setCell ⟨w.heap.size, 2, none⟩ (.slice t v.data.length c)).setCell ⟨w.heap.size + 1, 0, none⟩ (.int .i64 v.node)).setCell ⟨w.heap.size + 1, 1, none⟩ (.int .i64 v.num)).setCell ⟨w.heap.size + 1, 2, none⟩ (.slice t v.data.length c)).setCell ⟨w.heap.size + 1, 3, none⟩ (.bool v.dead))) := (HO.out.setCell (.inr (by simp)) _).st4 (.inr (by omega)) ⟨v.node, v.num, t, c, v.data, v.dead⟩
 have OWN : OwnR ((((((w1.setCell ⟨w.heap.size, 2, none⟩ (.slice t v.data.length c)).setCell ⟨w.heap.size + 1, 0, none⟩ (.int .i64 v.node)).setCell ⟨w.heap.size + 1, 1, none⟩ (.int .i64 v.num)).setCell ⟨w.heap.size + 1, 2, none⟩ (.slice t v.data.length c)).setCell ⟨w.heap.size + 1, 3, none⟩ (.bool v.dead))) t c v.data := by
  refine HOW.out.off (D := fun k => k = w.heap.size ∨ k = w.heap.size + 1) (((Off.refl _ w1).setCell (.inl (.inl rfl)) _).st4 (.inl (.inr rfl)) ⟨v.node, v.num, t, c, v.data, v.dead⟩) (fun k _ hk h => ?_)
  have := HNE.out k hk
  omega
 exact ⟨⟨v.node, v.num, t, c, v.data, v.dead⟩, rfl, rfl, OWN, ⟨OWN.src, hv.lt, hv.n0, hv.n1, hv.m0, hv.m1, hv.len⟩, fun k hk => Nat.le_trans HHS.out (HN.out k hk), OF⟩
def ltL : List Nat → List Nat → Bool
 | [], [] => false
 | [], _ :: _ => true
 | _ :: _, [] => false
 | a :: xs, b :: ys => if a < b then true else if b < a then false else ltL xs ys
theorem u8_lt {a b : Nat} (ha : a < 256) (hb : b < 256) : (((a : Int).toNat.toUInt8 < (b : Int).toNat.toUInt8) ↔ a < b) := by
 rw [UInt8.lt_iff_toNat_lt]
 simp [Nat.toUInt8, UInt8.toNat_ofNat', Nat.mod_eq_of_lt ha, Nat.mod_eq_of_lt hb]
theorem cmp_lt : ∀ (xs ys : List Nat), (∀ x ∈ xs, x < 256) → (∀ x ∈ ys, x < 256) → (Lib.compareBytes (Lib.bytesOf (xs.map fun (b : Nat) => (b : Int))) (Lib.bytesOf (ys.map fun (b : Nat) => (b : Int))) < 0 ↔ ltL xs ys = true)
 | [], [], _, _ => by simp [Lib.bytesOf, Lib.compareBytes, ltL]
 | [], _ :: _, _, _ => by simp [Lib.bytesOf, Lib.compareBytes, ltL]
 | _ :: _, [], _, _ => by simp [Lib.bytesOf, Lib.compareBytes, ltL]
 | a :: xs, b :: ys, ha, hb => by
  have ih := cmp_lt xs ys (fun x hx => ha x (by simp [hx])) (fun x hx => hb x (by simp [hx]))
  have h1 := u8_lt (ha a (by simp)) (hb b (by simp))
  have h2 := u8_lt (hb b (by simp)) (ha a (by simp))
  simp only [Lib.bytesOf, List.map_cons, Lib.compareBytes, ltL] at ih ⊢
  simp only [h1, h2]
  by_cases e1 : a < b
  ·simp [e1]
  ·by_cases e2 : b < a
   ·simp [e1, e2]
   ·simp only [e1, e2, if_false]
    exact ih
theorem run_bytesOf {w : World} {t : Option Addr} {c : Nat} {xs : List Nat} (h : Src w t c xs) : (Extern.Bytes.bytesOf (.slice t xs.length c)).run Try.prog w = .ok ⟨(Lib.bytesOf (xs.map fun (b : Nat) => (b : Int))).toArray⟩ w := by
 rcases h.is with ⟨rfl, rfl, rfl⟩ | ⟨ad, rfl, hc⟩
 ·rfl
 ·have := Lib.run_loadBytesX (P := Try.prog) w (xs.map fun (b : Nat) => (b : Int)) ad .empty (fun j x hj => by
   refine hc j _ ?_
   simp only [vl, List.getElem?_map] at hj ⊢
   cases e : xs[j]? with
   | none => simp [e] at hj
   | some y => simp [e] at hj; simp [hj])
  simp only [List.length_map] at this
  show (Extern.Bytes.loadBytes ad xs.length .empty).run Try.prog w = _
  rw [this]
  simp [ByteArray.empty, ByteArray.emptyWithCapacity]
  try rfl
set_option maxRecDepth 100000 in
theorem compare_any (a b : Option Addr) (ca cb : Nat) (xs ys : List Nat) (w : World) (hx : Src w a ca xs) (hy : Src w b cb ys) (lx : ∀ x ∈ xs, x < 256) (ly : ∀ x ∈ ys, x < 256) :
  Calls Try.prog 97 #[.slice a xs.length ca, .slice b ys.length cb] w fun e w' => ∃ c : Int, e = .returned (.int .i64 c) ∧ (c < 0 ↔ ltL xs ys = true) ∧ w' = w := by
 have h1 := run_bytesOf hx
 have h2 := run_bytesOf hy
 have h3 := cmp_lt xs ys lx ly
 clear hx hy
 go_enter Try.func97, Try.ntmps97
 go_wp2
 rw [run_callFunc_extern Try.func104 (by kernel_rfl) (by kernel_rfl) (by kernel_rfl) (e := Extern.BytealgCompare.compare) (by kernel_rfl)]
 have h4 : (Extern.BytealgCompare.compare #[.slice a xs.length ca, .slice b ys.length cb]).run Try.prog w = .ok (.int .i64 (Lib.compareBytes (Lib.bytesOf (xs.map fun (b : Nat) => (b : Int))) (Lib.bytesOf (ys.map fun (b : Nat) => (b : Int))))) w := by
  change Sem.run Try.prog (do pure (goInt (Extern.BytealgCompare.cmp (← Extern.Bytes.bytesOf (.slice a xs.length ca)) (← Extern.Bytes.bytesOf (.slice b ys.length cb))))) w = _
  simp only [Sem.run_bind, h1, h2, Sem.run_pure, Result.andThen]
  rw [Lib.cmp_eq]
  rfl
 rw [h4]
 simp only [Result.andThen]
 rw [Oper.upon_value]
 go_wp2
 go_ret
 exact ⟨_, rfl, h3, rfl⟩
end Go.Proofs.Ytmjmgdbhmbjmaaa
