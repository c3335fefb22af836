/- Items of several texts. -/
import Derived.Lib.SlBytesConst
import Derived.Deep.Cut
import Derived.Deep.RegionWith
import Derived.Deep.RegionHeld
import Derived.Test.YtmbphlkohlggfaaCCpy
import Derived.Test.YtmbphlkohlggfaaCThy2
import Derived.Test.YtmbphlkohlggfaaCSam
import Derived.Test.YtmbphlkohlggfaaCDg0
import Derived.Test.YtmbphlkohlggfaaCBks
import Derived.Test.YtmbphlkohlggfaaCDmy
import Derived.Test.YtmbphlkohlggfaaCSWe
import Derived.Test.YtmbphlkohlggfaaCDwr
import Derived.Test.YtmbphlkohlggfaaCSRead
import Derived.Test.YtmbphlkohlggfaaCSRe
namespace Go.Proofs.Ytmbphlkohlggfaa
open Go.RowKit
def rdDt (nd : Nat → Int) (s : RS) : Int × Int := (nd (numS s).1, (intS (numS s).2).1)
def dtSt (s : RS) : Nat → RS
 | 0 => s
 | n + 1 => (intS (numS (dtSt s n)).2).2
def rdDs (nd : Nat → Int) (n : Nat) (s : RS) : List (Int × Int) := (List.range n).map fun i => rdDt nd (dtSt s i)
def drT (s : RS) : RS := (textS 32 s).2
def drK (s : RS) : ByteArray := strOf (textS 32 s).1
def drD (nd : Nat → Int) (s : RS) : List (Int × Int) := rdDs nd (countS 16 (rdV (drT s) 8)).1 (countS 16 (rdV (drT s) 8)).2
def drS (s : RS) : RS := dtSt (countS 16 (rdV (drT s) 8)).2 (countS 16 (rdV (drT s) 8)).1
def drB (nd : Nat → Int) (s : RS) : Bool := readB (drT s) && (decide ((drS s).2 = 0) && mayD ⟨drK s, readF (drT s), drD nd s⟩)
def drKey (nd : Nat → Int) (s : RS) : ByteArray := if drB nd s = true then drK s else ⟨#[]⟩
def drF (nd : Nat → Int) (s : RS) : Nat → Int := if drB nd s = true then readF (drT s) else zer
def drL (nd : Nat → Int) (s : RS) : List (Int × Int) := if drB nd s = true then drD nd s else []
theorem dr_yes {nd : Nat → Int} {s : RS} (e : drB nd s = true) : drK s = drKey nd s ∧ readF (drT s) = drF nd s ∧ drD nd s = drL nd s := by simp [drKey, drF, drL, e]
end Go.Proofs.Ytmbphlkohlggfaa

namespace Go.Proofs.Ytmbphlkohlggfaa
theorem put_put (most : Nat) (st : Option (List Nat)) (x y : List Nat) : putS most (putS most st x) y = putS most st (x ++ y) := by
 cases st with
 | none => rfl
 | some b =>
  simp only [putS]
  by_cases h : b.length + x.length ≤ most
  ·rw [if_pos h]
   simp only [List.length_append, List.append_assoc, Nat.add_assoc]
  ·rw [if_neg h]
   simp only [List.length_append]
   rw [if_neg (by omega)]
theorem put_none {most : Nat} {st : Option (List Nat)} (h : (st.getD []).length ≤ most) : putS most st [] = st := by
 cases st with
 | none => rfl
 | some b =>
  simp only [Option.getD_some] at h
  simp [putS, h]
def encV (f : Nat → Int) : Nat → List Nat
 | 0 => []
 | n + 1 => encV f n ++ numB (zig (f n))
def encA (x : A) : List Nat := numB (u64N x.node) ++ (numB (zig x.num) ++ ((if x.dead then 1 else 0) :: (numB x.data.length ++ x.data)))
def encL : List A → List Nat
 | [] => []
 | x :: l => encA x ++ encL l
def encE (t : List Nat) (f : Nat → Int) (l : List A) : List Nat := (numB t.length ++ t) ++ (encV f 8 ++ (numB l.length ++ encL l))
theorem wrV_enc {most : Nat} {st : Option (List Nat)} (h : (st.getD []).length ≤ most) (f : Nat → Int) : ∀ n, wrV most st f n = putS most st (encV f n)
 | 0 => (put_none h).symm
 | n + 1 => by
  show putS most (wrV most st f n) _ = _
  rw [wrV_enc h f n, put_put]
  rfl
theorem wrVal_enc (most : Nat) (st : Option (List Nat)) (x : A) : wrVal most st x = putS most st (encA x) := by
 unfold wrVal encA
 rw [put_put, put_put, put_put]
 simp only [List.cons_append, List.nil_append]
theorem wrL_enc {most : Nat} : ∀ {st : Option (List Nat)}, (st.getD []).length ≤ most → ∀ l, wrL most st l = putS most st (encL l)
 | _, h, [] => (put_none h).symm
 | st, h, x :: l => by
  have e : wrL most st (x :: l) = wrL most (wrVal most st x) l := rfl
  rw [e, wrL_enc (wrVal_le h x) l, wrVal_enc, put_put]
  rfl
theorem bk_num {n : Nat} (h : n < 18446744073709551616) (l : List Nat) : numS (numB n ++ l, 0) = (n, (l, 0)) := by
 simp only [numS, ne_eq, not_true_eq_false, if_false]
 rw [rd_back l n 0 0 (by omega) (by omega) (by omega)]
 simp
theorem bk_int {i : Int} (h0 : -9223372036854775808 ≤ i) (h1 : i ≤ 9223372036854775807) (l : List Nat) : intS (numB (zig i) ++ l, 0) = (i, (l, 0)) := by
 simp only [intS]
 rw [bk_num (zig_lt h0 h1), unzig_zig]
theorem bk_count {n : Nat} (h : n < 18446744073709551616) (l : List Nat) {most : Nat} (hm : n ≤ most) : countS most (numB n ++ l, 0) = (n, (l, 0)) := by
 unfold countS
 rw [bk_num h, if_neg (by simp only; omega)]
theorem bk_text (t l : List Nat) (h : t.length < 18446744073709551616) {most : Nat} (hm : t.length ≤ most) : textS most (numB t.length ++ (t ++ l), 0) = (t, (l, 0)) := by
 unfold textS
 rw [bk_count h _ hm]
 simp
theorem bk_flag (f : Bool) (l : List Nat) : flagS ((if f then 1 else 0) :: l, 0) = (f, (l, 0)) := by
 cases f <;> simp [flagS]
theorem rdSt_in (s : RS) : ∀ n, rdSt s (n + 1) = rdSt (valS s) n
 | 0 => rfl
 | n + 1 => by show valS (rdSt s (n + 1)) = valS (rdSt (valS s) n); rw [rdSt_in s n]
theorem rdL_in (nd : Nat → Int) (s : RS) (n : Nat) : rdL nd (n + 1) s = rdA nd s :: rdL nd n (valS s) := by
 unfold rdL
 rw [List.range_succ_eq_map, List.map_cons, List.map_map]
 have e : List.map ((fun i => rdA nd (rdSt s i)) ∘ Nat.succ) (List.range n) = List.map (fun i => rdA nd (rdSt (valS s) i)) (List.range n) :=
  List.map_congr_left fun i _ => by
   simp only [Function.comp_apply, Nat.succ_eq_add_one]
   rw [rdSt_in]
 rw [e]
 simp only [rdSt]
structure Rng (x : A) : Prop where
 n0 : -9223372036854775808 ≤ x.node
 n1 : x.node ≤ 9223372036854775807
 m0 : -9223372036854775808 ≤ x.num
 m1 : x.num ≤ 9223372036854775807
 len : x.data.length ≤ 140737488351232
 lt : ∀ y ∈ x.data, y < 256
theorem Row.rng {w : World} {a : Option Addr} {c : Nat} {l : List V} (h : Row w a c l) : ∀ x ∈ cont l, Rng x := by
 intro x hx
 simp only [cont, List.mem_map] at hx
 obtain ⟨v, hv, rfl⟩ := hx
 have k := h.ok v hv
 exact ⟨k.n0, k.n1, k.m0, k.m1, k.len, k.lt⟩
theorem node_back {n : Int} (h0 : -9223372036854775808 ≤ n) (h1 : n ≤ 9223372036854775807) : nodeP (u64N n) = n := by
 unfold nodeP u64N RowKit.wrap64
 omega
theorem bk_val {x : A} (hx : Rng x) (h : x.data.length ≤ 200) (r : List Nat) : valS (encA x ++ r, 0) = (r, 0) ∧ rdA nodeP (encA x ++ r, 0) = x := by
 have e : encA x ++ r = numB (u64N x.node) ++ (numB (zig x.num) ++ ((if x.dead then 1 else 0) :: (numB x.data.length ++ (x.data ++ r)))) := by simp [encA, List.append_assoc]
 have t1 := bk_num (u64N_lt x.node) (numB (zig x.num) ++ ((if x.dead then 1 else 0) :: (numB x.data.length ++ (x.data ++ r))))
 have t2 := bk_int hx.m0 hx.m1 ((if x.dead then 1 else 0) :: (numB x.data.length ++ (x.data ++ r)))
 have t3 := bk_flag x.dead (numB x.data.length ++ (x.data ++ r))
 have t4 := bk_text x.data r (by omega) h
 rw [e]
 refine ⟨by unfold valS; rw [t1, t2, t3, t4], ?_⟩
 unfold rdA valN valI valG valT
 rw [t1, t2, t3, t4, node_back hx.n0 hx.n1]
theorem bk_list : ∀ {l : List A}, (∀ x ∈ l, Rng x) → (∀ x ∈ l, x.data.length ≤ 200) → ∀ r, rdSt (encL l ++ r, 0) l.length = (r, 0) ∧ rdL nodeP l.length (encL l ++ r, 0) = l
 | [], _, _, r => ⟨rfl, rfl⟩
 | x :: l, h1, h2, r => by
  have e : encL (x :: l) ++ r = encA x ++ (encL l ++ r) := by simp [encL, List.append_assoc]
  obtain ⟨v1, v2⟩ := bk_val (h1 x (by simp)) (h2 x (by simp)) (encL l ++ r)
  obtain ⟨l1, l2⟩ := bk_list (l := l) (fun y hy => h1 y (by simp [hy])) (fun y hy => h2 y (by simp [hy])) r
  rw [e, List.length_cons, rdSt_in, rdL_in, v1, v2]
  exact ⟨l1, by rw [l2]⟩
theorem bk_vec {f : Nat → Int} (hr : ∀ j, j < 8 → -9223372036854775808 ≤ f j ∧ f j ≤ 9223372036854775807) : ∀ n, n ≤ 8 → ∀ r, rdV (encV f n ++ r, 0) n = (r, 0)
 | 0, _, _ => rfl
 | n + 1, hn, r => by
  show (intS (rdV (encV f n ++ numB (zig (f n)) ++ r, 0) n)).2 = _
  rw [List.append_assoc, bk_vec hr n (by omega), bk_int (hr n (by omega)).1 (hr n (by omega)).2]
theorem bk_vecF {f : Nat → Int} (hr : ∀ j, j < 8 → -9223372036854775808 ≤ f j ∧ f j ≤ 9223372036854775807) {j : Nat} (hj : j < 8) (r : List Nat) : rdF (encV f 8 ++ r, 0) j = f j := by
 have key : ∀ d r, j + 1 + d ≤ 8 → rdF (encV f (j + 1 + d) ++ r, 0) j = f j := by
  intro d
  induction d with
  | zero =>
   intro r _
   unfold rdF
   show (intS (rdV (encV f j ++ numB (zig (f j)) ++ r, 0) j)).1 = _
   rw [List.append_assoc, bk_vec hr j (by omega), bk_int (hr j hj).1 (hr j hj).2]
  | succ d ih =>
   intro r h
   show rdF (encV f (j + 1 + d) ++ numB (zig (f (j + 1 + d))) ++ r, 0) j = _
   rw [List.append_assoc]
   exact ih _ (by omega)
 have := key (7 - j) r (by omega)
 rwa [show j + 1 + (7 - j) = 8 by omega] at this
theorem mayB_congr {f g : Nat → Int} (h : ∀ j, j < 8 → f j = g j) : mayB f = mayB g := by
 unfold mayB
 exact decide_eq_decide.2 ⟨fun k j hj => by rw [← h j hj]; exact k j hj, fun k j hj => by rw [h j hj]; exact k j hj⟩
theorem may_cov {f g : Nat → Int} {l : List A} (h : ∀ j, j < 8 → f j = g j) (m : MayP f l) : MayP g l := by
 refine ⟨fun j hj => by rw [← h j hj]; exact m.seen j hj, m.few, m.less, fun x hx => ⟨?_, (m.cov x hx).2⟩⟩
 have := (m.cov x hx).1
 rw [cov_iff] at this ⊢
 rw [← h _ (by omega)]
 exact this
theorem mayS_congr {f g : Nat → Int} {l : List A} (h : ∀ j, j < 8 → f j = g j) : mayS f l = mayS g l := by
 by_cases m : MayP f l
 ·rw [may_yes m, may_yes (may_cov h m)]
 ·rw [may_no m, may_no (fun k => m (may_cov (fun j hj => (h j hj).symm) k))]
theorem strOf_key (key : ByteArray) : strOf (keyL key) = key := by
 have h : (strOf (keyL key)).data = key.data := by
  apply Array.toList_inj.1
  simp [strOf, strOfNums, keyL, Function.comp_def]
 cases hk : strOf (keyL key)
 cases key
 rw [hk] at h
 simp only at h
 rw [h]
theorem encV_lt (f : Nat → Int) : ∀ n, ∀ x ∈ encV f n, x < 256
 | 0, x, hx => by simp [encV] at hx
 | n + 1, x, hx => by
  rcases List.mem_append.1 hx with h | h
  ·exact encV_lt f n x h
  ·exact numB_lt _ _ h
theorem encA_lt {x : A} (hx : Rng x) : ∀ y ∈ encA x, y < 256 := by
 intro y hy
 unfold encA at hy
 simp only [List.mem_append, List.mem_cons] at hy
 rcases hy with h | h | h | h | h
 ·exact numB_lt _ _ h
 ·exact numB_lt _ _ h
 ·subst h; split <;> omega
 ·exact numB_lt _ _ h
 ·exact hx.lt y h
theorem encL_lt : ∀ {l : List A}, (∀ x ∈ l, Rng x) → ∀ y ∈ encL l, y < 256
 | [], _, y, hy => by simp [encL] at hy
 | x :: l, h, y, hy => by
  rcases List.mem_append.1 hy with k | k
  ·exact encA_lt (h x (by simp)) y k
  ·exact encL_lt (fun z hz => h z (by simp [hz])) y k
theorem keyL_lt (key : ByteArray) : ∀ x ∈ keyL key, x < 256 := by
 intro x hx
 simp only [keyL, List.mem_map] at hx
 obtain ⟨u, -, rfl⟩ := hx
 exact u.toNat_lt
theorem encE_lt {key : ByteArray} {f : Nat → Int} {l : List A} (hl : ∀ x ∈ l, Rng x) : ∀ y ∈ encE (keyL key) f l, y < 256 := by
 intro y hy
 unfold encE at hy
 simp only [List.mem_append] at hy
 rcases hy with (h | h) | h | h | h
 ·exact numB_lt _ _ h
 ·exact keyL_lt key y h
 ·exact encV_lt f 8 y h
 ·exact numB_lt _ _ h
 ·exact encL_lt hl y h
end Go.Proofs.Ytmbphlkohlggfaa

namespace Go.Proofs.Ytmbphlkohlggfaa
open Go.RowKit
def encDs : List (Int × Int) → List Nat
 | [] => []
 | d :: r => (numB (u64N d.1) ++ numB (zig d.2)) ++ encDs r
def encG (t : List Nat) (f : Nat → Int) (ds : List (Int × Int)) : List Nat := (numB t.length ++ t) ++ (encV f 8 ++ (numB ds.length ++ encDs ds))
theorem wrDs_enc {most : Nat} : ∀ {st : Option (List Nat)}, (st.getD []).length ≤ most → ∀ (ds : List (Int × Int)), ds.foldl (wrDt most) st = putS most st (encDs ds)
 | _, h, [] => (put_none h).symm
 | st, h, d :: r => by
  have e : (d :: r).foldl (wrDt most) st = r.foldl (wrDt most) (wrDt most st d) := rfl
  have e2 : wrDt most st d = putS most st (numB (u64N d.1) ++ numB (zig d.2)) := by unfold wrDt; rw [put_put]
  rw [e, wrDs_enc (st := wrDt most st d) (put_le (put_le h _) _) r, e2, put_put]
  rfl
theorem encDs_lt : ∀ (ds : List (Int × Int)), ∀ y ∈ encDs ds, y < 256
 | [], _, h => by simp [encDs] at h
 | d :: r, y, h => by
  simp only [encDs, List.mem_append] at h
  rcases h with (h | h) | h
  ·exact numB_lt _ y h
  ·exact numB_lt _ y h
  ·exact encDs_lt r y h
theorem encG_lt {key : ByteArray} {f : Nat → Int} {ds : List (Int × Int)} : ∀ y ∈ encG (keyL key) f ds, y < 256 := by
 intro y h
 simp only [encG, List.mem_append] at h
 rcases h with (h | h) | h | h | h
 ·exact numB_lt _ y h
 ·exact keyL_lt key y h
 ·exact encV_lt f 8 y h
 ·exact numB_lt _ y h
 ·exact encDs_lt ds y h
def dtNx (s : RS) : RS := (intS (numS s).2).2
theorem dtSt_in (s : RS) : ∀ n, dtSt s (n + 1) = dtSt (dtNx s) n
 | 0 => rfl
 | n + 1 => by show dtNx (dtSt s (n + 1)) = dtNx (dtSt (dtNx s) n); rw [dtSt_in s n]
theorem rdDs_in (nd : Nat → Int) (s : RS) (n : Nat) : rdDs nd (n + 1) s = rdDt nd s :: rdDs nd n (dtNx s) := by
 unfold rdDs
 rw [List.range_succ_eq_map, List.map_cons, List.map_map]
 have e : List.map ((fun i => rdDt nd (dtSt s i)) ∘ Nat.succ) (List.range n) = List.map (fun i => rdDt nd (dtSt (dtNx s) i)) (List.range n) :=
  List.map_congr_left fun i _ => by
   simp only [Function.comp_apply, Nat.succ_eq_add_one]
   rw [dtSt_in]
 rw [e]
 simp only [dtSt]
theorem bk_dots : ∀ {ds : List (Int × Int)}, RgD ds → ∀ r, dtSt (encDs ds ++ r, 0) ds.length = (r, 0) ∧ rdDs nodeP ds.length (encDs ds ++ r, 0) = ds
 | [], _, r => ⟨rfl, rfl⟩
 | d :: l, h, r => by
  have hd := h.rg d (by simp)
  have e : encDs (d :: l) ++ r = numB (u64N d.1) ++ (numB (zig d.2) ++ (encDs l ++ r)) := by simp [encDs, List.append_assoc]
  have n1 := bk_num (u64N_lt d.1) (numB (zig d.2) ++ (encDs l ++ r))
  have n2 := bk_int hd.2.1 hd.2.2 (encDs l ++ r)
  have v1 : dtNx (numB (u64N d.1) ++ (numB (zig d.2) ++ (encDs l ++ r)), 0) = (encDs l ++ r, 0) := by unfold dtNx; rw [n1, n2]
  have v2 : rdDt nodeP (numB (u64N d.1) ++ (numB (zig d.2) ++ (encDs l ++ r)), 0) = d := by unfold rdDt; rw [n1, n2, node_back hd.1.1 hd.1.2]
  obtain ⟨l1, l2⟩ := bk_dots (ds := l) ⟨fun y hy => h.rg y (by simp [hy])⟩ r
  rw [e, List.length_cons, dtSt_in, rdDs_in, v1, v2]
  exact ⟨l1, by rw [l2]⟩
theorem cov_congr {f g : Nat → Int} (h : ∀ j, j < 8 → f j = g j) (n N : Int) : coversB f n N = coversB g n N := by
 unfold coversB
 rw [decide_eq_decide]
 constructor
 ·rintro ⟨a, b, c, d⟩
  exact ⟨a, b, c, by rw [← h n.toNat (by omega)]; exact d⟩
 ·rintro ⟨a, b, c, d⟩
  exact ⟨a, b, c, by rw [h n.toNat (by omega)]; exact d⟩
theorem okD_congr {f g : Nat → Int} (h : ∀ j, j < 8 → f j = g j) : ∀ (p : Option (Int × Int)) (ds : List (Int × Int)), okD f p ds = okD g p ds
 | none, [] => rfl
 | some _, [] => rfl
 | none, d :: r => by unfold okD; rw [cov_congr h, okD_congr h]
 | some _, d :: r => by unfold okD; rw [cov_congr h, okD_congr h]
theorem mayD_congr {k : ByteArray} {f g : Nat → Int} {ds : List (Int × Int)} (h : ∀ j, j < 8 → f j = g j) : mayD ⟨k, f, ds⟩ = mayD ⟨k, g, ds⟩ := by
 unfold mayD
 show (keyB k && (mayB f && (decide (ds.length ≤ 16) && okD f none ds))) = (keyB k && (mayB g && (decide (ds.length ≤ 16) && okD g none ds)))
 rw [mayB_congr h, okD_congr h]
theorem okD_cov {f : Nat → Int} : ∀ {p : Option (Int × Int)} {ds : List (Int × Int)}, okD f p ds = true → ∀ d ∈ ds, coversB f d.1 d.2 = true
 | _, [], _, d, hd => by simp at hd
 | none, x :: r, h, d, hd => by
  unfold okD at h
  simp only [Bool.and_eq_true] at h
  rcases List.mem_cons.1 hd with rfl | hd
  ·exact h.1
  ·exact okD_cov h.2 d hd
 | some _, x :: r, h, d, hd => by
  unfold okD at h
  simp only [Bool.and_eq_true] at h
  rcases List.mem_cons.1 hd with rfl | hd
  ·exact h.2.1
  ·exact okD_cov h.2.2 d hd
theorem mayD_cov {k : ByteArray} {f : Nat → Int} {ds : List (Int × Int)} (h : mayD ⟨k, f, ds⟩ = true) : ∀ d ∈ ds, coversB f d.1 d.2 = true := by
 unfold mayD at h
 have h : (keyB k && (mayB f && (decide (ds.length ≤ 16) && okD f none ds))) = true := h
 simp only [Bool.and_eq_true] at h
 exact okD_cov h.2.2.2
end Go.Proofs.Ytmbphlkohlggfaa
