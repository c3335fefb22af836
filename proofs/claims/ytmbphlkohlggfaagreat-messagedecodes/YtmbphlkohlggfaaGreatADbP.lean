/- Items of several texts. -/
import Derived.Test.YtmbphlkohlggfaaGreatAGMay
import Derived.Test.YtmbphlkohlggfaaGreatADot5
import Derived.Test.YtmbphlkohlggfaaGreatASWe
import Derived.Test.YtmbphlkohlggfaaGreatADwr
import Derived.Test.YtmbphlkohlggfaaGreatASRe
import Derived.Test.YtmbphlkohlggfaaGreatADr0
namespace Go.Proofs.YtmbphlkohlggfaaGreat
theorem put_put (most : Nat) (st : Option (List Nat)) (x y : List Nat) : putS most (putS most st x) y = putS most st (x ++ y) := by
 cases st with
 | none => rfl
 | some b =>
  simp only [putS]
  by_cases h : b.length + x.length ≤ most
  ·rw [if_pos h]
   simp only [List.length_append, List.append_assoc, Nat.add_assoc]
  ·rw [if_neg h]
   simp only [List.length_append]
   rw [if_neg (by omega)]
theorem put_none {most : Nat} {st : Option (List Nat)} (h : (st.getD []).length ≤ most) : putS most st [] = st := by
 cases st with
 | none => rfl
 | some b =>
  simp only [Option.getD_some] at h
  simp [putS, h]
def encV (f : Nat → Int) : Nat → List Nat
 | 0 => []
 | n + 1 => encV f n ++ numB (zig (f n))
def encA (x : A) : List Nat := numB (u64N x.node) ++ (numB (zig x.num) ++ ((if x.dead then 1 else 0) :: (numB x.data.length ++ x.data)))
def encL : List A → List Nat
 | [] => []
 | x :: l => encA x ++ encL l
def encE (t : List Nat) (f : Nat → Int) (l : List A) : List Nat := (numB t.length ++ t) ++ (encV f 8 ++ (numB l.length ++ encL l))
theorem wrV_enc {most : Nat} {st : Option (List Nat)} (h : (st.getD []).length ≤ most) (f : Nat → Int) : ∀ n, wrV most st f n = putS most st (encV f n)
 | 0 => (put_none h).symm
 | n + 1 => by
  show putS most (wrV most st f n) _ = _
  rw [wrV_enc h f n, put_put]
  rfl
theorem wrVal_enc (most : Nat) (st : Option (List Nat)) (x : A) : wrVal most st x = putS most st (encA x) := by
 unfold wrVal encA
 rw [put_put, put_put, put_put]
 simp only [List.cons_append, List.nil_append]
theorem wrL_enc {most : Nat} : ∀ {st : Option (List Nat)}, (st.getD []).length ≤ most → ∀ l, wrL most st l = putS most st (encL l)
 | _, h, [] => (put_none h).symm
 | st, h, x :: l => by
  have e : wrL most st (x :: l) = wrL most (wrVal most st x) l := rfl
  rw [e, wrL_enc (wrVal_le h x) l, wrVal_enc, put_put]
  rfl
theorem er_num {s : RS} (h : s.2 ≠ 0) : numS s = (0, s) := by simp [numS, h]
structure Rng (x : A) : Prop where
 n0 : -9223372036854775808 ≤ x.node
 n1 : x.node ≤ 9223372036854775807
 m0 : -9223372036854775808 ≤ x.num
 m1 : x.num ≤ 9223372036854775807
 len : x.data.length ≤ 140737488351232
 lt : ∀ y ∈ x.data, y < 256
theorem Row.rng {w : World} {a : Option Addr} {c : Nat} {l : List V} (h : Row w a c l) : ∀ x ∈ cont l, Rng x := by
 intro x hx
 simp only [cont, List.mem_map] at hx
 obtain ⟨v, hv, rfl⟩ := hx
 have k := h.ok v hv
 exact ⟨k.n0, k.n1, k.m0, k.m1, k.len, k.lt⟩
theorem encV_lt (f : Nat → Int) : ∀ n, ∀ x ∈ encV f n, x < 256
 | 0, x, hx => by simp [encV] at hx
 | n + 1, x, hx => by
  rcases List.mem_append.1 hx with h | h
  ·exact encV_lt f n x h
  ·exact numB_lt _ _ h
theorem encA_lt {x : A} (hx : Rng x) : ∀ y ∈ encA x, y < 256 := by
 intro y hy
 unfold encA at hy
 simp only [List.mem_append, List.mem_cons] at hy
 rcases hy with h | h | h | h | h
 ·exact numB_lt _ _ h
 ·exact numB_lt _ _ h
 ·subst h; split <;> omega
 ·exact numB_lt _ _ h
 ·exact hx.lt y h
theorem encL_lt : ∀ {l : List A}, (∀ x ∈ l, Rng x) → ∀ y ∈ encL l, y < 256
 | [], _, y, hy => by simp [encL] at hy
 | x :: l, h, y, hy => by
  rcases List.mem_append.1 hy with k | k
  ·exact encA_lt (h x (by simp)) y k
  ·exact encL_lt (fun z hz => h z (by simp [hz])) y k
theorem keyL_lt (key : ByteArray) : ∀ x ∈ keyL key, x < 256 := by
 intro x hx
 simp only [keyL, List.mem_map] at hx
 obtain ⟨u, -, rfl⟩ := hx
 exact u.toNat_lt
theorem encE_lt {key : ByteArray} {f : Nat → Int} {l : List A} (hl : ∀ x ∈ l, Rng x) : ∀ y ∈ encE (keyL key) f l, y < 256 := by
 intro y hy
 unfold encE at hy
 simp only [List.mem_append] at hy
 rcases hy with (h | h) | h | h | h
 ·exact numB_lt _ _ h
 ·exact keyL_lt key y h
 ·exact encV_lt f 8 y h
 ·exact numB_lt _ _ h
 ·exact encL_lt hl y h
end Go.Proofs.YtmbphlkohlggfaaGreat

namespace Go.Proofs.YtmbphlkohlggfaaGreat
open Go.RowKit
def encDs : List (Int × Int) → List Nat
 | [] => []
 | d :: r => (numB (u64N d.1) ++ numB (zig d.2)) ++ encDs r
def encG (t : List Nat) (f : Nat → Int) (ds : List (Int × Int)) : List Nat := (numB t.length ++ t) ++ (encV f 8 ++ (numB ds.length ++ encDs ds))
theorem wrDs_enc {most : Nat} : ∀ {st : Option (List Nat)}, (st.getD []).length ≤ most → ∀ (ds : List (Int × Int)), ds.foldl (wrDt most) st = putS most st (encDs ds)
 | _, h, [] => (put_none h).symm
 | st, h, d :: r => by
  have e : (d :: r).foldl (wrDt most) st = r.foldl (wrDt most) (wrDt most st d) := rfl
  have e2 : wrDt most st d = putS most st (numB (u64N d.1) ++ numB (zig d.2)) := by unfold wrDt; rw [put_put]
  rw [e, wrDs_enc (st := wrDt most st d) (put_le (put_le h _) _) r, e2, put_put]
  rfl
theorem encDs_lt : ∀ (ds : List (Int × Int)), ∀ y ∈ encDs ds, y < 256
 | [], _, h => by simp [encDs] at h
 | d :: r, y, h => by
  simp only [encDs, List.mem_append] at h
  rcases h with (h | h) | h
  ·exact numB_lt _ y h
  ·exact numB_lt _ y h
  ·exact encDs_lt r y h
theorem encG_lt {key : ByteArray} {f : Nat → Int} {ds : List (Int × Int)} : ∀ y ∈ encG (keyL key) f ds, y < 256 := by
 intro y h
 simp only [encG, List.mem_append] at h
 rcases h with (h | h) | h | h | h
 ·exact numB_lt _ y h
 ·exact keyL_lt key y h
 ·exact encV_lt f 8 y h
 ·exact numB_lt _ y h
 ·exact encDs_lt ds y h
def dtNx (s : RS) : RS := (intS (numS s).2).2
theorem dtSt_in (s : RS) : ∀ n, dtSt s (n + 1) = dtSt (dtNx s) n
 | 0 => rfl
 | n + 1 => by show dtNx (dtSt s (n + 1)) = dtNx (dtSt (dtNx s) n); rw [dtSt_in s n]
theorem okD_cov {f : Nat → Int} : ∀ {p : Option (Int × Int)} {ds : List (Int × Int)}, okD f p ds = true → ∀ d ∈ ds, coversB f d.1 d.2 = true
 | _, [], _, d, hd => by simp at hd
 | none, x :: r, h, d, hd => by
  unfold okD at h
  simp only [Bool.and_eq_true] at h
  rcases List.mem_cons.1 hd with rfl | hd
  ·exact h.1
  ·exact okD_cov h.2 d hd
 | some _, x :: r, h, d, hd => by
  unfold okD at h
  simp only [Bool.and_eq_true] at h
  rcases List.mem_cons.1 hd with rfl | hd
  ·exact h.2.1
  ·exact okD_cov h.2.2 d hd
theorem dtSt_ok {s : RS} (h : Ok s) : ∀ n, Ok (dtSt s n)
 | 0 => h
 | n + 1 => (num_ok (num_ok (dtSt_ok h n)).1).1
theorem rdDs_eq {f : Nat → Int} {s : RS} {n : Nat} (hok : Ok s) (h : (∀ d ∈ rdDs nodeP n s, coversB f d.1 d.2 = true) ∨ ∀ d ∈ rdDs nodeR n s, coversB f d.1 d.2 = true) : rdDs nodeP n s = rdDs nodeR n s := by
 unfold rdDs
 refine List.map_congr_left fun i hi => ?_
 have hlt := (num_ok (dtSt_ok hok i)).2.1
 have e : nodeP (numS (dtSt s i)).1 = nodeR (numS (dtSt s i)).1 := by
  refine node_eq (f := f) (N := (intS (numS (dtSt s i)).2).1) hlt ?_
  rcases h with h | h
  ·exact .inl (h _ (List.mem_map.2 ⟨i, hi, rfl⟩))
  ·exact .inr (h _ (List.mem_map.2 ⟨i, hi, rfl⟩))
 unfold rdDt
 rw [e]
theorem mayD_cov {k : ByteArray} {f : Nat → Int} {ds : List (Int × Int)} (h : mayD ⟨k, f, ds⟩ = true) : ∀ d ∈ ds, coversB f d.1 d.2 = true := by
 unfold mayD at h
 have h : (keyB k && (mayB f && (decide (ds.length ≤ 16) && okD f none ds))) = true := h
 simp only [Bool.and_eq_true] at h
 exact okD_cov h.2.2.2
theorem dr_eq {s : RS} (hok : Ok s) : drB nodeP s = drB nodeR s ∧ drKey nodeP s = drKey nodeR s ∧ drF nodeP s = drF nodeR s ∧ drL nodeP s = drL nodeR s := by
 have ok2 : Ok (countS 16 (rdV (drT s) 8)).2 := (count_ok 16 (rdV_ok (text_ok 32 hok) 8)).1
 have key : mayD ⟨drK s, readF (drT s), drD nodeP s⟩ = true ∨ mayD ⟨drK s, readF (drT s), drD nodeR s⟩ = true → drD nodeP s = drD nodeR s := fun h =>
  rdDs_eq (f := readF (drT s)) ok2 (h.imp (fun h => mayD_cov h) (fun h => mayD_cov h))
 have hb : drB nodeP s = drB nodeR s := by
  unfold drB
  cases h1 : mayD ⟨drK s, readF (drT s), drD nodeP s⟩
  ·cases h2 : mayD ⟨drK s, readF (drT s), drD nodeR s⟩
   ·rfl
   ·rw [key (.inr h2), h2] at h1
    cases h1
  ·rw [← key (.inl h1), h1]
 refine ⟨hb, by unfold drKey; rw [hb], by unfold drF; rw [hb], ?_⟩
 unfold drL
 rw [← hb]
 split
 ·rename_i h
  unfold drB at h
  simp only [Bool.and_eq_true] at h
  exact key (.inl h.2.2)
 ·rfl
end Go.Proofs.YtmbphlkohlggfaaGreat
