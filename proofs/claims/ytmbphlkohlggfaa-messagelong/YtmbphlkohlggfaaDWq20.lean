/- Items of several texts. -/
import Derived.Lib.SlBytesConst
import Derived.Deep.CutRange
import Derived.Test.YtmbphlkohlggfaaDLiv
import Derived.Test.YtmbphlkohlggfaaDGMay
import Derived.Test.YtmbphlkohlggfaaDMw20
import Derived.Test.YtmbphlkohlggfaaDMay20
import Derived.Test.YtmbphlkohlggfaaDSWe
import Derived.Test.YtmbphlkohlggfaaDDwr
import Derived.Test.YtmbphlkohlggfaaDSRe
import Derived.Test.YtmbphlkohlggfaaDDr0
namespace Go.Proofs.Ytmbphlkohlggfaa
open Go.RowKit
theorem okD_cov {f : Nat → Int} : ∀ {p : Option (Int × Int)} {ds : List (Int × Int)}, okD f p ds = true → ∀ d ∈ ds, coversB f d.1 d.2 = true
 | _, [], _, d, hd => by simp at hd
 | none, x :: r, h, d, hd => by
  unfold okD at h
  simp only [Bool.and_eq_true] at h
  rcases List.mem_cons.1 hd with rfl | hd
  ·exact h.1
  ·exact okD_cov h.2 d hd
 | some _, x :: r, h, d, hd => by
  unfold okD at h
  simp only [Bool.and_eq_true] at h
  rcases List.mem_cons.1 hd with rfl | hd
  ·exact h.2.1
  ·exact okD_cov h.2.2 d hd
theorem mayD_cov {k : ByteArray} {f : Nat → Int} {ds : List (Int × Int)} (h : mayD ⟨k, f, ds⟩ = true) : ∀ d ∈ ds, coversB f d.1 d.2 = true := by
 unfold mayD at h
 have h : (keyB k && (mayB f && (decide (ds.length ≤ 16) && okD f none ds))) = true := h
 simp only [Bool.and_eq_true] at h
 exact okD_cov h.2.2.2
end Go.Proofs.Ytmbphlkohlggfaa

namespace Go.Proofs.Ytmbphlkohlggfaa
set_option maxRecDepth 100000
open Go.RowKit
structure Wq (T : (Nat → Prop) → Nat → Nat → Option (List Nat) → World → Prop) (K : Nat → Prop) (b most : Nat) (st : Option (List Nat)) (w : World) : Prop where
 ex : ∃ D, T D b most st w ∧ ∀ c, D c → ¬ K c
 fit : (st.getD []).length ≤ most
 bd : ∀ c, K c → c < w.heap.size
theorem Wq.step {T : (Nat → Prop) → Nat → Nat → Option (List Nat) → World → Prop} {K D : Nat → Prop} {b most : Nat} {st' : Option (List Nat)} {w w' : World} (hb : ∀ c, K c → c < w.heap.size) (hD : ∀ c, D c → ¬ K c)
  (h : ∃ D', T D' b most st' w' ∧ Off D w w' ∧ ∀ c, D' c → D c ∨ w.heap.size ≤ c) (hf : (st'.getD []).length ≤ most) : Wq T K b most st' w' ∧ Off (fun c => ¬ K c) w w' := by
 obtain ⟨D', h1, h2, h3⟩ := h
 refine ⟨⟨⟨D', h1, fun c hc hk => ?_⟩, hf, fun c hc => Nat.lt_of_lt_of_le (hb c hc) h2.size⟩, h2.mono (fun c _ hc => hD c hc)⟩
 rcases h3 c hc with h | h
 ·exact hD c h hk
 ·have := hb c hk
  omega
theorem Wq.off {K : Nat → Prop} {b most : Nat} {st : Option (List Nat)} {w w' : World} (h : Wq Wtr K b most st w) (o : Off (fun _ => False) w w') : Wq Wtr K b most st w' := by
 obtain ⟨D, h1, h2⟩ := h.ex
 exact ⟨⟨D, h1.off o (fun _ _ _ h => h), h2⟩, h.fit, fun c hc => Nat.lt_of_lt_of_le (h.bd c hc) o.size⟩
theorem Wq.more {K L : Nat → Prop} {b most : Nat} {st : Option (List Nat)} {w w' : World} (h : Wq Wtr K b most st w) (o : Off (fun _ => False) w w') (hL : ∀ c, L c → K c ∨ w.heap.size ≤ c ∧ c < w'.heap.size) : Wq Wtr L b most st w' := by
 obtain ⟨D, h1, h2⟩ := h.ex
 refine ⟨⟨D, h1.off o (fun _ _ _ h => h), fun c hc hl => ?_⟩, h.fit, fun c hc => ?_⟩
 ·rcases hL c hl with h | h
  ·exact h2 c hc h
  ·have := h1.lt c hc
   omega
 ·rcases hL c hc with h5 | h5
  ·exact Nat.lt_of_lt_of_le (h.bd c h5) o.size
  ·exact h5.2
def wrEs (most : Nat) (st : Option (List Nat)) (es : List K) : Option (List Nat) := es.foldl (fun s k => wrE most s k.key k.f k.l) st
def wrGs (most : Nat) (st : Option (List Nat)) (gs : List GK) : Option (List Nat) := gs.foldl (fun s g => wrG most s g.key g.f g.ds) st
def wrMs (most : Nat) (st : Option (List Nat)) (ms : List (Int × Int)) : Option (List Nat) := ms.foldl (wrM most) st
theorem wrEs_step {most : Nat} {st : Option (List Nat)} {l : List E} {n : Nat} {x : E} (h : l[n]? = some x) : wrEs most st ((l.take (n + 1)).map E.abs) = wrE most (wrEs most st ((l.take n).map E.abs)) x.key x.f (cont x.l) := by
 rw [List.take_add_one, h]
 simp [wrEs, E.abs]
theorem wrGs_step {most : Nat} {st : Option (List Nat)} {l : List G} {n : Nat} {x : G} (h : l[n]? = some x) : wrGs most st ((l.take (n + 1)).map G.abs) = wrG most (wrGs most st ((l.take n).map G.abs)) x.key x.f x.ds := by
 rw [List.take_add_one, h]
 simp [wrGs, G.abs]
theorem wrMs_step {most : Nat} {st : Option (List Nat)} {l : List (Int × Int)} {n : Nat} {x : Int × Int} (h : l[n]? = some x) : wrMs most st (l.take (n + 1)) = wrM most (wrMs most st (l.take n)) x := by
 rw [List.take_add_one, h]
 simp [wrMs]
theorem len_wrap {α : Type} (l : List α) (h : l.length ≤ 9223372036854775807) : IntKind.u64.wrap ((l.length : Nat) : Int) = ((l.length : Nat) : Int) := by
 simp only [IntKind.wrap, IntKind.bits, IntKind.signed]
 go_num
theorem may_rng {key : ByteArray} {f : Nat → Int} {l : List A} (h : (keyB key && mayS f l) = true) : key.size ≤ 32 ∧ ∀ j, j < 8 → -9223372036854775808 ≤ f j ∧ f j ≤ 9223372036854775807 := by
 rw [Bool.and_eq_true] at h
 refine ⟨by have := h.1; simp [keyB] at this; omega, fun j hj => ?_⟩
 have := (may_iff.1 h.2).seen j hj
 omega
theorem mayD_rng {key : ByteArray} {f : Nat → Int} {ds : List (Int × Int)} (h : mayD ⟨key, f, ds⟩ = true) : key.size ≤ 32 ∧ (∀ j, j < 8 → -9223372036854775808 ≤ f j ∧ f j ≤ 9223372036854775807) ∧ RgD ds := by
 have hc := mayD_cov h
 simp only [mayD, Bool.and_eq_true, decide_eq_true_eq] at h
 obtain ⟨h1, h2, h3, h4⟩ := h
 have h5 : ∀ j, j < 8 → 0 ≤ f j ∧ f j ≤ 1099511627776 := by simpa [mayB] using h2
 refine ⟨by simp [keyB] at h1; omega, fun j hj => by have := h5 j hj; omega, ⟨fun d hd => ?_⟩⟩
 have h6 := hc d hd
 simp only [coversB, decide_eq_true_eq] at h6
 have h7 := h5 d.1.toNat (by omega)
 omega
theorem wq1E {K : Nat → Prop} {b most : Nat} {sn : Option (List Nat)} {w : World} (h : Wq Wtr K b most sn w) (hm : most ≤ 140737488355328) (v : E) (hok : (keyB v.key && mayS v.f (cont v.l)) = true) (hrow : ∀ w', Off (fun c => ¬ K c) w w' → Row w' v.a v.cap v.l) :
  Calls Try.prog 86 #[.pointer (some ⟨b, 0, none⟩), .agg #[.string v.key, .int .i64 (v.f 0), .int .i64 (v.f 1), .int .i64 (v.f 2), .int .i64 (v.f 3), .int .i64 (v.f 4), .int .i64 (v.f 5), .int .i64 (v.f 6), .int .i64 (v.f 7), .slice v.a v.l.length v.cap]] w fun e w' => e = .returned (.tuple #[]) ∧ Wq Wtr K b most (wrE most sn v.key v.f (cont v.l)) w' ∧ Off (fun c => ¬ K c) w w' := by
 obtain ⟨D, hW, hD⟩ := h.ex
 have hst := h.fit
 have hrow := fun w' (o : Off D w w') => hrow w' (o.mono (fun c _ hc => hD c hc))
 refine (writeEntry_any hW hm hst v.key (by have := (may_rng hok).1; omega) v.f (may_rng hok).2 v.a v.cap v.l hrow).mono ?_
 rintro e w' ⟨he, hP⟩
 exact ⟨he, Wq.step h.bd hD hP (wrE_le h.fit _ _ _)⟩
theorem wq1D {K : Nat → Prop} {b most : Nat} {sn : Option (List Nat)} {w : World} (h : Wq Wtr K b most sn w) (hm : most ≤ 140737488355328) (v : G) (hok : mayD ⟨v.key, v.f, v.ds⟩ = true) (hrow : ∀ w', Off (fun c => ¬ K c) w w' → RowD w' v.a v.cap v.ds) :
  Calls Try.prog 88 #[.pointer (some ⟨b, 0, none⟩), .agg #[.string v.key, .int .i64 (v.f 0), .int .i64 (v.f 1), .int .i64 (v.f 2), .int .i64 (v.f 3), .int .i64 (v.f 4), .int .i64 (v.f 5), .int .i64 (v.f 6), .int .i64 (v.f 7), .slice v.a v.ds.length v.cap]] w fun e w' => e = .returned (.tuple #[]) ∧ Wq Wtr K b most (wrG most sn v.key v.f v.ds) w' ∧ Off (fun c => ¬ K c) w w' := by
 obtain ⟨D, hW, hD⟩ := h.ex
 have hst := h.fit
 have hrow := fun w' (o : Off D w w') => hrow w' (o.mono (fun c _ hc => hD c hc))
 refine (dwrite_any hW hm hst v.key (by have := (mayD_rng hok).1; omega) v.f (mayD_rng hok).2.1 v.a v.cap v.ds (mayD_rng hok).2.2 hrow).mono ?_
 rintro e w' ⟨he, hP⟩
 exact ⟨he, Wq.step h.bd hD hP (wrG_le h.fit _ _ _)⟩
theorem wq1M {K : Nat → Prop} {b most : Nat} {sn : Option (List Nat)} {w : World} (h : Wq Wtr K b most sn w) (hm : most ≤ 140737488355328) (v : (Int × Int)) (hok : mbB v.1 v.2 = true)  :
  Calls Try.prog 90 #[.pointer (some ⟨b, 0, none⟩), .agg #[.int .i64 v.1, .int .i64 v.2]] w fun e w' => e = .returned (.tuple #[]) ∧ Wq Wtr K b most (wrM most sn v) w' ∧ Off (fun c => ¬ K c) w w' := by
 obtain ⟨D, hW, hD⟩ := h.ex
 have hst := h.fit
 skip
 refine (mwrite_any hW hm hst v (by have := mb_of hok; omega) (by have := mb_of hok; omega)).mono ?_
 rintro e w' ⟨he, hP⟩
 exact ⟨he, Wq.step h.bd hD hP (wrM_le h.fit _)⟩
theorem wqNum {K : Nat → Prop} {b most : Nat} {st : Option (List Nat)} {w : World} (h : Wq Wtr K b most st w) (hm : most ≤ 140737488355328) (n : Nat) (hn : n < 18446744073709551616) :
  Calls Try.prog 82 #[.pointer (some ⟨b, 0, none⟩), .int .u64 (n : Int)] w fun e w' => e = .returned (.tuple #[]) ∧ Wq Wtr K b most (putS most st (numB n)) w' ∧ Off (fun c => ¬ K c) w w' := by
 obtain ⟨D, hW, hD⟩ := h.ex
 refine (wnum_any hW n hn (.inr ⟨hm, h.fit⟩)).mono ?_
 rintro e w' ⟨he, hP⟩
 exact ⟨he, Wq.step h.bd hD hP (put_le h.fit _)⟩
theorem wqInt {K : Nat → Prop} {b most : Nat} {st : Option (List Nat)} {w : World} (h : Wq Wtr K b most st w) (hm : most ≤ 140737488355328) (i : Int) (h0 : -9223372036854775808 ≤ i) (h1 : i ≤ 9223372036854775807) :
  Calls Try.prog 83 #[.pointer (some ⟨b, 0, none⟩), .int .i64 i] w fun e w' => e = .returned (.tuple #[]) ∧ Wq Wtr K b most (putS most st (numB (zig i))) w' ∧ Off (fun c => ¬ K c) w w' := by
 obtain ⟨D, hW, hD⟩ := h.ex
 refine (wint_any hW i h0 h1 (.inr ⟨hm, h.fit⟩)).mono ?_
 rintro e w' ⟨he, hP⟩
 exact ⟨he, Wq.step h.bd hD hP (put_le h.fit _)⟩
theorem wqText {K : Nat → Prop} {b most : Nat} {st : Option (List Nat)} {w : World} (h : Wq Wtr K b most st w) (hm : most ≤ 140737488355328) (bt : Option Addr) (bc : Nat) (bb : List Nat) (hb : bb.length ≤ 32) (hs : Src w bt bc bb) (hk : ∀ k, blk bt = some k → K k) :
  Calls Try.prog 84 #[.pointer (some ⟨b, 0, none⟩), .slice bt bb.length bc] w fun e w' => e = .returned (.tuple #[]) ∧ Wq Wtr K b most (putS most st (numB bb.length ++ bb)) w' ∧ Off (fun c => ¬ K c) w w' := by
 obtain ⟨D, hW, hD⟩ := h.ex
 refine (wtext_any hW bt bc bb (fun w' o => hs.off o (fun c _ hc hd => hD c hd (hk c hc))) (.inr ⟨hm, h.fit, by omega⟩)).mono ?_
 rintro e w' ⟨he, hP⟩
 exact ⟨he, Wq.step h.bd hD hP (put_le h.fit _)⟩
set_option maxHeartbeats 2000000 in
theorem wrAllE_any {K : Nat → Prop} {b most : Nat} {st : Option (List Nat)} {w : World} (h : Wq Wtr K b most st w) (hm : most ≤ 140737488355328) (a : Option Addr) (cap : Nat) (xs : List E) (hE : ∀ w', Off (fun c => ¬ K c) w w' → Ens w' a cap xs) (hok : ∀ x ∈ xs, (keyB x.key && mayS x.f (cont x.l)) = true) :
  Calls Try.prog 85 #[.pointer (some ⟨b, 0, none⟩), .slice a xs.length cap, .func (.func 86) #[] #[]] w fun e w' => e = .returned (.tuple #[]) ∧ Wq Wtr K b most (wrEs most (putS most st (numB xs.length)) (xs.map E.abs)) w' ∧ Off (fun c => ¬ K c) w w' := by
 have hb0 := (hE w (Off.refl _ w)).len
 have hb := (hE w (Off.refl _ w)).bound
 have hlen : xs.length ≤ 9223372036854775807 := by omega
 have hwrap := len_wrap xs hlen
 have HE : Hid (∀ w', Off (fun c => ¬ K c) w w' → Ens w' a cap xs) := hE
 have HOK : Hid (∀ x ∈ xs, (keyB x.key && mayS x.f (cont x.l)) = true) := hok
 have HM : Hid (most ≤ 140737488355328) := hm
 have HW : Hid _ := h
 clear h hE hok hm hb hb0
 go_enter Try.func85, Try.ntmps85
 go_wp2_with fail
 refine (wqNum HW.out HM.out xs.length (by omega)).mono ?_
 rintro e w1 ⟨rfl, hq, o1⟩
 have HQ : Hid _ := hq
 have HO : Hid _ := o1
 clear hq o1 hwrap
 go_wp2_with fail
 go_loopw [15] (fun y wr => ∃ n : Nat, y = .int .i64 (n : Int) ∧ n ≤ xs.length ∧ Hid (Wq Wtr K b most (wrEs most (putS most st (numB xs.length)) ((xs.take n).map E.abs)) wr) ∧ Hid (Off (fun c => ¬ K c) w wr)) (fun y _ => (xs.length - intOf y).toNat)
 case atStart => exact ⟨0, rfl, by omega, HQ.out, HO.out⟩
 case round =>
  clear HQ HO
  obtain ⟨n, rfl, hn, HQ, HO⟩ := hrel
  by_cases hlt : n < xs.length
  ·have g1b : decide ((n : Int) < (xs.length : Int)) = true := decide_eq_true (by omega)
   have g2b : decide (n < xs.length) = true := decide_eq_true hlt
   obtain ⟨v, hv⟩ : ∃ v, xs[n]? = some v := ⟨_, List.getElem?_eq_getElem hlt⟩
   have hA := (HE.out wr HO.out).at_ n v hv
   obtain ⟨bx, off, ea, k10, kr⟩ := hA
   have HR : Hid (∀ w', Off (fun c => ¬ K c) wr w' → Row w' v.a v.cap v.l) := fun w' o => by
    obtain ⟨_, _, _, _, r⟩ := (HE.out w' (HO.out.trans o (fun _ _ h => h))).at_ n v hv
    exact r
   clear kr
   subst ea
   obtain ⟨k0, k1, k2, k3, k4, k5, k6, k7, k8, k9⟩ := ent10 k10
   clear k10
   have hix := idx_ents hlt
   have HV : Hid _ := hv
   have HV2 : Hid _ := HOK.out v (List.mem_of_getElem? hv)
   clear hv
   go_upto_region 4 with fail
   have CN := Cel.new wr 46 #[.string v.key, .int .i64 (v.f 0), .int .i64 (v.f 1), .int .i64 (v.f 2), .int .i64 (v.f 3), .int .i64 (v.f 4), .int .i64 (v.f 5), .int .i64 (v.f 6), .int .i64 (v.f 7), .slice v.a v.l.length v.cap]
   have ON : Off (fun _ => False) wr (wr.alloc (.cells #[.string v.key, .int .i64 (v.f 0), .int .i64 (v.f 1), .int .i64 (v.f 2), .int .i64 (v.f 3), .int .i64 (v.f 4), .int .i64 (v.f 5), .int .i64 (v.f 6), .int .i64 (v.f 7), .slice v.a v.l.length v.cap] 46)) := (Off.refl _ wr).alloc _
   generalize hvv : wr.alloc (.cells #[.string v.key, .int .i64 (v.f 0), .int .i64 (v.f 1), .int .i64 (v.f 2), .int .i64 (v.f 3), .int .i64 (v.f 4), .int .i64 (v.f 5), .int .i64 (v.f 6), .int .i64 (v.f 7), .slice v.a v.l.length v.cap] 46) = v1 at CN ON ⊢
   generalize hpp : wr.heap.size = p at CN ⊢
   clear hvv hpp k0 k1 k2 k3 k4 k5 k6 k7 k8 k9 hix
   have z0 := CN.cell 0
   have z1 := CN.cell 1
   have z2 := CN.cell 2
   have z3 := CN.cell 3
   have z4 := CN.cell 4
   have z5 := CN.cell 5
   have z6 := CN.cell 6
   have z7 := CN.cell 7
   have z8 := CN.cell 8
   have z9 := CN.cell 9
   simp at z0 z1 z2 z3 z4 z5 z6 z7 z8 z9
   have HQ1 : Hid _ := HQ.out.off ON
   have HON : Hid (Off (fun c => ¬ K c) wr v1) := ON.mono (fun _ _ h => h.elim)
   clear CN ON
   go_wp2_with fail
   refine (wq1E HQ1.out HM.out v HV2.out (fun w1 o => HR.out w1 (HON.out.trans o (fun _ _ h => h)))).mono ?_
   rintro e w2 ⟨rfl, hq, o2⟩
   clear z0 z1 z2 z3 z4 z5 z6 z7 z8 z9
   have HQ2 : Hid _ := hq
   have HO2 : Hid _ := (HO.out.trans HON.out (fun _ _ h => h)).trans o2 (fun _ _ h => h)
   clear hq o2 HQ1
   go_wp2_with fail
   go_roundw
   case rel => exact ⟨n + 1, by go_num, by omega, by rw [wrEs_step HV.out]; exact HQ2.out, HO2.out⟩
   case measure => simp [intOf]; omega
  ·obtain rfl : n = xs.length := by omega
   have g1b : decide ((xs.length : Int) < (xs.length : Int)) = false := decide_eq_false (by omega)
   have g2b : decide (xs.length < xs.length) = false := decide_eq_false (by omega)
   rw [List.take_length] at HQ
   go_wp2_with fail
   first | go_end0 | refine bodyPost_ret (results_none rfl _ _ _) rfl ?_
   exact ⟨rfl, HQ.out, HO.out⟩
set_option maxHeartbeats 2000000 in
theorem wrAllD_any {K : Nat → Prop} {b most : Nat} {st : Option (List Nat)} {w : World} (h : Wq Wtr K b most st w) (hm : most ≤ 140737488355328) (a : Option Addr) (cap : Nat) (xs : List G) (hE : ∀ w', Off (fun c => ¬ K c) w w' → Dgs w' a cap xs) (hok : ∀ x ∈ xs, mayD ⟨x.key, x.f, x.ds⟩ = true) :
  Calls Try.prog 87 #[.pointer (some ⟨b, 0, none⟩), .slice a xs.length cap, .func (.func 88) #[] #[]] w fun e w' => e = .returned (.tuple #[]) ∧ Wq Wtr K b most (wrGs most (putS most st (numB xs.length)) (xs.map G.abs)) w' ∧ Off (fun c => ¬ K c) w w' := by
 have hb0 := (hE w (Off.refl _ w)).len
 have hb := (hE w (Off.refl _ w)).bound
 have hlen : xs.length ≤ 9223372036854775807 := by omega
 have hwrap := len_wrap xs hlen
 have HE : Hid (∀ w', Off (fun c => ¬ K c) w w' → Dgs w' a cap xs) := hE
 have HOK : Hid (∀ x ∈ xs, mayD ⟨x.key, x.f, x.ds⟩ = true) := hok
 have HM : Hid (most ≤ 140737488355328) := hm
 have HW : Hid _ := h
 clear h hE hok hm hb hb0
 go_enter Try.func87, Try.ntmps87
 go_wp2_with fail
 refine (wqNum HW.out HM.out xs.length (by omega)).mono ?_
 rintro e w1 ⟨rfl, hq, o1⟩
 have HQ : Hid _ := hq
 have HO : Hid _ := o1
 clear hq o1 hwrap
 go_wp2_with fail
 go_loopw [15] (fun y wr => ∃ n : Nat, y = .int .i64 (n : Int) ∧ n ≤ xs.length ∧ Hid (Wq Wtr K b most (wrGs most (putS most st (numB xs.length)) ((xs.take n).map G.abs)) wr) ∧ Hid (Off (fun c => ¬ K c) w wr)) (fun y _ => (xs.length - intOf y).toNat)
 case atStart => exact ⟨0, rfl, by omega, HQ.out, HO.out⟩
 case round =>
  clear HQ HO
  obtain ⟨n, rfl, hn, HQ, HO⟩ := hrel
  by_cases hlt : n < xs.length
  ·have g1b : decide ((n : Int) < (xs.length : Int)) = true := decide_eq_true (by omega)
   have g2b : decide (n < xs.length) = true := decide_eq_true hlt
   obtain ⟨v, hv⟩ : ∃ v, xs[n]? = some v := ⟨_, List.getElem?_eq_getElem hlt⟩
   have hA := (HE.out wr HO.out).at_ n v hv
   obtain ⟨bx, off, ea, k10, kr⟩ := hA
   have HR : Hid (∀ w', Off (fun c => ¬ K c) wr w' → RowD w' v.a v.cap v.ds) := fun w' o => by
    obtain ⟨_, _, _, _, r⟩ := (HE.out w' (HO.out.trans o (fun _ _ h => h))).at_ n v hv
    exact r
   clear kr
   subst ea
   obtain ⟨k0, k1, k2, k3, k4, k5, k6, k7, k8, k9⟩ := dg10 k10
   clear k10
   have hix := idx_dgs hlt
   have HV : Hid _ := hv
   have HV2 : Hid _ := HOK.out v (List.mem_of_getElem? hv)
   clear hv
   go_upto_region 4 with fail
   have CN := Cel.new wr 53 #[.string v.key, .int .i64 (v.f 0), .int .i64 (v.f 1), .int .i64 (v.f 2), .int .i64 (v.f 3), .int .i64 (v.f 4), .int .i64 (v.f 5), .int .i64 (v.f 6), .int .i64 (v.f 7), .slice v.a v.ds.length v.cap]
   have ON : Off (fun _ => False) wr (wr.alloc (.cells #[.string v.key, .int .i64 (v.f 0), .int .i64 (v.f 1), .int .i64 (v.f 2), .int .i64 (v.f 3), .int .i64 (v.f 4), .int .i64 (v.f 5), .int .i64 (v.f 6), .int .i64 (v.f 7), .slice v.a v.ds.length v.cap] 53)) := (Off.refl _ wr).alloc _
   generalize hvv : wr.alloc (.cells #[.string v.key, .int .i64 (v.f 0), .int .i64 (v.f 1), .int .i64 (v.f 2), .int .i64 (v.f 3), .int .i64 (v.f 4), .int .i64 (v.f 5), .int .i64 (v.f 6), .int .i64 (v.f 7), .slice v.a v.ds.length v.cap] 53) = v1 at CN ON ⊢
   generalize hpp : wr.heap.size = p at CN ⊢
   clear hvv hpp k0 k1 k2 k3 k4 k5 k6 k7 k8 k9 hix
   have z0 := CN.cell 0
   have z1 := CN.cell 1
   have z2 := CN.cell 2
   have z3 := CN.cell 3
   have z4 := CN.cell 4
   have z5 := CN.cell 5
   have z6 := CN.cell 6
   have z7 := CN.cell 7
   have z8 := CN.cell 8
   have z9 := CN.cell 9
   simp at z0 z1 z2 z3 z4 z5 z6 z7 z8 z9
   have HQ1 : Hid _ := HQ.out.off ON
   have HON : Hid (Off (fun c => ¬ K c) wr v1) := ON.mono (fun _ _ h => h.elim)
   clear CN ON
   go_wp2_with fail
   refine (wq1D HQ1.out HM.out v HV2.out (fun w1 o => HR.out w1 (HON.out.trans o (fun _ _ h => h)))).mono ?_
   rintro e w2 ⟨rfl, hq, o2⟩
   clear z0 z1 z2 z3 z4 z5 z6 z7 z8 z9
   have HQ2 : Hid _ := hq
   have HO2 : Hid _ := (HO.out.trans HON.out (fun _ _ h => h)).trans o2 (fun _ _ h => h)
   clear hq o2 HQ1
   go_wp2_with fail
   go_roundw
   case rel => exact ⟨n + 1, by go_num, by omega, by rw [wrGs_step HV.out]; exact HQ2.out, HO2.out⟩
   case measure => simp [intOf]; omega
  ·obtain rfl : n = xs.length := by omega
   have g1b : decide ((xs.length : Int) < (xs.length : Int)) = false := decide_eq_false (by omega)
   have g2b : decide (xs.length < xs.length) = false := decide_eq_false (by omega)
   rw [List.take_length] at HQ
   go_wp2_with fail
   first | go_end0 | refine bodyPost_ret (results_none rfl _ _ _) rfl ?_
   exact ⟨rfl, HQ.out, HO.out⟩
set_option maxHeartbeats 2000000 in
theorem wrAllM_any {K : Nat → Prop} {b most : Nat} {st : Option (List Nat)} {w : World} (h : Wq Wtr K b most st w) (hm : most ≤ 140737488355328) (a : Option Addr) (cap : Nat) (xs : List (Int × Int)) (hE : ∀ w', Off (fun c => ¬ K c) w w' → RowD w' a cap xs) (hok : ∀ x ∈ xs, mbB x.1 x.2 = true) :
  Calls Try.prog 89 #[.pointer (some ⟨b, 0, none⟩), .slice a xs.length cap, .func (.func 90) #[] #[]] w fun e w' => e = .returned (.tuple #[]) ∧ Wq Wtr K b most (wrMs most (putS most st (numB xs.length)) xs) w' ∧ Off (fun c => ¬ K c) w w' := by
 have hb0 := (hE w (Off.refl _ w)).len
 have hb := (hE w (Off.refl _ w)).bound
 have hlen : xs.length ≤ 9223372036854775807 := by omega
 have hwrap := len_wrap xs hlen
 have HE : Hid (∀ w', Off (fun c => ¬ K c) w w' → RowD w' a cap xs) := hE
 have HOK : Hid (∀ x ∈ xs, mbB x.1 x.2 = true) := hok
 have HM : Hid (most ≤ 140737488355328) := hm
 have HW : Hid _ := h
 clear h hE hok hm hb hb0
 go_enter Try.func89, Try.ntmps89
 go_wp2_with fail
 refine (wqNum HW.out HM.out xs.length (by omega)).mono ?_
 rintro e w1 ⟨rfl, hq, o1⟩
 have HQ : Hid _ := hq
 have HO : Hid _ := o1
 clear hq o1 hwrap
 go_wp2_with fail
 go_loopw [15] (fun y wr => ∃ n : Nat, y = .int .i64 (n : Int) ∧ n ≤ xs.length ∧ Hid (Wq Wtr K b most (wrMs most (putS most st (numB xs.length)) (xs.take n)) wr) ∧ Hid (Off (fun c => ¬ K c) w wr)) (fun y _ => (xs.length - intOf y).toNat)
 case atStart => exact ⟨0, rfl, by omega, HQ.out, HO.out⟩
 case round =>
  clear HQ HO
  obtain ⟨n, rfl, hn, HQ, HO⟩ := hrel
  by_cases hlt : n < xs.length
  ·have g1b : decide ((n : Int) < (xs.length : Int)) = true := decide_eq_true (by omega)
   have g2b : decide (n < xs.length) = true := decide_eq_true hlt
   obtain ⟨v, hv⟩ : ∃ v, xs[n]? = some v := ⟨_, List.getElem?_eq_getElem hlt⟩
   have hA := (HE.out wr HO.out).at_ n v hv
   obtain ⟨bx, off, ea, k0, k1⟩ := hA
   subst ea
   have hix := idx_mems hlt
   have HV : Hid _ := hv
   have HV2 : Hid _ := HOK.out v (List.mem_of_getElem? hv)
   clear hv
   go_upto_region 4 with fail
   have CN := Cel.new wr 63 #[.int .i64 v.1, .int .i64 v.2]
   have ON : Off (fun _ => False) wr (wr.alloc (.cells #[.int .i64 v.1, .int .i64 v.2] 63)) := (Off.refl _ wr).alloc _
   generalize hvv : wr.alloc (.cells #[.int .i64 v.1, .int .i64 v.2] 63) = v1 at CN ON ⊢
   generalize hpp : wr.heap.size = p at CN ⊢
   clear hvv hpp k0 k1 hix
   have z0 := CN.cell 0
   have z1 := CN.cell 1
   simp at z0 z1
   have HQ1 : Hid _ := HQ.out.off ON
   have HON : Hid (Off (fun c => ¬ K c) wr v1) := ON.mono (fun _ _ h => h.elim)
   clear CN ON
   go_wp2_with fail
   refine (wq1M HQ1.out HM.out v HV2.out).mono ?_
   rintro e w2 ⟨rfl, hq, o2⟩
   clear z0 z1
   have HQ2 : Hid _ := hq
   have HO2 : Hid _ := (HO.out.trans HON.out (fun _ _ h => h)).trans o2 (fun _ _ h => h)
   clear hq o2 HQ1
   go_wp2_with fail
   go_roundw
   case rel => exact ⟨n + 1, by go_num, by omega, by rw [wrMs_step HV.out]; exact HQ2.out, HO2.out⟩
   case measure => simp [intOf]; omega
  ·obtain rfl : n = xs.length := by omega
   have g1b : decide ((xs.length : Int) < (xs.length : Int)) = false := decide_eq_false (by omega)
   have g2b : decide (xs.length < xs.length) = false := decide_eq_false (by omega)
   rw [List.take_length] at HQ
   go_wp2_with fail
   first | go_end0 | refine bodyPost_ret (results_none rfl _ _ _) rfl ?_
   exact ⟨rfl, HQ.out, HO.out⟩
end Go.Proofs.Ytmbphlkohlggfaa
