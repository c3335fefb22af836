/- Items of several texts. -/
import Derived.Test.YtmeclfgehpbjlaaYQpt18
import Derived.Test.YtmeclfgehpbjlaaYQn18
import Derived.Test.YtmeclfgehpbjlaaYQk18
namespace Go.Proofs.Ytmeclfgehpbjlaa
set_option maxRecDepth 100000
open Go.RowKit
def Rd (N : Int → NF) (k : Int) (m : Mg) (v : World) : Prop := ∃ (es : List E) (gs : List G) (ms : List (Int × Int)), MsgAt v m es gs ms ∧ nfM m es gs ms = N k
def RdT (N : Int → NF) (T : Nat → Prop) (k : Int) (m : Mg) (w : World) : Prop := ∀ v, Off (fun c => ¬ T c) w v → Rd N k m v
structure QuR (N : Int → NF) (W : World) (O : Nat → Prop) (p : Nat) (l : List (Int × Int)) (most r t : Int) (w : World) : Prop where
 is : ∃ (D : Nat → Prop) (xs : List Wt), Que D p xs most r t w ∧ (∀ c, D c → W.heap.size ≤ c ∧ ¬ O c) ∧ xs.length = l.length ∧ ∀ (i : Nat) (x : Wt) (y : Int × Int), xs[i]? = some x → l[i]? = some y → x.base = y.2 ∧ ∃ T : Nat → Prop, (∀ c, T c → ¬ D c ∧ ¬ O c ∧ c < w.heap.size) ∧ RdT N T y.1 x.m w
 off : Off (fun _ => False) W w
 out : ∀ c, O c → W.heap.size ≤ c
theorem QuR.keep {N : Int → NF} {W : World} {O O' : Nat → Prop} {p : Nat} {l : List (Int × Int)} {most r t : Int} {w w' : World} (h : QuR N W O p l most r t w) (o : Off (fun c => O c) w w') (hO : ∀ c, O' c → O c ∨ w.heap.size ≤ c) : QuR N W O' p l most r t w' := by
 obtain ⟨D, xs, hq, hd, hl, hi⟩ := h.is
 have hs := h.off.size
 refine ⟨⟨D, xs, hq.off o (fun c _ hc e => (hd c hc).2 e), fun c hc => ⟨(hd c hc).1, fun e => ?_⟩, hl, fun i x y hx hy => ?_⟩, h.off.trans o (fun i hi e => by have := h.out i e; omega), fun c hc => ?_⟩
 ·rcases hO c e with e | e
  ·exact (hd c hc).2 e
  ·have := hq.dlt c hc
   omega
 ·obtain ⟨h1, T, hT, hr⟩ := hi i x y hx hy
  refine ⟨h1, T, fun c hc => ⟨(hT c hc).1, fun e => ?_, Nat.lt_of_lt_of_le (hT c hc).2.2 o.size⟩, fun v hv => hr v ((o.mono (fun c _ e hc => (hT c hc).2.1 e)).trans hv (fun _ _ h => h))⟩
  rcases hO c e with e | e
  ·exact (hT c hc).2.1 e
  ·have := (hT c hc).2.2
   omega
 ·rcases hO c hc with e | e
  ·exact h.out c e
  ·omega
theorem QuR.free {N : Int → NF} {W : World} {O : Nat → Prop} {p : Nat} {l : List (Int × Int)} {most r t : Int} {w w' : World} (h : QuR N W O p l most r t w) (o : Off (fun _ => False) w w') : QuR N W O p l most r t w' := h.keep (o.mono (fun _ _ h => h.elim)) (fun _ h => .inl h)
theorem ins_cut {l : List (Int × Int)} {b : Int} {n : Nat} (k : Int) (h : Fdw (its l) b n) : l.take n ++ (k, b) :: l.drop n = insQ b k l := by
 induction l generalizing n with
 | nil =>
  have := h.le
  rw [its_len] at this
  obtain rfl : n = 0 := by simpa using this
  rfl
 | cons x l ih =>
  cases n with
  | zero =>
   have hx : ¬ x.2 < b := by
    have := h.hi 0 ⟨mm x.1, x.2⟩ (Nat.le_refl _) rfl
    have e : b ≤ x.2 := this
    omega
   unfold insQ
   rw [if_neg hx]
   rfl
  | succ n =>
   have hx : x.2 < b := h.lo 0 ⟨mm x.1, x.2⟩ (by omega) rfl
   have hl : Fdw (its l) b n := ⟨by have := h.le; rw [its_len] at *; simp at this; omega, fun i z hi hz => h.lo (i + 1) z (by omega) hz, fun i z hi hz => h.hi (i + 1) z (by omega) hz⟩
   unfold insQ
   rw [if_pos hx, List.take_succ_cons, List.drop_succ_cons, List.cons_append, ih hl]
theorem fdw_its {xs : List Wt} {l : List (Int × Int)} {b : Int} {n : Nat} (h : Fdw xs b n) (hl : xs.length = l.length) (hb : ∀ (i : Nat) (x : Wt) (y : Int × Int), xs[i]? = some x → l[i]? = some y → x.base = y.2) : Fdw (its l) b n := by
 refine ⟨by rw [its_len, ← hl]; exact h.le, fun i z hi hz => ?_, fun i z hi hz => ?_⟩
 ·obtain ⟨y, hy, e⟩ := its_at hz
  obtain ⟨hlt, -⟩ := List.getElem?_eq_some_iff.1 hy
  have hx : xs[i]? = some xs[i] := List.getElem?_eq_getElem (by omega)
  rw [e, ← hb i _ y hx hy]
  exact h.lo i _ hi hx
 ·obtain ⟨y, hy, e⟩ := its_at hz
  obtain ⟨hlt, -⟩ := List.getElem?_eq_some_iff.1 hy
  have hx : xs[i]? = some xs[i] := List.getElem?_eq_getElem (by omega)
  rw [e, ← hb i _ y hx hy]
  exact h.hi i _ hi hx
theorem cut_at {α : Type} {l : List α} {n i : Nat} {x z : α} (hn : n ≤ l.length) (h : (l.take n ++ x :: l.drop n)[i]? = some z) : (i = n ∧ z = x) ∨ (i < n ∧ l[i]? = some z) ∨ (n < i ∧ l[i - 1]? = some z) := by
 have ht : (l.take n).length = n := by rw [List.length_take]; omega
 rcases Nat.lt_trichotomy i n with hi | hi | hi
 ·rw [List.getElem?_append_left (by omega), List.getElem?_take_of_lt hi] at h
  exact .inr (.inl ⟨hi, h⟩)
 ·subst hi
  rw [List.getElem?_append_right (by omega), ht, Nat.sub_self] at h
  simp at h
  exact .inl ⟨rfl, h.symm⟩
 ·rw [List.getElem?_append_right (by omega), ht, show i - n = (i - n - 1) + 1 by omega, List.getElem?_cons_succ, List.getElem?_drop, show n + (i - n - 1) = i - 1 by omega] at h
  exact .inr (.inr ⟨hi, h⟩)
theorem nf_copy {m : Mg} {es es' : List E} {gs gs' : List G} {ms : List (Int × Int)} {te td tm : Option Addr} {e1 e2 d1 d2 m1 m2 : Nat} (he : absE es' = absE es) (hg : gs'.map G.abs = gs.map G.abs) :
  nfM (⟨m.k, m.fr, m.tn, m.op, m.fo, m.key, m.bk, te, e1, e2, td, d1, d2, tm, m1, m2⟩ : Mg) es' gs' ms = nfM m es gs ms := by
 have h1 : es'.map nE = es.map nE := by
  have : ∀ l : List E, l.map nE = (absE l).map nK := fun l => by unfold absE; rw [List.map_map]; rfl
  rw [this, this, he]
 have h2 : gs'.map nG = gs.map nG := by
  have : ∀ l : List G, l.map nG = (l.map G.abs).map nGK := fun l => by rw [List.map_map]; rfl
  rw [this, this, hg]
 unfold nfM nfP
 show NF.mk _ _ _ _ _ _ _ _ _ _ = NF.mk _ _ _ _ _ _ _ _ _ _
 simp only [plM, NF.mk.injEq, and_true, true_and]
 generalize msk m.k = s
 obtain ⟨o, f, k, b, e, g, n⟩ := s
 cases e <;> cases g <;> simp [h1, h2]
theorem rnew_any (N : Int → NF) (x : Int) (w : World) : Calls Try.prog 9 #[.int .i64 x] w fun e w' => ∃ p : Nat, e = .returned (.pointer (some ⟨p, 0, none⟩)) ∧ QuR N w (fun c => w'.heap.size ≤ c) p [] (clq x) 0 0 w' := by
 refine (qnew_any x w).mono ?_
 rintro e w' ⟨p, D, rfl, hq, hd, o⟩
 refine ⟨p, rfl, ⟨⟨D, [], hq, fun c hc => ⟨hd c hc, fun e => ?_⟩, rfl, fun i x y hx => by simp at hx⟩, o, fun c hc => Nat.le_trans o.size hc⟩⟩
 have e : w'.heap.size ≤ c := e
 have := hq.dlt c hc
 omega
theorem rput_yes {N : Int → NF} {W : World} {O : Nat → Prop} {p : Nat} {l : List (Int × Int)} {most r t : Int} {w : World} (h : QuR N W O p l most r t w) (hOw : ∀ c, O c → c < w.heap.size) (k u : Int) (m : Mg) (es : List E) (gs : List G) (ms : List (Int × Int)) (hm : MsgAt W m es gs ms) (hz : MsgSz es gs ms) (hN : N k = nfM m es gs ms) (hroom : (l.length : Int) < most) (ht : 0 ≤ t ∧ t ≤ 1000000000) :
  Calls Try.prog 12 #[.pointer (some ⟨p, 0, none⟩), (.agg #[.int .i64 m.k, .int .i64 m.fr, .int .i64 m.tn, .int .i64 m.op, .int .i64 m.fo, .string m.key, .int .i64 m.bk, .slice m.ea m.el m.ec, .slice m.da m.dl m.dc, .slice m.ma m.ml m.mc]), .int .i64 u] w fun e w' => e = .returned (.int .i64 0) ∧ QuR N W O p (insQ (wgt u - t) k l) most r t w' ∧ Off (fun c => ¬ O c) w w' := by
 obtain ⟨D, xs, hq, hd, hl, hi⟩ := h.is
 have hs := h.off.size
 refine (putT_yes hq m u (by rw [hl]; exact hroom) ht (Q := Rd N k) (fun V hV => ?_)).mono ?_
 ·have o : Off (fun _ => False) W V := h.off.trans hV (fun i hi e => by have := (hd i e).1; omega)
  refine (copyOf_any m es gs ms V (hm.off o) hz).mono ?_
  rintro e w' ⟨te, ce, td, cd, tm, cm, ks, hs', rfl, he, hg, hc, o'⟩
  refine ⟨⟨m.k, m.fr, m.tn, m.op, m.fo, m.key, m.bk, te, es.length, ce, td, gs.length, cd, tm, ms.length, cm⟩, rfl, fun v hv => ?_, o'⟩
  obtain ⟨h1, h2, h3⟩ := hc v hv
  have hle : es.length = ks.length := by have := congrArg List.length he; rw [absE_len, absE_len] at this; exact this.symm
  have hlg : gs.length = hs'.length := by have := congrArg List.length hg; rw [List.length_map, List.length_map] at this; exact this.symm
  exact ⟨ks, hs', ms, ⟨h1, hle, h2, hlg, h3, rfl⟩, by rw [nf_copy he hg, hN]⟩
 ·rintro e w' ⟨m', n, D', rfl, hq', hf, ⟨T, hT, hr⟩, hd', o⟩
  have hf2 := fdw_its hf hl (fun i x y hx hy => (hi i x y hx hy).1)
  refine ⟨rfl, ⟨⟨D', _, hq', fun c hc => ?_, ?_, fun i x y hx hy => ?_⟩, h.off.trans o (fun i hi e => by have := (hd i e).1; omega), h.out⟩, o.mono (fun c _ e hO => (hd c e).2 hO)⟩
  ·rcases hd' c hc with e | e
   ·exact hd c e
   ·exact ⟨by omega, fun e2 => by have := hOw c e2; omega⟩
  ·rw [ins_len, List.length_append, List.length_cons, List.length_take, List.length_drop]
   have := hf.le
   omega
  ·rw [← ins_cut k hf2] at hy
   have old : ∀ (j : Nat) (x : Wt) (y : Int × Int), xs[j]? = some x → l[j]? = some y → x.base = y.2 ∧ ∃ T : Nat → Prop, (∀ c, T c → ¬ D' c ∧ ¬ O c ∧ c < w'.heap.size) ∧ RdT N T y.1 x.m w' := fun j x y hx hy => by
    obtain ⟨g1, T2, hT2, hr2⟩ := hi j x y hx hy
    refine ⟨g1, T2, fun c hc => ⟨fun e => ?_, (hT2 c hc).2.1, Nat.lt_of_lt_of_le (hT2 c hc).2.2 o.size⟩, fun v hv => hr2 v ((o.mono (fun c _ e hc => (hT2 c hc).1 e)).trans hv (fun _ _ h => h))⟩
    rcases hd' c e with e | e
    ·exact (hT2 c hc).1 e
    ·have := (hT2 c hc).2.2
     omega
   have hnx := hf.le
   have hnl : n ≤ l.length := by omega
   rcases cut_at hnx hx with ⟨e1, e2⟩ | ⟨e1, e2⟩ | ⟨e1, e2⟩ <;> rcases cut_at hnl hy with ⟨g1, g2⟩ | ⟨g1, g2⟩ | ⟨g1, g2⟩
   ·subst e2 g2
    exact ⟨rfl, T, fun c hc => ⟨(hT c hc).2.2, fun e => by have := hOw c e; have := (hT c hc).1; omega, (hT c hc).2.1⟩, hr⟩
   ·omega
   ·omega
   ·omega
   ·exact old _ x y e2 g2
   ·omega
   ·omega
   ·omega
   ·exact old _ x y e2 g2
theorem rput_full {N : Int → NF} {W : World} {O : Nat → Prop} {p : Nat} {l : List (Int × Int)} {most r t : Int} {w : World} (h : QuR N W O p l most r t w) (u : Int) (m : Mg) (hf : most ≤ (l.length : Int)) (hr : r ≤ 1000000000) :
  Calls Try.prog 12 #[.pointer (some ⟨p, 0, none⟩), (.agg #[.int .i64 m.k, .int .i64 m.fr, .int .i64 m.tn, .int .i64 m.op, .int .i64 m.fo, .string m.key, .int .i64 m.bk, .slice m.ea m.el m.ec, .slice m.da m.dl m.dc, .slice m.ma m.ml m.mc]), .int .i64 u] w fun e w' => e = .returned (.int .i64 7) ∧ QuR N W O p l most (r + 1) t w' ∧ Off (fun c => ¬ O c) w w' := by
 obtain ⟨D, xs, hq, hd, hl, hi⟩ := h.is
 have hs := h.off.size
 refine (put_full hq m u (by rw [hl]; exact hf) hr).mono ?_
 rintro e w' ⟨rfl, hq', o⟩
 refine ⟨rfl, ⟨⟨D, xs, hq', hd, hl, fun i x y hx hy => ?_⟩, h.off.trans o (fun i hi e => by have := (hd i e).1; omega), h.out⟩, o.mono (fun c _ e hO => (hd c e).2 hO)⟩
 obtain ⟨g1, T2, hT2, hr2⟩ := hi i x y hx hy
 exact ⟨g1, T2, fun c hc => ⟨(hT2 c hc).1, (hT2 c hc).2.1, Nat.lt_of_lt_of_le (hT2 c hc).2.2 o.size⟩, fun v hv => hr2 v ((o.mono (fun c _ e hc => (hT2 c hc).1 e)).trans hv (fun _ _ h => h))⟩
theorem rtick_any {N : Int → NF} {W : World} {O : Nat → Prop} {p : Nat} {l : List (Int × Int)} {most r t : Int} {w : World} (h : QuR N W O p l most r t w) (ht : 0 ≤ t ∧ t ≤ 1000000000) :
  Calls Try.prog 17 #[.pointer (some ⟨p, 0, none⟩)] w fun e w' => e = .returned (.tuple #[]) ∧ QuR N W O p l most r (t + 1) w' ∧ Off (fun c => ¬ O c) w w' := by
 obtain ⟨D, xs, hq, hd, hl, hi⟩ := h.is
 have hs := h.off.size
 refine (qtick_any hq ht.1 ht.2).mono ?_
 rintro e w' ⟨rfl, hq', o⟩
 refine ⟨rfl, ⟨⟨D, xs, hq', hd, hl, fun i x y hx hy => ?_⟩, h.off.trans o (fun i hi e => by have := (hd i e).1; omega), h.out⟩, o.mono (fun c _ e hO => (hd c e).2 hO)⟩
 obtain ⟨g1, T2, hT2, hr2⟩ := hi i x y hx hy
 exact ⟨g1, T2, fun c hc => ⟨(hT2 c hc).1, (hT2 c hc).2.1, Nat.lt_of_lt_of_le (hT2 c hc).2.2 o.size⟩, fun v hv => hr2 v ((o.mono (fun c _ e hc => (hT2 c hc).1 e)).trans hv (fun _ _ h => h))⟩
theorem rtake_some {N : Int → NF} {W : World} {O : Nat → Prop} {p : Nat} {l : List (Int × Int)} {k b : Int} {most r t : Int} {w : World} (h : QuR N W O p (l ++ [(k, b)]) most r t w) :
  Calls Try.prog 14 #[.pointer (some ⟨p, 0, none⟩)] w fun e w' => ∃ (m : Mg) (T : Nat → Prop), e = .returned (.tuple #[(.agg #[.int .i64 m.k, .int .i64 m.fr, .int .i64 m.tn, .int .i64 m.op, .int .i64 m.fo, .string m.key, .int .i64 m.bk, .slice m.ea m.el m.ec, .slice m.da m.dl m.dc, .slice m.ma m.ml m.mc]), .bool true]) ∧ (∀ c, T c → ¬ O c ∧ c < w'.heap.size) ∧ RdT N T k m w' ∧ QuR N W O p l most r t w' ∧ Off (fun c => ¬ O c) w w' := by
 obtain ⟨D, xs, hq, hd, hl, hi⟩ := h.is
 have hs := h.off.size
 have hpos : 0 < xs.length := by rw [hl]; simp
 have hne : xs ≠ [] := fun e => by rw [e] at hpos; simp at hpos
 obtain ⟨ys, z, rfl⟩ : ∃ ys z, xs = ys ++ [z] := ⟨xs.dropLast, xs.getLast hne, (List.dropLast_concat_getLast hne).symm⟩
 have hlen : ys.length = l.length := by simpa using hl
 refine (take_some hq).mono ?_
 rintro e w' ⟨rfl, hq', o⟩
 have hz := hi ys.length z (k, b) (by rw [List.getElem?_append_right (Nat.le_refl _), Nat.sub_self]; rfl) (by rw [hlen, List.getElem?_append_right (Nat.le_refl _), Nat.sub_self]; rfl)
 obtain ⟨-, T, hT, hr⟩ := hz
 refine ⟨z.m, T, rfl, fun c hc => ⟨(hT c hc).2.1, Nat.lt_of_lt_of_le (hT c hc).2.2 o.size⟩, fun v hv => hr v ((o.mono (fun c _ e hc => (hT c hc).1 e)).trans hv (fun _ _ h => h)), ⟨⟨D, ys, hq', hd, hlen, fun i x y hx hy => ?_⟩, h.off.trans o (fun i hi e => by have := (hd i e).1; omega), h.out⟩, o.mono (fun c _ e hO => (hd c e).2 hO)⟩
 obtain ⟨hlt, -⟩ := List.getElem?_eq_some_iff.1 hx
 obtain ⟨hlt2, -⟩ := List.getElem?_eq_some_iff.1 hy
 obtain ⟨g1, T2, hT2, hr2⟩ := hi i x y (by rw [List.getElem?_append_left hlt]; exact hx) (by rw [List.getElem?_append_left hlt2]; exact hy)
 exact ⟨g1, T2, fun c hc => ⟨(hT2 c hc).1, (hT2 c hc).2.1, Nat.lt_of_lt_of_le (hT2 c hc).2.2 o.size⟩, fun v hv => hr2 v ((o.mono (fun c _ e hc => (hT2 c hc).1 e)).trans hv (fun _ _ h => h))⟩
theorem rlen_any {N : Int → NF} {W : World} {O : Nat → Prop} {p : Nat} {l : List (Int × Int)} {most r t : Int} {w : World} (h : QuR N W O p l most r t w) :
  Calls Try.prog 19 #[.pointer (some ⟨p, 0, none⟩)] w fun e w' => e = .returned (.int .i64 (l.length : Int)) ∧ w' = w := by
 obtain ⟨D, xs, hq, hd, hl, hi⟩ := h.is
 have := qlen_any hq
 rwa [hl] at this
theorem rrefused_any {N : Int → NF} {W : World} {O : Nat → Prop} {p : Nat} {l : List (Int × Int)} {most r t : Int} {w : World} (h : QuR N W O p l most r t w) :
  Calls Try.prog 20 #[.pointer (some ⟨p, 0, none⟩)] w fun e w' => e = .returned (.int .i64 r) ∧ w' = w := by
 obtain ⟨D, xs, hq, hd, hl, hi⟩ := h.is
 exact qrefused_any hq
end Go.Proofs.Ytmeclfgehpbjlaa
