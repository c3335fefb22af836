/- Items of several texts. -/
import Derived.Below
import Derived.Test.YtmeclfgehpbjlaaYArg5
import Derived.Test.YtmeclfgehpbjlaaYQn18
import Derived.Test.YtmeclfgehpbjlaaYQvt18
namespace Go.Proofs.Ytmeclfgehpbjlaa
set_option maxRecDepth 100000
open Go.RowKit
theorem prg_len (l : List (Int × Int)) : (prg l).length = l.length := (prg_perm l).length_eq
theorem first_max : ∀ l : List (Int × Int), l ≠ [] → ∃ (l1 l2 : List (Int × Int)) (k b : Int), l = l1 ++ (k, b) :: l2 ∧ (∀ x ∈ l1, x.2 < b) ∧ ∀ x ∈ l2, x.2 ≤ b
 | [], h => absurd rfl h
 | [x], _ => ⟨[], [], x.1, x.2, rfl, (fun y hy => by cases hy), fun y hy => by cases hy⟩
 | x :: y :: l, _ => by
  obtain ⟨l1, l2, k, b, e, h1, h2⟩ := first_max (y :: l) (by simp)
  by_cases hx : x.2 < b
  ·refine ⟨x :: l1, l2, k, b, by rw [e]; rfl, fun z hz => ?_, h2⟩
   rcases List.mem_cons.1 hz with rfl | hz
   ·exact hx
   ·exact h1 z hz
  ·refine ⟨[], y :: l, x.1, x.2, rfl, (fun z hz => by cases hz), fun z hz => ?_⟩
   rw [e] at hz
   rcases List.mem_append.1 hz with hz | hz
   ·have := h1 z hz
    omega
   ·rcases List.mem_cons.1 hz with rfl | hz
    ·show b ≤ x.2
     omega
    ·have := h2 z hz
     omega
theorem RQ.base {N : Int → NF} {w w1 : World} {R : Nat → Prop} {q : Nat} {most r t : Int} {w2 : World} (h : RQ N w1 R q [] most r t w2) (o : Off (fun _ => False) w w1) : RQ N w R q [] most r t w2 := by
 obtain ⟨a, cap, xs, h1, h2, h3, h4, h5⟩ := h.is
 refine ⟨h.dp, fun c hc => ⟨Nat.le_trans o.size (h.dlt c hc).1, (h.dlt c hc).2⟩, ⟨a, cap, xs, h1, h2, h3, h4, fun i x y hx hy => by simp at hy⟩, h.few, h.wt, o.trans h.off (fun _ _ h => h)⟩
theorem rd_mz (w : World) : MsgAt w mz [] [] [] := ⟨Ens.nil w none 0 (by omega), rfl, Dgs.nil w none 0 (by omega), rfl, RowD.nil w none 0 (by omega), rfl⟩
structure Two (N : Int → NF) (W : World) (X : Nat → Prop) (p q : Nat) (l : List (Int × Int)) (most r t : Int) (w : World) : Prop where
 is : ∃ R : Nat → Prop, QuR N W (fun c => R c ∨ X c) p (prg l) most r t w ∧ RQ N W R q l most r t w ∧ (∀ c, R c → ¬ X c)
 xs : ∀ c, X c → W.heap.size ≤ c ∧ c < w.heap.size
theorem Two.free {N : Int → NF} {W : World} {X : Nat → Prop} {p q : Nat} {l : List (Int × Int)} {most r t : Int} {w w' : World} (h : Two N W X p q l most r t w) (o : Off (fun _ => False) w w') : Two N W X p q l most r t w' := by
 obtain ⟨R, h1, h2, h3⟩ := h.is
 exact ⟨⟨R, h1.free o, h2.free o, h3⟩, fun c hc => ⟨(h.xs c hc).1, Nat.lt_of_lt_of_le (h.xs c hc).2 o.size⟩⟩
theorem Two.off {N : Int → NF} {W : World} {X : Nat → Prop} {p q : Nat} {l : List (Int × Int)} {most r t : Int} {w : World} (h : Two N W X p q l most r t w) : Off (fun _ => False) W w := by
 obtain ⟨R, h1, h2, h3⟩ := h.is
 exact h2.off
theorem Two.new {N : Int → NF} {W : World} {X : Nat → Prop} {p q b : Nat} {l : List (Int × Int)} {most r t : Int} {w w' : World} (h : Two N W X p q l most r t w) (o : Off (fun _ => False) w w') (hb : w.heap.size ≤ b ∧ b < w'.heap.size) : Two N W (fun c => X c ∨ c = b) p q l most r t w' := by
 obtain ⟨R, h1, h2, h3⟩ := h.is
 have hs := h.off.size
 refine ⟨⟨R, h1.keep (o.mono (fun _ _ h => h.elim)) (fun c hc => ?_), h2.free o, fun c hc hx => ?_⟩, fun c hc => ?_⟩
 ·rcases hc with hc | hc | hc
  ·exact .inl (.inl hc)
  ·exact .inl (.inr hc)
  ·exact .inr (by omega)
 ·rcases hx with hx | hx
  ·exact h3 c hc hx
  ·have := (h2.dlt c hc).2
   omega
 ·rcases hc with hc | hc
  ·exact ⟨(h.xs c hc).1, Nat.lt_of_lt_of_le (h.xs c hc).2 o.size⟩
  ·omega
theorem Two.less {N : Int → NF} {W : World} {X X' : Nat → Prop} {p q : Nat} {l : List (Int × Int)} {most r t : Int} {w : World} (h : Two N W X p q l most r t w) (hX : ∀ c, X' c → X c) : Two N W X' p q l most r t w := by
 obtain ⟨R, h1, h2, h3⟩ := h.is
 exact ⟨⟨R, h1.keep (Off.refl _ w) (fun c hc => .inl (hc.imp id (hX c))), h2, fun c hc hx => h3 c hc (hX c hx)⟩, fun c hc => h.xs c (hX c hc)⟩
structure Half (N : Int → NF) (W : World) (X : Nat → Prop) (p q : Nat) (P : List (Int × Int)) (pr pt : Int) (l : List (Int × Int)) (most r t : Int) (w : World) : Prop where
 is : ∃ R : Nat → Prop, QuR N W (fun c => R c ∨ X c) p P most pr pt w ∧ RQ N W R q l most r t w ∧ (∀ c, R c → ¬ X c)
 xs : ∀ c, X c → W.heap.size ≤ c ∧ c < w.heap.size
theorem Half.two {N : Int → NF} {W : World} {X : Nat → Prop} {p q : Nat} {l : List (Int × Int)} {most r t : Int} {w : World} (h : Half N W X p q (prg l) r t l most r t w) : Two N W X p q l most r t w := ⟨h.is, h.xs⟩
theorem Two.half {N : Int → NF} {W : World} {X : Nat → Prop} {p q : Nat} {l : List (Int × Int)} {most r t : Int} {w : World} (h : Two N W X p q l most r t w) : Half N W X p q (prg l) r t l most r t w := ⟨h.is, h.xs⟩
theorem Half.free {N : Int → NF} {W : World} {X : Nat → Prop} {p q : Nat} {P l : List (Int × Int)} {pr pt most r t : Int} {w w' : World} (h : Half N W X p q P pr pt l most r t w) (o : Off (fun _ => False) w w') : Half N W X p q P pr pt l most r t w' := by
 obtain ⟨R, h1, h2, h3⟩ := h.is
 exact ⟨⟨R, h1.free o, h2.free o, h3⟩, fun c hc => ⟨(h.xs c hc).1, Nat.lt_of_lt_of_le (h.xs c hc).2 o.size⟩⟩
theorem Half.qlt {N : Int → NF} {W : World} {X : Nat → Prop} {p q : Nat} {P l : List (Int × Int)} {pr pt most r t : Int} {w : World} (h : Half N W X p q P pr pt l most r t w) : q < w.heap.size := by
 obtain ⟨R, h1, h2, h3⟩ := h.is
 exact (h2.dlt q h2.dp).2
theorem Half.off {N : Int → NF} {W : World} {X : Nat → Prop} {p q : Nat} {P l : List (Int × Int)} {pr pt most r t : Int} {w : World} (h : Half N W X p q P pr pt l most r t w) : Off (fun _ => False) W w := by
 obtain ⟨R, h1, h2, h3⟩ := h.is
 exact h2.off
theorem Half.mine {N : Int → NF} {W : World} {R X : Nat → Prop} {p q : Nat} {P l : List (Int × Int)} {pr pt most r t : Int} {w w' : World} (h2 : RQ N W R q l most r t w) (h3 : ∀ c, R c → ¬ X c) (xs : ∀ c, X c → W.heap.size ≤ c ∧ c < w.heap.size) (h1 : QuR N W (fun c => R c ∨ X c) p P most pr pt w') (o : Off (fun c => ¬ (R c ∨ X c)) w w') : Half N W X p q P pr pt l most r t w' := by
 obtain ⟨a, cap, ys, g1, g2, g3, g4, g5⟩ := h2.is
 exact ⟨⟨R, h1, ⟨h2.dp, fun c hc => ⟨(h2.dlt c hc).1, Nat.lt_of_lt_of_le (h2.dlt c hc).2 o.size⟩, ⟨a, cap, ys, g1.off o (fun e => e (.inl h2.dp)), g2.off o (fun c _ hc e => e (.inl (g3 c hc).1)), g3, g4, g5⟩, h2.few, h2.wt, h1.off⟩, h3⟩, fun c hc => ⟨(xs c hc).1, Nat.lt_of_lt_of_le (xs c hc).2 o.size⟩⟩
theorem Half.theirs {N : Int → NF} {W : World} {R R' X : Nat → Prop} {p q : Nat} {P l : List (Int × Int)} {pr pt most r t : Int} {w w' : World} (h1 : QuR N W (fun c => R c ∨ X c) p P most pr pt w) (hq : R q) (h3 : ∀ c, R c → ¬ X c) (xs : ∀ c, X c → W.heap.size ≤ c ∧ c < w.heap.size) (h2 : RQ N W R' q l most r t w') (hR : ∀ c, R' c → R c ∨ w.heap.size ≤ c) (o : Off (fun c => c = q) w w') : Half N W X p q P pr pt l most r t w' := by
 refine ⟨⟨R', h1.keep (o.mono (fun c _ e => .inl (by have e : c = q := e; rw [e]; exact hq))) (fun c hc => ?_), h2, fun c hc hx => ?_⟩, fun c hc => ⟨(xs c hc).1, Nat.lt_of_lt_of_le (xs c hc).2 o.size⟩⟩
 ·rcases hc with hc | hc
  ·exact (hR c hc).imp .inl id
  ·exact .inl (.inr hc)
 ·rcases hR c hc with hc | hc
  ·exact h3 c hc hx
  ·have := (xs c hx).2
   omega
theorem mput_yes {N : Int → NF} {W : World} {X : Nat → Prop} {p q : Nat} {P l : List (Int × Int)} {pr pt most r t : Int} {w : World} (h : Half N W X p q P pr pt l most r t w) (k u : Int) (m : Mg) (es : List E) (gs : List G) (ms : List (Int × Int)) (hm : MsgAt W m es gs ms) (hz : MsgSz es gs ms) (hN : N k = nfM m es gs ms) (hroom : (P.length : Int) < most) (ht : 0 ≤ pt ∧ pt ≤ 1000000000) :
  Calls Try.prog 12 #[.pointer (some ⟨p, 0, none⟩), (.agg #[.int .i64 m.k, .int .i64 m.fr, .int .i64 m.tn, .int .i64 m.op, .int .i64 m.fo, .string m.key, .int .i64 m.bk, .slice m.ea m.el m.ec, .slice m.da m.dl m.dc, .slice m.ma m.ml m.mc]), .int .i64 u] w fun e w' => e = .returned (.int .i64 0) ∧ Half N W X p q (insQ (wgt u - pt) k P) pr pt l most r t w' ∧ Off (fun c => ¬ X c) w w' := by
 obtain ⟨R, h1, h2, h3⟩ := h.is
 refine (rput_yes h1 (fun c hc => hc.elim (fun hc => (h2.dlt c hc).2) (fun hc => (h.xs c hc).2)) k u m es gs ms hm hz hN hroom ht).mono ?_
 rintro e w' ⟨rfl, g1, o⟩
 exact ⟨rfl, Half.mine h2 h3 h.xs g1 o, o.mono (fun c _ e hc => e (.inr hc))⟩
theorem mput_full {N : Int → NF} {W : World} {X : Nat → Prop} {p q : Nat} {P l : List (Int × Int)} {pr pt most r t : Int} {w : World} (h : Half N W X p q P pr pt l most r t w) (u : Int) (m : Mg) (hf : most ≤ (P.length : Int)) (hr : pr ≤ 1000000000) :
  Calls Try.prog 12 #[.pointer (some ⟨p, 0, none⟩), (.agg #[.int .i64 m.k, .int .i64 m.fr, .int .i64 m.tn, .int .i64 m.op, .int .i64 m.fo, .string m.key, .int .i64 m.bk, .slice m.ea m.el m.ec, .slice m.da m.dl m.dc, .slice m.ma m.ml m.mc]), .int .i64 u] w fun e w' => e = .returned (.int .i64 7) ∧ Half N W X p q P (pr + 1) pt l most r t w' ∧ Off (fun c => ¬ X c) w w' := by
 obtain ⟨R, h1, h2, h3⟩ := h.is
 refine (rput_full h1 u m hf hr).mono ?_
 rintro e w' ⟨rfl, g1, o⟩
 exact ⟨rfl, Half.mine h2 h3 h.xs g1 o, o.mono (fun c _ e hc => e (.inr hc))⟩
theorem mtick_any {N : Int → NF} {W : World} {X : Nat → Prop} {p q : Nat} {P l : List (Int × Int)} {pr pt most r t : Int} {w : World} (h : Half N W X p q P pr pt l most r t w) (ht : 0 ≤ pt ∧ pt ≤ 1000000000) :
  Calls Try.prog 17 #[.pointer (some ⟨p, 0, none⟩)] w fun e w' => e = .returned (.tuple #[]) ∧ Half N W X p q P pr (pt + 1) l most r t w' ∧ Off (fun c => ¬ X c) w w' := by
 obtain ⟨R, h1, h2, h3⟩ := h.is
 refine (rtick_any h1 ht).mono ?_
 rintro e w' ⟨rfl, g1, o⟩
 exact ⟨rfl, Half.mine h2 h3 h.xs g1 o, o.mono (fun c _ e hc => e (.inr hc))⟩
theorem tput_yes {N : Int → NF} {W : World} {X : Nat → Prop} {p q : Nat} {P l : List (Int × Int)} {pr pt most r t : Int} {w : World} (h : Half N W X p q P pr pt l most r t w) (k u : Int) (m : Mg) (hm : Rd N k m W) (hroom : (l.length : Int) < most) (ht : 0 ≤ t ∧ t ≤ 1000) :
  Calls Try.prog 13 #[.pointer (some ⟨q, 0, none⟩), (.agg #[.int .i64 m.k, .int .i64 m.fr, .int .i64 m.tn, .int .i64 m.op, .int .i64 m.fo, .string m.key, .int .i64 m.bk, .slice m.ea m.el m.ec, .slice m.da m.dl m.dc, .slice m.ma m.ml m.mc]), .int .i64 u] w fun e w' => e = .returned (.int .i64 0) ∧ Half N W X p q P pr pt (l ++ [(k, wgt u - t)]) most r t w' ∧ Off (fun c => ¬ X c) w w' := by
 obtain ⟨R, h1, h2, h3⟩ := h.is
 refine (rqput_yes h2 k u m hm hroom ht).mono ?_
 rintro e w' ⟨R1, rfl, g2, hR, o⟩
 exact ⟨rfl, Half.theirs h1 h2.dp h3 h.xs g2 hR o, o.mono (fun c _ e hc => h3 q h2.dp (by have e : c = q := e; rw [← e]; exact hc))⟩
theorem tput_full {N : Int → NF} {W : World} {X : Nat → Prop} {p q : Nat} {P l : List (Int × Int)} {pr pt most r t : Int} {w : World} (h : Half N W X p q P pr pt l most r t w) (u : Int) (m : Mg) (hf : most ≤ (l.length : Int)) (hr : -1000 ≤ r ∧ r ≤ 1000000) :
  Calls Try.prog 13 #[.pointer (some ⟨q, 0, none⟩), (.agg #[.int .i64 m.k, .int .i64 m.fr, .int .i64 m.tn, .int .i64 m.op, .int .i64 m.fo, .string m.key, .int .i64 m.bk, .slice m.ea m.el m.ec, .slice m.da m.dl m.dc, .slice m.ma m.ml m.mc]), .int .i64 u] w fun e w' => e = .returned (.int .i64 7) ∧ Half N W X p q P pr pt l most (r + 1) t w' ∧ Off (fun c => ¬ X c) w w' := by
 obtain ⟨R, h1, h2, h3⟩ := h.is
 refine (rqput_full h2 u m hf hr).mono ?_
 rintro e w' ⟨rfl, g2, o⟩
 exact ⟨rfl, Half.theirs h1 h2.dp h3 h.xs g2 (fun c hc => .inl hc) o, o.mono (fun c _ e hc => h3 q h2.dp (by have e : c = q := e; rw [← e]; exact hc))⟩
theorem ttick_any {N : Int → NF} {W : World} {X : Nat → Prop} {p q : Nat} {P l : List (Int × Int)} {pr pt most r t : Int} {w : World} (h : Half N W X p q P pr pt l most r t w) (ht : 0 ≤ t ∧ t ≤ 1000) :
  Calls Try.prog 18 #[.pointer (some ⟨q, 0, none⟩)] w fun e w' => e = .returned (.tuple #[]) ∧ Half N W X p q P pr pt l most r (t + 1) w' ∧ Off (fun c => ¬ X c) w w' := by
 obtain ⟨R, h1, h2, h3⟩ := h.is
 refine (rqtick_any h2 ht).mono ?_
 rintro e w' ⟨R1, rfl, g2, hR, o⟩
 exact ⟨rfl, Half.theirs h1 h2.dp h3 h.xs g2 hR o, o.mono (fun c _ e hc => h3 q h2.dp (by have e : c = q := e; rw [← e]; exact hc))⟩
theorem mtake_some {N : Int → NF} {W : World} {X : Nat → Prop} {p q : Nat} {k b : Int} {P l : List (Int × Int)} {pr pt most r t : Int} {w : World} (h : Half N W X p q (P ++ [(k, b)]) pr pt l most r t w) :
  Calls Try.prog 14 #[.pointer (some ⟨p, 0, none⟩)] w fun e w' => ∃ m : Mg, e = .returned (.tuple #[(.agg #[.int .i64 m.k, .int .i64 m.fr, .int .i64 m.tn, .int .i64 m.op, .int .i64 m.fo, .string m.key, .int .i64 m.bk, .slice m.ea m.el m.ec, .slice m.da m.dl m.dc, .slice m.ma m.ml m.mc]), .bool true]) ∧ (∀ V, Off (fun c => c = q) w' V → Rd N k m V) ∧ Half N W X p q P pr pt l most r t w' ∧ Off (fun c => ¬ X c) w w' := by
 obtain ⟨R, h1, h2, h3⟩ := h.is
 refine (rtake_some h1).mono ?_
 rintro e w' ⟨m, T, rfl, hT, hrd, g1, o⟩
 exact ⟨m, rfl, fun V hV => hrd V (hV.mono (fun c _ e hc => (hT c hc).1 (.inl (by have e : c = q := e; rw [e]; exact h2.dp)))), Half.mine h2 h3 h.xs g1 o, o.mono (fun c _ e hc => e (.inr hc))⟩
theorem mtake_none {N : Int → NF} {W : World} {X : Nat → Prop} {p q : Nat} {l : List (Int × Int)} {pr pt most r t : Int} {w : World} (h : Half N W X p q [] pr pt l most r t w) :
  Calls Try.prog 14 #[.pointer (some ⟨p, 0, none⟩)] w fun e w' => e = .returned (.tuple #[(.agg #[.int .i64 mz.k, .int .i64 mz.fr, .int .i64 mz.tn, .int .i64 mz.op, .int .i64 mz.fo, .string mz.key, .int .i64 mz.bk, .slice mz.ea mz.el mz.ec, .slice mz.da mz.dl mz.dc, .slice mz.ma mz.ml mz.mc]), .bool false]) ∧ Half N W X p q [] pr pt l most r t w' ∧ Off (fun c => ¬ X c) w w' := by
 obtain ⟨R, h1, h2, h3⟩ := h.is
 obtain ⟨D, xs, hq, hd2, hl, hi⟩ := h1.is
 obtain rfl : xs = [] := List.eq_nil_of_length_eq_zero hl
 refine (take_none hq).mono ?_
 rintro e w' ⟨rfl, o⟩
 exact ⟨rfl, h.free o, o.mono (fun _ _ h => h.elim)⟩
theorem ttake_some {N : Int → NF} {W : World} {X : Nat → Prop} {p q : Nat} {P l1 l2 : List (Int × Int)} {k b pr pt most r t : Int} {w : World} (h : Half N W X p q P pr pt (l1 ++ (k, b) :: l2) most r t w) (hb1 : ∀ x ∈ l1, x.2 < b) (hb2 : ∀ x ∈ l2, x.2 ≤ b) :
  Calls Try.prog 15 #[.pointer (some ⟨q, 0, none⟩)] w fun e w' => ∃ m : Mg, e = .returned (.tuple #[(.agg #[.int .i64 m.k, .int .i64 m.fr, .int .i64 m.tn, .int .i64 m.op, .int .i64 m.fo, .string m.key, .int .i64 m.bk, .slice m.ea m.el m.ec, .slice m.da m.dl m.dc, .slice m.ma m.ml m.mc]), .bool true]) ∧ Rd N k m W ∧ Half N W X p q P pr pt (l1 ++ l2) most r t w' ∧ Off (fun c => c = q) w w' ∧ ¬ X q := by
 obtain ⟨R, h1, h2, h3⟩ := h.is
 refine (rqtake_some h2 hb1 hb2).mono ?_
 rintro e w' ⟨m, R1, rfl, hm, g2, hR, o⟩
 exact ⟨m, rfl, hm, Half.theirs h1 h2.dp h3 h.xs g2 hR o, o, h3 q h2.dp⟩
theorem ttake_none {N : Int → NF} {W : World} {X : Nat → Prop} {p q : Nat} {P : List (Int × Int)} {pr pt most r t : Int} {w : World} (h : Half N W X p q P pr pt [] most r t w) :
  Calls Try.prog 15 #[.pointer (some ⟨q, 0, none⟩)] w fun e w' => e = .returned (.tuple #[(.agg #[.int .i64 mz.k, .int .i64 mz.fr, .int .i64 mz.tn, .int .i64 mz.op, .int .i64 mz.fo, .string mz.key, .int .i64 mz.bk, .slice mz.ea mz.el mz.ec, .slice mz.da mz.dl mz.dc, .slice mz.ma mz.ml mz.mc]), .bool false]) ∧ Half N W X p q P pr pt [] most r t w' ∧ Off (fun _ => False) w w' := by
 obtain ⟨R, h1, h2, h3⟩ := h.is
 refine (rqtake_none h2).mono ?_
 rintro e w' ⟨rfl, o⟩
 exact ⟨rfl, h.free o, o⟩
end Go.Proofs.Ytmeclfgehpbjlaa
