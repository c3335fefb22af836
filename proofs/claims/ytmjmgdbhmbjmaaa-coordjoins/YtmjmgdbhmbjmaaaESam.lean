/- Items of several texts. -/
import Derived.Test.YtmjmgdbhmbjmaaaEThy2
namespace Go.Proofs.Ytmjmgdbhmbjmaaa
open Go.RowKit
theorem strOf_eq {a b : List Nat} (ha : ∀ x ∈ a, x < 256) (hb : ∀ x ∈ b, x < 256) : strOf a = strOf b ↔ a = b := by
 refine ⟨fun h => ?_, fun h => by rw [h]⟩
 have key : ∀ (a b : List Nat), (∀ x ∈ a, x < 256) → (∀ x ∈ b, x < 256) → (a.map fun (x : Nat) => ((x : Int).toNat.toUInt8)) = (b.map fun (x : Nat) => ((x : Int).toNat.toUInt8)) → a = b := by
  intro a
  induction a with
  | nil => intro b _ _ h; cases b with
   | nil => rfl
   | cons => simp at h
  | cons x a ih =>
   intro b ha hb h
   cases b with
   | nil => simp at h
   | cons y b =>
    simp only [List.map_cons, List.cons.injEq] at h
    have e1 := congrArg UInt8.toNat h.1
    have hx := ha x (by simp)
    have hy := hb y (by simp)
    simp [Nat.toUInt8, UInt8.toNat_ofNat', Nat.mod_eq_of_lt hx, Nat.mod_eq_of_lt hy] at e1
    rw [e1, ih b (fun z hz => ha z (by simp [hz])) (fun z hz => hb z (by simp [hz])) h.2]
 refine key a b ha hb ?_
 have e := congrArg (fun s : ByteArray => s.data.toList) h
 simp only [strOf, strOfNums] at e
 simpa [Function.comp_def] using e
def sameL (a b : List Nat) : Bool := decide (a = b)
theorem bequal_any (a b : Option Addr) (ca cb : Nat) (xs ys : List Nat) (w : World) (hx : Src w a ca xs) (hy : Src w b cb ys) (lx : ∀ x ∈ xs, x < 256) (ly : ∀ x ∈ ys, x < 256) :
  Calls Try.prog 84 #[.slice a xs.length ca, .slice b ys.length cb] w fun e w' => e = .returned (.bool (sameL xs ys)) ∧ w' = w := by
 have h1 := conv_src hx
 have h2 := conv_src hy
 have h3 := strOf_eq lx ly
 have h4 : ((strOf xs).toList == (strOf ys).toList) = sameL xs ys := by
  rw [Bool.eq_iff_iff]
  simp only [beq_iff_eq, sameL, decide_eq_true_eq, ByteArray.toList_eq]
  constructor
  ·intro h
   refine h3.1 ?_
   generalize strOf xs = p at h
   generalize strOf ys = q at h
   obtain ⟨⟨p⟩⟩ := p
   obtain ⟨⟨q⟩⟩ := q
   simp only at h
   rw [h]
  ·intro h
   rw [h]
 obtain ⟨sx, ex⟩ : ∃ s, s = strOf xs := ⟨_, rfl⟩
 obtain ⟨sy, ey⟩ : ∃ s, s = strOf ys := ⟨_, rfl⟩
 rw [← ex] at h1 h4
 rw [← ey] at h2 h4
 have H4 : Hid _ := h4
 clear hx hy ex ey h3 h4
 go_enter Try.func84, Try.ntmps84
 go_wp2_with fail
 go_ret
 exact ⟨by rw [← H4.out]; rfl, rfl⟩
theorem A.ext {x y : A} (h1 : x.node = y.node) (h2 : x.num = y.num) (h3 : x.data = y.data) (h4 : x.dead = y.dead) : x = y := by
 cases x
 cases y
 simp only at h1 h2 h3 h4
 subst h1 h2 h3 h4
 rfl
def A.dec (x y : A) : Decidable (x = y) :=
 if h : x.node = y.node ∧ x.num = y.num ∧ x.data = y.data ∧ x.dead = y.dead then .isTrue (A.ext h.1 h.2.1 h.2.2.1 h.2.2.2) else .isFalse (fun e => h (by subst e; exact ⟨rfl, rfl, rfl, rfl⟩))
def sameA (x y : A) : Bool := @decide (x = y) (A.dec x y)
set_option maxRecDepth 100000 in
theorem sameValue_any (x y : V) (w : World) (hx : VOk w x) (hy : VOk w y) : Calls Try.prog 75 #[.agg #[.int .i64 x.node, .int .i64 x.num, .slice x.ad x.data.length x.cap, .bool x.dead], .agg #[.int .i64 y.node, .int .i64 y.num, .slice y.ad y.data.length y.cap, .bool y.dead]] w fun e w' => e = .returned (.bool (sameA x.abs y.abs)) ∧ Off (fun _ => False) w w' := by
 have O2 : ∀ p q, Off (fun _ => False) w ((w.alloc p).alloc q) := fun _ _ => ((Off.refl _ w).alloc _).alloc _
 have hq := eql_dot x.node x.num y.node y.num
 by_cases h1 : x.node = y.node ∧ x.num = y.num
 ·have t1 : decide (x.node = y.node ∧ x.num = y.num) = true := decide_eq_true h1
  rw [t1] at hq
  have HH1 : Hid _ := h1
  clear t1 h1
  by_cases h2 : x.dead = y.dead
  ·have t2 : (x.dead == y.dead) = true := by simp [h2]
   have HH2 : Hid _ := h2
   clear h2
   have sx := hx.src.off (O2 (.cells #[.int .i64 x.node, .int .i64 x.num, .slice x.ad x.data.length x.cap, .bool x.dead] 92) (.cells #[.int .i64 y.node, .int .i64 y.num, .slice y.ad y.data.length y.cap, .bool y.dead] 92)) (fun _ _ _ h => h)
   have sy := hy.src.off (O2 (.cells #[.int .i64 x.node, .int .i64 x.num, .slice x.ad x.data.length x.cap, .bool x.dead] 92) (.cells #[.int .i64 y.node, .int .i64 y.num, .slice y.ad y.data.length y.cap, .bool y.dead] 92)) (fun _ _ _ h => h)
   have HO : Hid _ := O2 (.cells #[.int .i64 x.node, .int .i64 x.num, .slice x.ad x.data.length x.cap, .bool x.dead] 92) (.cells #[.int .i64 y.node, .int .i64 y.num, .slice y.ad y.data.length y.cap, .bool y.dead] 92)
   go_enter Try.func75, Try.ntmps75
   go_wp2_with fail
   refine (bequal_any x.ad y.ad x.cap y.cap x.data y.data _ sx sy hx.lt hy.lt).mono ?_
   rintro e w1 ⟨rfl, hw⟩
   rw [hw]
   clear hw w1
   have es : sameL x.data y.data = sameA x.abs y.abs := by
    rw [Bool.eq_iff_iff]
    simp only [sameL, sameA, decide_eq_true_eq]
    exact ⟨fun h => A.ext HH1.out.1 HH1.out.2 h HH2.out, fun h => congrArg A.data h⟩
   rw [es]
   go_wp2_with fail
   go_ret
   exact ⟨rfl, HO.out⟩
  ·have t2 : (x.dead == y.dead) = false := by simpa using h2
   have es : Hid (sameA x.abs y.abs = false) := (show sameA x.abs y.abs = false by simp only [sameA, decide_eq_false_iff_not]; exact fun h => h2 (congrArg A.dead h))
   clear h2
   go_enter Try.func75, Try.ntmps75
   go_wp2_with fail
   go_ret
   rw [es.out]
   exact ⟨rfl, O2 _ _⟩
 ·have t1 : decide (x.node = y.node ∧ x.num = y.num) = false := decide_eq_false h1
  rw [t1] at hq
  have es : Hid (sameA x.abs y.abs = false) := (show sameA x.abs y.abs = false by simp only [sameA, decide_eq_false_iff_not]; exact fun h => h1 ⟨congrArg A.node h, congrArg A.num h⟩)
  clear t1 h1
  go_enter Try.func75, Try.ntmps75
  go_wp2_with fail
  go_ret
  rw [es.out]
  exact ⟨rfl, O2 _ _⟩
def sameR (a b : List A) : Bool := haveI : DecidableEq A := A.dec; decide (a = b)
set_option maxRecDepth 100000 in
set_option maxHeartbeats 1000000 in
theorem equalFunc_any (a b : Option Addr) (ca cb : Nat) (l k : List V) (w : World) (h1 : Row w a ca l) (h2 : Row w b cb k) :
  Calls Try.prog 74 #[.slice a l.length ca, .slice b k.length cb, .func (.func 75) #[] #[]] w fun e w' => e = .returned (.bool (sameR (cont l) (cont k))) ∧ Off (fun _ => False) w w' := by
 have hnot := not_any
 by_cases hl : l.length = k.length
 ·have t1 : ((l.length : Int) != (k.length : Int)) = false := by simp [hl]
  have t2 : (l.length != k.length) = false := by simp [hl]
  have HL : Hid _ := hl
  have hb := h1.bound
  have hb2 := h1.len
  have HR1 : Hid _ := h1
  have HR2 : Hid _ := h2
  clear hl h1 h2
  go_enter Try.func74, Try.ntmps74
  go_wp2_with fail
  go_loopw [17] (fun y wr => ∃ n : Nat, y = .int .i64 (n : Int) ∧ n ≤ l.length ∧ (∀ i, i < n → (cont l)[i]? = (cont k)[i]?) ∧ Off (fun _ => False) w wr) (fun y _ => (l.length - intOf y).toNat)
  case atStart => exact ⟨0, rfl, by omega, fun i hi => by omega, Off.refl _ w⟩
  case round =>
   obtain ⟨n, rfl, hn, hg, O⟩ := hrel
   have HG : Hid _ := hg
   clear hg
   by_cases hlt : n < l.length
   ·have e1 : decide ((n : Int) < (l.length : Int)) = true := decide_eq_true (by omega)
    have e2 : decide (n < l.length) = true := decide_eq_true hlt
    have hlk : n < k.length := by have := HL.out; omega
    have e3 : decide ((n : Int) < (k.length : Int)) = true := decide_eq_true (by omega)
    have e4 : decide (n < k.length) = true := decide_eq_true hlk
    obtain ⟨x, hx⟩ : ∃ v, l[n]? = some v := ⟨_, List.getElem?_eq_getElem hlt⟩
    obtain ⟨y, hy⟩ : ∃ v, k[n]? = some v := ⟨_, List.getElem?_eq_getElem hlk⟩
    obtain ⟨bx, ox, rfl, kx, vx⟩ := (HR1.out.off O).at_ n x hx
    obtain ⟨by1, oy, rfl, ky, vy⟩ := (HR2.out.off O).at_ n y hy
    obtain ⟨k0, k1, k2, k3⟩ := kx
    have ky' := ky.off ((Off.refl (fun _ => False) wr).alloc (.cells #[.int .i64 x.node, .int .i64 x.num, .slice x.ad x.data.length x.cap, .bool x.dead] 92)) (fun _ h => h)
    obtain ⟨m0, m1, m2, m3⟩ := ky'
    have OA : Off (fun _ => False) wr ((wr.alloc (.cells #[.int .i64 x.node, .int .i64 x.num, .slice x.ad x.data.length x.cap, .bool x.dead] 92)).alloc (.cells #[.int .i64 y.node, .int .i64 y.num, .slice y.ad y.data.length y.cap, .bool y.dead] 92)) := ((Off.refl _ wr).alloc _).alloc _
    have HX : Hid _ := get_cont hx
    have HY : Hid _ := get_cont hy
    have vx' := vx.off OA (fun _ _ _ h => h)
    have vy' := vy.off OA (fun _ _ _ h => h)
    have HO : Hid _ := O.trans OA (fun _ _ h => h)
    have HOA : Hid _ := OA
    clear hx hy ky vx vy O OA
    cases hs : sameA x.abs y.abs
    ·go_wp2_with fail
     refine (sameValue_any x y _ vx' vy').mono ?_
     rw [hs]
     rintro e w1 ⟨rfl, o1⟩
     go_wp2_with fail
     go_ret
     refine ⟨?_, HO.out.trans o1 (fun _ _ h => h)⟩
     have : sameR (cont l) (cont k) = false := by
      simp only [sameR, decide_eq_false_iff_not]
      intro h
      have h3 := HX.out
      rw [h, HY.out] at h3
      simp only [sameA, decide_eq_false_iff_not] at hs
      exact hs (Option.some.inj h3).symm
     rw [this]
     rfl
    ·go_wp2_with fail
     refine (sameValue_any x y _ vx' vy').mono ?_
     rw [hs]
     rintro e w1 ⟨rfl, o1⟩
     go_wp2_with fail
     go_roundw
     case rel =>
      refine ⟨n + 1, by go_num, by omega, fun i hi => ?_, HO.out.trans o1 (fun _ _ h => h)⟩
      rcases Nat.lt_or_ge i n with h | h
      ·exact HG.out i h
      ·obtain rfl : i = n := by omega
       rw [HX.out, HY.out]
       simp only [sameA, decide_eq_true_eq] at hs
       rw [hs]
     case measure => simp [intOf]; omega
   ·obtain rfl : n = l.length := by omega
    have e1 : decide ((l.length : Int) < (l.length : Int)) = false := decide_eq_false (by omega)
    have e2 : decide (l.length < l.length) = false := decide_eq_false (by omega)
    go_wp2_with fail
    go_ret
    refine ⟨?_, O⟩
    have : sameR (cont l) (cont k) = true := by
     simp only [sameR, decide_eq_true_eq]
     apply List.ext_getElem?
     intro i
     rcases Nat.lt_or_ge i l.length with h | h
     ·exact HG.out i h
     ·rw [List.getElem?_eq_none (by rw [cont_len]; exact h), List.getElem?_eq_none (by rw [cont_len, ← HL.out]; exact h)]
    rw [this]
    rfl
 ·have t1 : ((l.length : Int) != (k.length : Int)) = true := by simp; omega
  have t2 : (l.length != k.length) = true := by simp [hl]
  have es : Hid (sameR (cont l) (cont k) = false) := (show sameR (cont l) (cont k) = false by
   simp only [sameR, decide_eq_false_iff_not]
   intro h
   have := congrArg List.length h
   rw [cont_len, cont_len] at this
   exact hl this)
  clear hl
  go_enter Try.func74, Try.ntmps74
  go_wp2_with fail
  go_ret
  rw [es.out]
  exact ⟨rfl, Off.refl _ w⟩
def sameS (f g : Nat → Int) (l k : List A) : Bool := eqB f g && sameR l k
set_option maxRecDepth 100000 in
set_option maxHeartbeats 1000000 in
theorem ssame_any (f g : Nat → Int) (a b : Option Addr) (ca cb : Nat) (l k : List V) (w : World) (h1 : Row w a ca l) (h2 : Row w b cb k) :
  Calls Try.prog 63 #[.agg #[.int .i64 (f 0), .int .i64 (f 1), .int .i64 (f 2), .int .i64 (f 3), .int .i64 (f 4), .int .i64 (f 5), .int .i64 (f 6), .int .i64 (f 7), .slice a l.length ca], .agg #[.int .i64 (g 0), .int .i64 (g 1), .int .i64 (g 2), .int .i64 (g 3), .int .i64 (g 4), .int .i64 (g 5), .int .i64 (g 6), .int .i64 (g 7), .slice b k.length cb]] w fun e w' => e = .returned (.bool (sameS f g (cont l) (cont k))) ∧ Off (fun _ => False) w w' := by
 have O2 : Off (fun _ => False) w ((w.alloc (.cells #[.int .i64 (f 0), .int .i64 (f 1), .int .i64 (f 2), .int .i64 (f 3), .int .i64 (f 4), .int .i64 (f 5), .int .i64 (f 6), .int .i64 (f 7), .slice a l.length ca] 33)).alloc (.cells #[.int .i64 (g 0), .int .i64 (g 1), .int .i64 (g 2), .int .i64 (g 3), .int .i64 (g 4), .int .i64 (g 5), .int .i64 (g 6), .int .i64 (g 7), .slice b k.length cb] 33)) := ((Off.refl _ w).alloc _).alloc _
 have hq := eql_vec f g
 have r1 := h1.off O2
 have r2 := h2.off O2
 have HO : Hid _ := O2
 clear O2 h1 h2
 cases he : eqB f g
 ·rw [he] at hq
  go_enter Try.func63, Try.ntmps63
  go_wp2_with fail
  go_ret
  exact ⟨by simp [sameS, he], HO.out⟩
 ·rw [he] at hq
  go_enter Try.func63, Try.ntmps63
  go_wp2_with fail
  refine (equalFunc_any a b ca cb l k _ r1 r2).mono ?_
  rintro e w1 ⟨rfl, o1⟩
  go_wp2_with fail
  go_ret
  exact ⟨by simp [sameS, he], HO.out.trans o1 (fun _ _ h => h)⟩
end Go.Proofs.Ytmjmgdbhmbjmaaa
