/- Items of several texts. -/
import Derived.Test.YtmjmgdbhmbjmaaaEArg22
import Derived.Test.YtmjmgdbhmbjmaaaECh22
namespace Go.Proofs.Ytmjmgdbhmbjmaaa
set_option maxRecDepth 100000
open Go.RowKit
theorem flat_at {α : Type} {cs : α → List Value} {size : Nat} (hcs : ∀ x, (cs x).length = size) : ∀ {l : List α} {i j : Nat} {x : α} {u : Value}, l[i]? = some x → (cs x)[j]? = some u → (l.flatMap cs)[i * size + j]? = some u
 | [], i, j, x, u, h, _ => by simp at h
 | y :: l, 0, j, x, u, h, hu => by
  simp at h
  subst h
  have hj := (List.getElem?_eq_some_iff.1 hu).1
  rw [List.flatMap_cons, Nat.zero_mul, Nat.zero_add, List.getElem?_append_left hj]
  exact hu
 | y :: l, i + 1, j, x, u, h, hu => by
  have := flat_at hcs (l := l) (i := i) (j := j) (by simpa using h) hu
  rw [List.flatMap_cons, List.getElem?_append_right (by rw [hcs, Nat.succ_mul]; omega), hcs]
  rw [← this]
  congr 1
  rw [Nat.succ_mul]
  omega
theorem OwnG.get {α : Type} {e : TypeId} {size : Nat} {cs : α → List Value} (hcs : ∀ x, (cs x).length = size) {w : World} {a : Option Addr} {cap : Nat} {l : List α} (h : OwnG e size cs w a cap l) {i : Nat} {x : α} (hi : l[i]? = some x) :
  ∃ g, a = some ⟨g, 0, none⟩ ∧ ∀ j u, (cs x)[j]? = some u → w.cell? ⟨g, i * size + j, none⟩ = some u := by
 rcases h.row.2 with ⟨hv, h0⟩ | ⟨g, c, cur, hv, -⟩
 ·rw [List.eq_nil_of_length_eq_zero h0] at hi
  simp at hi
 ·simp only [Value.slice.injEq] at hv
  obtain ⟨rfl, -, rfl⟩ := hv
  refine ⟨g, rfl, fun j u hu => ?_⟩
  have := World.ownsRow.cells h.row (g := g) rfl _ u (flat_at hcs hi hu)
  rw [add_lit, Nat.zero_add] at this
  exact this
theorem anss_at {n m : Nat} (h : n < m) (c g : Nat) (W : World) : (Instr.indexAt 39 (.slice (some ⟨g, 0, none⟩) m c) (.int .i64 (n : Int))).run Try.prog W = .ok (.pointer (some ⟨g, n * 11, none⟩)) W := by
 go_simp
def kk : ByteArray := ⟨#[107]⟩
theorem kk_ok : keyB kk = true := by decide
def awA : CA := ⟨3, 1, [newA 1 false kk SA.zero 2 0], []⟩
theorem aw_begin : beginA ⟨3, 0, [], []⟩ 0 2 false kk SA.zero = (awA, 1, 0) := by
 rw [beginA_more (by decide) (by rw [kk_ok, may_zero]; rfl) (by decide)]
 rfl
theorem aw_ack : ackA awA 1 1 = (⟨3, 1, [], [⟨1, 0, SA.zero⟩]⟩, true) := by
 rw [ackA_done (o := newA 1 false kk SA.zero 2 0) rfl rfl (by decide)]
 rfl
set_option maxHeartbeats 2000000 in
theorem awake_any (w : World) : Calls Try.prog 10 #[] w fun e w' => e = .returned (.bool true) ∧ Off (fun _ => False) w w' := by
 have HN : Hid _ := cnew_any (Z := fun _ => False) 3 w (by omega) (fun _ h => h.elim)
 go_enter Try.func10, Try.ntmps10
 go_wp2_with fail
 refine Calls.mono HN.out ?_
 rintro e v1 ⟨p, rfl, hp, c1, g1⟩
 have HC1 : Hid _ := c1
 have HG1 : Hid _ := g1
 have HW1 : Hid _ := write_any c1 0 2 kk SV.zero (SOk.zero _ _) (by show (0 : Int) < _; omega)
 clear c1 g1 hp HN
 go_wp2_with fail
 refine Calls.mono HW1.out ?_
 rintro e v2 ⟨x2, D2, Z2, c2, g2, e2, hr⟩
 have hb : beginA (newM 3).abs 0 2 false kk SV.zero.abs = (awA, 1, 0) := aw_begin
 rw [hb] at e2 hr
 obtain rfl := hr
 have HC2 : Hid _ := c2
 have HG2 : Hid _ := HG1.out.trans g2
 have HE2 : Hid (x2.abs = awA) := e2
 have HK2 : Hid _ := ack_any c2 (n := 1) ⟨by omega, by omega⟩ 1
 clear c2 g2 e2 hb HW1 HC1 HG1
 go_wp2_with fail
 refine Calls.mono HK2.out ?_
 rintro e v3 ⟨x3, D3, Z3, c3, g3, e3, hr⟩
 rw [HE2.out, aw_ack] at e3 hr
 obtain rfl := hr
 have HC3 : Hid _ := c3
 have HG3 : Hid _ := HG2.out.trans g3
 have HE3 : Hid _ := e3
 have HA3 : Hid _ := canswers_any c3
 clear c3 g3 e3 HK2 HC2 HG2
 go_wp2_with fail
 refine Calls.mono HA3.out ?_
 rintro e v4 ⟨rfl, own, oks, c4, g4⟩
 obtain ⟨y, hy, hya⟩ : ∃ y, x3.an = [y] ∧ y.abs = ⟨1, 0, SA.zero⟩ := by
  have := congrArg CA.an HE3.out
  have h2 : x3.an.map AnD.abs = [⟨1, 0, SA.zero⟩] := this
  obtain ⟨y, hy, e⟩ := List.map_eq_singleton_iff.1 h2
  exact ⟨y, hy, e⟩
 have ht : x3.t = [] := by
  have h2 : x3.t.map OpD.abs = [] := congrArg CA.t HE3.out
  exact List.map_eq_nil_iff.1 h2
 obtain ⟨g, hg, hc⟩ := own.get anC_len (i := 0) (x := y) (by rw [hy]; rfl)
 have cc : v4.cell? ⟨g, 1, none⟩ = some (.int .i64 0) := by
  have := hc 1 (.int .i64 y.err) rfl
  rw [show y.err = 0 from congrArg AnA.err hya] at this
  exact this
 have hix := anss_at (n := 0) (m := 1) (by omega) x3.ac g
 have HL4 : Hid _ := clen_any c4
 have hl : (noAns x3).t.length = 0 := by show x3.t.length = 0; rw [ht]; rfl
 rw [hl] at HL4
 rw [hy, hg]
 have HG4 : Hid _ := HG3.out.trans g4
 clear own oks c4 g4 hc hy hya ht hl HA3 HC3 HG3 HE3 hg
 simp only [List.length_singleton]
 go_wp2_with fail
 refine Calls.mono HL4.out ?_
 rintro e v5 ⟨rfl, hw⟩
 rw [hw]
 clear hw v5
 go_wp2_with fail
 go_ret
 exact ⟨rfl, HG4.out.off⟩
end Go.Proofs.Ytmjmgdbhmbjmaaa

namespace Go.Proofs.Ytmjmgdbhmbjmaaa
set_option maxRecDepth 100000
open Go.RowKit
theorem got_ok {o : OA} {node : Int} {key : ByteArray} {s : SA} (hr : o.read = true) (hk : key = o.key) (hm : (keyB key && mayA s) = true) (ha : (okN node && o.who node.toNat) = false) : ¬ (o.read = false ∨ key ≠ o.key ∨ (keyB key && mayA s) = false ∨ (okN node && o.who node.toNat) = true) := by
 rintro (h | h | h | h)
 ·rw [hr] at h; cases h
 ·exact h hk
 ·rw [hm] at h; cases h
 ·rw [ha] at h; cases h
theorem adds_nat (f : Nat → Bool) {n : Nat} (h : n < 8) : adds f (n : Int) = ans f n := by unfold adds; rw [if_pos (okN_of h)]; rfl
theorem addB_new (m : Int) (f : Nat → Bool) {n : Nat} (h : n < 8) (hf : f n = false) : addB m f (n : Int) = decide ((cnt f 8 : Int) + 1 = m) := by
 unfold addB
 rw [okN_of h]
 show (true && (!f n && _)) = _
 rw [hf]
 rfl
theorem OwnG.ints {w : World} {a : Option Addr} {cap : Nat} {l : List Int} (h : OwnG 3 1 inC w a cap l) {i : Nat} {x : Int} (hi : l[i]? = some x) : ∃ g, a = some ⟨g, 0, none⟩ ∧ w.cell? ⟨g, i, none⟩ = some (.int .i64 x) := by
 obtain ⟨g, e, hc⟩ := h.get inC_len hi
 have := hc 0 _ (show (inC x)[0]? = some (.int .i64 x) from rfl)
 rw [show i * 1 + 0 = i by omega] at this
 exact ⟨g, e, this⟩
def inB (l : List Int) (n : Int) : Bool := l.any fun x => decide (x = n)
set_option maxHeartbeats 1000000 in
theorem rin_any {w : World} {a : Option Addr} {cap : Nat} {l : List Int} (h : OwnG 3 1 inC w a cap l) (hl : l.length ≤ 9223372036854775807) (n : Int) : Calls Try.prog 30 #[.slice a l.length cap, .int .i64 n] w fun e w' => e = .returned (.bool (inB l n)) ∧ w' = w := by
 have H : Hid _ := h
 clear h
 go_enter Try.func30, Try.ntmps30
 go_wp2_with fail
 go_loop [9] (fun s9 => ∃ i : Nat, s9 = .int .i64 (i : Int) ∧ i ≤ l.length ∧ inB (l.take i) n = false) (fun s9 => ((l.length : Int) - vInt s9).toNat)
 case atStart => exact ⟨0, rfl, by omega, rfl⟩
 case round =>
  obtain ⟨i, rfl, hi, hno⟩ := hrel
  have HN : Hid (inB (l.take i) n = false) := hno
  clear hno
  by_cases hlt : i < l.length
  ·obtain ⟨x, hx⟩ : ∃ x, l[i]? = some x := ⟨_, List.getElem?_eq_getElem hlt⟩
   obtain ⟨g, hg, hc⟩ := H.out.ints hx
   subst hg
   have ht : inB (l.take (i + 1)) n = decide (x = n) := by
    unfold inB
    rw [List.take_add_one, hx]
    have := HN.out
    unfold inB at this
    simp [List.any_append, this]
   have HT : Hid (inB (l.take (i + 1)) n = decide (x = n)) := ht
   have d1 : decide ((i : Int) < (l.length : Int)) = true := decide_eq_true (by omega)
   have d2 : decide ((l.length : Int) ≤ (i : Int)) = false := decide_eq_false (by omega)
   have d3 : decide ((i : Int) < 0) = false := decide_eq_false (by omega)
   have wi : IntKind.i64.wrap ((i : Int) + 1) = (i : Int) + 1 := by rw [IntKind.wrap_i64]; omega
   clear ht hx
   by_cases e : x = n
   ·have HY : Hid (inB l n = true) := by
     show inB l n = true
     have h1 := HT.out
     rw [decide_eq_true e] at h1
     unfold inB at h1 ⊢
     rw [List.any_eq_true] at h1 ⊢
     obtain ⟨y, hy, hy2⟩ := h1
     exact ⟨y, List.mem_of_mem_take hy, hy2⟩
    go_wp2_with fail
    go_ret
    rw [HY.out]
    exact ⟨rfl, rfl⟩
   ·go_wp2_with fail
    go_round
    case rel => exact ⟨i + 1, by go_num, by omega, by rw [HT.out]; exact decide_eq_false e⟩
    case measure => simp [vInt]; omega
  ·have d1 : decide ((i : Int) < (l.length : Int)) = false := decide_eq_false (by omega)
   have HF : Hid (inB l n = false) := by
    have := HN.out
    rw [List.take_of_length_le (by omega)] at this
    exact this
   go_wp2_with fail
   go_ret
   rw [HF.out]
   exact ⟨rfl, rfl⟩
end Go.Proofs.Ytmjmgdbhmbjmaaa

namespace Go.Proofs.Ytmjmgdbhmbjmaaa
set_option maxRecDepth 100000
open Go.RowKit
def jsE (es : List SV) (i : Nat) : SA := (es.getD i SV.zero).abs
def jsJ (own : SA) (es : List SV) : Nat → SA
 | 0 => own
 | i + 1 => joinS (jsJ own es i) (jsE es i)
def jsT (own : SA) (es : List SV) (i : Nat) : Nat → SA := fun j => if j = 0 then own else if j ≤ i then jsE es (j - 1) else SA.zero
def jsW (i : Nat) : Nat → Bool := fun j => decide (j ≤ i)
def jsO (key : ByteArray) (own : SA) (es : List SV) (m : Int) (i : Nat) : OA := ⟨1, true, key, jsJ own es i, jsT own es i, m, jsW i, 0⟩
def jsA (key : ByteArray) (own : SA) (es : List SV) (m : Int) (i : Nat) : CA := ⟨5, 1, [jsO key own es m i], []⟩
theorem js_cnt : ∀ i, i < 8 → cnt (jsW i) 8 = i + 1 := by decide
theorem js_ans (i : Nat) : ans (jsW i) (i + 1) = jsW (i + 1) := by
 funext j
 unfold ans jsW
 by_cases h : j ≤ i
 ·rw [decide_eq_true h, decide_eq_true (show j ≤ i + 1 by omega)]; rfl
 ·rw [decide_eq_false h]
  exact decide_eq_decide.2 (by omega)
theorem js_new (key : ByteArray) (own : SA) (es : List SV) (m : Int) : newA 1 true key own m 0 = jsO key own es m 0 := by
 show OA.mk 1 true key own _ m (adds (fun _ => false) ((0 : Nat) : Int)) 0 = _
 rw [adds_nat _ (by omega)]
 unfold jsO
 congr 1
 ·funext j
  show (if true = true ∧ okN 0 = true ∧ j = (0 : Int).toNat then own else SA.zero) = jsT own es 0 j
  unfold jsT
  by_cases h : j = 0
  ·rw [if_pos h, if_pos ⟨rfl, by decide, h⟩]
  ·rw [if_neg h, if_neg (show ¬ j ≤ 0 by omega), if_neg (fun k => h k.2.2)]
 ·funext j
  unfold ans jsW
  show (false || decide (j = 0)) = decide (j ≤ 0)
  rw [Bool.false_or]
  exact decide_eq_decide.2 (by omega)
theorem js_hear (key : ByteArray) (own : SA) (es : List SV) (m : Int) {i : Nat} (h : i + 1 < 8) : hearA (jsO key own es m i) ((i : Int) + 1) (jsE es i) = jsO key own es m (i + 1) := by
 have e : (i : Int) + 1 = ((i + 1 : Nat) : Int) := rfl
 rw [e]
 unfold hearA
 rw [if_pos (okN_of h)]
 show OA.mk 1 true key (joinS (jsJ own es i) (jsE es i)) _ m (adds (jsW i) ((i + 1 : Nat) : Int)) 0 = _
 rw [adds_nat _ h, js_ans]
 unfold jsO
 congr 1
 funext j
 show (if j = i + 1 then jsE es i else jsT own es i j) = jsT own es (i + 1) j
 unfold jsT
 by_cases h1 : j = i + 1
 ·subst h1
  rw [if_pos rfl, if_neg (by omega), if_pos (Nat.le_refl _), Nat.add_sub_cancel]
 ·rw [if_neg h1]
  by_cases h0 : j = 0
  ·rw [if_pos h0, if_pos h0]
  ·rw [if_neg h0, if_neg h0]
   by_cases h2 : j ≤ i
   ·rw [if_pos h2, if_pos (by omega)]
   ·rw [if_neg h2, if_neg (by omega)]
theorem js_begin {key : ByteArray} {own : SA} (es : List SV) {m : Int} (hm : (keyB key && mayA own) = true) (h2 : 2 ≤ m) : beginA ⟨5, 0, [], []⟩ 0 m true key own = (jsA key own es m 0, 1, 0) := by
 rw [beginA_more (by decide) hm (by omega)]
 show (CA.mk 5 1 [newA 1 true key own m 0] [], _) = _
 rw [js_new key own es m]
 rfl
theorem js_ok {key : ByteArray} (own : SA) {es : List SV} (m : Int) {i : Nat} (hm : (keyB key && mayA (jsE es i)) = true) : ¬ ((jsO key own es m i).read = false ∨ key ≠ (jsO key own es m i).key ∨ (keyB key && mayA (jsE es i)) = false ∨ (okN ((i : Int) + 1) && (jsO key own es m i).who ((i : Int) + 1).toNat) = true) :=
 got_ok rfl rfl hm (by
  have : (jsO key own es m i).who ((i : Int) + 1).toNat = false := decide_eq_false (show ¬ (i + 1) ≤ i by omega)
  rw [this, Bool.and_false])
theorem js_add (key : ByteArray) (own : SA) (es : List SV) (m : Int) {i : Nat} (h : i + 1 < 8) : addB (jsO key own es m i).need (jsO key own es m i).who ((i : Int) + 1) = decide ((i : Int) + 2 = m) := by
 have := addB_new m (jsW i) h (decide_eq_false (show ¬ (i + 1) ≤ i by omega))
 rw [js_cnt i (by omega)] at this
 show addB m (jsW i) ((i + 1 : Nat) : Int) = _
 rw [this]
 exact decide_eq_decide.2 (by omega)
theorem js_more {key : ByteArray} (own : SA) {es : List SV} {m : Int} {i : Nat} (h : i + 1 < 8) (hm : (keyB key && mayA (jsE es i)) = true) (hn : (i : Int) + 2 ≠ m) : gotA (jsA key own es m i) 1 ((i : Int) + 1) key (jsE es i) = (jsA key own es m (i + 1), none) := by
 have hb := js_add key own es m h
 rw [decide_eq_false hn] at hb
 rw [gotA_more (o := jsO key own es m i) rfl (js_ok own m hm) hb, js_hear key own es m h]
 rfl
theorem js_done {key : ByteArray} (own : SA) {es : List SV} {m : Int} {i : Nat} (h : i + 1 < 8) (hm : (keyB key && mayA (jsE es i)) = true) (hn : (i : Int) + 2 = m) : gotA (jsA key own es m i) 1 ((i : Int) + 1) key (jsE es i) = (⟨5, 1, [], [⟨1, 0, jsJ own es (i + 1)⟩]⟩, some (behindA (jsO key own es m (i + 1)) 8)) := by
 have hb := js_add key own es m h
 rw [decide_eq_true hn] at hb
 rw [gotA_done (o := jsO key own es m i) rfl (js_ok own m hm) hb, js_hear key own es m h]
 rfl
theorem behind_in (o : OA) (k : Nat) : ∀ n, inB (behindA o n) (k : Int) = (decide (k < n) && lateA o k)
 | 0 => by simp [behindA, inB]
 | n + 1 => by
  have ih := behind_in o k n
  unfold inB at ih ⊢
  show (behindA o n ++ _).any _ = _
  rw [List.any_append, ih]
  by_cases h1 : k = n
  ·subst h1
   rw [decide_eq_false (Nat.lt_irrefl k), decide_eq_true (Nat.lt_succ_self k)]
   cases lateA o k <;> simp
  ·have : ((if lateA o n = true then [(n : Int)] else []).any fun x => decide (x = (k : Int))) = false := by
    split
    ·simp; omega
    ·rfl
   rw [this, Bool.or_false]
   congr 1
   exact decide_eq_decide.2 (by omega)
theorem behind_len8 (o : OA) : ∀ n, (behindA o n).length ≤ n
 | 0 => Nat.le_refl _
 | n + 1 => by
  have := behind_len8 o n
  show (behindA o n ++ _).length ≤ _
  rw [List.length_append]
  split <;> simp <;> omega
theorem js_in0 (key : ByteArray) (own : SA) (es : List SV) (m : Int) (i : Nat) : inB (behindA (jsO key own es m (i + 1)) 8) 0 = !sameSA own (jsJ own es (i + 1)) := by
 have := behind_in (jsO key own es m (i + 1)) 0 8
 rw [show ((0 : Nat) : Int) = 0 from rfl] at this
 rw [this]
 show (true && (decide (0 ≤ i + 1) && !sameSA (jsT own es (i + 1) 0) _)) = _
 rw [decide_eq_true (Nat.zero_le _)]
 rfl
theorem js_inS (key : ByteArray) (own : SA) (es : List SV) (m : Int) {i k : Nat} (h : k ≤ i) (h8 : k + 1 < 8) : inB (behindA (jsO key own es m (i + 1)) 8) ((k : Int) + 1) = !sameSA (jsE es k) (jsJ own es (i + 1)) := by
 have := behind_in (jsO key own es m (i + 1)) (k + 1) 8
 rw [show ((k + 1 : Nat) : Int) = (k : Int) + 1 from rfl] at this
 rw [this, decide_eq_true h8]
 show (true && (decide (k + 1 ≤ i + 1) && !sameSA (jsT own es (i + 1) (k + 1)) _)) = _
 rw [decide_eq_true (show k + 1 ≤ i + 1 by omega)]
 unfold jsT
 rw [if_neg (by omega), if_pos (by omega), Nat.add_sub_cancel]
 rfl
theorem js_inN (key : ByteArray) (own : SA) (es : List SV) (m : Int) {i k : Nat} (h : i + 1 < k) : inB (behindA (jsO key own es m (i + 1)) 8) (k : Int) = false := by
 rw [behind_in]
 show (_ && (decide (k ≤ i + 1) && _)) = false
 rw [decide_eq_false (show ¬ k ≤ i + 1 by omega), Bool.false_and, Bool.and_false]
end Go.Proofs.Ytmjmgdbhmbjmaaa
