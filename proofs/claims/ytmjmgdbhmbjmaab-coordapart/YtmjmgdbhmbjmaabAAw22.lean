/- Items of several texts. -/
import Derived.Test.YtmjmgdbhmbjmaabACh22
namespace Go.Proofs.Ytmjmgdbhmbjmaab
set_option maxRecDepth 100000
open Go.RowKit
theorem flat_at {α : Type} {cs : α → List Value} {size : Nat} (hcs : ∀ x, (cs x).length = size) : ∀ {l : List α} {i j : Nat} {x : α} {u : Value}, l[i]? = some x → (cs x)[j]? = some u → (l.flatMap cs)[i * size + j]? = some u
 | [], i, j, x, u, h, _ => by simp at h
 | y :: l, 0, j, x, u, h, hu => by
  simp at h
  subst h
  have hj := (List.getElem?_eq_some_iff.1 hu).1
  rw [List.flatMap_cons, Nat.zero_mul, Nat.zero_add, List.getElem?_append_left hj]
  exact hu
 | y :: l, i + 1, j, x, u, h, hu => by
  have := flat_at hcs (l := l) (i := i) (j := j) (by simpa using h) hu
  rw [List.flatMap_cons, List.getElem?_append_right (by rw [hcs, Nat.succ_mul]; omega), hcs]
  rw [← this]
  congr 1
  rw [Nat.succ_mul]
  omega
theorem OwnG.get {α : Type} {e : TypeId} {size : Nat} {cs : α → List Value} (hcs : ∀ x, (cs x).length = size) {w : World} {a : Option Addr} {cap : Nat} {l : List α} (h : OwnG e size cs w a cap l) {i : Nat} {x : α} (hi : l[i]? = some x) :
  ∃ g, a = some ⟨g, 0, none⟩ ∧ ∀ j u, (cs x)[j]? = some u → w.cell? ⟨g, i * size + j, none⟩ = some u := by
 rcases h.row.2 with ⟨hv, h0⟩ | ⟨g, c, cur, hv, -⟩
 ·rw [List.eq_nil_of_length_eq_zero h0] at hi
  simp at hi
 ·simp only [Value.slice.injEq] at hv
  obtain ⟨rfl, -, rfl⟩ := hv
  refine ⟨g, rfl, fun j u hu => ?_⟩
  have := World.ownsRow.cells h.row (g := g) rfl _ u (flat_at hcs hi hu)
  rw [add_lit, Nat.zero_add] at this
  exact this
theorem anss_at {n m : Nat} (h : n < m) (c g : Nat) (W : World) : (Instr.indexAt 43 (.slice (some ⟨g, 0, none⟩) m c) (.int .i64 (n : Int))).run Try.prog W = .ok (.pointer (some ⟨g, n * 11, none⟩)) W := by
 go_simp
def kk : ByteArray := ⟨#[107]⟩
theorem kk_ok : keyB kk = true := by decide
def awA : CA := ⟨3, 1, [newA 1 false kk SA.zero 2 0], []⟩
theorem aw_begin : beginA ⟨3, 0, [], []⟩ 0 2 false kk SA.zero = (awA, 1, 0) := by
 rw [beginA_more (by decide) (by rw [kk_ok, may_zero]; rfl) (by decide)]
 rfl
theorem aw_ack : ackA awA 1 1 = (⟨3, 1, [], [⟨1, 0, SA.zero⟩]⟩, true) := by
 rw [ackA_done (o := newA 1 false kk SA.zero 2 0) rfl rfl (by decide)]
 rfl
set_option maxHeartbeats 2000000 in
theorem awake_any (w : World) : Calls Try.prog 4 #[] w fun e w' => e = .returned (.bool true) ∧ Off (fun _ => False) w w' := by
 have HN : Hid _ := cnew_any (Z := fun _ => False) 3 w (by omega) (fun _ h => h.elim)
 go_enter Try.func4, Try.ntmps4
 go_wp2_with fail
 refine Calls.mono HN.out ?_
 rintro e v1 ⟨p, rfl, hp, c1, g1⟩
 have HC1 : Hid _ := c1
 have HG1 : Hid _ := g1
 have HW1 : Hid _ := write_any c1 0 2 kk SV.zero (SOk.zero _ _) (by show (0 : Int) < _; omega)
 clear c1 g1 hp HN
 go_wp2_with fail
 refine Calls.mono HW1.out ?_
 rintro e v2 ⟨x2, D2, Z2, c2, g2, e2, hr⟩
 have hb : beginA (newM 3).abs 0 2 false kk SV.zero.abs = (awA, 1, 0) := aw_begin
 rw [hb] at e2 hr
 obtain rfl := hr
 have HC2 : Hid _ := c2
 have HG2 : Hid _ := HG1.out.trans g2
 have HE2 : Hid (x2.abs = awA) := e2
 have HK2 : Hid _ := ack_any c2 (n := 1) ⟨by omega, by omega⟩ 1
 clear c2 g2 e2 hb HW1 HC1 HG1
 go_wp2_with fail
 refine Calls.mono HK2.out ?_
 rintro e v3 ⟨x3, D3, Z3, c3, g3, e3, hr⟩
 rw [HE2.out, aw_ack] at e3 hr
 obtain rfl := hr
 have HC3 : Hid _ := c3
 have HG3 : Hid _ := HG2.out.trans g3
 have HE3 : Hid _ := e3
 have HA3 : Hid _ := canswers_any c3
 clear c3 g3 e3 HK2 HC2 HG2
 go_wp2_with fail
 refine Calls.mono HA3.out ?_
 rintro e v4 ⟨rfl, own, oks, c4, g4⟩
 obtain ⟨y, hy, hya⟩ : ∃ y, x3.an = [y] ∧ y.abs = ⟨1, 0, SA.zero⟩ := by
  have := congrArg CA.an HE3.out
  have h2 : x3.an.map AnD.abs = [⟨1, 0, SA.zero⟩] := this
  obtain ⟨y, hy, e⟩ := List.map_eq_singleton_iff.1 h2
  exact ⟨y, hy, e⟩
 have ht : x3.t = [] := by
  have h2 : x3.t.map OpD.abs = [] := congrArg CA.t HE3.out
  exact List.map_eq_nil_iff.1 h2
 obtain ⟨g, hg, hc⟩ := own.get anC_len (i := 0) (x := y) (by rw [hy]; rfl)
 have cc : v4.cell? ⟨g, 1, none⟩ = some (.int .i64 0) := by
  have := hc 1 (.int .i64 y.err) rfl
  rw [show y.err = 0 from congrArg AnA.err hya] at this
  exact this
 have hix := anss_at (n := 0) (m := 1) (by omega) x3.ac g
 have HL4 : Hid _ := clen_any c4
 have hl : (noAns x3).t.length = 0 := by show x3.t.length = 0; rw [ht]; rfl
 rw [hl] at HL4
 rw [hy, hg]
 have HG4 : Hid _ := HG3.out.trans g4
 clear own oks c4 g4 hc hy hya ht hl HA3 HC3 HG3 HE3 hg
 simp only [List.length_singleton]
 go_wp2_with fail
 refine Calls.mono HL4.out ?_
 rintro e v5 ⟨rfl, hw⟩
 rw [hw]
 clear hw v5
 go_wp2_with fail
 go_ret
 exact ⟨rfl, HG4.out.off⟩
end Go.Proofs.Ytmjmgdbhmbjmaab
