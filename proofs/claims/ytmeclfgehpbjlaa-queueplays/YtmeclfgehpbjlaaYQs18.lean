/- Items of several texts. -/
import Derived.Test.YtmeclfgehpbjlaaYQl18
namespace Go.Proofs.Ytmeclfgehpbjlaa
set_option maxRecDepth 100000
open Go.RowKit
def wrw (g : Nat) : Nat → List Value → World → World
 | _, [], w => w
 | o, u :: us, w => wrw g (o + 1) us (w.setCell ⟨g, o, none⟩ u)
theorem off_wrw {D : Nat → Prop} {a : World} {g : Nat} : ∀ {us : List Value} {o : Nat} {w : World}, Off D a w → (D g ∨ a.heap.size ≤ g) → Off D a (wrw g o us w)
 | [], _, _, h, _ => h
 | u :: us, o, w, h, hg => by
  unfold wrw
  exact off_wrw (h.setCell (p := ⟨g, o, none⟩) hg u) hg
def setw : List Value → Nat → List Value → List Value
 | l, _, [] => l
 | l, o, v :: vs => setw (l.set o v) (o + 1) vs
theorem Cel.setw {g : Nat} {t : TypeId} : ∀ {vs : List Value} {o : Nat} {cur : Array Value} {w : World}, Cel g t cur w → Cel g t (setw cur.toList o vs).toArray (wrw g o vs w)
 | [], _, cur, w, h => by simpa [Ytmeclfgehpbjlaa.setw, wrw] using h
 | v :: vs, o, cur, w, h => by
  have := Cel.setw (vs := vs) (o := o + 1) (h.set o v)
  rw [Array.toList_setIfInBounds] at this
  exact this
theorem setw_eq : ∀ (vs : List Value) (l : List Value) (o : Nat), o + vs.length ≤ l.length → setw l o vs = spl l o vs
 | [], l, o, _ => by simp [setw, spl]
 | v :: vs, l, o, h => by
  rw [List.length_cons] at h
  unfold setw
  rw [setw_eq vs (l.set o v) (o + 1) (by rw [List.length_set]; omega)]
  unfold spl
  rw [list_seg_step l o v vs (by omega), List.length_cons]
theorem Cel.wrwAll {g : Nat} {t : TypeId} {vs : List Value} {cur : Array Value} {w : World} (h : Cel g t cur w) (hl : vs.length = cur.size) : Cel g t vs.toArray (wrw g 0 vs w) := by
 have := h.setw (vs := vs) (o := 0)
 have hc : cur.toList.length = vs.length := by rw [Array.length_toList]; exact hl.symm
 rw [setw_eq _ _ _ (by rw [hc]; omega)] at this
 unfold spl at this
 rw [List.take_zero, List.nil_append, List.drop_of_length_le (by rw [hc]; omega), List.append_nil] at this
 exact this
structure Que (D : Nat → Prop) (p : Nat) (xs : List Wt) (most r t : Int) (w : World) : Prop where
 dp : D p
 dlt : ∀ c, D c → c < w.heap.size
 is : ∃ (a : Option Addr) (cap c d : Nat), Cel p 62 #[.slice a xs.length cap, .int .i64 t, .pointer (some ⟨c, 0, none⟩), .pointer (some ⟨d, 0, none⟩)] w ∧ OwnG 68 11 wcs w a cap xs ∧ (∀ g, blk a = some g → D g ∧ g ≠ p ∧ g ≠ c ∧ g ≠ d) ∧ Tal c (xs.length : Int) most w ∧ Tal d r 9223372036854775807 w ∧ D c ∧ D d ∧ p ≠ c ∧ p ≠ d ∧ c ≠ d
 sor : Srd xs
 most1 : most ≤ 1000
theorem Que.off {D E : Nat → Prop} {p : Nat} {xs : List Wt} {most r t : Int} {w w' : World} (h : Que D p xs most r t w) (o : Off E w w') (hE : ∀ c, c < w.heap.size → D c → ¬ E c) : Que D p xs most r t w' := by
 obtain ⟨a, cap, c, d, h1, h2, h3, h4, h5, h6, h7, h8⟩ := h.is
 exact ⟨h.dp, fun c hc => Nat.lt_of_lt_of_le (h.dlt c hc) o.size, ⟨a, cap, c, d, h1.off o (hE p h1.lt h.dp), h2.off o (fun g hg e => hE g hg (h3 g e).1), h3, h4.off o (hE c h4.lt h6), h5.off o (hE d h5.lt h7), h6, h7, h8⟩, h.sor, h.most1⟩
theorem Que.free {D : Nat → Prop} {p : Nat} {xs : List Wt} {most r t : Int} {w w' : World} (h : Que D p xs most r t w) (o : Off (fun _ => False) w w') : Que D p xs most r t w' := h.off o (fun _ _ _ h => h)
theorem Que.few {D : Nat → Prop} {p : Nat} {xs : List Wt} {most r t : Int} {w : World} (h : Que D p xs most r t w) : (xs.length : Int) ≤ most ∧ most ≤ 1000 ∧ 0 ≤ r := by
 obtain ⟨a, cap, c, d, h1, h2, h3, h4, h5, -⟩ := h.is
 exact ⟨h4.le, h.most1, h5.low⟩
theorem eql_que (a : Option Addr) (W : World) : (binOp .eql 23 (.pointer a) (.pointer none)).run Try.prog W = .ok (.bool a.isNone) W := by
 cases a <;> kernel_rfl
def clq (n : Int) : Int := min (max n 0) 1000
def wgt (n : Int) : Int := 4 * min (max n 0) 3
theorem weight_any (x : Int) (w : World) : Calls Try.prog 26 #[.int .i64 x] w fun e w' => e = .returned (.int .i64 (wgt x)) ∧ w' = w := by
 have h1 := max_int x 0
 have h2 := min_int (max x 0) 3
 have hb : 0 ≤ min (max x 0) 3 ∧ min (max x 0) 3 ≤ 3 := by omega
 have HW : Hid (wgt x = 4 * min (max x 0) 3) := rfl
 generalize min (max x 0) 3 = y at *
 have hw : IntKind.i64.wrap (4 * y) = 4 * y := by rw [IntKind.wrap_i64]; omega
 go_enter Try.func26, Try.ntmps26
 go_wp2_with fail
 go_ret
 exact ⟨by rw [HW.out]; rfl, rfl⟩
set_option maxHeartbeats 1000000 in
theorem qnew_any (x : Int) (w : World) :
  Calls Try.prog 9 #[.int .i64 x] w fun e w' => ∃ (p : Nat) (D : Nat → Prop), e = .returned (.pointer (some ⟨p, 0, none⟩)) ∧ Que D p [] (clq x) 0 0 w' ∧ (∀ c, D c → w.heap.size ≤ c) ∧ Off (fun _ => False) w w' := by
 have h1 := max_int x 0
 have h2 := min_int (max x 0) 1000
 have hb : 0 ≤ clq x ∧ clq x ≤ 1000 := by unfold clq; omega
 rw [show min (max x 0) 1000 = clq x from rfl] at h2
 generalize clq x = m at *
 generalize max x 0 = mx at *
 obtain ⟨m0, m1⟩ := hb
 have HN : Hid _ := tnew_any m (by omega) w
 rw [show max m 0 = m by omega] at HN
 go_enter Try.func9, Try.ntmps9
 go_wp2_with fail
 refine Calls.mono HN.out ?_
 rintro e w1 ⟨rfl, t1, o1⟩
 have HT1 : Hid _ := t1
 have HO1 : Hid _ := o1
 have hlt1 := t1.lt
 have HN2 : Hid _ := tnew_any 9223372036854775807 (by omega) w1
 rw [show max (9223372036854775807 : Int) 0 = 9223372036854775807 by omega] at HN2
 clear t1 o1 HN
 go_wp2_with fail
 refine Calls.mono HN2.out ?_
 rintro e w2 ⟨rfl, t2, o2⟩
 have HT2 : Hid _ := t2
 have HO2 : Hid _ := o2
 have hlt2 := t2.lt
 clear t2 o2 HN2
 go_wp2_with fail
 go_ret
 have oo := (Off.refl (fun _ => False) w2).alloc (.cells #[.slice none 0 0, .int .i64 0, .pointer (some ⟨w.heap.size, 0, none⟩), .pointer (some ⟨w1.heap.size, 0, none⟩)] 62)
 have os := HO1.out.size
 refine ⟨_, fun c => c = w2.heap.size ∨ c = w.heap.size ∨ c = w1.heap.size, rfl, ⟨.inl rfl, ?_, ⟨none, 0, w.heap.size, w1.heap.size, Cel.new _ _ _, OwnG.nil _ _ _ _, fun g hg => by simp [blk] at hg, (HT1.out.off HO2.out (fun h => h)).off oo (fun h => h), HT2.out.off oo (fun h => h), .inr (.inl rfl), .inr (.inr rfl), by omega, by omega, by omega⟩, List.Pairwise.nil, m1⟩, ?_, (HO1.out.trans HO2.out (fun _ _ h => h)).trans oo (fun _ _ h => h)⟩
 ·intro c hc
  have : (w2.alloc (.cells #[.slice none 0 0, .int .i64 0, .pointer (some ⟨w.heap.size, 0, none⟩), .pointer (some ⟨w1.heap.size, 0, none⟩)] 62)).heap.size = w2.heap.size + 1 := World.size_alloc _ _
  rcases hc with h | h | h <;> omega
 ·intro c hc
  rcases hc with h | h | h <;> omega
theorem qlen_any {D : Nat → Prop} {p : Nat} {xs : List Wt} {most r t : Int} {w : World} (h : Que D p xs most r t w) :
  Calls Try.prog 19 #[.pointer (some ⟨p, 0, none⟩)] w fun e w' => e = .returned (.int .i64 (xs.length : Int)) ∧ w' = w := by
 have hf := h.few
 obtain ⟨a, cap, c, d, h1, -, -, h4, -⟩ := h.is
 have H1 : Hid _ := tnow_any h4
 have c2 := h1.cell 2
 have hq := eql_que
 clear h h1 h4
 go_enter Try.func19, Try.ntmps19
 go_wp2_with fail
 refine Calls.mono H1.out ?_
 rintro e w1 ⟨rfl, hw⟩
 rw [hw]
 clear hw w1
 go_wp2_with fail
 go_ret
 exact ⟨rfl, rfl⟩
theorem qrefused_any {D : Nat → Prop} {p : Nat} {xs : List Wt} {most r t : Int} {w : World} (h : Que D p xs most r t w) :
  Calls Try.prog 20 #[.pointer (some ⟨p, 0, none⟩)] w fun e w' => e = .returned (.int .i64 r) ∧ w' = w := by
 obtain ⟨a, cap, c, d, h1, -, -, -, h5, -⟩ := h.is
 have H1 : Hid _ := tnow_any h5
 have c3 := h1.cell 3
 have hq := eql_que
 clear h h1 h5
 go_enter Try.func20, Try.ntmps20
 go_wp2_with fail
 refine Calls.mono H1.out ?_
 rintro e w1 ⟨rfl, hw⟩
 rw [hw]
 clear hw w1
 go_wp2_with fail
 go_ret
 exact ⟨rfl, rfl⟩
set_option maxHeartbeats 1000000 in
theorem qtick_any {D : Nat → Prop} {p : Nat} {xs : List Wt} {most r t : Int} {w : World} (h : Que D p xs most r t w) (ht : 0 ≤ t) (ht1 : t ≤ 1000000000) :
  Calls Try.prog 17 #[.pointer (some ⟨p, 0, none⟩)] w fun e w' => e = .returned (.tuple #[]) ∧ Que D p xs most r (t + 1) w' ∧ Off (fun c => D c) w w' := by
 have HQ : Hid _ := h
 obtain ⟨a, cap, c, d, h1, h2, h3, h4, h5, h6, h7, h8, h9, h10⟩ := h.is
 have c1 := h1.cell 1
 have fz := h1.free 1
 have hq := eql_que
 have ov : IntKind.i64.wrap (t + 1) = t + 1 := by rw [IntKind.wrap_i64]; omega
 have o : Off (fun c => c = p) w (w.setCell ⟨p, 1, none⟩ (.int .i64 (t + 1))) := (Off.refl (fun c => c = p) w).setCell (p := ⟨p, 1, none⟩) (.inl rfl) _
 have HR : Hid (Que D p xs most r (t + 1) (w.setCell ⟨p, 1, none⟩ (.int .i64 (t + 1))) ∧ Off (fun c => D c) w (w.setCell ⟨p, 1, none⟩ (.int .i64 (t + 1)))) :=
  ⟨⟨h.dp, fun c hc => Nat.lt_of_lt_of_le (h.dlt c hc) o.size, ⟨a, cap, c, d, h1.set 1 _, h2.off o (fun g _ e => (h3 g e).2.1), h3, h4.off o (fun e => h8 e.symm), h5.off o (fun e => h9 e.symm), h6, h7, h8, h9, h10⟩, h.sor, h.most1⟩, o.mono (fun i _ e => by rw [e]; exact h.dp)⟩
 clear h h1 h2 h3 h4 h5 h6 h7 h8 h9 h10 HQ o
 go_enter Try.func17, Try.ntmps17
 go_wp2_with fail
 go_end0
 exact ⟨rfl, HR.out⟩
end Go.Proofs.Ytmeclfgehpbjlaa
