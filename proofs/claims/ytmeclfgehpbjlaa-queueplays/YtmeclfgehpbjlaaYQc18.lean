/- Items of several texts. -/
import Derived.Test.YtmeclfgehpbjlaaYQt18
namespace Go.Proofs.Ytmeclfgehpbjlaa
set_option maxRecDepth 100000
open Go.RowKit
theorem eql_nilE (W : World) : (binOp .eql 27 (.slice none 0 0) (.slice none 0 0)).run Try.prog W = .ok (.bool true) W := by kernel_rfl
theorem clone_nilE (w : World) : Calls Try.prog 38 #[.slice none 0 0] w fun e w' => e = .returned (.slice none 0 0) ∧ w' = w := by
 have hq := eql_nilE
 go_enter Try.func38, Try.ntmps38
 go_wp2
 go_ret
 exact ⟨rfl, rfl⟩
theorem eql_nilD (W : World) : (binOp .eql 28 (.slice none 0 0) (.slice none 0 0)).run Try.prog W = .ok (.bool true) W := by kernel_rfl
theorem clone_nilD (w : World) : Calls Try.prog 40 #[.slice none 0 0] w fun e w' => e = .returned (.slice none 0 0) ∧ w' = w := by
 have hq := eql_nilD
 go_enter Try.func40, Try.ntmps40
 go_wp2
 go_ret
 exact ⟨rfl, rfl⟩
theorem eql_nilM (W : World) : (binOp .eql 29 (.slice none 0 0) (.slice none 0 0)).run Try.prog W = .ok (.bool true) W := by kernel_rfl
theorem clone_nilM (w : World) : Calls Try.prog 42 #[.slice none 0 0] w fun e w' => e = .returned (.slice none 0 0) ∧ w' = w := by
 have hq := eql_nilM
 go_enter Try.func42, Try.ntmps42
 go_wp2
 go_ret
 exact ⟨rfl, rfl⟩
set_option maxHeartbeats 2000000 in
theorem copy_mm (n : Int) (w : World) : Calls Try.prog 25 #[(.agg #[.int .i64 (mm n).k, .int .i64 (mm n).fr, .int .i64 (mm n).tn, .int .i64 (mm n).op, .int .i64 (mm n).fo, .string (mm n).key, .int .i64 (mm n).bk, .slice (mm n).ea (mm n).el (mm n).ec, .slice (mm n).da (mm n).dl (mm n).dc, .slice (mm n).ma (mm n).ml (mm n).mc])] w fun e w' => e = .returned ((.agg #[.int .i64 (mm n).k, .int .i64 (mm n).fr, .int .i64 (mm n).tn, .int .i64 (mm n).op, .int .i64 (mm n).fo, .string (mm n).key, .int .i64 (mm n).bk, .slice (mm n).ea (mm n).el (mm n).ec, .slice (mm n).da (mm n).dl (mm n).dc, .slice (mm n).ma (mm n).ml (mm n).mc])) ∧ Off (fun _ => False) w w' := by
 show Calls Try.prog 25 #[.agg #[.int .i64 4, .int .i64 0, .int .i64 0, .int .i64 n, .int .i64 0, .string ⟨#[107]⟩, .int .i64 0, .slice none 0 0, .slice none 0 0, .slice none 0 0]] w fun e w' => e = .returned (.agg #[.int .i64 4, .int .i64 0, .int .i64 0, .int .i64 n, .int .i64 0, .string ⟨#[107]⟩, .int .i64 0, .slice none 0 0, .slice none 0 0, .slice none 0 0]) ∧ Off (fun _ => False) w w'
 obtain ⟨W, hW⟩ : ∃ W, W = (w.alloc (.cells #[.int .i64 4, .int .i64 0, .int .i64 0, .int .i64 n, .int .i64 0, .string ⟨#[107]⟩, .int .i64 0, .slice none 0 0, .slice none 0 0, .slice none 0 0] 31)).alloc (.cells #[.int .i64 0, .int .i64 0, .int .i64 0, .int .i64 0, .int .i64 0, .string ⟨#[]⟩, .int .i64 0, .slice none 0 0, .slice none 0 0, .slice none 0 0] 31) := ⟨_, rfl⟩
 have O : Off (fun _ => False) w W := by rw [hW]; exact ((Off.refl _ w).alloc _).alloc _
 have C0 : Cel w.heap.size 31 #[.int .i64 4, .int .i64 0, .int .i64 0, .int .i64 n, .int .i64 0, .string ⟨#[107]⟩, .int .i64 0, .slice none 0 0, .slice none 0 0, .slice none 0 0] W := by rw [hW]; exact (Cel.new w _ _).alloc _
 have C1 : Cel (w.heap.size + 1) 31 #[.int .i64 0, .int .i64 0, .int .i64 0, .int .i64 0, .int .i64 0, .string ⟨#[]⟩, .int .i64 0, .slice none 0 0, .slice none 0 0, .slice none 0 0] W := by
  rw [hW]
  have := Cel.new (w.alloc (.cells #[.int .i64 4, .int .i64 0, .int .i64 0, .int .i64 n, .int .i64 0, .string ⟨#[107]⟩, .int .i64 0, .slice none 0 0, .slice none 0 0, .slice none 0 0] 31)) 31 #[.int .i64 0, .int .i64 0, .int .i64 0, .int .i64 0, .int .i64 0, .string ⟨#[]⟩, .int .i64 0, .slice none 0 0, .slice none 0 0, .slice none 0 0]
  rwa [World.size_alloc] at this
 go_enter Try.func25, Try.ntmps25
 go_upto_region 1 with fail
 rw [← hW]
 have HO : Hid _ := O
 have HC0 : Hid _ := C0
 have HC1 : Hid _ := C1
 clear hW O C0 C1
 obtain ⟨b, hb⟩ : ∃ b, b = w.heap.size := ⟨_, rfl⟩
 rw [← hb] at HC0 HC1 ⊢
 have HB : Hid (b = w.heap.size) := hb
 clear hb
 have c7 : W.cell? ⟨b, 7, none⟩ = some (.slice none 0 0) := HC0.out.cell 7
 go_wp2_with fail
 refine (clone_nilE _).mono ?_
 rintro e w' ⟨rfl, hw⟩
 rw [hw]
 clear hw w'
 have fz := HC0.out.free 7
 go_upto_region 2 with fail
 have D0 := HC0.out.set 7 (.slice none 0 0)
 have OS : Off (fun c => c = b) W (W.setCell ⟨b, 7, none⟩ (.slice none 0 0)) := (Off.refl (fun c => c = b) W).setCell (p := ⟨b, 7, none⟩) (.inl rfl) _
 generalize W.setCell ⟨b, 7, none⟩ (.slice none 0 0) = V at D0 OS ⊢
 have HD0 : Hid (Cel b 31 #[.int .i64 4, .int .i64 0, .int .i64 0, .int .i64 n, .int .i64 0, .string ⟨#[107]⟩, .int .i64 0, .slice none 0 0, .slice none 0 0, .slice none 0 0] V) := D0
 have HO1 : Hid (Off (fun c => c = b) W V) := OS
 clear c7 fz D0 OS
 have c7 : V.cell? ⟨b, 7, none⟩ = some (.slice none 0 0) := HD0.out.cell 7
 have c8 : V.cell? ⟨b, 8, none⟩ = some (.slice none 0 0) := HD0.out.cell 8
 go_wp2_with fail
 go_loopw [14] (fun s wr => s = .int .i64 0 ∧ wr = V) (fun _ _ => 0)
 case atStart => exact ⟨rfl, rfl⟩
 case round =>
  obtain ⟨rfl, hwr⟩ := hrel
  rw [hwr]
  clear hwr wr
  go_wp2_with fail
  refine (clone_nilD _).mono ?_
  rintro e w' ⟨rfl, hw⟩
  rw [hw]
  clear hw w'
  have fz := HD0.out.free 8
  go_upto_region 9 with fail
  have D0 := HD0.out.set 8 (.slice none 0 0)
  have OS : Off (fun c => c = b) V (V.setCell ⟨b, 8, none⟩ (.slice none 0 0)) := (Off.refl (fun c => c = b) V).setCell (p := ⟨b, 8, none⟩) (.inl rfl) _
  generalize V.setCell ⟨b, 8, none⟩ (.slice none 0 0) = V2 at D0 OS ⊢
  have HD2 : Hid (Cel b 31 #[.int .i64 4, .int .i64 0, .int .i64 0, .int .i64 n, .int .i64 0, .string ⟨#[107]⟩, .int .i64 0, .slice none 0 0, .slice none 0 0, .slice none 0 0] V2) := D0
  have HO2 : Hid (Off (fun c => c = b) W V2) := HO1.out.trans OS (fun _ _ h => h)
  clear c7 c8 fz D0 OS
  have c8 : V2.cell? ⟨b, 8, none⟩ = some (.slice none 0 0) := HD2.out.cell 8
  have c9 : V2.cell? ⟨b, 9, none⟩ = some (.slice none 0 0) := HD2.out.cell 9
  go_wp2_with fail
  go_loopw [38] (fun s wr => s = .int .i64 0 ∧ wr = V2) (fun _ _ => 0)
  case atStart => exact ⟨rfl, rfl⟩
  case round =>
   obtain ⟨rfl, hwr⟩ := hrel
   rw [hwr]
   clear hwr wr
   go_wp2_with fail
   refine (clone_nilM _).mono ?_
   rintro e w' ⟨rfl, hw⟩
   rw [hw]
   clear hw w'
   have fz := HD2.out.free 9
   go_upto_region 16 with fail
   have D0 := HD2.out.set 9 (.slice none 0 0)
   have OS : Off (fun c => c = b) V2 (V2.setCell ⟨b, 9, none⟩ (.slice none 0 0)) := (Off.refl (fun c => c = b) V2).setCell (p := ⟨b, 9, none⟩) (.inl rfl) _
   generalize V2.setCell ⟨b, 9, none⟩ (.slice none 0 0) = V3 at D0 OS ⊢
   have HD3 : Hid (Cel b 31 #[.int .i64 4, .int .i64 0, .int .i64 0, .int .i64 n, .int .i64 0, .string ⟨#[107]⟩, .int .i64 0, .slice none 0 0, .slice none 0 0, .slice none 0 0] V3) := D0
   have HO3 : Hid (Off (fun c => c = b) W V3) := HO2.out.trans OS (fun _ _ h => h)
   have HE3 : Hid (Cel (b + 1) 31 #[.int .i64 0, .int .i64 0, .int .i64 0, .int .i64 0, .int .i64 0, .string ⟨#[]⟩, .int .i64 0, .slice none 0 0, .slice none 0 0, .slice none 0 0] V3) := HC1.out.off HO3.out (fun e => by have e : b + 1 = b := e; omega)
   clear c8 c9 fz D0 OS
   obtain ⟨x0, x1, x2, x3, x4, x5, x6, x7, x8, x9⟩ := celw10 HD3.out
   obtain ⟨y0, y1, y2, y3, y4, y5, y6, y7, y8, y9⟩ := celw10 HE3.out
   have fz := HE3.out.free
   go_wp2_with fail
   refine bodyPost_ret (results_msg (x := mm n) rfl rfl (HE3.out.wrwAll (vs := mcs (mm n)) rfl)) rfl ?_
   exact ⟨rfl, (HO.out.trans HO3.out (fun i hi e => by have e : i = b := e; have := HB.out; omega)).trans (off_wrw (g := b + 1) (us := mcs (mm n)) (Off.refl (fun c => c = b + 1) V3) (.inl rfl)) (fun i hi e => by have e : i = b + 1 := e; have := HB.out; omega)⟩
def its (l : List (Int × Int)) : List Wt := l.map (fun x => ⟨mm x.1, x.2⟩)
theorem its_len (l : List (Int × Int)) : (its l).length = l.length := List.length_map _
theorem its_at {l : List (Int × Int)} {i : Nat} {x : Wt} (h : (its l)[i]? = some x) : ∃ y, l[i]? = some y ∧ x.base = y.2 := by
 unfold its at h
 rw [List.getElem?_map] at h
 cases e : l[i]? with
 | none => rw [e] at h; simp at h
 | some y => rw [e] at h; simp at h; exact ⟨y, rfl, by rw [← h]⟩
def insQ (b : Int) (k : Int) : List (Int × Int) → List (Int × Int)
 | [] => [(k, b)]
 | x :: l => if x.2 < b then x :: insQ b k l else (k, b) :: x :: l
theorem ins_at {l : List (Int × Int)} {b : Int} {n : Nat} (k : Int) (h : Fdw (its l) b n) : (its l).take n ++ (⟨mm k, b⟩ : Wt) :: (its l).drop n = its (insQ b k l) := by
 induction l generalizing n with
 | nil =>
  have := h.le
  rw [its_len] at this
  obtain rfl : n = 0 := by simpa using this
  rfl
 | cons x l ih =>
  cases n with
  | zero =>
   have hx : ¬ x.2 < b := by
    have := h.hi 0 ⟨mm x.1, x.2⟩ (Nat.le_refl _) rfl
    have e : b ≤ x.2 := this
    omega
   unfold insQ
   rw [if_neg hx]
   rfl
  | succ n =>
   have hx : x.2 < b := h.lo 0 ⟨mm x.1, x.2⟩ (by omega) rfl
   have hl : Fdw (its l) b n := ⟨by have := h.le; rw [its_len] at *; simp at this; omega, fun i z hi hz => h.lo (i + 1) z (by omega) hz, fun i z hi hz => h.hi (i + 1) z (by omega) hz⟩
   unfold insQ
   rw [if_pos hx]
   show ⟨mm x.1, x.2⟩ :: ((its l).take n ++ (⟨mm k, b⟩ : Wt) :: (its l).drop n) = ⟨mm x.1, x.2⟩ :: its (insQ b k l)
   rw [ih hl]
theorem ins_len (b k : Int) : ∀ l : List (Int × Int), (insQ b k l).length = l.length + 1
 | [] => rfl
 | x :: l => by
  unfold insQ
  split
  ·rw [List.length_cons, ins_len b k l]; rfl
  ·rfl
structure QuI (D : Nat → Prop) (p : Nat) (l : List (Int × Int)) (most r t : Int) (w : World) : Prop where
 q : Que D p (its l) most r t w
theorem iput_yes {D : Nat → Prop} {p : Nat} {l : List (Int × Int)} {most r t : Int} {w : World} (h : QuI D p l most r t w) (k u : Int) (hroom : (l.length : Int) < most) (ht : 0 ≤ t ∧ t ≤ 1000000000) :
  Calls Try.prog 12 #[.pointer (some ⟨p, 0, none⟩), (.agg #[.int .i64 (mm k).k, .int .i64 (mm k).fr, .int .i64 (mm k).tn, .int .i64 (mm k).op, .int .i64 (mm k).fo, .string (mm k).key, .int .i64 (mm k).bk, .slice (mm k).ea (mm k).el (mm k).ec, .slice (mm k).da (mm k).dl (mm k).dc, .slice (mm k).ma (mm k).ml (mm k).mc]), .int .i64 u] w fun e w' => ∃ D' : Nat → Prop, e = .returned (.int .i64 0) ∧ QuI D' p (insQ (wgt u - t) k l) most r t w' ∧ (∀ c, D' c → D c ∨ w.heap.size ≤ c) ∧ Off (fun c => D c) w w' := by
 refine (put_yes h.q (mm k) u (by rw [its_len]; exact hroom) ht (Q := fun m _ => m = mm k) (fun V _ => (copy_mm k V).mono fun e w' h => ⟨mm k, h.1, fun _ _ => rfl, h.2⟩)).mono ?_
 rintro e w' ⟨m, n, D', rfl, hq, hf, hm, hd, o⟩
 obtain rfl : m = mm k := hm w' (Off.refl _ _)
 exact ⟨D', rfl, ⟨by rw [← ins_at k hf]; exact hq⟩, hd, o⟩
theorem itake_some {D : Nat → Prop} {p : Nat} {l : List (Int × Int)} {k b : Int} {most r t : Int} {w : World} (h : QuI D p (l ++ [(k, b)]) most r t w) :
  Calls Try.prog 14 #[.pointer (some ⟨p, 0, none⟩)] w fun e w' => e = .returned (.tuple #[(.agg #[.int .i64 (mm k).k, .int .i64 (mm k).fr, .int .i64 (mm k).tn, .int .i64 (mm k).op, .int .i64 (mm k).fo, .string (mm k).key, .int .i64 (mm k).bk, .slice (mm k).ea (mm k).el (mm k).ec, .slice (mm k).da (mm k).dl (mm k).dc, .slice (mm k).ma (mm k).ml (mm k).mc]), .bool true]) ∧ QuI D p l most r t w' ∧ Off (fun c => D c) w w' := by
 have hq := h.q
 rw [show its (l ++ [(k, b)]) = its l ++ [⟨mm k, b⟩] by unfold its; rw [List.map_append]; rfl] at hq
 exact (take_some hq).mono fun e w' h => ⟨h.1, ⟨h.2.1⟩, h.2.2⟩
end Go.Proofs.Ytmeclfgehpbjlaa
