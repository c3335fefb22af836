/- Items of several texts. -/
import Derived.Test.YtpnnpdfmoldiiabASyc
namespace Go.Proofs.Ytpnnpdfmoldiiab
open Go.Shelf Go.RowKit Go.Lib Go.Sort
def Bl {α : Type} (lt : α → α → Bool) (s : Nat) (l : List α) : Prop := ∀ i, Ord lt ((l.drop (i * s)).take s)
theorem bl_nil {α : Type} {lt : α → α → Bool} (s : Nat) : Bl lt s ([] : List α) := fun i => by simp [Ord]
theorem bl_snoc {α : Type} {lt : α → α → Bool} {s k : Nat} {A M : List α} (hA : Bl lt s A) (hl : A.length = k * s) (hM : Ord lt M) (hm : M.length ≤ s) : Bl lt s (A ++ M) := by
 intro i
 rcases Nat.lt_trichotomy i k with h | h | h
 ·have h1 : i * s + s ≤ k * s := by
   have := Nat.mul_le_mul_right s (show i + 1 ≤ k from h)
   rwa [Nat.succ_mul] at this
  rw [List.drop_append_of_le_length (by omega), List.take_append_of_le_length (by rw [List.length_drop]; omega)]
  exact hA i
 ·subst h
  rw [← hl, List.drop_left]
  exact ord_take hM s
 ·have h1 : k * s + s ≤ i * s := by
   have := Nat.mul_le_mul_right s (show k + 1 ≤ i from h)
   rwa [Nat.succ_mul] at this
  rw [List.drop_eq_nil_of_le (by rw [List.length_append]; omega)]
  simp [Ord]
theorem bl_head {α : Type} {lt : α → α → Bool} {s : Nat} {l : List α} (h : Bl lt s l) : Ord lt (l.take s) := by
 have := h 0
 simpa using this
theorem bl_tail {α : Type} {lt : α → α → Bool} {s : Nat} {l : List α} (h : Bl lt s l) : Bl lt s (l.drop s) := by
 intro i
 have := h (i + 1)
 rw [List.drop_drop, show s + i * s = (i + 1) * s by rw [Nat.succ_mul]; omega]
 exact this
theorem bl_all {α : Type} {lt : α → α → Bool} {s : Nat} {l : List α} (h : Bl lt s l) (hl : l.length ≤ s) : Ord lt l := by
 have := bl_head h
 rwa [List.take_of_length_le hl] at this
structure Kp {α : Type} (lt : α → α → Bool) (l l0 : List α) : Prop where
 len : l.length = l0.length
 mem : ∀ x, x ∈ l ↔ x ∈ l0
 keep : ∀ p : α → Bool, (∀ x y, p x = true → p y = true → lt y x = false) → l.filter p = l0.filter p
theorem Kp.refl {α : Type} {lt : α → α → Bool} (l : List α) : Kp lt l l := ⟨rfl, fun _ => Iff.rfl, fun _ _ => rfl⟩
theorem Kp.trans {α : Type} {lt : α → α → Bool} {a b c : List α} (h : Kp lt a b) (k : Kp lt b c) : Kp lt a c := ⟨h.len.trans k.len, fun x => (h.mem x).trans (k.mem x), fun p hp => (h.keep p hp).trans (k.keep p hp)⟩
theorem Kp.app {α : Type} {lt : α → α → Bool} {a b c d : List α} (h : Kp lt a b) (k : Kp lt c d) : Kp lt (a ++ c) (b ++ d) :=
 ⟨by rw [List.length_append, List.length_append, h.len, k.len], fun x => by rw [List.mem_append, List.mem_append, h.mem, k.mem], fun p hp => by rw [List.filter_append, List.filter_append, h.keep p hp, k.keep p hp]⟩
theorem Kp.mg {α : Type} {lt : α → α → Bool} (W : Wk lt) {L R : List α} (oL : Ord lt L) : Kp lt (mgD lt L R) (L ++ R) :=
 ⟨by rw [mgD_len, List.length_append], fun x => by rw [mgD_mem _ (Nat.le_refl _), List.mem_append], fun p hp => by rw [mgD_keep W hp _ (Nat.le_refl _) oL, List.filter_append]⟩
theorem insD_mem {α : Type} {lt : α → α → Bool} : ∀ (B S : List α) (x : α), x ∈ insD lt S B ↔ x ∈ S ∨ x ∈ B
 | [], S, x => by simp [insD]
 | y :: B, S, x => by
  show x ∈ insD lt (mgD lt S [y]) B ↔ _
  rw [insD_mem B, mgD_mem _ (Nat.le_refl _)]
  simp only [List.mem_cons, List.not_mem_nil, or_false, or_assoc]
theorem Kp.ins {α : Type} {lt : α → α → Bool} (W : Wk lt) (B : List α) : Kp lt (insD lt [] B) B :=
 ⟨by rw [insD_len]; simp, fun x => by rw [insD_mem]; simp, fun p hp => by rw [insD_keep W hp (by simp [Ord])]; simp⟩
theorem insD_ord0 {α : Type} {lt : α → α → Bool} (W : Wk lt) (B : List α) : Ord lt (insD lt [] B) := insD_ord W (by simp [Ord])
end Go.Proofs.Ytpnnpdfmoldiiab

namespace Go.Proofs.Ytpnnpdfmoldiiab
set_option maxRecDepth 100000
open Go.Shelf Go.RowKit Go.Lib Go.Sort
structure Ph1 {α : Type} (lt : α → α → Bool) (D : List α) (s k : Nat) (d : Array α) : Prop where
 is : ∃ A C, d.toList = A ++ C ∧ A.length = k * s ∧ Bl lt s A ∧ Kp lt (A ++ C) D
structure Ph2 {α : Type} (lt : α → α → Bool) (D : List α) (s k : Nat) (d : Array α) : Prop where
 is : ∃ A C, d.toList = A ++ C ∧ A.length = k * (2 * s) ∧ Bl lt (2 * s) A ∧ Bl lt s C ∧ Kp lt (A ++ C) D
structure Ph {α : Type} (lt : α → α → Bool) (D : List α) (s : Nat) (d : Array α) : Prop where
 bl : Bl lt s d.toList
 kp : Kp lt d.toList D
theorem Ph1.step {α : Type} [Inhabited α] {lt : α → α → Bool} (W : Wk lt) {D : List α} {s k : Nat} {d : Array α} (h : Ph1 lt D s k d) {b : Nat} (hb : b = k * s + s) (hd : b ≤ d.size) : Ph1 lt D s (k + 1) (insertionSort lt d (k * s) b) := by
 obtain ⟨A, C, h1, h2, h3, h4⟩ := h.is
 have hs : d.size = A.length + C.length := by rw [← Array.length_toList, h1, List.length_append]
 have e : C = C.take s ++ C.drop s := (List.take_append_drop s C).symm
 have hl : (C.take s).length = s := by rw [List.length_take]; omega
 generalize C.take s = B at e hl
 generalize C.drop s = C2 at e
 subst e
 have hi := insSort_list W (a := k * s) (b := b) (A := A) (B := B) (C := C2) (d := d) h1 h2.symm (by rw [hl, h2]; exact hb)
 refine ⟨A ++ insD lt [] B, C2, by rw [hi]; simp, by rw [List.length_append, insD_len, h2, Nat.succ_mul]; simp [hl], bl_snoc h3 h2 (insD_ord0 W B) (by rw [insD_len]; simp [hl]), ?_⟩
 refine Kp.trans ?_ h4
 rw [List.append_assoc]
 exact (Kp.refl A).app ((Kp.ins W B).app (Kp.refl C2))
theorem Ph1.done {α : Type} [Inhabited α] {lt : α → α → Bool} (W : Wk lt) {D : List α} {s k : Nat} {d : Array α} (h : Ph1 lt D s k d) (hd : d.size < k * s + s) : Ph lt D s (insertionSort lt d (k * s) d.size) := by
 obtain ⟨A, C, h1, h2, h3, h4⟩ := h.is
 have hs : d.size = A.length + C.length := by rw [← Array.length_toList, h1, List.length_append]
 have hi := insSort_list W (a := k * s) (b := d.size) (A := A) (B := C) (C := []) (d := d) (by rw [h1]; simp) h2.symm hs
 rw [List.append_nil] at hi
 refine ⟨by rw [hi]; exact bl_snoc h3 h2 (insD_ord0 W C) (by rw [insD_len]; simp; omega), ?_⟩
 rw [hi]
 exact Kp.trans ((Kp.refl A).app (Kp.ins W C)) h4
theorem Ph2.start {α : Type} {lt : α → α → Bool} {D : List α} {s : Nat} {d : Array α} (h : Ph lt D s d) : Ph2 lt D s 0 d := ⟨⟨[], d.toList, rfl, by simp, bl_nil _, h.bl, h.kp⟩⟩
theorem Ph2.none {α : Type} {lt : α → α → Bool} {D : List α} {s k : Nat} {d : Array α} (h : Ph2 lt D s k d) (hd : d.size ≤ k * (2 * s) + s) : Ph lt D (2 * s) d := by
 obtain ⟨A, C, h1, h2, h3, h4, h5⟩ := h.is
 have hs : d.size = A.length + C.length := by rw [← Array.length_toList, h1, List.length_append]
 rw [← h1] at h5
 refine ⟨?_, h5⟩
 rw [h1]
 exact bl_snoc h3 h2 (bl_all h4 (by omega)) (by omega)
theorem Ph2.next {α : Type} {lt : α → α → Bool} (W : Wk lt) {D : List α} {s k : Nat} {d : Array α} (h : Ph2 lt D s k d) {b : Nat} (hb : b = k * (2 * s) + 2 * s) (hd : b ≤ d.size) :
  ∃ X L R Y, d.toList = X ++ (L ++ (R ++ Y)) ∧ X.length = k * (2 * s) ∧ L.length = s ∧ R.length = s ∧ Ord lt L ∧ Ord lt R ∧ ∀ d' : Array α, d'.toList = X ++ (mgD lt L R ++ Y) → Ph2 lt D s (k + 1) d' := by
 obtain ⟨A, C, h1, h2, h3, h4, h5⟩ := h.is
 have hs : d.size = A.length + C.length := by rw [← Array.length_toList, h1, List.length_append]
 have e1 : C = C.take s ++ C.drop s := (List.take_append_drop s C).symm
 have l1 : (C.take s).length = s := by rw [List.length_take]; omega
 have o1 := bl_head h4
 have b1 := bl_tail h4
 have hl : (C.drop s).length = C.length - s := List.length_drop
 generalize C.take s = L at e1 l1 o1
 generalize C.drop s = C1 at e1 b1 hl
 have e2 : C1 = C1.take s ++ C1.drop s := (List.take_append_drop s C1).symm
 have l2 : (C1.take s).length = s := by rw [List.length_take]; omega
 have o2 := bl_head b1
 have b2 := bl_tail b1
 generalize C1.take s = R at e2 l2 o2
 generalize C1.drop s = Y at e2 b2
 subst e2
 subst e1
 refine ⟨A, L, R, Y, h1, h2, l1, l2, o1, o2, fun d' hd' => ⟨A ++ mgD lt L R, Y, by rw [hd']; simp, by rw [List.length_append, mgD_len, h2, Nat.succ_mul k (2 * s)]; omega, bl_snoc h3 h2 (mgD_ord W _ (Nat.le_refl _) o1 o2) (by rw [mgD_len]; omega), b2, ?_⟩⟩
 refine Kp.trans ?_ h5
 have := (Kp.refl A).app (((Kp.mg W (R := R) o1)).app (Kp.refl Y))
 simpa using this
theorem Ph2.last {α : Type} {lt : α → α → Bool} (W : Wk lt) {D : List α} {s k : Nat} {d : Array α} (h : Ph2 lt D s k d) (hd : k * (2 * s) + s < d.size) (hd2 : d.size < k * (2 * s) + 2 * s) :
  ∃ X L R, d.toList = X ++ (L ++ (R ++ [])) ∧ X.length = k * (2 * s) ∧ L.length = s ∧ R.length = d.size - (k * (2 * s) + s) ∧ Ord lt L ∧ Ord lt R ∧ ∀ d' : Array α, d'.toList = X ++ (mgD lt L R ++ []) → Ph lt D (2 * s) d' := by
 obtain ⟨A, C, h1, h2, h3, h4, h5⟩ := h.is
 have hs : d.size = A.length + C.length := by rw [← Array.length_toList, h1, List.length_append]
 have e1 : C = C.take s ++ C.drop s := (List.take_append_drop s C).symm
 have l1 : (C.take s).length = s := by rw [List.length_take]; omega
 have o1 := bl_head h4
 have hl : (C.drop s).length = C.length - s := List.length_drop
 have o2 := bl_all (bl_tail h4) (by rw [hl]; omega)
 generalize C.take s = L at e1 l1 o1
 generalize C.drop s = R at e1 hl o2
 subst e1
 refine ⟨A, L, R, by rw [h1]; simp, h2, l1, by omega, o1, o2, fun d' hd' => ?_⟩
 rw [List.append_nil] at hd'
 refine ⟨?_, ?_⟩
 ·rw [hd']
  exact bl_snoc h3 h2 (mgD_ord W _ (Nat.le_refl _) o1 o2) (by rw [mgD_len]; omega)
 ·rw [hd']
  exact Kp.trans ((Kp.refl A).app (Kp.mg W o1)) h5
theorem wk_swo {α : Type} {lt : α → α → Bool} (h : SWO lt) : Wk lt := by
 refine ⟨fun x y hx => ?_, fun x y z h1 h2 => h.ntrans z y x h2 h1⟩
 cases hy : lt y x
 ·rfl
 ·have := h.trans x y x hx hy
  rw [h.irrefl] at this
  cases this
theorem ins_size {α : Type} [Inhabited α] {lt : α → α → Bool} (h : SWO lt) (d : Array α) (a b : Nat) (hab : a ≤ b) (hb : b ≤ d.size) : (insertionSort lt d a b).size = d.size := (insertionSort_holds h d a b hab hb).1.1
set_option maxHeartbeats 2000000 in
theorem dgstable_any {α : Type} [Inhabited α] (enc : α → List Value) (cf : α → α → Int) (hO : SWO (ltOf cf)) (blk off cap : Nat) (d : Array α) (w : World) (R : RowK enc 10 w blk off d) (hC : CmpLays Try.prog 37 #[] enc 10 cf blk off d.size w) (hsz : d.size < 1152921504606846976) (S0 : SWK enc 10 w blk off d w) :
  Calls Try.prog 64 #[.slice (some ⟨blk, off, none⟩) d.size cap, .int .i64 d.size, .func (.func 37) #[] #[]] w fun e w' => e = .returned (.tuple #[]) ∧ ∃ d' : Array α, Ord (ltOf cf) d'.toList ∧ Kp (ltOf cf) d'.toList d.toList ∧ SWK enc 10 w blk off d' w' := by
 have Wl : Wk (ltOf cf) := wk_swo hO
 have eg : ∀ args w, (callFunc 37 args).run Try.prog w = .ok (.enter 37 args) w := enters_of Try.func37 (by kernel_rfl) rfl
 have HIN : Hid (∀ (a b : Nat) (dk : Array α) (W : World), d.size = dk.size → SWK enc 10 w blk off dk W → a ≤ b → b ≤ dk.size → Calls Try.prog 79 #[.slice (some ⟨blk, off, none⟩) d.size cap, .int .i64 a, .int .i64 b, .func (.func 37) #[] #[]] W fun e w' => e = .returned (.tuple #[]) ∧ SWK enc 10 w blk off (insertionSort (ltOf cf) dk a b) w') := fun a b dk W hs S hab hb => by
  have := AnyQ.insertionSortCmpFunc_w Try.insDg 10 Try.isAgg50 Try.sizeOf50 enc cf 37 #[] blk off cap a b d dk w W eg hC R hs S hO hab hb (by omega)
  rw [← hs] at this
  exact this
 have HSY : Hid (∀ (a m b : Nat) (dk : Array α) (X L Rr Y : List α) (W : World), dk.size = d.size → SWK enc 10 w blk off dk W → a < m → m < b → b ≤ dk.size → dk.toList = X ++ (L ++ (Rr ++ Y)) → X.length = a → L.length = m - a → Rr.length = b - m → Ord (ltOf cf) L → Ord (ltOf cf) Rr →
   Calls Try.prog 80 #[.slice (some ⟨blk, off, none⟩) d.size cap, .int .i64 a, .int .i64 m, .int .i64 b, .func (.func 37) #[] #[]] W fun e w'' => e = .returned (.tuple #[]) ∧ ∃ d'' : Array α, d''.toList = X ++ (mgD (ltOf cf) L Rr ++ Y) ∧ SWK enc 10 w blk off d'' w'') := fun a m b dk X L Rr Y W hs S h1 h2 h3 h4 h5 h6 h7 h8 h9 => by
  have := dgsym_any enc cf Wl blk off cap d w R hC (by omega) (b - a + 1) a m b dk X L Rr Y W (by omega) hs S h1 h2 h3 h4 h5 h6 h7 h8 h9
  rw [hs] at this
  exact this
 have SW0 : Hid _ := S0
 clear S0 hC R eg
 go_enter Try.func64, Try.ntmps64
 go_wp2_with fail
 go_loopw [7, 8] (fun y z wr => ∃ (k : Nat) (dk : Array α), y = .int .i64 ((k * 20 : Nat) : Int) ∧ z = .int .i64 ((k * 20 + 20 : Nat) : Int) ∧ k * 20 ≤ d.size ∧ dk.size = d.size ∧ Hid (Ph1 (ltOf cf) d.toList 20 k dk) ∧ Hid (SWK enc 10 w blk off dk wr)) (fun y _ _ => ((d.size : Int) - intOf y).toNat)
 case atStart => exact ⟨0, d, rfl, rfl, by omega, rfl, ⟨⟨[], d.toList, rfl, rfl, bl_nil _, Kp.refl _⟩⟩, SW0⟩
 case round =>
  clear SW0
  obtain ⟨k, dk, rfl, rfl, hkd, hz, HP, SW⟩ := hrel
  obtain ⟨a, ha⟩ : ∃ a, a = k * 20 := ⟨_, rfl⟩
  obtain ⟨b, hb⟩ : ∃ b, b = k * 20 + 20 := ⟨_, rfl⟩
  rw [← hb, ← ha]
  have hab : b = a + 20 := by omega
  by_cases hbn : b ≤ d.size
  ·have g1 : decide ((b : Int) ≤ (d.size : Int)) = true := decide_eq_true (by omega)
   have HC : Hid _ := HIN.out a b dk wr hz.symm SW.out (by omega) (by omega)
   have HN : Hid (Ph1 (ltOf cf) d.toList 20 (k + 1) (insertionSort (ltOf cf) dk a b)) := by
    show Ph1 _ _ _ _ _
    rw [ha]
    exact HP.out.step Wl hb (by omega)
   have HZ : Hid ((insertionSort (ltOf cf) dk a b).size = d.size) := by show _ = _; rw [ins_size hO dk a b (by omega) (by omega), hz]
   have HAB : Hid (a = k * 20 ∧ b = k * 20 + 20) := ⟨ha, hb⟩
   obtain ⟨b2, hb2⟩ : ∃ b2, b2 = b + 20 := ⟨_, rfl⟩
   have eb : (b : Int) + 20 = (b2 : Int) := by omega
   have HB2 : Hid (b2 = b + 20) := hb2
   clear hb2
   clear ha hb HP SW hz hkd hab
   go_wp2_with fail
   refine Calls.mono HC.out ?_
   rintro e w1 ⟨rfl, S1⟩
   have SW1 : Hid _ := S1
   clear S1
   go_wp2_with fail
   go_roundw
   case rel =>
    have h1 := HAB.out
    have h2 : b2 = b + 20 := HB2.out
    exact ⟨k + 1, _, by rw [show (k + 1) * 20 = b by omega], by rw [show (k + 1) * 20 + 20 = b2 by omega], by omega, HZ.out, HN, SW1⟩
   case measure => have := HAB.out; simp [intOf]; omega
  ·have g1 : decide ((b : Int) ≤ (d.size : Int)) = false := decide_eq_false (by omega)
   have HC : Hid _ := HIN.out a dk.size dk wr hz.symm SW.out (by omega) (Nat.le_refl _)
   have HN : Hid (Ph (ltOf cf) d.toList 20 (insertionSort (ltOf cf) dk a dk.size)) := by
    show Ph _ _ _ _
    rw [ha]
    exact HP.out.done Wl (by omega)
   have HZ : Hid ((insertionSort (ltOf cf) dk a dk.size).size = d.size) := by show _ = _; rw [ins_size hO dk a dk.size (by omega) (Nat.le_refl _), hz]
   rw [hz] at HC HN HZ
   clear ha hb HP SW hz hkd hab
   go_wp2_with fail
   refine Calls.mono HC.out ?_
   rintro e w1 ⟨rfl, S1⟩
   have SW1 : Hid _ := S1
   clear S1 HC
   generalize insertionSort (ltOf cf) dk a d.size = d1 at HN HZ SW1
   go_wp2_with fail
   go_loopw [6] (fun y wr => ∃ (s : Nat) (dk : Array α), y = .int .i64 (s : Int) ∧ 0 < s ∧ s ≤ 2 * d.size + 20 ∧ dk.size = d.size ∧ Hid (Ph (ltOf cf) d.toList s dk) ∧ Hid (SWK enc 10 w blk off dk wr)) (fun y _ => ((d.size : Int) - intOf y).toNat)
   case atStart => exact ⟨20, d1, rfl, by omega, by omega, HZ.out, HN, SW1⟩
   case round =>
    clear HZ HN SW1
    obtain ⟨s, dk, rfl, hs0, hs1, hz, HP, SW⟩ := hrel
    by_cases hsn : s < d.size
    ·have g2 : decide ((s : Int) < (d.size : Int)) = true := decide_eq_true (by omega)
     obtain ⟨s2, hs2⟩ : ∃ s2, s2 = 2 * s := ⟨_, rfl⟩
     have es2 : (2 : Int) * (s : Int) = (s2 : Int) := by omega
     have es3 : (s : Int) * 2 = (s2 : Int) := by omega
     have HS2 : Hid (s2 = 2 * s) := hs2
     have hs2b : s2 ≤ 4 * d.size + 40 := by omega
     have hs2c : s < s2 := by omega
     have HP2 : Hid (Ph2 (ltOf cf) d.toList s 0 dk) := Ph2.start HP.out
     clear hs2 HP
     go_wp2_with fail
     go_loopw [7, 8] (fun y z wr => ∃ (k a b : Nat) (dn : Array α), y = .int .i64 (a : Int) ∧ z = .int .i64 (b : Int) ∧ a ≤ d.size ∧ Hid (b = a + s2) ∧ Hid (a = k * (2 * s)) ∧ dn.size = d.size ∧ Hid (Ph2 (ltOf cf) d.toList s k dn) ∧ Hid (SWK enc 10 w blk off dn wr)) (fun y _ _ => ((d.size : Int) - intOf y).toNat)
     case atStart => exact ⟨0, 0, s2, dk, rfl, rfl, by omega, by show s2 = 0 + s2; omega, by show 0 = 0 * (2 * s); omega, hz, HP2, SW⟩
     case round =>
      clear HP2 SW hz
      obtain ⟨k, a, b, dn, rfl, rfl, had, HBS, HAK, hz, HP, SW⟩ := hrel
      have hbs1 : b ≤ a + s2 := Nat.le_of_eq HBS.out
      have hbs2 : a + s2 ≤ b := Nat.le_of_eq HBS.out.symm
      by_cases hbn : b ≤ d.size
      ·have g3 : decide ((b : Int) ≤ (d.size : Int)) = true := decide_eq_true (by omega)
       obtain ⟨m, hm⟩ : ∃ m, m = a + s := ⟨_, rfl⟩
       have em : (a : Int) + (s : Int) = (m : Int) := by omega
       obtain ⟨b2, hb2⟩ : ∃ b2, b2 = b + s2 := ⟨_, rfl⟩
       have eb2 : (b : Int) + (s2 : Int) = (b2 : Int) := by omega
       obtain ⟨X, L, Rr, Y, q1, q2, q3, q4, q5, q6, q7⟩ := HP.out.next Wl (b := b) (by have h1 : s2 = 2 * s := HS2.out; have h2 : a = k * (2 * s) := HAK.out; omega) (by omega)
       have HC : Hid _ := HSY.out a m b dn X L Rr Y wr hz SW.out (by omega) (by have h1 : s2 = 2 * s := HS2.out; omega) (by omega) q1 (by rw [q2]; exact HAK.out.symm) (by omega) (by have h1 : s2 = 2 * s := HS2.out; omega) q5 q6
       have HQ7 : Hid _ := q7
       have HLS : Hid (∀ d' : Array α, d'.toList = X ++ (mgD (ltOf cf) L Rr ++ Y) → d'.size = d.size) := fun d' h => by
        have h1 : d'.toList.length = dn.toList.length := by rw [h, q1]; simp [mgD_len]; omega
        simpa [hz] using h1
       have HMB : Hid (m = a + s ∧ b2 = b + s2) := ⟨hm, hb2⟩
       have hb2b : b2 ≤ 5 * d.size + 40 := by omega
       clear q1 q2 q3 q4 q5 q6 q7 HP SW hm hb2 hz
       go_wp2_with fail
       refine Calls.mono HC.out ?_
       rintro e w1 ⟨rfl, d2, hd2, S1⟩
       have SW1 : Hid _ := S1
       have HN : Hid _ := HQ7.out d2 hd2
       have HZ : Hid _ := HLS.out d2 hd2
       clear S1 hd2
       go_wp2_with fail
       go_roundw
       case rel =>
        have h1 := HMB.out
        have h2 : a = k * (2 * s) := HAK.out
        have h3 : s2 = 2 * s := HS2.out
        exact ⟨k + 1, b, b2, d2, rfl, rfl, by omega, by show b2 = b + s2; omega, by show b = (k + 1) * (2 * s); rw [Nat.succ_mul k (2 * s)]; omega, HZ.out, HN, SW1⟩
       case measure => simp [intOf]; omega
      ·have g3 : decide ((b : Int) ≤ (d.size : Int)) = false := decide_eq_false (by omega)
       obtain ⟨m, hm⟩ : ∃ m, m = a + s := ⟨_, rfl⟩
       have em : (a : Int) + (s : Int) = (m : Int) := by omega
       by_cases hmn : m < d.size
       ·have g4 : decide ((m : Int) < (d.size : Int)) = true := decide_eq_true (by omega)
        obtain ⟨X, L, Rr, q1, q2, q3, q4, q5, q6, q7⟩ := HP.out.last Wl (by have h2 : a = k * (2 * s) := HAK.out; omega) (by have h1 : s2 = 2 * s := HS2.out; have h2 : a = k * (2 * s) := HAK.out; omega)
        have HC : Hid _ := HSY.out a m dn.size dn X L Rr [] wr hz SW.out (by omega) (by omega) (Nat.le_refl _) q1 (by rw [q2]; exact HAK.out.symm) (by omega) (by have h2 : a = k * (2 * s) := HAK.out; rw [q4, ← h2, hm]) q5 q6
        rw [hz] at HC
        have HQ7 : Hid _ := q7
        have HLS : Hid (∀ d' : Array α, d'.toList = X ++ (mgD (ltOf cf) L Rr ++ []) → d'.size = d.size) := fun d' h => by
         have h1 : d'.toList.length = dn.toList.length := by rw [h, q1]; simp [mgD_len]
         simpa [hz] using h1
        have hmb : m ≤ 4 * d.size + 40 := by omega
        clear q1 q2 q3 q4 q5 q6 q7 HP SW hm hz
        go_wp2_with fail
        refine Calls.mono HC.out ?_
        rintro e w1 ⟨rfl, d2, hd2, S1⟩
        have SW1 : Hid _ := S1
        have HN : Hid (Ph (ltOf cf) d.toList s2 d2) := by show Ph _ _ _ _; rw [HS2.out]; exact HQ7.out d2 hd2
        have HZ : Hid _ := HLS.out d2 hd2
        clear S1 hd2
        go_wp2_with fail
        go_roundw
        case rel => exact ⟨s2, d2, rfl, by omega, by have h1 : s2 = 2 * s := HS2.out; omega, HZ.out, HN, SW1⟩
        case measure => simp [intOf]; omega
       ·have g4 : decide ((m : Int) < (d.size : Int)) = false := decide_eq_false (by omega)
        have HN : Hid (Ph (ltOf cf) d.toList s2 dn) := by show Ph _ _ _ _; rw [HS2.out]; exact HP.out.none (by have h2 : a = k * (2 * s) := HAK.out; omega)
        have hmb : m ≤ 4 * d.size + 40 := by omega
        clear HP hm
        go_wp2_with fail
        go_roundw
        case rel => exact ⟨s2, dn, rfl, by omega, by have h1 : s2 = 2 * s := HS2.out; omega, hz, HN, SW⟩
        case measure => simp [intOf]; omega
    ·have g2 : decide ((s : Int) < (d.size : Int)) = false := decide_eq_false (by omega)
     have HFO : Hid (Ord (ltOf cf) dk.toList) := bl_all HP.out.bl (by rw [Array.length_toList]; omega)
     go_wp2_with fail
     go_end0
     exact ⟨rfl, dk, HFO.out, HP.out.kp, SW.out⟩
end Go.Proofs.Ytpnnpdfmoldiiab
