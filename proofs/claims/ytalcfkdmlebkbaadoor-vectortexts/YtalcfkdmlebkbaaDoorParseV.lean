/- Parse: whatever the text. -/
import Derived.Test.YtalcfkdmlebkbaaDoorCounts
namespace Go.Proofs.YtalcfkdmlebkbaaDoor
open Go.RowKit

/-- What Parse answers. -/
structure Told (l : List UInt8) (g : Nat → Int) (ok : Bool) : Prop where
  is : (ok = true ∧ mayB g = true ∧ l = textV g) ∨ (ok = false ∧ (∀ j, g j = 0) ∧ ∀ f, mayB f = true → l ≠ textV f)
theorem Told.eq {l : List UInt8} {g h : Nat → Int} {a b : Bool} (x : Told l g a) (y : Told l h b) : a = b ∧ ∀ j, j < 8 → g j = h j := by
  rcases x.is with ⟨rfl, m1, e1⟩ | ⟨rfl, z1, n1⟩ <;> rcases y.is with ⟨rfl, m2, e2⟩ | ⟨rfl, z2, n2⟩
  · exact ⟨rfl, textV_inj' (e1.symm.trans e2)⟩
  · exact absurd e1 (n2 _ m1)
  · exact absurd e2 (n1 _ m2)
  · exact ⟨rfl, fun j _ => by rw [z1, z2]⟩
set_option maxRecDepth 100000 in
set_option maxHeartbeats 400000 in
theorem parse_any (l : List UInt8) (hl : l.length ≤ 140737488351232) (w : World) (ht : Tab w) (he : Errs w) :
    Calls Tryd.prog 34 #[.string ⟨l.toArray⟩] w fun e w' => Off (fun _ => False) w w' ∧ ∃ (g : Nat → Int) (ok : Bool), e = .returned (.tuple #[.agg #[.int .i64 (g 0), .int .i64 (g 1), .int .i64 (g 2), .int .i64 (g 3), .int .i64 (g 4), .int .i64 (g 5), .int .i64 (g 6), .int .i64 (g 7)], .bool ok]) ∧ Told l g ok := by
  have hnot := not_any
  have HT : Hid (∀ w', Off (fun _ => False) w w' → Tab w') := fun w' h => ht.off h (fun _ _ h => h)
  have he1 := he.off ((Off.refl (fun _ => False) w).alloc (.cells #[.int .i64 (zer 0), .int .i64 (zer 1), .int .i64 (zer 2), .int .i64 (zer 3), .int .i64 (zer 4), .int .i64 (zer 5), .int .i64 (zer 6), .int .i64 (zer 7)] 23)) (fun _ _ h => h)
  clear ht he
  go_enter Tryd.func34, Tryd.ntmps34
  go_wp2_with fail
  refine (counts_any l hl _ he1).mono ?_
  rintro e w1 ⟨o1, g, ok, rfl, gr, gf⟩
  have HGR : Hid _ := gr
  have HGF : Hid _ := gf
  have Z1 : Cel w.heap.size 23 #[.int .i64 (zer 0), .int .i64 (zer 1), .int .i64 (zer 2), .int .i64 (zer 3), .int .i64 (zer 4), .int .i64 (zer 5), .int .i64 (zer 6), .int .i64 (zer 7)] w1 := (Cel.new w _ _).off o1 (fun h => h)
  have O1 : Off (fun _ => False) w w1 := ((Off.refl _ w).alloc _).trans o1 (fun _ _ h => h)
  have V1 := Cel.new w1 23 #[.int .i64 (g 0), .int .i64 (g 1), .int .i64 (g 2), .int .i64 (g 3), .int .i64 (g 4), .int .i64 (g 5), .int .i64 (g 6), .int .i64 (g 7)]
  have hz1 := Z1.lt
  clear gr gf o1 he1
  cases ok with
  | false =>
    have k0 : Cel w.heap.size 23 #[.int .i64 0, .int .i64 0, .int .i64 0, .int .i64 0, .int .i64 0, .int .i64 0, .int .i64 0, .int .i64 0] w1 := Z1
    have e0 : (w1.alloc (.cells #[.int .i64 (g 0), .int .i64 (g 1), .int .i64 (g 2), .int .i64 (g 3), .int .i64 (g 4), .int .i64 (g 5), .int .i64 (g 6), .int .i64 (g 7)] 23)).cell? ⟨w.heap.size, 0, none⟩ = some (.int .i64 0) := (k0.alloc _).cell 0
    have f0 : (w1.alloc (.cells #[.int .i64 (g 0), .int .i64 (g 1), .int .i64 (g 2), .int .i64 (g 3), .int .i64 (g 4), .int .i64 (g 5), .int .i64 (g 6), .int .i64 (g 7)] 23)).frozen? ⟨w.heap.size, 0, none⟩ = false := (k0.alloc _).free 0
    have k1 : Cel w.heap.size 23 #[.int .i64 0, .int .i64 0, .int .i64 0, .int .i64 0, .int .i64 0, .int .i64 0, .int .i64 0, .int .i64 0] (w1.setCell ⟨w.heap.size, 0, none⟩ (.int .i64 0)) := by
      have := k0.set 0 (.int .i64 0)
      simpa only [List.setIfInBounds_toArray, List.set_cons_zero, List.set_cons_succ] using this
    have e1 : ((w1.setCell ⟨w.heap.size, 0, none⟩ (.int .i64 0)).alloc (.cells #[.int .i64 (g 0), .int .i64 (g 1), .int .i64 (g 2), .int .i64 (g 3), .int .i64 (g 4), .int .i64 (g 5), .int .i64 (g 6), .int .i64 (g 7)] 23)).cell? ⟨w.heap.size, 1, none⟩ = some (.int .i64 0) := (k1.alloc _).cell 1
    have f1 : ((w1.setCell ⟨w.heap.size, 0, none⟩ (.int .i64 0)).alloc (.cells #[.int .i64 (g 0), .int .i64 (g 1), .int .i64 (g 2), .int .i64 (g 3), .int .i64 (g 4), .int .i64 (g 5), .int .i64 (g 6), .int .i64 (g 7)] 23)).frozen? ⟨w.heap.size, 1, none⟩ = false := (k1.alloc _).free 1
    have k2 : Cel w.heap.size 23 #[.int .i64 0, .int .i64 0, .int .i64 0, .int .i64 0, .int .i64 0, .int .i64 0, .int .i64 0, .int .i64 0] ((w1.setCell ⟨w.heap.size, 0, none⟩ (.int .i64 0)).setCell ⟨w.heap.size, 1, none⟩ (.int .i64 0)) := by
      have := k1.set 1 (.int .i64 0)
      simpa only [List.setIfInBounds_toArray, List.set_cons_zero, List.set_cons_succ] using this
    have e2 : (((w1.setCell ⟨w.heap.size, 0, none⟩ (.int .i64 0)).setCell ⟨w.heap.size, 1, none⟩ (.int .i64 0)).alloc (.cells #[.int .i64 (g 0), .int .i64 (g 1), .int .i64 (g 2), .int .i64 (g 3), .int .i64 (g 4), .int .i64 (g 5), .int .i64 (g 6), .int .i64 (g 7)] 23)).cell? ⟨w.heap.size, 2, none⟩ = some (.int .i64 0) := (k2.alloc _).cell 2
    have f2 : (((w1.setCell ⟨w.heap.size, 0, none⟩ (.int .i64 0)).setCell ⟨w.heap.size, 1, none⟩ (.int .i64 0)).alloc (.cells #[.int .i64 (g 0), .int .i64 (g 1), .int .i64 (g 2), .int .i64 (g 3), .int .i64 (g 4), .int .i64 (g 5), .int .i64 (g 6), .int .i64 (g 7)] 23)).frozen? ⟨w.heap.size, 2, none⟩ = false := (k2.alloc _).free 2
    have k3 : Cel w.heap.size 23 #[.int .i64 0, .int .i64 0, .int .i64 0, .int .i64 0, .int .i64 0, .int .i64 0, .int .i64 0, .int .i64 0] (((w1.setCell ⟨w.heap.size, 0, none⟩ (.int .i64 0)).setCell ⟨w.heap.size, 1, none⟩ (.int .i64 0)).setCell ⟨w.heap.size, 2, none⟩ (.int .i64 0)) := by
      have := k2.set 2 (.int .i64 0)
      simpa only [List.setIfInBounds_toArray, List.set_cons_zero, List.set_cons_succ] using this
    have e3 : ((((w1.setCell ⟨w.heap.size, 0, none⟩ (.int .i64 0)).setCell ⟨w.heap.size, 1, none⟩ (.int .i64 0)).setCell ⟨w.heap.size, 2, none⟩ (.int .i64 0)).alloc (.cells #[.int .i64 (g 0), .int .i64 (g 1), .int .i64 (g 2), .int .i64 (g 3), .int .i64 (g 4), .int .i64 (g 5), .int .i64 (g 6), .int .i64 (g 7)] 23)).cell? ⟨w.heap.size, 3, none⟩ = some (.int .i64 0) := (k3.alloc _).cell 3
    have f3 : ((((w1.setCell ⟨w.heap.size, 0, none⟩ (.int .i64 0)).setCell ⟨w.heap.size, 1, none⟩ (.int .i64 0)).setCell ⟨w.heap.size, 2, none⟩ (.int .i64 0)).alloc (.cells #[.int .i64 (g 0), .int .i64 (g 1), .int .i64 (g 2), .int .i64 (g 3), .int .i64 (g 4), .int .i64 (g 5), .int .i64 (g 6), .int .i64 (g 7)] 23)).frozen? ⟨w.heap.size, 3, none⟩ = false := (k3.alloc _).free 3
    have k4 : Cel w.heap.size 23 #[.int .i64 0, .int .i64 0, .int .i64 0, .int .i64 0, .int .i64 0, .int .i64 0, .int .i64 0, .int .i64 0] ((((w1.setCell ⟨w.heap.size, 0, none⟩ (.int .i64 0)).setCell ⟨w.heap.size, 1, none⟩ (.int .i64 0)).setCell ⟨w.heap.size, 2, none⟩ (.int .i64 0)).setCell ⟨w.heap.size, 3, none⟩ (.int .i64 0)) := by
      have := k3.set 3 (.int .i64 0)
      simpa only [List.setIfInBounds_toArray, List.set_cons_zero, List.set_cons_succ] using this
    have e4 : (((((w1.setCell ⟨w.heap.size, 0, none⟩ (.int .i64 0)).setCell ⟨w.heap.size, 1, none⟩ (.int .i64 0)).setCell ⟨w.heap.size, 2, none⟩ (.int .i64 0)).setCell ⟨w.heap.size, 3, none⟩ (.int .i64 0)).alloc (.cells #[.int .i64 (g 0), .int .i64 (g 1), .int .i64 (g 2), .int .i64 (g 3), .int .i64 (g 4), .int .i64 (g 5), .int .i64 (g 6), .int .i64 (g 7)] 23)).cell? ⟨w.heap.size, 4, none⟩ = some (.int .i64 0) := (k4.alloc _).cell 4
    have f4 : (((((w1.setCell ⟨w.heap.size, 0, none⟩ (.int .i64 0)).setCell ⟨w.heap.size, 1, none⟩ (.int .i64 0)).setCell ⟨w.heap.size, 2, none⟩ (.int .i64 0)).setCell ⟨w.heap.size, 3, none⟩ (.int .i64 0)).alloc (.cells #[.int .i64 (g 0), .int .i64 (g 1), .int .i64 (g 2), .int .i64 (g 3), .int .i64 (g 4), .int .i64 (g 5), .int .i64 (g 6), .int .i64 (g 7)] 23)).frozen? ⟨w.heap.size, 4, none⟩ = false := (k4.alloc _).free 4
    have k5 : Cel w.heap.size 23 #[.int .i64 0, .int .i64 0, .int .i64 0, .int .i64 0, .int .i64 0, .int .i64 0, .int .i64 0, .int .i64 0] (((((w1.setCell ⟨w.heap.size, 0, none⟩ (.int .i64 0)).setCell ⟨w.heap.size, 1, none⟩ (.int .i64 0)).setCell ⟨w.heap.size, 2, none⟩ (.int .i64 0)).setCell ⟨w.heap.size, 3, none⟩ (.int .i64 0)).setCell ⟨w.heap.size, 4, none⟩ (.int .i64 0)) := by
      have := k4.set 4 (.int .i64 0)
      simpa only [List.setIfInBounds_toArray, List.set_cons_zero, List.set_cons_succ] using this
    have e5 : ((((((w1.setCell ⟨w.heap.size, 0, none⟩ (.int .i64 0)).setCell ⟨w.heap.size, 1, none⟩ (.int .i64 0)).setCell ⟨w.heap.size, 2, none⟩ (.int .i64 0)).setCell ⟨w.heap.size, 3, none⟩ (.int .i64 0)).setCell ⟨w.heap.size, 4, none⟩ (.int .i64 0)).alloc (.cells #[.int .i64 (g 0), .int .i64 (g 1), .int .i64 (g 2), .int .i64 (g 3), .int .i64 (g 4), .int .i64 (g 5), .int .i64 (g 6), .int .i64 (g 7)] 23)).cell? ⟨w.heap.size, 5, none⟩ = some (.int .i64 0) := (k5.alloc _).cell 5
    have f5 : ((((((w1.setCell ⟨w.heap.size, 0, none⟩ (.int .i64 0)).setCell ⟨w.heap.size, 1, none⟩ (.int .i64 0)).setCell ⟨w.heap.size, 2, none⟩ (.int .i64 0)).setCell ⟨w.heap.size, 3, none⟩ (.int .i64 0)).setCell ⟨w.heap.size, 4, none⟩ (.int .i64 0)).alloc (.cells #[.int .i64 (g 0), .int .i64 (g 1), .int .i64 (g 2), .int .i64 (g 3), .int .i64 (g 4), .int .i64 (g 5), .int .i64 (g 6), .int .i64 (g 7)] 23)).frozen? ⟨w.heap.size, 5, none⟩ = false := (k5.alloc _).free 5
    have k6 : Cel w.heap.size 23 #[.int .i64 0, .int .i64 0, .int .i64 0, .int .i64 0, .int .i64 0, .int .i64 0, .int .i64 0, .int .i64 0] ((((((w1.setCell ⟨w.heap.size, 0, none⟩ (.int .i64 0)).setCell ⟨w.heap.size, 1, none⟩ (.int .i64 0)).setCell ⟨w.heap.size, 2, none⟩ (.int .i64 0)).setCell ⟨w.heap.size, 3, none⟩ (.int .i64 0)).setCell ⟨w.heap.size, 4, none⟩ (.int .i64 0)).setCell ⟨w.heap.size, 5, none⟩ (.int .i64 0)) := by
      have := k5.set 5 (.int .i64 0)
      simpa only [List.setIfInBounds_toArray, List.set_cons_zero, List.set_cons_succ] using this
    have e6 : (((((((w1.setCell ⟨w.heap.size, 0, none⟩ (.int .i64 0)).setCell ⟨w.heap.size, 1, none⟩ (.int .i64 0)).setCell ⟨w.heap.size, 2, none⟩ (.int .i64 0)).setCell ⟨w.heap.size, 3, none⟩ (.int .i64 0)).setCell ⟨w.heap.size, 4, none⟩ (.int .i64 0)).setCell ⟨w.heap.size, 5, none⟩ (.int .i64 0)).alloc (.cells #[.int .i64 (g 0), .int .i64 (g 1), .int .i64 (g 2), .int .i64 (g 3), .int .i64 (g 4), .int .i64 (g 5), .int .i64 (g 6), .int .i64 (g 7)] 23)).cell? ⟨w.heap.size, 6, none⟩ = some (.int .i64 0) := (k6.alloc _).cell 6
    have f6 : (((((((w1.setCell ⟨w.heap.size, 0, none⟩ (.int .i64 0)).setCell ⟨w.heap.size, 1, none⟩ (.int .i64 0)).setCell ⟨w.heap.size, 2, none⟩ (.int .i64 0)).setCell ⟨w.heap.size, 3, none⟩ (.int .i64 0)).setCell ⟨w.heap.size, 4, none⟩ (.int .i64 0)).setCell ⟨w.heap.size, 5, none⟩ (.int .i64 0)).alloc (.cells #[.int .i64 (g 0), .int .i64 (g 1), .int .i64 (g 2), .int .i64 (g 3), .int .i64 (g 4), .int .i64 (g 5), .int .i64 (g 6), .int .i64 (g 7)] 23)).frozen? ⟨w.heap.size, 6, none⟩ = false := (k6.alloc _).free 6
    have k7 : Cel w.heap.size 23 #[.int .i64 0, .int .i64 0, .int .i64 0, .int .i64 0, .int .i64 0, .int .i64 0, .int .i64 0, .int .i64 0] (((((((w1.setCell ⟨w.heap.size, 0, none⟩ (.int .i64 0)).setCell ⟨w.heap.size, 1, none⟩ (.int .i64 0)).setCell ⟨w.heap.size, 2, none⟩ (.int .i64 0)).setCell ⟨w.heap.size, 3, none⟩ (.int .i64 0)).setCell ⟨w.heap.size, 4, none⟩ (.int .i64 0)).setCell ⟨w.heap.size, 5, none⟩ (.int .i64 0)).setCell ⟨w.heap.size, 6, none⟩ (.int .i64 0)) := by
      have := k6.set 6 (.int .i64 0)
      simpa only [List.setIfInBounds_toArray, List.set_cons_zero, List.set_cons_succ] using this
    have e7 : ((((((((w1.setCell ⟨w.heap.size, 0, none⟩ (.int .i64 0)).setCell ⟨w.heap.size, 1, none⟩ (.int .i64 0)).setCell ⟨w.heap.size, 2, none⟩ (.int .i64 0)).setCell ⟨w.heap.size, 3, none⟩ (.int .i64 0)).setCell ⟨w.heap.size, 4, none⟩ (.int .i64 0)).setCell ⟨w.heap.size, 5, none⟩ (.int .i64 0)).setCell ⟨w.heap.size, 6, none⟩ (.int .i64 0)).alloc (.cells #[.int .i64 (g 0), .int .i64 (g 1), .int .i64 (g 2), .int .i64 (g 3), .int .i64 (g 4), .int .i64 (g 5), .int .i64 (g 6), .int .i64 (g 7)] 23)).cell? ⟨w.heap.size, 7, none⟩ = some (.int .i64 0) := (k7.alloc _).cell 7
    have f7 : ((((((((w1.setCell ⟨w.heap.size, 0, none⟩ (.int .i64 0)).setCell ⟨w.heap.size, 1, none⟩ (.int .i64 0)).setCell ⟨w.heap.size, 2, none⟩ (.int .i64 0)).setCell ⟨w.heap.size, 3, none⟩ (.int .i64 0)).setCell ⟨w.heap.size, 4, none⟩ (.int .i64 0)).setCell ⟨w.heap.size, 5, none⟩ (.int .i64 0)).setCell ⟨w.heap.size, 6, none⟩ (.int .i64 0)).alloc (.cells #[.int .i64 (g 0), .int .i64 (g 1), .int .i64 (g 2), .int .i64 (g 3), .int .i64 (g 4), .int .i64 (g 5), .int .i64 (g 6), .int .i64 (g 7)] 23)).frozen? ⟨w.heap.size, 7, none⟩ = false := (k7.alloc _).free 7
    have k8 : Cel w.heap.size 23 #[.int .i64 0, .int .i64 0, .int .i64 0, .int .i64 0, .int .i64 0, .int .i64 0, .int .i64 0, .int .i64 0] ((((((((w1.setCell ⟨w.heap.size, 0, none⟩ (.int .i64 0)).setCell ⟨w.heap.size, 1, none⟩ (.int .i64 0)).setCell ⟨w.heap.size, 2, none⟩ (.int .i64 0)).setCell ⟨w.heap.size, 3, none⟩ (.int .i64 0)).setCell ⟨w.heap.size, 4, none⟩ (.int .i64 0)).setCell ⟨w.heap.size, 5, none⟩ (.int .i64 0)).setCell ⟨w.heap.size, 6, none⟩ (.int .i64 0)).setCell ⟨w.heap.size, 7, none⟩ (.int .i64 0)) := by
      have := k7.set 7 (.int .i64 0)
      simpa only [List.setIfInBounds_toArray, List.set_cons_zero, List.set_cons_succ] using this
    have K8 : Hid _ := k8
    clear k0 k1 k2 k3 k4 k5 k6 k7 k8
    clear Z1 V1
    go_wp2_with fail
    refine bodyPost_ret (results_vecb (f := zer) rfl rfl rfl (K8.out.alloc _)) rfl ?_
    refine ⟨(O1.st8 (.inr (by omega)) zer).alloc _, zer, false, rfl, ⟨.inr ⟨rfl, fun j => rfl, fun f hf e => ?_⟩⟩⟩
    have := (HGF.out f hf e).1
    cases this
  | true =>
    have Z2 := Z1.alloc (.cells #[.int .i64 (g 0), .int .i64 (g 1), .int .i64 (g 2), .int .i64 (g 3), .int .i64 (g 4), .int .i64 (g 5), .int .i64 (g 6), .int .i64 (g 7)] 23)
    have O2 : Off (fun _ => False) w (w1.alloc (.cells #[.int .i64 (g 0), .int .i64 (g 1), .int .i64 (g 2), .int .i64 (g 3), .int .i64 (g 4), .int .i64 (g 5), .int .i64 (g 6), .int .i64 (g 7)] 23)) := O1.alloc _
    obtain ⟨c0, c1, c2, c3, c4, c5, c6, c7⟩ := cel8 V1
    go_wp2_with fail
    clear c0 c1 c2 c3 c4 c5 c6 c7
    refine (may_any g _).mono ?_
    rintro e w3 ⟨rfl, o3⟩
    have V3 := V1.off o3 (fun h => h)
    have Z3 := Z2.off o3 (fun h => h)
    have O3 := O2.trans o3 (fun _ _ h => h)
    clear o3 Z1 V1 Z2 O2 O1
    generalize w1.heap.size = q4 at V3 ⊢
    by_cases hm : mayB g = true
    · rw [hm]
      have HM : Hid _ := hm
      clear hm
      obtain ⟨c0, c1, c2, c3, c4, c5, c6, c7⟩ := cel8 V3
      go_wp2_with fail
      clear c0 c1 c2 c3 c4 c5 c6 c7
      refine (text_any g HGR.out _ (HT.out _ O3)).mono ?_
      rintro e w4 ⟨rfl, o4⟩
      have V4 := V3.off o4 (fun h => h)
      have Z4 := Z3.off o4 (fun h => h)
      have O4 := O3.trans o4 (fun _ _ h => h)
      clear o4 V3 Z3 O3
      obtain ⟨c0, c1, c2, c3, c4, c5, c6, c7⟩ := cel8 V4
      obtain ⟨d0, d1, d2, d3, d4, d5, d6, d7⟩ := cel8 Z4
      have fr := Z4.free
      have HZ : Hid _ := Z4
      clear V4 Z4
      by_cases ht : textV g = l
      · have e0 : (textV g == l) = true := by simp [ht]
        have HTX : Hid _ := ht
        clear ht
        go_wp2_with fail
        refine bodyPost_ret (results_vecb rfl rfl rfl (HZ.out.st8 g)) rfl ?_
        exact ⟨O4.st8 (.inr (by omega)) g, g, true, rfl, ⟨.inl ⟨rfl, HM.out, HTX.out.symm⟩⟩⟩
      · have e0 : (textV g == l) = false := by simp [ht]
        have HTX : Hid _ := ht
        clear ht
        go_wp2_with fail
        refine bodyPost_ret (results_vecb rfl rfl rfl (HZ.out.st8 zer)) rfl ?_
        refine ⟨O4.st8 (.inr (by omega)) zer, zer, false, rfl, ⟨.inr ⟨rfl, fun j => rfl, fun f hf e => ?_⟩⟩⟩
        have := textV_congr (HGF.out f hf e).2
        exact HTX.out (this.trans e.symm)
    · have hm : mayB g = false := by simpa using hm
      rw [hm]
      have HM : Hid _ := hm
      clear hm
      obtain ⟨d0, d1, d2, d3, d4, d5, d6, d7⟩ := cel8 Z3
      have fr := Z3.free
      have HZ : Hid _ := Z3
      clear V3 Z3
      go_wp2_with fail
      refine bodyPost_ret (results_vecb rfl rfl rfl (HZ.out.st8 zer)) rfl ?_
      refine ⟨O3.st8 (.inr (by omega)) zer, zer, false, rfl, ⟨.inr ⟨rfl, fun j => rfl, fun f hf e => ?_⟩⟩⟩
      have h1 := (HGF.out f hf e).2
      have : mayB g = true := by
        simp only [mayB, decide_eq_true_eq]
        intro j hj
        rw [h1 j hj]
        exact may_at hf hj
      rw [HM.out] at this
      cases this
end Go.Proofs.YtalcfkdmlebkbaaDoor
