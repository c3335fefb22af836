/- Items of several texts. -/
import Derived.Test.YtmbphlkohlggfaaCWWops
namespace Go.Proofs.Ytmbphlkohlggfaa
open Go.RowKit
theorem wflag_any {D : Nat → Prop} {b most : Nat} {st : Option (List Nat)} {w : World} (hW : Wtr D b most st w) (f : Bool) (hsz : (st.getD []).length + 1 ≤ 140737488355328 ∨ most ≤ 140737488355328 ∧ (st.getD []).length ≤ most) :
  Calls Try.prog 127 #[.pointer (some ⟨b, 0, none⟩), .bool f] w fun e w' => e = .returned (.tuple #[]) ∧ Put D b most st [if f then 1 else 0] w w' := by
 cases f with
 | true =>
  have o1 : Off (fun _ => False) w (w.alloc (.cells #[.int .u8 1] 5)) := (Off.refl _ w).alloc _
  have s1 := src_new w 1
  go_enter Try.func127, Try.ntmps127
  go_wp2_with fail
  refine (add_any (hW.off o1 (fun _ _ _ h => h)) _ 1 [1] s1 none 0 [] (fun w' _ => Src.nil w') (by simp only [List.length_cons, List.length_nil]; omega)).mono ?_
  rintro e w2 ⟨rfl, P⟩
  go_wp2_with fail
  first | go_end0 | refine bodyPost_ret (results_none rfl _ _ _) rfl ?_
  exact ⟨rfl, Put.after o1 P⟩
 | false =>
  have o1 : Off (fun _ => False) w (w.alloc (.cells #[.int .u8 0] 5)) := (Off.refl _ w).alloc _
  have s1 := src_new w 0
  go_enter Try.func127, Try.ntmps127
  go_wp2_with fail
  refine (add_any (hW.off o1 (fun _ _ _ h => h)) _ 1 [0] s1 none 0 [] (fun w' _ => Src.nil w') (by simp only [List.length_cons, List.length_nil]; omega)).mono ?_
  rintro e w2 ⟨rfl, P⟩
  go_wp2_with fail
  first | go_end0 | refine bodyPost_ret (results_none rfl _ _ _) rfl ?_
  exact ⟨rfl, Put.after o1 P⟩
end Go.Proofs.Ytmbphlkohlggfaa
