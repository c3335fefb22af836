/- The errors of the library that a row lists. -/
import Derived.Test.YtalcfkdmlebkbaaDoorArg4
import Derived.Test.YtalcfkdmlebkbaaDoorCounts
import Derived.Stop.LaidErr
import Derived.LaidMore
namespace Go.Proofs.YtalcfkdmlebkbaaDoor
open Go.ChangeShapes Go.WideShapes Go.ChangeAt Go.RowKit

theorem gES : Tryd.prog.globalNamed "strconv.ErrSyntax" = some 2 := by kernel_rfl
theorem gER : Tryd.prog.globalNamed "strconv.ErrRange" = some 3 := by kernel_rfl
theorem tES : (Tryd.prog.globals[2]?).map (·.type) = some 80 := by kernel_rfl
theorem tER : (Tryd.prog.globals[3]?).map (·.type) = some 80 := by kernel_rfl
theorem cells133 : Tryd.prog.cellsOf 133 = 1 := by kernel_rfl
theorem cells9 : Tryd.prog.cellsOf 9 = 1 := by kernel_rfl
theorem star : "*" ++ "errors.errorString" = "*errors.errorString" := by decide
theorem rowE (u : TypeId) (h : Tryd.prog.typeName? 3 u = some "*errors.errorString") : u = 131 :=
  typeName_ptr_named (nm := "errors.errorString") (by rw [star]; kernel_rfl) (by kernel_rfl) (by decide) u (by rw [star]; exact h)
theorem errs_of {W : World} {a b c : String × DataW Unit} {rest : List (String × DataW Unit)} (h : laidMet Tryd.prog (a :: b :: c :: ("strconv.ErrRange", Rows.laid_strconv_ErrRange) :: ("strconv.ErrSyntax", Rows.laid_strconv_ErrSyntax) :: rest) W) : Errs W := by
  have h3 := h.tail.tail.tail
  obtain ⟨a1, s1, hv1, -, -, -⟩ := laid_sentinel h3 gER tER Tryd.underlying80 rowE Tryd.underlying131 Tryd.underlying133 rfl rfl Tryd.underlying9 cells133 cells9
  obtain ⟨a2, s2, hv2, -, -, -⟩ := laid_sentinel h3.tail gES tES Tryd.underlying80 rowE Tryd.underlying131 Tryd.underlying133 rfl rfl Tryd.underlying9 cells133 cells9
  exact ⟨⟨_, _, hv2⟩, ⟨_, _, hv1⟩⟩
end Go.Proofs.YtalcfkdmlebkbaaDoor
