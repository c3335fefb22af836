/- Items of several texts. -/
import Derived.Lib.SlBytesConst
import Derived.Test.YtpnnpdfmoldiiaaQLiv
namespace Go.Proofs.Ytpnnpdfmoldiiaa
open Go.RowKit
theorem may_zer : MayP zer [] := ⟨fun j _ => by simp [zer], by simp, by simp, by simp⟩
end Go.Proofs.Ytpnnpdfmoldiiaa
