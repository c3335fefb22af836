/- Rows of hints that All told; a set behind many Puts. -/
import Derived.Test.YtfhacfedklaaiaaArg11
import Derived.Test.YtfhacfedklaaiaaSms11
namespace Go.Proofs.Ytfhacfedklaaiaa
open Go.RowKit

/-- A row that was told: it lies at N or later. -/
structure Tlr (N : Nat) (a : Option Addr) (c : Nat) (ys : List H) (w : World) : Prop where
  hns : Hns w a c ys
  lo : ∀ g, blk a = some g → N ≤ g
  row : ∀ y ∈ ys, Row w y.e.a y.e.cap y.e.l
  ter : ∀ y ∈ ys, Ter (fun c => N ≤ c) y.e.a y.e.l
theorem Tlr.off {N : Nat} {a : Option Addr} {c : Nat} {ys : List H} {w w' : World} (h : Tlr N a c ys w) (o : Off (fun c => c < N) w w') : Tlr N a c ys w' :=
  ⟨⟨h.hns.len, h.hns.bound, fun i y hi => by
    obtain ⟨b, off, ea, h1⟩ := h.hns.at_ i y hi
    exact ⟨b, off, ea, h1.off o (fun _ hb => by have := h.lo b (by rw [ea]; rfl); omega)⟩⟩, h.lo, fun y hy => (h.row y hy).offT (h.ter y hy) o (fun c _ hd hc => by omega), h.ter⟩
theorem absH_get {xs : List H} {n : Nat} {x : H} (h : xs[n]? = some x) : (absH xs)[n]? = some x.abs := by simp [absH, h]
/-- Put again: nothing changes. -/
theorem join_self {f : Nat → Int} {l : List A} (h : MayP f l) (hf : Nrm f) : joinV f f l l = f ∧ joinL f f l l = l := same_eq (nrm_join hf hf l l) hf (ord_self h)
theorem put_again {X : List HK} (ok : OkS X) {x : HK} (hx : x ∈ X) : hpR X x = ⟨X, false, 0⟩ := by
  have hf : fndG HK.nk x.nk X = some x := (fnd_some HK.nk ok.sor).2 ⟨hx, rfl⟩
  have hj : jnH x x = x := by
    obtain ⟨h1, h2⟩ := join_self (ok.may hx) (ok.nrm x hx)
    unfold jnH
    rw [h1, h2]
  rw [hpR_old (ok.ok x hx) hf, hj, put_self HK.nk ok.sor hx, same_refl]
  rfl
end Go.Proofs.Ytfhacfedklaaiaa
