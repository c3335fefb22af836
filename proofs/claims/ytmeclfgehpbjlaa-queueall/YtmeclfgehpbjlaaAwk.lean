/- awake. -/
import Derived.Test.YtmeclfgehpbjlaaLiv
import Derived.Lib.SlBytesConst
namespace Go.Proofs.Ytmeclfgehpbjlaa
open Go.RowKit

def dot1 (n : Int) (b : Nat) : A := ⟨n, 1, [b], false⟩
theorem maxz : maxV zer zer = zer := by funext j; simp [maxV, zer]
theorem next_one {n : Int} (h : nodeB n = true) : nextV zer n = (n, 1, 0) := by simp [nextV, h, zer]
theorem may_zer : MayP zer [] := ⟨fun j _ => by simp [zer], by simp, by simp, by simp⟩
theorem put_one {n : Int} (h : nodeB n = true) (b : Nat) : putE zer zer [] n [b] false = 0 ∧ putL zer zer [] n [b] false = [dot1 n b] ∧ putV zer zer [] n [b] false = withV zer n 1 := by
  have hb : mayB zer = true := by simp [mayB, zer]
  have hr : putR zer zer [] n [b] false = [dot1 n b] := by
    have hc : coversB zer n 1 = false := by simp [coversB, zer]
    simp only [putR, putN, maxz, next_one h]
    rw [mergeA_nil _ _ _ _ (.inl rfl)]
    simp [nc, hc, dot1]
  have he : putE zer zer [] n [b] false = 0 := by simp [putE, may_yes may_zer, hb, okData, maxz, next_one h, hr]
  refine ⟨he, by simp [putL, he, hr], ?_⟩
  simp only [putV, he, if_true, maxz, next_one h]
theorem with_one {n : Int} (h : nodeB n = true) (j : Nat) : withV zer n 1 j = if j = n.toNat then 1 else 0 := by
  simp only [withV, h, if_true, upd, zer]
  split
  · omega
  · rfl
theorem may_one {n : Int} (h : nodeB n = true) (b : Nat) : MayP (withV zer n 1) [dot1 n b] := by
  refine ⟨fun j _ => ?_, by simp, fun i x y hx hy => ?_, fun x hx => ?_⟩
  · rw [with_one h]
    split <;> simp
  · cases i <;> simp at hy
  · simp only [List.mem_singleton] at hx
    subst hx
    have hn : 0 ≤ n ∧ n < 8 := by simpa [nodeB] using h
    refine ⟨?_, by simp [okData, dot1]⟩
    simp only [coversB, dot1, with_one h, decide_eq_true_eq]
    simp
    exact hn
theorem aw_join (b c : Nat) : joinL (withV zer 1 1) (withV zer 2 1) [dot1 1 b] [dot1 2 c] = [dot1 1 b, dot1 2 c] ∧ joinV (withV zer 1 1) (withV zer 2 1) [dot1 1 b] [dot1 2 c] = maxV (withV zer 1 1) (withV zer 2 1) := by
  have h1 : nodeB 1 = true := by decide
  have h2 : nodeB 2 = true := by decide
  have m1 := may_yes (may_one h1 b)
  have m2 := may_yes (may_one h2 c)
  refine ⟨?_, by simp [joinV, m1, m2]⟩
  have hl : lessA (dot1 1 b) (dot1 2 c) = true := by simp [lessA, lessB, dot1]
  have c1 : nc (withV zer 2 1) (dot1 1 b) = true := by simp [nc, coversB, dot1, with_one h2]
  have c2 : nc (withV zer 1 1) (dot1 2 c) = true := by simp [nc, coversB, dot1, with_one h1]
  simp only [joinL, m1, m2, and_self, if_true]
  rw [mergeA_lt _ _ _ _ hl, mergeA_nil _ _ _ _ (.inl rfl)]
  simp [keep, c1, c2]
theorem aw_may (b c : Nat) : MayP (maxV (withV zer 1 1) (withV zer 2 1)) [dot1 1 b, dot1 2 c] := by
  have h1 : nodeB 1 = true := by decide
  have h2 : nodeB 2 = true := by decide
  refine ⟨fun j _ => ?_, by simp, fun i x y hx hy => ?_, fun x hx => ?_⟩
  · simp only [maxV, with_one h1, with_one h2]
    split <;> split <;> omega
  · match i, hx, hy with
    | 0, hx, hy => simp at hx hy; subst hx hy; simp [lessB, dot1]
    | i + 1, hx, hy => simp at hy
  · simp only [List.mem_cons, List.not_mem_nil, or_false] at hx
    rcases hx with rfl | rfl
    · simp [coversB, dot1, maxV, with_one h1, with_one h2, okData]
      omega
    · simp [coversB, dot1, maxV, with_one h1, with_one h2, okData]
      omega
theorem src_mark (w : World) (b : Nat) (x : Int) (hx : x = (b : Int)) (p : Nat × Nat) : Src (w.alloc (.cells #[.int .u8 x] 5 p)) (some ⟨w.heap.size, 0, none⟩) 1 [b] := by
  refine ⟨.inr ⟨_, rfl, fun j u hj => ?_⟩⟩
  match j, hj with
  | 0, hj =>
    simp [vl] at hj
    subst hj hx
    rw [add_lit]
    have h := heap_alloc_new w (.cells #[.int .u8 (b : Int)] 5 p)
    simp only [World.cell?]
    rw [h]
    rfl
end Go.Proofs.Ytmeclfgehpbjlaa
