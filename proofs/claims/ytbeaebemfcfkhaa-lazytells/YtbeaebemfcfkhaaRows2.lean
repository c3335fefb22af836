/- Rows of bytes that a call itself makes. -/
import Derived.Test.YtbeaebemfcfkhaaNum
import Derived.Test.YtbeaebemfcfkhaaIsRow
import Derived.Test.YtbeaebemfcfkhaaBurst
import Derived.Laws.AppendOwnNone
namespace Go.Proofs.Ytbeaebemfcfkhaa
open Go.RowKit

theorem Try.info5 : (Try.prog.info? 5).map (fun i => (i.zero, i.size, i.bytes)) = some (some (.int .u8 0), 1, 1) := by kernel_rfl

theorem own_off {D : Nat → Prop} {w w' : World} {base e size n : Nat} {v : Value} {xs : List Value} (h : w.ownsRow base e size v n xs) (o : Off D w w') (hD : ∀ c, c < w.heap.size → ¬ D c) : w'.ownsRow base e size v n xs := by
  refine ⟨h.1, ?_⟩
  rcases h.2 with h2 | ⟨g, cap, cur, hv, hg, hh, r⟩
  · exact .inl h2
  · have hlt := lt_of_block hh
    exact .inr ⟨g, cap, cur, hv, hg, (o.block g hlt (hD g hlt)).trans hh, r⟩

theorem own_base {w : World} {base e size n k : Nat} {v : Value} {xs : List Value} (h : w.ownsRow base e size v n xs) (hk : v.ownBlock = some k) : base ≤ k := by
  rcases h.2 with ⟨rfl, -⟩ | ⟨g, cap, cur, rfl, hb, -⟩
  · simp [Value.ownBlock] at hk
  · simp [Value.ownBlock] at hk
    omega

theorem grow_lit {w w1 : World} {t : TypeId} (g : (w.alloc (.cells #[] t)).grownBy w1 (Value.slice (some ⟨w.heap.size, 0, none⟩) 0 0).ownBlock) : Off (fun c => w.heap.size ≤ c) w w1 :=
  ((Off.refl _ w).alloc _).grown g (fun _ hk => by simp [Value.ownBlock] at hk; left; omega)
theorem grow_one {w w1 : World} {o : Obj} {base e size n : Nat} {v : Value} {xs : List Value} (h : w.ownsRow base e size v n xs) (g : (w.alloc o).grownBy w1 v.ownBlock) : Off (fun c => base ≤ c) w w1 :=
  ((Off.refl _ w).alloc _).grown g (fun _ hk => .inl (own_base h hk))

/-- The cells of n bytes. -/
def vals (B : Nat → Nat) (n : Nat) : List Value := (List.range n).map fun i => Value.int .u8 ((B i : Nat) : Int)
theorem vals_len (B : Nat → Nat) (n : Nat) : (vals B n).length = n * 1 := by simp [vals]
theorem vals_get (B : Nat → Nat) (n i : Nat) (h : i < n) : (vals B n)[i]? = some (.int .u8 ((B i : Nat) : Int)) := by
  simp [vals, List.getElem?_map, List.getElem?_range h]
theorem vals_one (B : Nat → Nat) (n : Nat) : ∀ u ∈ vals B n, u.oneCell' = true := by
  intro u hu
  simp only [vals, List.mem_map] at hu
  obtain ⟨i, -, rfl⟩ := hu
  rfl
/-- Bytes with one behind them. -/
def ext (B : Nat → Nat) (n x : Nat) (i : Nat) : Nat := if i < n then B i else x
theorem ext_lt {B : Nat → Nat} {n x i : Nat} (hB : ∀ i, i < n → B i < 256) (hx : x < 256) : ext B n x i < 256 := by
  unfold ext
  split
  · exact hB i (by assumption)
  · exact hx
theorem vals_ext (B : Nat → Nat) (n x : Nat) : vals (ext B n x) (n + 1) = vals B n ++ [.int .u8 ((x : Nat) : Int)] := by
  unfold vals
  rw [List.range_succ, List.map_append]
  congr 1
  · apply List.map_congr_left
    intro i hi
    simp [ext, List.mem_range.1 hi]
  · simp [ext]

theorem own_bytes {w : World} {base k : Nat} {v : Value} {B : Nat → Nat} (h : w.ownsRow base 5 1 v k (vals B k)) :
    ∃ tad cap, v = .slice tad k cap ∧ ∀ i, i < k → ∃ g off, tad = some ⟨g, off, none⟩ ∧ w.cell? ⟨g, off + i, none⟩ = some (.int .u8 (B i)) := by
  rcases h.2 with ⟨rfl, rfl⟩ | ⟨g, cap, cur, rfl, hb, r⟩
  · exact ⟨none, 0, rfl, fun i hi => by omega⟩
  · refine ⟨some ⟨g, 0, none⟩, cap, rfl, fun i hi => ⟨g, 0, rfl, ?_⟩⟩
    have := World.ownsRow.cellAt h i (by omega)
    rw [vals_get B k i hi] at this
    simpa using this

theorem cell_one_at (w : World) (x : Value) (t : TypeId) (n : Nat) (hn : n = w.heap.size) : ∀ j u, [x][j]? = some u → (w.alloc (.cells #[x] t)).cell? ((⟨n, 0, none⟩ : Addr).add j) = some u := by
  subst hn
  intro j u hj
  match j, hj with
  | 0, hj => simp at hj; subst hj; simp [Addr.add]

theorem cell_one (w : World) (x : Value) (t : TypeId) : ∀ j u, [x][j]? = some u → (w.alloc (.cells #[x] t)).cell? ((⟨w.heap.size, 0, none⟩ : Addr).add j) = some u := by
  intro j u hj
  match j, hj with
  | 0, hj => simp at hj; subst hj; simp [Addr.add]

theorem wf_byte {x : Int} (h : (Lit.int .u8 x).wf = true) : ∃ n : Nat, x = n ∧ n < 256 := by
  have hb : 0 ≤ x ∧ x ≤ 255 := by
    simp only [Lit.wf, Bool.and_eq_true, decide_eq_true_eq] at h
    exact h
  exact ⟨x.toNat, by omega, by omega⟩


theorem own_shape {w : World} {base e size n : Nat} {v : Value} {xs : List Value} (h : w.ownsRow base e size v n xs) (hn : 0 < n) : ∃ g cap, v = .slice (some ⟨g, 0, none⟩) n cap := by
  rcases h.2 with ⟨-, h0⟩ | ⟨g, cap, cur, hv, -⟩
  · omega
  · exact ⟨g, cap, hv⟩
end Go.Proofs.Ytbeaebemfcfkhaa
