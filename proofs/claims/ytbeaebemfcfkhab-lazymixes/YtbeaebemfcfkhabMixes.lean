/- The walk of LazyMixes. -/
import Derived.Test.YtbeaebemfcfkhabNum
import Derived.Test.YtbeaebemfcfkhabIsRow
import Derived.Test.YtbeaebemfcfkhabBurst
import Derived.Laws.AppendOwnNone
namespace Go.Proofs.Ytbeaebemfcfkhab
open Go.RowKit

theorem Try.info5 : (Try.prog.info? 5).map (fun i => (i.zero, i.size, i.bytes)) = some (some (.int .u8 0), 1, 1) := by kernel_rfl

theorem own_off {D : Nat → Prop} {w w' : World} {base e size n : Nat} {v : Value} {xs : List Value} (h : w.ownsRow base e size v n xs) (o : Off D w w') (hD : ∀ c, c < w.heap.size → ¬ D c) : w'.ownsRow base e size v n xs := by
  refine ⟨h.1, ?_⟩
  rcases h.2 with h2 | ⟨g, cap, cur, hv, hg, hh, r⟩
  · exact .inl h2
  · have hlt := lt_of_block hh
    exact .inr ⟨g, cap, cur, hv, hg, (o.block g hlt (hD g hlt)).trans hh, r⟩

theorem own_base {w : World} {base e size n k : Nat} {v : Value} {xs : List Value} (h : w.ownsRow base e size v n xs) (hk : v.ownBlock = some k) : base ≤ k := by
  rcases h.2 with ⟨rfl, -⟩ | ⟨g, cap, cur, rfl, hb, -⟩
  · simp [Value.ownBlock] at hk
  · simp [Value.ownBlock] at hk
    omega

theorem grow_lit {w w1 : World} {t : TypeId} (g : (w.alloc (.cells #[] t)).grownBy w1 (Value.slice (some ⟨w.heap.size, 0, none⟩) 0 0).ownBlock) : Off (fun c => w.heap.size ≤ c) w w1 :=
  ((Off.refl _ w).alloc _).grown g (fun _ hk => by simp [Value.ownBlock] at hk; left; omega)
theorem grow_one {w w1 : World} {o : Obj} {base e size n : Nat} {v : Value} {xs : List Value} (h : w.ownsRow base e size v n xs) (g : (w.alloc o).grownBy w1 v.ownBlock) : Off (fun c => base ≤ c) w w1 :=
  ((Off.refl _ w).alloc _).grown g (fun _ hk => .inl (own_base h hk))

/-- The cells of n bytes. -/
def vals (B : Nat → Nat) (n : Nat) : List Value := (List.range n).map fun i => Value.int .u8 ((B i : Nat) : Int)
theorem vals_len (B : Nat → Nat) (n : Nat) : (vals B n).length = n * 1 := by simp [vals]
theorem vals_get (B : Nat → Nat) (n i : Nat) (h : i < n) : (vals B n)[i]? = some (.int .u8 ((B i : Nat) : Int)) := by
  simp [vals, List.getElem?_map, List.getElem?_range h]
theorem vals_one (B : Nat → Nat) (n : Nat) : ∀ u ∈ vals B n, u.oneCell' = true := by
  intro u hu
  simp only [vals, List.mem_map] at hu
  obtain ⟨i, -, rfl⟩ := hu
  rfl
/-- Bytes with one behind them. -/
def ext (B : Nat → Nat) (n x : Nat) (i : Nat) : Nat := if i < n then B i else x
theorem ext_lt {B : Nat → Nat} {n x i : Nat} (hB : ∀ i, i < n → B i < 256) (hx : x < 256) : ext B n x i < 256 := by
  unfold ext
  split
  · exact hB i (by assumption)
  · exact hx
theorem vals_ext (B : Nat → Nat) (n x : Nat) : vals (ext B n x) (n + 1) = vals B n ++ [.int .u8 ((x : Nat) : Int)] := by
  unfold vals
  rw [List.range_succ, List.map_append]
  congr 1
  · apply List.map_congr_left
    intro i hi
    simp [ext, List.mem_range.1 hi]
  · simp [ext]

theorem own_bytes {w : World} {base k : Nat} {v : Value} {B : Nat → Nat} (h : w.ownsRow base 5 1 v k (vals B k)) :
    ∃ tad cap, v = .slice tad k cap ∧ ∀ i, i < k → ∃ g off, tad = some ⟨g, off, none⟩ ∧ w.cell? ⟨g, off + i, none⟩ = some (.int .u8 (B i)) := by
  rcases h.2 with ⟨rfl, rfl⟩ | ⟨g, cap, cur, rfl, hb, r⟩
  · exact ⟨none, 0, rfl, fun i hi => by omega⟩
  · refine ⟨some ⟨g, 0, none⟩, cap, rfl, fun i hi => ⟨g, 0, rfl, ?_⟩⟩
    have := World.ownsRow.cellAt h i (by omega)
    rw [vals_get B k i hi] at this
    simpa using this

theorem cell_one_at (w : World) (x : Value) (t : TypeId) (n : Nat) (hn : n = w.heap.size) : ∀ j u, [x][j]? = some u → (w.alloc (.cells #[x] t)).cell? ((⟨n, 0, none⟩ : Addr).add j) = some u := by
  subst hn
  intro j u hj
  match j, hj with
  | 0, hj => simp at hj; subst hj; simp [Addr.add]

theorem cell_one (w : World) (x : Value) (t : TypeId) : ∀ j u, [x][j]? = some u → (w.alloc (.cells #[x] t)).cell? ((⟨w.heap.size, 0, none⟩ : Addr).add j) = some u := by
  intro j u hj
  match j, hj with
  | 0, hj => simp at hj; subst hj; simp [Addr.add]

set_option maxRecDepth 100000 in
set_option maxHeartbeats 1000000 in
theorem mixes_some (x y : Nat) (hx : x < 256) (hy : y < 256) (A : Addr) (len cap : Nat) (hl : len ≤ 300) (B : Nat → Nat) (hB : ∀ i, i < len → B i < 256) (w : World) (hsrc : ∀ w', Off (fun c => w.heap.size ≤ c) w w' → ∀ j u, (vals B len)[j]? = some u → w'.cell? (A.add j) = some u) :
    Calls Try.prog 4 #[.slice (some A) len cap, .int .u8 x, .int .u8 y] w fun e w' => e = .returned (.bool true) ∧ Below w.heap.size w w' := by
  obtain ⟨i0, hi, hz0, hz1, hz2⟩ := info_parts Try.info5
  have O0 : Off (fun c => w.heap.size ≤ c) w (w.alloc (.cells #[] 5)) := (Off.refl _ _).alloc _
  have HS : Hid _ := hsrc
  clear hsrc
  go_enter Try.func4, Try.ntmps4
  go_wp2_with (first
    | (at_builtin; refine wpList_append_own _ rfl (.tmp 13) (.tmp 14) 31 rfl w.heap.size 5 i0 (.int .u8 0) 1 1 Try.underlying31 hi hz0 hz1 hz2 rfl (by decide) _ _ _ rfl (World.ownsRow_lit w #[] 0 (Nat.le_refl _) (by decide) rfl) A len cap (vals B len) rfl (vals_len B len) (HS.out _ O0) (vals_one B len) (by unfold maxLen; omega) (by omega) (by simp) ?_; intro v1 w1 own1 grow1 _; simp only [List.nil_append, Nat.zero_add] at own1; have O1 := grow_lit grow1; have hs1 := O1.size)
    | (at_builtin; refine wpList_append_own _ rfl (.tmp 15) (.tmp 17) 31 rfl w.heap.size 5 i0 (.int .u8 0) 1 1 Try.underlying31 hi hz0 hz1 hz2 rfl (by decide) _ _ _ rfl (own1.alloc _) ⟨w1.heap.size, 0, none⟩ 1 1 [.int .u8 ((x : Nat) : Int)] rfl rfl (cell_one _ _ _) (by intro u hu; simp at hu; subst hu; rfl) (by unfold maxLen; omega) (by omega) (by simp; omega) ?_; intro v2 w2 own2 grow2 _; rw [← vals_ext] at own2; have O2 := O1.trans (grow_one own1 grow2) (fun _ _ h => h); clear own1 grow1 grow2; have O3 := O2.alloc (.cells #[] 5); have hs2 := O2.size)
    | (at_builtin; refine wpList_append_own _ rfl (.tmp 19) (.tmp 20) 31 rfl w2.heap.size 5 i0 (.int .u8 0) 1 1 Try.underlying31 hi hz0 hz1 hz2 rfl (by decide) _ _ _ rfl (World.ownsRow_lit w2 #[] 0 (Nat.le_refl _) (by decide) rfl) A len cap (vals B len) rfl (vals_len B len) (HS.out _ O3) (vals_one B len) (by unfold maxLen; omega) (by omega) (by simp) ?_; intro v3 w3 own3 grow3 _; simp only [List.nil_append, Nat.zero_add] at own3; have o3 := grow_lit grow3; have hs3 := o3.size)
    | (at_builtin; refine wpList_append_own _ rfl (.tmp 21) (.tmp 23) 31 rfl w2.heap.size 5 i0 (.int .u8 0) 1 1 Try.underlying31 hi hz0 hz1 hz2 rfl (by decide) _ _ _ rfl (own3.alloc _) ⟨w3.heap.size, 0, none⟩ 1 1 [.int .u8 ((y : Nat) : Int)] rfl rfl (cell_one _ _ _) (by intro u hu; simp at hu; subst hu; rfl) (by unfold maxLen; omega) (by omega) (by simp; omega) ?_; intro v4 w4 own4 grow4 _; rw [← vals_ext] at own4; have o34 := o3.trans (grow_one own3 grow4) (fun _ _ h => h); clear own3 grow3 grow4 o3))
  have own2c := own_off own2 o34 (fun c hc => by omega)
  have O5 := O2.trans o34 (fun _ _ h => by omega)
  clear own2 o34
  obtain ⟨tp, cp, rfl, lp⟩ := own_bytes own2c
  obtain ⟨tq, cq, rfl, lq⟩ := own_bytes own4
  have HP : Hid _ := lp
  have HQ : Hid _ := lq
  clear lp lq own2c own4
  refine (mix_any tp (len + 1) cp (by omega) (ext B len x) w4 (fun i hi => by
    obtain ⟨g, off, h1, h2⟩ := HP.out i hi
    exact ⟨g, off, h1, (ext_lt hB hx), h2⟩)).mono ?_
  rintro e w5 ⟨rfl, hw5⟩
  rw [hw5]
  clear hw5 w5
  go_wp2_with fail
  refine (mix_any tq (len + 1) cq (by omega) (ext B len y) w4 (fun i hi => by
    obtain ⟨g, off, h1, h2⟩ := HQ.out i hi
    exact ⟨g, off, h1, (ext_lt hB hy), h2⟩)).mono ?_
  rintro e w5 ⟨rfl, hw5⟩
  rw [hw5]
  clear hw5 w5 HP HQ
  have last := mix_last (B := ext B len x) (C := ext B len y) (n := len) (fun i hi => by simp [ext, hi]) (by simp [ext, hx]) (by simp [ext, hy])
  simp only [ext, Nat.lt_irrefl, if_false] at last
  by_cases exy : x = y
  · have HXY : Hid _ := exy
    subst exy
    go_wp2_with fail
    refine (awake_any _).mono ?_
    rintro e w6 ⟨rfl, o6⟩
    go_wp2_with fail
    go_ret
    exact ⟨rfl, (O5.trans o6 (fun _ _ h => h.elim)).below (Nat.le_refl _) (fun _ h => h)⟩
  · have h1 : (((mixend (mixst (ext B len x) (len + 1)) : Nat) : Int) == ((mixend (mixst (ext B len y) (len + 1)) : Nat) : Int)) = false := by
      rw [beq_eq_false_iff_ne]
      intro h
      exact exy (last.1 (by exact_mod_cast h))
    have h2 : (((x : Nat) : Int) == ((y : Nat) : Int)) = false := by
      rw [beq_eq_false_iff_ne]
      intro h
      exact exy (by exact_mod_cast h)
    clear last exy
    go_wp2_with fail
    refine (awake_any _).mono ?_
    rintro e w6 ⟨rfl, o6⟩
    go_wp2_with fail
    go_ret
    exact ⟨rfl, (O5.trans o6 (fun _ _ h => h.elim)).below (Nat.le_refl _) (fun _ h => h)⟩

set_option maxRecDepth 100000 in
set_option maxHeartbeats 1000000 in
theorem mixes_nil (x y : Nat) (hx : x < 256) (hy : y < 256) (w : World) :
    Calls Try.prog 4 #[.slice none 0 0, .int .u8 x, .int .u8 y] w fun e w' => e = .returned (.bool true) ∧ Below w.heap.size w w' := by
  obtain ⟨i0, hi, hz0, hz1, hz2⟩ := info_parts Try.info5
  obtain ⟨B, -⟩ : ∃ B : Nat → Nat, True := ⟨fun _ => 0, trivial⟩
  have L0 : (w.alloc (.cells #[] 5)).ownsRow w.heap.size 5 1 (.slice (some ⟨w.heap.size, 0, none⟩) 0 0) 0 (vals B 0) := World.ownsRow_lit w #[] 0 (Nat.le_refl _) (by decide) rfl
  have O0 : Off (fun c => w.heap.size ≤ c) w (w.alloc (.cells #[] 5)) := (Off.refl _ _).alloc _
  go_enter Try.func4, Try.ntmps4
  go_wp2_with (first
    | (at_builtin; refine wpList_append_own_none rfl (.tmp 13) (.tmp 14) 31 rfl w.heap.size 5 i0 1 Try.underlying31 hi _ _ _ rfl L0 rfl ?_)
    | (at_builtin; refine wpList_append_own _ rfl (.tmp 15) (.tmp 17) 31 rfl w.heap.size 5 i0 (.int .u8 0) 1 1 Try.underlying31 hi hz0 hz1 hz2 rfl (by decide) _ _ _ rfl (L0.alloc _) ⟨w.heap.size + 1, 0, none⟩ 1 1 [.int .u8 ((x : Nat) : Int)] rfl rfl (cell_one_at _ _ _ _ (by simp)) (by intro u hu; simp at hu; subst hu; rfl) (by decide) (by decide) (by simp; omega) ?_; intro v2 w2 own2 grow2 _; rw [← vals_ext] at own2; have O2 := O0.trans (grow_one L0 grow2) (fun _ _ h => h); clear grow2; have hs2 := O2.size; have L2 : (w2.alloc (.cells #[] 5)).ownsRow w2.heap.size 5 1 (.slice (some ⟨w2.heap.size, 0, none⟩) 0 0) 0 (vals B 0) := World.ownsRow_lit w2 #[] 0 (Nat.le_refl _) (by decide) rfl)
    | (at_builtin; refine wpList_append_own_none rfl (.tmp 19) (.tmp 20) 31 rfl w2.heap.size 5 i0 1 Try.underlying31 hi _ _ _ rfl L2 rfl ?_)
    | (at_builtin; refine wpList_append_own _ rfl (.tmp 21) (.tmp 23) 31 rfl w2.heap.size 5 i0 (.int .u8 0) 1 1 Try.underlying31 hi hz0 hz1 hz2 rfl (by decide) _ _ _ rfl (L2.alloc _) ⟨w2.heap.size + 1, 0, none⟩ 1 1 [.int .u8 ((y : Nat) : Int)] rfl rfl (cell_one_at _ _ _ _ (by simp)) (by intro u hu; simp at hu; subst hu; rfl) (by decide) (by decide) (by simp; omega) ?_; intro v4 w4 own4 grow4 _; rw [← vals_ext] at own4; have o34 : Off (fun c => w2.heap.size ≤ c) w2 w4 := ((Off.refl _ w2).alloc _).trans (grow_one L2 grow4) (fun _ _ h => h); clear grow4 L2 L0))
  have own2c := own_off own2 o34 (fun c hc => by omega)
  have O5 := O2.trans o34 (fun _ _ h => by omega)
  clear own2 o34
  obtain ⟨tp, cp, rfl, lp⟩ := own_bytes own2c
  obtain ⟨tq, cq, rfl, lq⟩ := own_bytes own4
  have HP : Hid _ := lp
  have HQ : Hid _ := lq
  clear lp lq own2c own4
  refine (mix_any tp 1 cp (by omega) (ext B 0 x) w4 (fun i hi => by
    obtain ⟨g, off, h1, h2⟩ := HP.out i hi
    exact ⟨g, off, h1, (ext_lt (fun i hi => by omega) hx), h2⟩)).mono ?_
  rintro e w5 ⟨rfl, hw5⟩
  rw [hw5]
  clear hw5 w5
  go_wp2_with fail
  refine (mix_any tq 1 cq (by omega) (ext B 0 y) w4 (fun i hi => by
    obtain ⟨g, off, h1, h2⟩ := HQ.out i hi
    exact ⟨g, off, h1, (ext_lt (fun i hi => by omega) hy), h2⟩)).mono ?_
  rintro e w5 ⟨rfl, hw5⟩
  rw [hw5]
  clear hw5 w5 HP HQ
  have last := mix_last (B := ext B 0 x) (C := ext B 0 y) (n := 0) (fun i hi => by simp [ext, hi]) (by simp [ext, hx]) (by simp [ext, hy])
  simp only [ext, Nat.lt_irrefl, if_false] at last
  by_cases exy : x = y
  · have HXY : Hid _ := exy
    subst exy
    go_wp2_with fail
    refine (awake_any _).mono ?_
    rintro e w6 ⟨rfl, o6⟩
    go_wp2_with fail
    go_ret
    exact ⟨rfl, (O5.trans o6 (fun _ _ h => h.elim)).below (Nat.le_refl _) (fun _ h => h)⟩
  · have h1 : (((mixend (mixst (ext B 0 x) 1) : Nat) : Int) == ((mixend (mixst (ext B 0 y) 1) : Nat) : Int)) = false := by
      rw [beq_eq_false_iff_ne]
      intro h
      exact exy (last.1 (by exact_mod_cast h))
    have h2 : (((x : Nat) : Int) == ((y : Nat) : Int)) = false := by
      rw [beq_eq_false_iff_ne]
      intro h
      exact exy (by exact_mod_cast h)
    clear last exy
    go_wp2_with fail
    refine (awake_any _).mono ?_
    rintro e w6 ⟨rfl, o6⟩
    go_wp2_with fail
    go_ret
    exact ⟨rfl, (O5.trans o6 (fun _ _ h => h.elim)).below (Nat.le_refl _) (fun _ h => h)⟩

set_option maxHeartbeats 400000 in
theorem mixes_long (x y : Int) (ad : Option Addr) (len cap : Nat) (hl : 300 < len) (hlen : len ≤ 9223372036854775807) (w : World) :
    Calls Try.prog 4 #[.slice ad len cap, .int .u8 x, .int .u8 y] w fun e w' => e = .returned (.bool true) ∧ Below w.heap.size w w' := by
  go_enter Try.func4, Try.ntmps4
  go_wp2_with fail
  refine (awake_any _).mono ?_
  rintro e w6 ⟨rfl, o6⟩
  go_wp2_with fail
  go_ret
  exact ⟨rfl, o6.below (Nat.le_refl _) (fun _ h => h.elim)⟩

theorem wf_byte {x : Int} (h : (Lit.int .u8 x).wf = true) : ∃ n : Nat, x = n ∧ n < 256 := by
  have hb : 0 ≤ x ∧ x ≤ 255 := by
    simp only [Lit.wf, Bool.and_eq_true, decide_eq_true_eq] at h
    exact h
  exact ⟨x.toNat, by omega, by omega⟩

theorem mixes_walk (ad : Option Addr) (len cap : Nat) (zs : List Int) (x y : Int) (w : World) (w0 : IsRow .u8 w ad len cap zs) (w1 : (Lit.int .u8 x).wf = true) (w2 : (Lit.int .u8 y).wf = true) :
    Calls Try.prog 4 #[.slice ad len cap, .int .u8 x, .int .u8 y] w fun e w' => e = .returned (.bool true) ∧ Below w.heap.size w w' := by
  by_cases hl : 300 < len
  · exact mixes_long x y ad len cap hl w0.len w
  · obtain ⟨x, rfl, hx⟩ := wf_byte w1
    obtain ⟨y, rfl, hy⟩ := wf_byte w2
    cases ad with
    | none =>
      rcases w0 with ⟨-, rfl, rfl, -⟩ | ⟨a, h, -⟩
      · exact mixes_nil x y hx hy w
      · cases h
    | some A =>
      refine mixes_some x y hx hy A len cap (by omega) (bytesOf zs) (fun i hi => (w0.bytes i hi).1) w ?_
      intro w' o j u hu
      have hj : j < len := by
        have := List.getElem?_eq_some_iff.1 hu
        obtain ⟨h, -⟩ := this
        simpa [vals] using h
      rw [vals_get _ _ _ hj] at hu
      obtain ⟨h1, b, off, h2, h3, h4⟩ := w0.bytes j hj
      simp only [Option.some.injEq] at h2
      subst h2
      rw [← hu, ← h4]
      rw [show (⟨b, off, none⟩ : Addr).add j = ⟨b, off + j, none⟩ from by simp [Addr.add]]
      exact World.cell?_of_block (a := ⟨b, off + j, none⟩) (o.block b h3 (by omega))
end Go.Proofs.Ytbeaebemfcfkhab
