/- The walk of LazyTells. -/
import Derived.Test.YtbeaebemfcfkhaaRows2
import Derived.Laws.BytesArg
import Derived.Deep.RegionHeld
import Derived.BigRegion
namespace Go.Proofs.Ytbeaebemfcfkhaa
open Go.RowKit

/-- The bytes that are held against those of the row. -/
def four (e0 e1 e2 e3 : Nat) : Nat → Nat
  | 0 => e0
  | 1 => e1
  | 2 => e2
  | _ => e3

/-- The row's bytes, j of them changed from p on. -/
def turned (B E : Nat → Nat) (p j : Nat) (i : Nat) : Nat := if p ≤ i ∧ i < p + j then B i ^^^ E (i - p) else B i
theorem turned_zero (B E : Nat → Nat) (p : Nat) : turned B E p 0 = B := by
  funext i
  unfold turned
  rw [if_neg (by omega)]
theorem turned_next (B E : Nat → Nat) (p j : Nat) : turned B E p j (p + j) = B (p + j) := by
  unfold turned
  rw [if_neg (by omega)]
theorem turned_lt {B E : Nat → Nat} {p j i : Nat} (hB : B i < 256) (hE : ∀ i, E i < 256) : turned B E p j i < 256 := by
  unfold turned
  split
  · exact Nat.xor_lt_two_pow (n := 8) hB (hE _)
  · exact hB
theorem turned_set (B E : Nat → Nat) (p j n : Nat) : (vals (turned B E p j) n).set (p + j) (.int .u8 ((B (p + j) ^^^ E j : Nat) : Int)) = vals (turned B E p (j + 1)) n := by
  apply List.ext_getElem?
  intro i
  rw [List.getElem?_set]
  by_cases hi : i < n
  · by_cases e : p + j = i
    · subst e
      rw [if_pos rfl, vals_get _ _ _ hi, if_pos (by rw [vals_len]; omega)]
      unfold turned
      rw [if_pos (by omega), show p + j - p = j by omega]
    · rw [if_neg e, vals_get _ _ _ hi, vals_get _ _ _ hi]
      unfold turned
      by_cases h : p ≤ i ∧ i < p + j
      · rw [if_pos h, if_pos (by omega)]
      · rw [if_neg h, if_neg (by omega)]
  · have h1 : (vals (turned B E p j) n)[i]? = none := by simp [vals]; omega
    have h2 : (vals (turned B E p (j + 1)) n)[i]? = none := by simp [vals]; omega
    rw [h1, h2]
    split
    · split
      · rename_i h; rw [vals_len] at h; omega
      · rfl
    · rfl
theorem four_lt {e0 e1 e2 e3 : Nat} (h0 : e0 < 256) (h1 : e1 < 256) (h2 : e2 < 256) (h3 : e3 < 256) : ∀ i, four e0 e1 e2 e3 i < 256
  | 0 => h0
  | 1 => h1
  | 2 => h2
  | _ + 3 => h3
theorem four_cell {e0 e1 e2 e3 b j : Nat} {w : World} (h : Cel b 44 #[.int .u8 (e0 : Int), .int .u8 (e1 : Int), .int .u8 (e2 : Int), .int .u8 (e3 : Int)] w) (hj : j < 4) : w.cell? ⟨b, j, none⟩ = some (.int .u8 ((four e0 e1 e2 e3 j : Nat) : Int)) := by
  rw [h.cell]
  match j, hj with
  | 0, _ | 1, _ | 2, _ | 3, _ => rfl
theorem own_block {w : World} {base e size n g cap : Nat} {xs : List Value} (h : w.ownsRow base e size (.slice (some ⟨g, 0, none⟩) n cap) n xs) : base ≤ g ∧ g < w.heap.size := by
  rcases h.2 with ⟨h', -⟩ | ⟨g', cap', cur, h', hb, hh, -⟩
  · simp at h'
  · simp only [Value.slice.injEq, Option.some.injEq, Addr.mk.injEq, and_true, true_and] at h'
    obtain ⟨rfl, rfl⟩ := h'
    exact ⟨hb, lt_of_block hh⟩

def nums (B : Nat → Nat) (len : Nat) : List Int := (List.range len).map fun i => ((B i : Nat) : Int)
theorem nums_len (B : Nat → Nat) (len : Nat) : (nums B len).length = len := by simp [nums]
theorem nums_get (B : Nat → Nat) (len i : Nat) (h : i < len) : (nums B len).getD i 0 = ((B i : Nat) : Int) := by
  simp [nums, h]

theorem conv_lies (B : Nat → Nat) (len b off cap : Nat) (w : World) (h : ∀ i, i < len → w.cell? ⟨b, off + i, none⟩ = some (.int .u8 ((B i : Nat) : Int))) :
    (convert 30 9 (.slice (some ⟨b, off, none⟩) len cap)).run Try.prog w = .ok (.string (strOfNums (nums B len))) w :=
  run_convert_bytes_arg w 30 5 Try.underlying30 Try.underlying5 b off len cap (nums B len) (nums_len B len) (fun i hi => by rw [nums_get _ _ _ hi]; exact h i hi) 9 Try.underlying9

theorem str_list (B : Nat → Nat) (len : Nat) : (strOfNums (nums B len)).toList = (List.range len).map fun i => UInt8.ofNat (B i) := by
  rw [ByteArray.toList_eq, strOfNums_data, nums, List.map_map]
  rfl

theorem same_strings {B C : Nat → Nat} {len p : Nat} (hB : ∀ i, i < len → B i < 256) (hC : ∀ i, i < len → C i < 256) (hout : ∀ i, i < len → ¬ (p ≤ i ∧ i < p + 4) → B i = C i) (hp : p ≤ len) :
    (((crc entry B len : Nat) : Int) == ((crc entry C len : Nat) : Int)) = ((strOfNums (nums B len)).toList == (strOfNums (nums C len)).toList) := by
  have hb := burst hB hC hout hp
  have hl : (strOfNums (nums B len)).toList = (strOfNums (nums C len)).toList ↔ ∀ i, i < len → B i = C i := by
    rw [str_list, str_list]
    constructor
    · intro h i hi
      have h1 := congrArg (fun l => l[i]?) h
      simp only [List.getElem?_map, List.getElem?_range hi, Option.map_some, Option.some.injEq] at h1
      have h2 := congrArg UInt8.toNat h1
      simp only [UInt8.toNat_ofNat'] at h2
      have h3 := hB i hi
      have h4 := hC i hi
      omega
    · intro h
      apply List.map_congr_left
      intro i hi
      rw [h i (List.mem_range.1 hi)]
  by_cases e : ∀ i, i < len → B i = C i
  · rw [hb.2 e, hl.2 e]; simp
  · have n1 : ¬ crc entry B len = crc entry C len := fun h => e (hb.1 h)
    have n2 : ¬ (strOfNums (nums B len)).toList = (strOfNums (nums C len)).toList := fun h => e (hl.1 h)
    rw [beq_eq_false_iff_ne.2 (by exact_mod_cast n1), beq_eq_false_iff_ne.2 n2]

set_option maxRecDepth 100000 in
set_option maxHeartbeats 1000000 in
theorem tells_any (sb so len cap : Nat) (hlen : len ≤ 140737488351232) (hpos : 0 < len) (B : Nat → Nat) (hB : ∀ i, i < len → B i < 256) (at_ : Int) (e0 e1 e2 e3 x y : Nat) (h0 : e0 < 256) (h1 : e1 < 256) (h2 : e2 < 256) (h3 : e3 < 256) (hx : x < 256) (hy : y < 256) (w : World) (hsb : sb < w.heap.size)
    (hz : ∀ i, i < len → w.cell? ⟨sb, so + i, none⟩ = some (.int .u8 (B i))) :
    Calls Try.prog 8 #[.slice (some ⟨sb, so, none⟩) len cap, .int .i64 at_, .agg #[.int .u8 e0, .int .u8 e1, .int .u8 e2, .int .u8 e3], .int .u8 x, .int .u8 y] w fun e w' => e = .returned (.bool true) ∧ Below w.heap.size w w' := by
  obtain ⟨i0, hi, hz0, hz1, hz2⟩ := info_parts Try.info5
  have HZ : Hid _ := hz
  clear hz
  have last := mix_last (B := fun _ => x) (C := fun _ => y) (n := 0) (fun i hi => by omega) hx hy
  have hmix : (((mixend (mixst (fun _ => x) 1) : Nat) : Int) == ((mixend (mixst (fun _ => y) 1) : Nat) : Int)) = (((x : Nat) : Int) == ((y : Nat) : Int)) := by
    by_cases e : x = y
    · subst e; simp
    · have n1 : ¬ mixend (mixst (fun _ => x) 1) = mixend (mixst (fun _ => y) 1) := fun h => e (last.1 h)
      rw [beq_eq_false_iff_ne.2 (by exact_mod_cast n1), beq_eq_false_iff_ne.2 (by exact_mod_cast e)]
  clear last
  obtain ⟨W1, hW1⟩ : ∃ W1, W1 = (w.alloc (.cells #[.int .u8 (e0 : Int), .int .u8 (e1 : Int), .int .u8 (e2 : Int), .int .u8 (e3 : Int)] 44)).alloc (.cells #[.int .u8 (x : Int)] 5) := ⟨_, rfl⟩
  have s1 : W1.heap.size = w.heap.size + 1 + 1 := by rw [hW1]; simp
  obtain ⟨W2, hW2⟩ : ∃ W2, W2 = W1.alloc (.cells #[.int .u8 (y : Int)] 5) := ⟨_, rfl⟩
  have s2 : W2.heap.size = w.heap.size + 1 + 1 + 1 := by rw [hW2]; simp [s1]
  have cx : Cel (w.heap.size + 1) 5 #[.int .u8 (x : Int)] W1 := by
    rw [hW1]
    have := Cel.new (w.alloc (.cells #[.int .u8 (e0 : Int), .int .u8 (e1 : Int), .int .u8 (e2 : Int), .int .u8 (e3 : Int)] 44)) 5 #[.int .u8 (x : Int)]
    simpa using this
  have cy : Cel (w.heap.size + 1 + 1) 5 #[.int .u8 (y : Int)] W2 := by
    rw [hW2]
    have := Cel.new W1 5 #[.int .u8 (y : Int)]
    rwa [s1] at this
  have A2 : Cel w.heap.size 44 #[.int .u8 (e0 : Int), .int .u8 (e1 : Int), .int .u8 (e2 : Int), .int .u8 (e3 : Int)] W2 := by
    rw [hW2, hW1]
    exact ((Cel.new w 44 _).alloc _).alloc _
  have O2 : Off (fun c => w.heap.size ≤ c) w W2 := by
    rw [hW2, hW1]
    exact (((Off.refl _ w).alloc _).alloc _).alloc _
  have H1 : Hid _ := hW1
  have H2 : Hid _ := hW2
  have M1 : Hid _ := mix_any (some ⟨w.heap.size + 1, 0, none⟩) 1 1 (by omega) (fun _ => x) W1 (fun i hi => ⟨_, 0, rfl, hx, by rw [cx.cell]; simp [show i = 0 by omega]⟩)
  have M2 : Hid _ := mix_any (some ⟨w.heap.size + 1 + 1, 0, none⟩) 1 1 (by omega) (fun _ => y) W2 (fun i hi => ⟨_, 0, rfl, hy, by rw [cy.cell]; simp [show i = 0 by omega]⟩)
  clear hW1 hW2 cx cy
  go_enter Try.func8, Try.ntmps8
  go_wp2_with fail
  rw [← H1.out]
  refine Calls.mono M1.out ?_
  rintro e w5 ⟨rfl, hw5⟩
  rw [hw5]
  clear hw5 w5
  go_wp2_with fail
  rw [← H2.out]
  refine Calls.mono M2.out ?_
  rintro e w5 ⟨rfl, hw5⟩
  rw [hw5]
  clear hw5 w5 H1 H2 M1 M2 s1 W1
  have hs2 : w.heap.size < W2.heap.size := A2.lt
  clear s2
  -- the place
  have eL : IntKind.u64.wrap (len : Int) = (len : Int) := by rw [IntKind.wrap_u64]; omega
  have n0 : 0 ≤ (IntKind.u64.wrap at_).tmod (len : Int) ∧ (IntKind.u64.wrap at_).tmod (len : Int) < (len : Int) := by
    rw [IntKind.wrap_u64, Int.tmod_eq_emod_of_nonneg (by omega)]
    exact ⟨Int.emod_nonneg _ (by omega), Int.emod_lt_of_pos _ (by omega)⟩
  obtain ⟨p, ep⟩ := Int.eq_ofNat_of_zero_le n0.1
  have hp : p < len := by omega
  clear n0
  have hl0 : ¬ (len : Int) = 0 := by omega
  have HS : Hid (∀ w', Off (fun c => w.heap.size ≤ c) w w' → ∀ i, i < len → w'.cell? ⟨sb, so + i, none⟩ = some (.int .u8 (B i))) := by
    intro w' o i hi
    exact (World.cell?_of_block (a := ⟨sb, so + i, none⟩) (o.block sb hsb (by omega))).trans (HZ.out i hi)
  have O3 : Off (fun c => w.heap.size ≤ c) w (W2.alloc (.cells #[] 5)) := O2.alloc _
  have hsrc : ∀ j u, (vals B len)[j]? = some u → (W2.alloc (.cells #[] 5)).cell? ((⟨sb, so, none⟩ : Addr).add j) = some u := by
    intro j u hu
    have hj : j < len := by
      obtain ⟨h, -⟩ := List.getElem?_eq_some_iff.1 hu
      simpa [vals] using h
    rw [vals_get _ _ _ hj] at hu
    rw [← hu, show (⟨sb, so, none⟩ : Addr).add j = ⟨sb, so + j, none⟩ from by simp [Addr.add]]
    exact HS.out _ O3 j hj
  have HR : Hid _ := hsrc
  clear hsrc HZ
  go_wp2_with (at_builtin; refine wpList_append_own _ rfl (.tmp 28) (.tmp 29) 30 rfl W2.heap.size 5 i0 (.int .u8 0) 1 1 Try.underlying30 hi hz0 hz1 hz2 rfl (by decide) _ _ _ rfl (World.ownsRow_lit W2 #[] 0 (Nat.le_refl _) (by decide) rfl) ⟨sb, so, none⟩ len cap (vals B len) rfl (vals_len B len) HR.out (vals_one B len) (by unfold maxLen; omega) (by omega) (by simp) ?_; intro v w3 own3 grow3 hnil; clear hnil; simp only [List.nil_append, Nat.zero_add] at own3; obtain ⟨g, cc, ev⟩ := own_shape own3 hpos; subst ev)
  have o3 : Off (fun c => W2.heap.size ≤ c) W2 w3 := grow_lit grow3
  have A3 := A2.off o3 (by omega)
  have O3' := O2.trans o3 (fun _ _ h => by omega)
  rw [← turned_zero B (four e0 e1 e2 e3) p] at own3
  have HE : Hid _ := four_lt h0 h1 h2 h3
  clear grow3 o3 A2 O2 O3 HR hmix
  go_loopw [12] (fun i wr => ∃ (j : Nat), j ≤ 4 ∧ p + j ≤ len ∧ i = .int .i64 j ∧ wr.ownsRow W2.heap.size 5 1 (.slice (some ⟨g, 0, none⟩) len cc) len (vals (turned B (four e0 e1 e2 e3) p j) len) ∧ Cel w.heap.size 44 #[.int .u8 (e0 : Int), .int .u8 (e1 : Int), .int .u8 (e2 : Int), .int .u8 (e3 : Int)] wr ∧ Off (fun c => w.heap.size ≤ c) w wr) (fun i _ => (4 - intOf i).toNat)
  case atStart => exact ⟨0, by omega, by omega, rfl, own3, A3, O3'⟩
  case round =>
    clear own3 A3 O3'
    obtain ⟨j, hj, hpj, rfl, own, A, O⟩ := hrel
    by_cases hlt : j < 4 ∧ p + j < len
    · have l1 := hlt.1
      have l2 := hlt.2
      clear hlt
      have c1 := (World.ownsRow.cellAt own (p + j) (by omega)).trans (vals_get _ _ _ l2)
      rw [turned_next] at c1
      have f1 := World.ownsRow.frozenAt own (p + j)
      have c2 := four_cell A l1
      have own' := (World.ownsRow.stored (w := wr.drew) own (p + j) (.int .u8 ((B (p + j) ^^^ four e0 e1 e2 e3 j : Nat) : Int))).1
      rw [turned_set] at own'
      have A' := Cel.other (w := wr.drew) A (p := ⟨g, p + j, none⟩) (by have := (own_block own).1; simp; omega) (.int .u8 ((B (p + j) ^^^ four e0 e1 e2 e3 j : Nat) : Int))
      have O' := (O.drew).setCell (p := ⟨g, p + j, none⟩) (.inl (by have := (own_block own).1; simp; omega)) (.int .u8 ((B (p + j) ^^^ four e0 e1 e2 e3 j : Nat) : Int))
      have ex : bits .xor .u8 ((B (p + j) : Nat) : Int) ((four e0 e1 e2 e3 j : Nat) : Int) = ((B (p + j) ^^^ four e0 e1 e2 e3 j : Nat) : Int) := u8_xor_nat _ _ (hB _ l2) (HE.out j)
      have R : Hid (_ ∧ _ ∧ _) := ⟨own', A', O'⟩
      clear own' A' O' own A O
      go_wp2_with fail
      go_region
      go_wp2_with fail
      go_roundw
      case rel => exact ⟨j + 1, by omega, by omega, by go_num, R.out.1, R.out.2.1, R.out.2.2⟩
      case measure => simp [intOf]; omega
    · have hg := own_block own
      obtain ⟨C, eC⟩ : ∃ C, C = turned B (four e0 e1 e2 e3) p j := ⟨_, rfl⟩
      have hC : ∀ i, i < len → C i < 256 := fun i hi => eC ▸ turned_lt (hB i hi) HE.out
      have hout : ∀ i, i < len → ¬ (p ≤ i ∧ i < p + 4) → B i = C i := by
        intro i hi hn
        rw [eC]
        unfold turned
        rw [if_neg (by omega)]
      have cC : ∀ i, i < len → wr.cell? ⟨g, i, none⟩ = some (.int .u8 ((C i : Nat) : Int)) := fun i hi => by
        rw [eC]
        exact (World.ownsRow.cellAt own i (by omega)).trans (vals_get _ _ _ hi)
      have cB := HS.out wr O
      have hstr := same_strings (hB := hB) (hC := hC) (hout := hout) (by omega)
      have K1 : Hid _ := conv_lies B len sb so cap
      have K2 : Hid _ := conv_lies C len g 0 cc
      have HC : Hid _ := hC
      have CC : Hid _ := cC
      have CB : Hid _ := cB
      clear own A hout eC hC cC cB
      have l4 : j = 4 ∨ (j < 4 ∧ p + j = len) := by omega
      clear hlt
      rcases l4 with l4 | ⟨l4, l5⟩
      · have hd : decide ((j : Int) < 4) = false := by simp; omega
        go_wp2_with fail
        obtain ⟨S, eS⟩ : ∃ S : World → Prop, S = fun w' => (∀ i, i < len → w'.cell? ⟨sb, so + i, none⟩ = some (.int .u8 ((B i : Nat) : Int))) ∧ ∀ i, i < len → w'.cell? ⟨g, 0 + i, none⟩ = some (.int .u8 ((C i : Nat) : Int)) := ⟨_, rfl⟩
        have hS0 : S wr.drew := by
          rw [eS]
          exact ⟨CB.out, fun i hi => by rw [Nat.zero_add]; exact CC.out i hi⟩
        have hkeep : ∀ w', Off (fun c => wr.heap.size ≤ c) wr w' → S w' := by
          intro w' o
          rw [eS]
          refine ⟨fun i hi => ?_, fun i hi => ?_⟩
          · have h := CB.out i hi
            exact (World.cell?_of_block (a := ⟨sb, so + i, none⟩) (o.block sb (cell_lt h) (by have := cell_lt h; simp only at this; omega))).trans h
          · have h := CC.out i hi
            rw [Nat.zero_add]
            exact (World.cell?_of_block (a := ⟨g, i, none⟩) (o.block g hg.2 (by omega))).trans h
        have y8 : ∀ w', S w' → (convert 30 9 (.slice (some ⟨sb, so, none⟩) len cap)).run Try.prog w' = .ok (.string (strOfNums (nums B len))) w' := fun w' h => K1.out w' (by rw [eS] at h; exact h.1)
        have y10 : ∀ w', S w' → (convert 30 9 (.slice (some ⟨g, 0, none⟩) len cc)).run Try.prog w' = .ok (.string (strOfNums (nums C len))) w' := fun w' h => K2.out w' (by rw [eS] at h; exact h.2)
        have HKP : Hid _ := hkeep
        have HES : Hid _ := eS
        clear hkeep eS K1 K2
        refine wp_region_held_drew (S := S) (by kernel_rfl) hS0 (fun hS => ?_)
        refine wpAnyH_take (i := 1) (v := .slice (some ⟨sb, so, none⟩) len cap) rfl (by kernel_rfl) (by kernel_rfl) (by kernel_rfl) (fun _ _ _ h => h) (Or.inl ⟨by rfl, fun _ _ => rfl⟩) hS ?_
        refine wpAnyH_take (i := 4) (v := .slice (some ⟨g, 0, none⟩) len cc) rfl (by kernel_rfl) (by kernel_rfl) (by kernel_rfl) (fun _ _ _ h => h) (Or.inl ⟨by rfl, fun _ _ => rfl⟩) hS ?_
        refine wpAnyH_take (i := 7) (v := .slice (some ⟨sb, so, none⟩) len cap) rfl (by kernel_rfl) (by kernel_rfl) (by kernel_rfl) (fun _ _ _ h => h) (Or.inl ⟨by rfl, fun _ _ => rfl⟩) hS ?_
        refine wpAnyH_take (i := 9) (v := .slice (some ⟨g, 0, none⟩) len cc) rfl (by kernel_rfl) (by kernel_rfl) (by kernel_rfl) (fun _ _ _ h => h) (Or.inl ⟨by rfl, fun _ _ => rfl⟩) hS ?_
        refine wpAnyH_take (i := 8) (v := .string (strOfNums (nums B len))) rfl (by kernel_rfl) (by kernel_rfl) (by kernel_rfl) (fun _ _ _ h => h) (Or.inl ⟨by rfl, fun w' hw' => by have e := y8 w' hw'; go_simp⟩) hS ?_
        refine wpAnyH_take (i := 10) (v := .string (strOfNums (nums C len))) rfl (by kernel_rfl) (by kernel_rfl) (by kernel_rfl) (fun _ _ _ h => h) (Or.inl ⟨by rfl, fun w' hw' => by have e := y10 w' hw'; go_simp⟩) hS ?_
        refine wpAnyH_take (i := 11) (v := .bool ((strOfNums (nums B len)).toList == (strOfNums (nums C len)).toList)) rfl (by kernel_rfl) (by kernel_rfl) (by kernel_rfl) (fun _ _ _ h => h) (Or.inl ⟨by rfl, fun w' hw' => by go_simp⟩) hS ?_
        clear y8 y10
        refine wpAnyH_ready (rs := [0]) (by kernel_rfl) (by simp) ?_
        refine AllReadyH.cons rfl (fun K' hK' => ?_) AllReadyH.nil
        go_simp
        refine (poly_any wr.drew).mono ?_
        rintro e v1 ⟨rfl, t1, p1⟩
        have R1 : Off (fun c => wr.heap.size ≤ c) wr v1 := ((Off.refl _ wr).drew).trans p1 (fun _ _ h => h.elim)
        refine hK'.out _ _ (HKP.out v1 R1) (fun hS1 => ?_)
        clear hK' K' p1 hS hS0
        refine wpAnyH_ready (rs := [2]) (by kernel_rfl) (by simp) ?_
        refine AllReadyH.cons rfl (fun K' hK' => ?_) AllReadyH.nil
        go_simp
        refine (sum_poly wr.drew.heap.size (some ⟨sb, so, none⟩) len cap (by omega) B v1 t1 (fun i hi => by
          have h := HES.out ▸ hS1
          exact ⟨hB i hi, sb, so, rfl, by have := cell_lt (CB.out i hi); simp only at this; show sb ≠ wr.heap.size; omega, h.1 i hi⟩)).mono ?_
        rintro e v2 ⟨rfl, p2⟩
        have R2 : Off (fun c => wr.heap.size ≤ c) wr v2 := R1.trans p2 (fun _ _ h => by have h' : _ = wr.heap.size := h; omega)
        refine hK'.out _ _ (HKP.out v2 R2) (fun hS2 => ?_)
        clear hK' K' p2 hS1 R1 t1
        refine wpAnyH_ready (rs := [3]) (by kernel_rfl) (by simp) ?_
        refine AllReadyH.cons rfl (fun K' hK' => ?_) AllReadyH.nil
        go_simp
        refine (poly_any v2).mono ?_
        rintro e v3 ⟨rfl, t3, p3⟩
        have R3 : Off (fun c => wr.heap.size ≤ c) wr v3 := R2.trans p3 (fun _ _ h => h.elim)
        have r2 := R2.size
        refine hK'.out _ _ (HKP.out v3 R3) (fun hS3 => ?_)
        clear hK' K' p3 hS2 R2
        refine wpAnyH_ready (rs := [5]) (by kernel_rfl) (by simp) ?_
        refine AllReadyH.cons rfl (fun K' hK' => ?_) AllReadyH.nil
        go_simp
        refine (sum_poly v2.heap.size (some ⟨g, 0, none⟩) len cc (by omega) C v3 t3 (fun i hi => by
          have h := HES.out ▸ hS3
          exact ⟨HC.out i hi, g, 0, rfl, by omega, h.2 i hi⟩)).mono ?_
        rintro e v4 ⟨rfl, p4⟩
        have R4 : Off (fun c => wr.heap.size ≤ c) wr v4 := R3.trans p4 (fun _ _ h => by omega)
        refine hK'.out _ _ (HKP.out v4 R4) (fun hS4 => ?_)
        clear hK' K' p4 hS3 R3 t3
        refine wpAnyH_take (i := 6) (v := .bool (((crc entry B len : Nat) : Int) == ((crc entry C len : Nat) : Int))) rfl (by kernel_rfl) (by kernel_rfl) (by kernel_rfl) (fun _ _ _ h => h) (Or.inl ⟨by rfl, fun w' hw' => by clear hstr; go_simp⟩) hS4 ?_
        refine wpAnyH_take (i := 12) (v := .bool true) rfl (by kernel_rfl) (by kernel_rfl) (by kernel_rfl) (fun _ _ _ h => h) (Or.inl ⟨by rfl, fun w' hw' => by go_simp⟩) hS4 ?_
        refine wpAnyH_take (i := 13) (v := .bool true) rfl (by kernel_rfl) (by kernel_rfl) (by kernel_rfl) (fun _ _ _ h => h) (Or.inl ⟨by rfl, fun w' hw' => by go_simp⟩) hS4 ?_
        refine wpAnyH_ready (rs := [14]) (by kernel_rfl) (by simp) ?_
        refine AllReadyH.cons rfl (fun K' hK' => ?_) AllReadyH.nil
        go_simp
        refine (awake_any v4).mono ?_
        rintro e v5 ⟨rfl, p5⟩
        have R5 : Off (fun c => wr.heap.size ≤ c) wr v5 := R4.trans p5 (fun _ _ h => h.elim)
        refine hK'.out _ _ (HKP.out v5 R5) (fun hS5 => ?_)
        clear hK' K' p5 hS4 R4
        refine wpAnyH_take (i := 15) (v := .bool true) rfl (by kernel_rfl) (by kernel_rfl) (by kernel_rfl) (fun _ _ _ h => h) (Or.inl ⟨by rfl, fun w' hw' => by go_simp⟩) hS5 ?_
        refine wpAnyH_take (i := 16) (v := .bool true) rfl (by kernel_rfl) (by kernel_rfl) (by kernel_rfl) (fun _ _ _ h => h) (Or.inl ⟨by rfl, fun w' hw' => by go_simp⟩) hS5 ?_
        refine wpAnyH_done (by kernel_rfl) ?_ _
        go_wp2_with fail
        go_ret
        exact ⟨rfl, (O.trans R5 (fun _ _ h => by have := O.size; omega)).below (Nat.le_refl _) (fun _ h => h)⟩
      · have l6 : (p : Int) + (j : Int) = (len : Int) := by omega
        have hd : decide ((p : Int) + (j : Int) < (len : Int)) = false := by simp; omega
        clear l5 l6
        go_wp2_with fail
        obtain ⟨S, eS⟩ : ∃ S : World → Prop, S = fun w' => (∀ i, i < len → w'.cell? ⟨sb, so + i, none⟩ = some (.int .u8 ((B i : Nat) : Int))) ∧ ∀ i, i < len → w'.cell? ⟨g, 0 + i, none⟩ = some (.int .u8 ((C i : Nat) : Int)) := ⟨_, rfl⟩
        have hS0 : S wr.drew := by
          rw [eS]
          exact ⟨CB.out, fun i hi => by rw [Nat.zero_add]; exact CC.out i hi⟩
        have hkeep : ∀ w', Off (fun c => wr.heap.size ≤ c) wr w' → S w' := by
          intro w' o
          rw [eS]
          refine ⟨fun i hi => ?_, fun i hi => ?_⟩
          · have h := CB.out i hi
            exact (World.cell?_of_block (a := ⟨sb, so + i, none⟩) (o.block sb (cell_lt h) (by have := cell_lt h; simp only at this; omega))).trans h
          · have h := CC.out i hi
            rw [Nat.zero_add]
            exact (World.cell?_of_block (a := ⟨g, i, none⟩) (o.block g hg.2 (by omega))).trans h
        have y8 : ∀ w', S w' → (convert 30 9 (.slice (some ⟨sb, so, none⟩) len cap)).run Try.prog w' = .ok (.string (strOfNums (nums B len))) w' := fun w' h => K1.out w' (by rw [eS] at h; exact h.1)
        have y10 : ∀ w', S w' → (convert 30 9 (.slice (some ⟨g, 0, none⟩) len cc)).run Try.prog w' = .ok (.string (strOfNums (nums C len))) w' := fun w' h => K2.out w' (by rw [eS] at h; exact h.2)
        have HKP : Hid _ := hkeep
        have HES : Hid _ := eS
        clear hkeep eS K1 K2
        refine wp_region_held_drew (S := S) (by kernel_rfl) hS0 (fun hS => ?_)
        refine wpAnyH_take (i := 1) (v := .slice (some ⟨sb, so, none⟩) len cap) rfl (by kernel_rfl) (by kernel_rfl) (by kernel_rfl) (fun _ _ _ h => h) (Or.inl ⟨by rfl, fun _ _ => rfl⟩) hS ?_
        refine wpAnyH_take (i := 4) (v := .slice (some ⟨g, 0, none⟩) len cc) rfl (by kernel_rfl) (by kernel_rfl) (by kernel_rfl) (fun _ _ _ h => h) (Or.inl ⟨by rfl, fun _ _ => rfl⟩) hS ?_
        refine wpAnyH_take (i := 7) (v := .slice (some ⟨sb, so, none⟩) len cap) rfl (by kernel_rfl) (by kernel_rfl) (by kernel_rfl) (fun _ _ _ h => h) (Or.inl ⟨by rfl, fun _ _ => rfl⟩) hS ?_
        refine wpAnyH_take (i := 9) (v := .slice (some ⟨g, 0, none⟩) len cc) rfl (by kernel_rfl) (by kernel_rfl) (by kernel_rfl) (fun _ _ _ h => h) (Or.inl ⟨by rfl, fun _ _ => rfl⟩) hS ?_
        refine wpAnyH_take (i := 8) (v := .string (strOfNums (nums B len))) rfl (by kernel_rfl) (by kernel_rfl) (by kernel_rfl) (fun _ _ _ h => h) (Or.inl ⟨by rfl, fun w' hw' => by have e := y8 w' hw'; go_simp⟩) hS ?_
        refine wpAnyH_take (i := 10) (v := .string (strOfNums (nums C len))) rfl (by kernel_rfl) (by kernel_rfl) (by kernel_rfl) (fun _ _ _ h => h) (Or.inl ⟨by rfl, fun w' hw' => by have e := y10 w' hw'; go_simp⟩) hS ?_
        refine wpAnyH_take (i := 11) (v := .bool ((strOfNums (nums B len)).toList == (strOfNums (nums C len)).toList)) rfl (by kernel_rfl) (by kernel_rfl) (by kernel_rfl) (fun _ _ _ h => h) (Or.inl ⟨by rfl, fun w' hw' => by go_simp⟩) hS ?_
        clear y8 y10
        refine wpAnyH_ready (rs := [0]) (by kernel_rfl) (by simp) ?_
        refine AllReadyH.cons rfl (fun K' hK' => ?_) AllReadyH.nil
        go_simp
        refine (poly_any wr.drew).mono ?_
        rintro e v1 ⟨rfl, t1, p1⟩
        have R1 : Off (fun c => wr.heap.size ≤ c) wr v1 := ((Off.refl _ wr).drew).trans p1 (fun _ _ h => h.elim)
        refine hK'.out _ _ (HKP.out v1 R1) (fun hS1 => ?_)
        clear hK' K' p1 hS hS0
        refine wpAnyH_ready (rs := [2]) (by kernel_rfl) (by simp) ?_
        refine AllReadyH.cons rfl (fun K' hK' => ?_) AllReadyH.nil
        go_simp
        refine (sum_poly wr.drew.heap.size (some ⟨sb, so, none⟩) len cap (by omega) B v1 t1 (fun i hi => by
          have h := HES.out ▸ hS1
          exact ⟨hB i hi, sb, so, rfl, by have := cell_lt (CB.out i hi); simp only at this; show sb ≠ wr.heap.size; omega, h.1 i hi⟩)).mono ?_
        rintro e v2 ⟨rfl, p2⟩
        have R2 : Off (fun c => wr.heap.size ≤ c) wr v2 := R1.trans p2 (fun _ _ h => by have h' : _ = wr.heap.size := h; omega)
        refine hK'.out _ _ (HKP.out v2 R2) (fun hS2 => ?_)
        clear hK' K' p2 hS1 R1 t1
        refine wpAnyH_ready (rs := [3]) (by kernel_rfl) (by simp) ?_
        refine AllReadyH.cons rfl (fun K' hK' => ?_) AllReadyH.nil
        go_simp
        refine (poly_any v2).mono ?_
        rintro e v3 ⟨rfl, t3, p3⟩
        have R3 : Off (fun c => wr.heap.size ≤ c) wr v3 := R2.trans p3 (fun _ _ h => h.elim)
        have r2 := R2.size
        refine hK'.out _ _ (HKP.out v3 R3) (fun hS3 => ?_)
        clear hK' K' p3 hS2 R2
        refine wpAnyH_ready (rs := [5]) (by kernel_rfl) (by simp) ?_
        refine AllReadyH.cons rfl (fun K' hK' => ?_) AllReadyH.nil
        go_simp
        refine (sum_poly v2.heap.size (some ⟨g, 0, none⟩) len cc (by omega) C v3 t3 (fun i hi => by
          have h := HES.out ▸ hS3
          exact ⟨HC.out i hi, g, 0, rfl, by omega, h.2 i hi⟩)).mono ?_
        rintro e v4 ⟨rfl, p4⟩
        have R4 : Off (fun c => wr.heap.size ≤ c) wr v4 := R3.trans p4 (fun _ _ h => by omega)
        refine hK'.out _ _ (HKP.out v4 R4) (fun hS4 => ?_)
        clear hK' K' p4 hS3 R3 t3
        refine wpAnyH_take (i := 6) (v := .bool (((crc entry B len : Nat) : Int) == ((crc entry C len : Nat) : Int))) rfl (by kernel_rfl) (by kernel_rfl) (by kernel_rfl) (fun _ _ _ h => h) (Or.inl ⟨by rfl, fun w' hw' => by clear hstr; go_simp⟩) hS4 ?_
        refine wpAnyH_take (i := 12) (v := .bool true) rfl (by kernel_rfl) (by kernel_rfl) (by kernel_rfl) (fun _ _ _ h => h) (Or.inl ⟨by rfl, fun w' hw' => by go_simp⟩) hS4 ?_
        refine wpAnyH_take (i := 13) (v := .bool true) rfl (by kernel_rfl) (by kernel_rfl) (by kernel_rfl) (fun _ _ _ h => h) (Or.inl ⟨by rfl, fun w' hw' => by go_simp⟩) hS4 ?_
        refine wpAnyH_ready (rs := [14]) (by kernel_rfl) (by simp) ?_
        refine AllReadyH.cons rfl (fun K' hK' => ?_) AllReadyH.nil
        go_simp
        refine (awake_any v4).mono ?_
        rintro e v5 ⟨rfl, p5⟩
        have R5 : Off (fun c => wr.heap.size ≤ c) wr v5 := R4.trans p5 (fun _ _ h => h.elim)
        refine hK'.out _ _ (HKP.out v5 R5) (fun hS5 => ?_)
        clear hK' K' p5 hS4 R4
        refine wpAnyH_take (i := 15) (v := .bool true) rfl (by kernel_rfl) (by kernel_rfl) (by kernel_rfl) (fun _ _ _ h => h) (Or.inl ⟨by rfl, fun w' hw' => by go_simp⟩) hS5 ?_
        refine wpAnyH_take (i := 16) (v := .bool true) rfl (by kernel_rfl) (by kernel_rfl) (by kernel_rfl) (fun _ _ _ h => h) (Or.inl ⟨by rfl, fun w' hw' => by go_simp⟩) hS5 ?_
        refine wpAnyH_done (by kernel_rfl) ?_ _
        go_wp2_with fail
        go_ret
        exact ⟨rfl, (O.trans R5 (fun _ _ h => by have := O.size; omega)).below (Nat.le_refl _) (fun _ h => h)⟩

set_option maxRecDepth 100000 in
set_option maxHeartbeats 1000000 in
theorem tells_empty (ad : Option Addr) (cap : Nat) (at_ : Int) (e0 e1 e2 e3 x y : Nat) (hx : x < 256) (hy : y < 256) (w : World) :
    Calls Try.prog 8 #[.slice ad 0 cap, .int .i64 at_, .agg #[.int .u8 e0, .int .u8 e1, .int .u8 e2, .int .u8 e3], .int .u8 x, .int .u8 y] w fun e w' => e = .returned (.bool true) ∧ Below w.heap.size w w' := by
  have last := mix_last (B := fun _ => x) (C := fun _ => y) (n := 0) (fun i hi => by omega) hx hy
  have hmix : (((mixend (mixst (fun _ => x) 1) : Nat) : Int) == ((mixend (mixst (fun _ => y) 1) : Nat) : Int)) = (((x : Nat) : Int) == ((y : Nat) : Int)) := by
    by_cases e : x = y
    · subst e; simp
    · have n1 : ¬ mixend (mixst (fun _ => x) 1) = mixend (mixst (fun _ => y) 1) := fun h => e (last.1 h)
      rw [beq_eq_false_iff_ne.2 (by exact_mod_cast n1), beq_eq_false_iff_ne.2 (by exact_mod_cast e)]
  clear last
  obtain ⟨W1, hW1⟩ : ∃ W1, W1 = (w.alloc (.cells #[.int .u8 (e0 : Int), .int .u8 (e1 : Int), .int .u8 (e2 : Int), .int .u8 (e3 : Int)] 44)).alloc (.cells #[.int .u8 (x : Int)] 5) := ⟨_, rfl⟩
  have s1 : W1.heap.size = w.heap.size + 1 + 1 := by rw [hW1]; simp
  obtain ⟨W2, hW2⟩ : ∃ W2, W2 = W1.alloc (.cells #[.int .u8 (y : Int)] 5) := ⟨_, rfl⟩
  have s2 : W2.heap.size = w.heap.size + 1 + 1 + 1 := by rw [hW2]; simp [s1]
  have cx : Cel (w.heap.size + 1) 5 #[.int .u8 (x : Int)] W1 := by
    rw [hW1]
    have := Cel.new (w.alloc (.cells #[.int .u8 (e0 : Int), .int .u8 (e1 : Int), .int .u8 (e2 : Int), .int .u8 (e3 : Int)] 44)) 5 #[.int .u8 (x : Int)]
    simpa using this
  have cy : Cel (w.heap.size + 1 + 1) 5 #[.int .u8 (y : Int)] W2 := by
    rw [hW2]
    have := Cel.new W1 5 #[.int .u8 (y : Int)]
    rwa [s1] at this
  have A2 : Cel w.heap.size 44 #[.int .u8 (e0 : Int), .int .u8 (e1 : Int), .int .u8 (e2 : Int), .int .u8 (e3 : Int)] W2 := by
    rw [hW2, hW1]
    exact ((Cel.new w 44 _).alloc _).alloc _
  have O2 : Off (fun c => w.heap.size ≤ c) w W2 := by
    rw [hW2, hW1]
    exact (((Off.refl _ w).alloc _).alloc _).alloc _
  have H1 : Hid _ := hW1
  have H2 : Hid _ := hW2
  have M1 : Hid _ := mix_any (some ⟨w.heap.size + 1, 0, none⟩) 1 1 (by omega) (fun _ => x) W1 (fun i hi => ⟨_, 0, rfl, hx, by rw [cx.cell]; simp [show i = 0 by omega]⟩)
  have M2 : Hid _ := mix_any (some ⟨w.heap.size + 1 + 1, 0, none⟩) 1 1 (by omega) (fun _ => y) W2 (fun i hi => ⟨_, 0, rfl, hy, by rw [cy.cell]; simp [show i = 0 by omega]⟩)
  clear hW1 hW2 cx cy
  go_enter Try.func8, Try.ntmps8
  go_wp2_with fail
  rw [← H1.out]
  refine Calls.mono M1.out ?_
  rintro e w5 ⟨rfl, hw5⟩
  rw [hw5]
  clear hw5 w5
  go_wp2_with fail
  rw [← H2.out]
  refine Calls.mono M2.out ?_
  rintro e w5 ⟨rfl, hw5⟩
  rw [hw5]
  clear hw5 w5 H1 H2 M1 M2 s1 W1 A2 s2
  go_wp2_with fail
  refine (awake_any _).mono ?_
  rintro e w6 ⟨rfl, o6⟩
  go_wp2_with fail
  go_ret
  exact ⟨rfl, (O2.trans o6 (fun _ _ h => h.elim)).below (Nat.le_refl _) (fun _ h => h)⟩

theorem tells_walk (ad : Option Addr) (len cap : Nat) (zs : List Int) (at_ e0 e1 e2 e3 x y : Int) (w : World) (w0 : IsRow .u8 w ad len cap zs) (hreach : cap ≤ 140737488351232)
    (v0 : (Lit.int .u8 e0).wf = true) (v1 : (Lit.int .u8 e1).wf = true) (v2 : (Lit.int .u8 e2).wf = true) (v3 : (Lit.int .u8 e3).wf = true) (w3 : (Lit.int .u8 x).wf = true) (w4 : (Lit.int .u8 y).wf = true) :
    Calls Try.prog 8 #[.slice ad len cap, .int .i64 at_, .agg #[.int .u8 e0, .int .u8 e1, .int .u8 e2, .int .u8 e3], .int .u8 x, .int .u8 y] w fun e w' => e = .returned (.bool true) ∧ Below w.heap.size w w' := by
  obtain ⟨e0, rfl, h0⟩ := wf_byte v0
  obtain ⟨e1, rfl, h1⟩ := wf_byte v1
  obtain ⟨e2, rfl, h2⟩ := wf_byte v2
  obtain ⟨e3, rfl, h3⟩ := wf_byte v3
  obtain ⟨x, rfl, hx⟩ := wf_byte w3
  obtain ⟨y, rfl, hy⟩ := wf_byte w4
  have hlc : len ≤ cap := by
    rcases w0 with ⟨-, rfl, rfl, -⟩ | ⟨a, -, h, -⟩
    · omega
    · exact h
  by_cases hl : len = 0
  · subst hl
    exact tells_empty ad cap at_ e0 e1 e2 e3 x y hx hy w
  · obtain ⟨-, b, off, rfl, hb, -⟩ := w0.bytes 0 (by omega)
    refine tells_any b off len cap (by omega) (by omega) (bytesOf zs) (fun i hi => (w0.bytes i hi).1) at_ e0 e1 e2 e3 x y h0 h1 h2 h3 hx hy w hb (fun i hi => ?_)
    obtain ⟨-, b', off', he, -, hc⟩ := w0.bytes i hi
    simp only [Option.some.injEq, Addr.mk.injEq, and_true] at he
    obtain ⟨rfl, rfl⟩ := he
    exact hc
end Go.Proofs.Ytbeaebemfcfkhaa
