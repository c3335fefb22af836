/- The walk of LazySame. -/
import Derived.Test.YtbeaebemfcfkhabNum
import Derived.Test.YtbeaebemfcfkhabIsRow
namespace Go.Proofs.Ytbeaebemfcfkhab
open Go.RowKit

theorem same1 (j cb : Nat) (hj : j < 5000) (by_ : Int) (w : World) (hb : Cel cb 22 #[.int .u32 by_] w) :
    Calls Try.prog 5 #[.int .i64 j, .pointer (some ⟨cb, 0, none⟩)] w fun e w' => e = .returned (.int .u32 (((j : Int) + 7) * by_ % 4294967296)) ∧ w' = w := by
  have c3 := hb.cell 0
  simp at c3
  go_enter Try.func5, Try.ntmps5
  go_wp2
  go_ret
  exact ⟨rfl, rfl⟩

theorem same_makes (cb k : Nat) (hk : k ≤ 4096) (by_ : Int) :
    Makes 5 #[.pointer (some ⟨cb, 0, none⟩)] k (fun j => ((j : Int) + 7) * by_ % 4294967296) (fun c => c = cb) (fun _ => Cel cb 22 #[.int .u32 by_]) where
  call j hj w I := by
    refine Calls.mono (same1 j cb (by omega) by_ w I) ?_
    rintro e w' ⟨rfl, rfl⟩
    exact ⟨rfl, I, Off.refl _ _⟩
  keep E j w w' hE I o := I.off o (hE _ rfl)
  old j w I c h := by subst h; exact I.lt
  enters args w := fn_enters Try.func5 (by kernel_rfl) rfl args w

/-- The two tables of LazySame and what both are made of. -/
structure Two (xb yb cb k : Nat) (by_ : Int) (lo : Nat) (w : World) : Prop where
  x : St xb k (.func (.func 5) #[] #[.pointer (some ⟨cb, 0, none⟩)]) (fun j => ((j : Int) + 7) * by_ % 4294967296) lo w
  y : St yb k (.func (.func 5) #[] #[.pointer (some ⟨cb, 0, none⟩)]) (fun j => ((j : Int) + 7) * by_ % 4294967296) lo w
  c : Cel cb 22 #[.int .u32 by_] w
  lx : xb < lo
  ly : yb < lo
  lc : cb < lo
  nxy : xb ≠ yb
  nxc : xb ≠ cb
  nyc : yb ≠ cb
  old : lo ≤ w.heap.size
  hk : k ≤ 4096

theorem Two.atx {xb yb cb k : Nat} {by_ : Int} {lo : Nat} {w : World} (h : Two xb yb cb k by_ lo w) (i : Int) :
    Calls Try.prog 7 #[.pointer (some ⟨xb, 0, none⟩), .int .i64 i] w fun e w' => e = .returned (.int .u32 (told (fun j => ((j : Int) + 7) * by_ % 4294967296) k i)) ∧
      Two xb yb cb k by_ lo w' ∧ ((0 ≤ i ∧ i < k) ∨ (∃ r, lo ≤ r ∧ Full xb r k k (fun j => ((j : Int) + 7) * by_ % 4294967296) w) → ∃ r, lo ≤ r ∧ Full xb r k k (fun j => ((j : Int) + 7) * by_ % 4294967296) w') ∧
      ((∃ r, lo ≤ r ∧ Full yb r k k (fun j => ((j : Int) + 7) * by_ % 4294967296) w) → ∃ r, lo ≤ r ∧ Full yb r k k (fun j => ((j : Int) + 7) * by_ % 4294967296) w') ∧ Off (fun c => c = xb ∨ c = cb) w w' := by
  by_cases hi : 0 ≤ i ∧ i < k
  · refine (at_st xb k h.hk 5 _ _ _ _ lo i w h.x (same_makes cb k h.hk by_) h.c h.nxc h.old).mono ?_
    rintro e w' ⟨rfl, s, f, c', o⟩
    have hne := h.nxy
    have h1 := h.nyc
    have h2 := h.lx
    have h3 := h.lc
    exact ⟨rfl, ⟨s, h.y.off o (by omega) (fun r hr => by omega), c', h.lx, h.ly, h.lc, h.nxy, h.nxc, h.nyc, Nat.le_trans h.old o.size, h.hk⟩, fun _ => f hi, fun ⟨r, hr, f⟩ => ⟨r, hr, f.off o (by omega) (by omega)⟩, o⟩
  · obtain ⟨fv, d, s, nums, m, t⟩ : ∃ fv d s nums m, Tb xb k fv d s nums m w := by
      rcases h.x with ⟨nums, t⟩ | ⟨r, hl, ⟨fv, t⟩, -⟩
      · exact ⟨_, _, _, _, _, t⟩
      · exact ⟨_, _, _, _, _, t⟩
    refine (at_out xb k fv d s nums m i w t (by omega)).mono ?_
    rintro e w' ⟨rfl, rfl⟩
    exact ⟨by simp [told, hi], h, fun h' => h'.elim (fun h'' => absurd h'' hi) id, id, Off.refl _ _⟩
theorem Two.aty {xb yb cb k : Nat} {by_ : Int} {lo : Nat} {w : World} (h : Two xb yb cb k by_ lo w) (i : Int) :
    Calls Try.prog 7 #[.pointer (some ⟨yb, 0, none⟩), .int .i64 i] w fun e w' => e = .returned (.int .u32 (told (fun j => ((j : Int) + 7) * by_ % 4294967296) k i)) ∧
      Two xb yb cb k by_ lo w' ∧ ((0 ≤ i ∧ i < k) ∨ (∃ r, lo ≤ r ∧ Full yb r k k (fun j => ((j : Int) + 7) * by_ % 4294967296) w) → ∃ r, lo ≤ r ∧ Full yb r k k (fun j => ((j : Int) + 7) * by_ % 4294967296) w') ∧
      ((∃ r, lo ≤ r ∧ Full xb r k k (fun j => ((j : Int) + 7) * by_ % 4294967296) w) → ∃ r, lo ≤ r ∧ Full xb r k k (fun j => ((j : Int) + 7) * by_ % 4294967296) w') ∧ Off (fun c => c = yb ∨ c = cb) w w' := by
  by_cases hi : 0 ≤ i ∧ i < k
  · refine (at_st yb k h.hk 5 _ _ _ _ lo i w h.y (same_makes cb k h.hk by_) h.c h.nyc h.old).mono ?_
    rintro e w' ⟨rfl, s, f, c', o⟩
    have hne := h.nxy
    have h1 := h.nxc
    have h2 := h.ly
    have h3 := h.lc
    exact ⟨rfl, ⟨h.x.off o (by omega) (fun r hr => by omega), s, c', h.lx, h.ly, h.lc, h.nxy, h.nxc, h.nyc, Nat.le_trans h.old o.size, h.hk⟩, fun _ => f hi, fun ⟨r, hr, f⟩ => ⟨r, hr, f.off o (by omega) (by omega)⟩, o⟩
  · obtain ⟨fv, d, s, nums, m, t⟩ : ∃ fv d s nums m, Tb yb k fv d s nums m w := by
      rcases h.y with ⟨nums, t⟩ | ⟨r, hl, ⟨fv, t⟩, -⟩
      · exact ⟨_, _, _, _, _, t⟩
      · exact ⟨_, _, _, _, _, t⟩
    refine (at_out yb k fv d s nums m i w t (by omega)).mono ?_
    rintro e w' ⟨rfl, rfl⟩
    exact ⟨by simp [told, hi], h, fun h' => h'.elim (fun h'' => absurd h'' hi) id, id, Off.refl _ _⟩

/-- All of both has been made (if there is anything to make). -/
def Both (xb yb k : Nat) (by_ : Int) (lo : Nat) (w : World) : Prop :=
  (∃ r, lo ≤ r ∧ Full xb r k k (fun j => ((j : Int) + 7) * by_ % 4294967296) w) ∧ ∃ r, lo ≤ r ∧ Full yb r k k (fun j => ((j : Int) + 7) * by_ % 4294967296) w

theorem St.made {b k : Nat} {fv : Value} {F : Nat → Int} {lo : Nat} {w : World} (h : St b k fv F lo w) (hf : 0 < k → ∃ r, lo ≤ r ∧ Full b r k k F w) :
    Calls Try.prog 8 #[.pointer (some ⟨b, 0, none⟩)] w fun e w' => e = .returned (.int .i64 (k : Int)) ∧ w' = w := by
  by_cases hk : 0 < k
  · obtain ⟨r, -, ⟨⟨fv, t⟩, -⟩⟩ := hf hk
    exact made_any _ _ _ _ _ _ _ _ t
  · obtain rfl : k = 0 := by omega
    rcases h with ⟨nums, t⟩ | ⟨r, -, ⟨⟨fv, t⟩, -⟩⟩
    · exact made_any _ _ _ _ _ _ _ _ t
    · exact made_any _ _ _ _ _ _ _ _ t

set_option maxRecDepth 100000 in
set_option maxHeartbeats 2000000 in
theorem same_any (n by_ : Int) (ad : Option Addr) (la ca : Nat) (hla : la ≤ 9223372036854775807) (za : List Int) (bd : Option Addr) (lb cb : Nat) (hlb : lb ≤ 9223372036854775807) (zb : List Int) (w : World)
    (hza : ∀ i, i < la → ∃ b off, ad = some ⟨b, off, none⟩ ∧ b < w.heap.size ∧ w.cell? ⟨b, off + i, none⟩ = some (.int .i64 (za.getD i 0)))
    (hzb : ∀ i, i < lb → ∃ b off, bd = some ⟨b, off, none⟩ ∧ b < w.heap.size ∧ w.cell? ⟨b, off + i, none⟩ = some (.int .i64 (zb.getD i 0))) :
    Calls Try.prog 3 #[.int .i64 n, .int .u32 by_, .slice ad la ca, .slice bd lb cb] w fun e w' => e = .returned (.bool true) ∧ Below w.heap.size w w' := by
  have hmf : ∀ (fn : Fn) (first cap : Array Value) (w : World), (Instr.makeFunc fn first cap).run Try.prog w = .ok (.func fn first cap) w := fun _ _ _ _ => rfl
  have HA : Hid (∀ w', Off (fun c => w.heap.size ≤ c) w w' → ∀ i, i < la → ∃ b off, ad = some ⟨b, off, none⟩ ∧ w'.cell? ⟨b, off + i, none⟩ = some (.int .i64 (za.getD i 0))) := by
    intro w' o i hi
    obtain ⟨b, off, h2, h3, h4⟩ := hza i hi
    exact ⟨b, off, h2, (World.cell?_of_block (a := ⟨b, off + i, none⟩) (o.block b h3 (by omega))).trans h4⟩
  have HB : Hid (∀ w', Off (fun c => w.heap.size ≤ c) w w' → ∀ i, i < lb → ∃ b off, bd = some ⟨b, off, none⟩ ∧ w'.cell? ⟨b, off + i, none⟩ = some (.int .i64 (zb.getD i 0))) := by
    intro w' o i hi
    obtain ⟨b, off, h2, h3, h4⟩ := hzb i hi
    exact ⟨b, off, h2, (World.cell?_of_block (a := ⟨b, off + i, none⟩) (o.block b h3 (by omega))).trans h4⟩
  clear hza hzb
  have n0 : 0 ≤ (IntKind.u64.wrap n).tmod 300 ∧ (IntKind.u64.wrap n).tmod 300 < 300 := by
    rw [IntKind.wrap_u64, Int.tmod_eq_emod_of_nonneg (by omega)]
    omega
  obtain ⟨k, ek⟩ := Int.eq_ofNat_of_zero_le n0.1
  have hk : k < 300 := by omega
  clear n0
  obtain ⟨m, em⟩ : ∃ m : Nat, m = max la lb := ⟨_, rfl⟩
  have hm1 : ∀ (ts : Array TypeId) (t : TypeId) (W : World), (Builtin.max_ ts t #[.int .i64 (la : Int), .int .i64 (lb : Int)]).run Try.prog W = .ok (.int .i64 (m : Int)) W := fun ts t W => by
    rw [run_max_int2, em]; congr 2; omega
  have hm : m ≤ 9223372036854775807 := by omega
  clear em
  have N : Hid _ := new_fn (k : Int) (.func 5) #[] #[.pointer (some ⟨w.heap.size, 0, none⟩)] (w.alloc (.cells #[.int .u32 by_] 22))
  rw [show min (max (k : Int) 0) 4096 = (k : Int) by omega, show (w.alloc (.cells #[.int .u32 by_] 22)).heap.size = w.heap.size + 1 by simp] at N
  have vC := Cel.new w 22 #[.int .u32 by_]
  have vO : Off (fun c => w.heap.size ≤ c) w (w.alloc (.cells #[.int .u32 by_] 22)) := (Off.refl _ w).alloc _
  go_enter Try.func3, Try.ntmps3
  go_wp2_with fail
  refine Calls.mono N.out ?_
  rintro e w1 ⟨rfl, t1, o1⟩
  have C1 := vC.off o1 id
  have O1 : Off (fun c => w.heap.size ≤ c) w w1 := vO.trans o1 (fun _ _ h => h.elim)
  clear vC vO o1 N
  go_wp2_with fail
  refine Calls.mono (new_fn (k : Int) (.func 5) #[] #[.pointer (some ⟨w.heap.size, 0, none⟩)] w1) ?_
  rintro e w2 ⟨rfl, t2, o2⟩
  rw [show min (max (k : Int) 0) 4096 = (k : Int) by omega] at t2
  have hs1 := t1.lt
  have hs2 := t2.lt
  obtain ⟨yb, eyb⟩ : ∃ yb, yb = w1.heap.size := ⟨_, rfl⟩
  obtain ⟨lo, elo⟩ : ∃ lo, lo = w2.heap.size := ⟨_, rfl⟩
  rw [← eyb] at t2 hs1 hs2 ⊢
  rw [← elo] at hs2
  have T2 : Two (w.heap.size + 1) yb w.heap.size k by_ lo w2 := ⟨.inl ⟨_, t1.off o2 id⟩, .inl ⟨_, t2⟩, C1.off o2 id, by omega, by omega, by omega, by omega, by omega, by omega, by omega, by omega⟩
  have O2 : Off (fun c => w.heap.size ≤ c) w w2 := O1.trans o2 (fun _ _ h => h.elim)
  clear t1 t2 C1 O1 o2 eyb elo
  go_wp2_with fail
  clear hm1
  go_loopw [30] (fun i wr => ∃ (j : Nat), j ≤ m ∧ i = .int .i64 j ∧ Two (w.heap.size + 1) yb w.heap.size k by_ lo wr ∧ Off (fun c => w.heap.size ≤ c) w wr) (fun i _ => (m - intOf i).toNat)
  case atStart => exact ⟨0, by omega, rfl, T2, O2⟩
  case round =>
    clear T2 O2
    obtain ⟨j, hj, rfl, T, O⟩ := hrel
    have hs3 := T.old
    have hnx := T.nxc
    by_cases hlt : j < m
    · by_cases h40 : 40 ≤ j
      · have hd : decide ((40 : Int) ≤ (j : Int)) = true := by simp; omega
        go_wp2_with fail
        go_loopw [13] (fun i wr => ∃ (z : Int), -1 ≤ z ∧ z ≤ (k : Int) + 1 ∧ i = .int .i64 z ∧ Two (w.heap.size + 1) yb w.heap.size k by_ lo wr ∧ Off (fun c => w.heap.size ≤ c) w wr ∧ (0 < k ∧ 0 < z → Both (w.heap.size + 1) yb k by_ lo wr)) (fun i _ => ((k : Int) + 1 - intOf i).toNat)
        case atStart => exact ⟨-1, by omega, by omega, rfl, T, O, fun h => by omega⟩
        case round =>
          clear T O
          obtain ⟨z, hz1, hz2, rfl, T, O, hB⟩ := hrel
          by_cases hzk : z ≤ (k : Int)
          · go_wp2_with fail
            refine (T.atx z).mono ?_
            rintro e w3 ⟨rfl, T3, fx3, fy3, o3⟩
            go_wp2_with fail
            refine (T3.aty z).mono ?_
            rintro e w4 ⟨rfl, T4, fy4, fx4, o4⟩
            have HF : Hid (0 < k ∧ 0 < z + 1 → Both (w.heap.size + 1) yb k by_ lo w4) := by
              rintro ⟨hk0, hz0⟩
              by_cases h0 : z = 0
              · exact ⟨fx4 (fx3 (.inl (by omega))), fy4 (.inl (by omega))⟩
              · have hb := hB ⟨hk0, by omega⟩
                exact ⟨fx4 (fx3 (.inr hb.1)), fy4 (.inr (fy3 hb.2))⟩
            have O4 := (O.trans o3 (fun i hi h => by omega)).trans o4 (fun i hi h => by omega)
            clear T T3 O o3 o4 fx3 fy3 fx4 fy4 hB
            go_wp2_with fail
            go_roundw
            case rel => exact ⟨z + 1, by omega, by omega, by go_num, T4, O4, HF.out⟩
            case measure => simp [intOf]; omega
          · obtain rfl : z = (k : Int) + 1 := by omega
            go_wp2_with fail
            refine (T.x.made (fun h => (hB ⟨h, by omega⟩).1)).mono ?_
            rintro e w3 ⟨rfl, hw3⟩
            rw [hw3]
            clear hw3 w3
            go_wp2_with fail
            refine (T.y.made (fun h => (hB ⟨h, by omega⟩).2)).mono ?_
            rintro e w3 ⟨rfl, hw3⟩
            rw [hw3]
            clear hw3 w3
            go_wp2_with fail
            refine (awake_any _).mono ?_
            rintro e w3 ⟨rfl, o3⟩
            go_wp2_with fail
            go_ret
            exact ⟨rfl, (O.trans o3 (fun _ _ h => h.elim)).below (Nat.le_refl _) (fun _ h => h)⟩
      · by_cases ha : j < la
        · obtain ⟨b, off, rfl, hc⟩ := HA.out wr O j ha
          generalize za.getD j 0 = z at *
          go_wp2_with fail
          refine (T.atx z).mono ?_
          rintro e w3 ⟨rfl, T3, -, -, o3⟩
          have O3 := O.trans o3 (fun i hi h => by omega)
          clear T O o3 hc
          by_cases hb : j < lb
          · obtain ⟨b2, off2, rfl, hc2⟩ := HB.out w3 O3 j hb
            generalize zb.getD j 0 = z2 at *
            go_wp2_with fail
            refine (T3.aty z2).mono ?_
            rintro e w4 ⟨rfl, T4, -, -, o4⟩
            have O4 := O3.trans o4 (fun i hi h => by omega)
            clear T3 O3 o4 hc2
            go_wp2_with fail
            go_roundw
            case rel => exact ⟨j + 1, by omega, by go_num, T4, O4⟩
            case measure => simp [intOf]; omega
          · go_wp2_with fail
            go_roundw
            case rel => exact ⟨j + 1, by omega, by go_num, T3, O3⟩
            case measure => simp [intOf]; omega
        · by_cases hb : j < lb
          · obtain ⟨b2, off2, rfl, hc2⟩ := HB.out wr O j hb
            generalize zb.getD j 0 = z2 at *
            go_wp2_with fail
            refine (T.aty z2).mono ?_
            rintro e w4 ⟨rfl, T4, -, -, o4⟩
            have O4 := O.trans o4 (fun i hi h => by omega)
            clear T O o4 hc2
            go_wp2_with fail
            go_roundw
            case rel => exact ⟨j + 1, by omega, by go_num, T4, O4⟩
            case measure => simp [intOf]; omega
          · go_wp2_with fail
            go_roundw
            case rel => exact ⟨j + 1, by omega, by go_num, T, O⟩
            case measure => simp [intOf]; omega
    · skip
      go_wp2_with fail
      go_loopw [13] (fun i wr => ∃ (z : Int), -1 ≤ z ∧ z ≤ (k : Int) + 1 ∧ i = .int .i64 z ∧ Two (w.heap.size + 1) yb w.heap.size k by_ lo wr ∧ Off (fun c => w.heap.size ≤ c) w wr ∧ (0 < k ∧ 0 < z → Both (w.heap.size + 1) yb k by_ lo wr)) (fun i _ => ((k : Int) + 1 - intOf i).toNat)
      case atStart => exact ⟨-1, by omega, by omega, rfl, T, O, fun h => by omega⟩
      case round =>
        clear T O
        obtain ⟨z, hz1, hz2, rfl, T, O, hB⟩ := hrel
        by_cases hzk : z ≤ (k : Int)
        · go_wp2_with fail
          refine (T.atx z).mono ?_
          rintro e w3 ⟨rfl, T3, fx3, fy3, o3⟩
          go_wp2_with fail
          refine (T3.aty z).mono ?_
          rintro e w4 ⟨rfl, T4, fy4, fx4, o4⟩
          have HF : Hid (0 < k ∧ 0 < z + 1 → Both (w.heap.size + 1) yb k by_ lo w4) := by
            rintro ⟨hk0, hz0⟩
            by_cases h0 : z = 0
            · exact ⟨fx4 (fx3 (.inl (by omega))), fy4 (.inl (by omega))⟩
            · have hb := hB ⟨hk0, by omega⟩
              exact ⟨fx4 (fx3 (.inr hb.1)), fy4 (.inr (fy3 hb.2))⟩
          have O4 := (O.trans o3 (fun i hi h => by omega)).trans o4 (fun i hi h => by omega)
          clear T T3 O o3 o4 fx3 fy3 fx4 fy4 hB
          go_wp2_with fail
          go_roundw
          case rel => exact ⟨z + 1, by omega, by omega, by go_num, T4, O4, HF.out⟩
          case measure => simp [intOf]; omega
        · obtain rfl : z = (k : Int) + 1 := by omega
          go_wp2_with fail
          refine (T.x.made (fun h => (hB ⟨h, by omega⟩).1)).mono ?_
          rintro e w3 ⟨rfl, hw3⟩
          rw [hw3]
          clear hw3 w3
          go_wp2_with fail
          refine (T.y.made (fun h => (hB ⟨h, by omega⟩).2)).mono ?_
          rintro e w3 ⟨rfl, hw3⟩
          rw [hw3]
          clear hw3 w3
          go_wp2_with fail
          refine (awake_any _).mono ?_
          rintro e w3 ⟨rfl, o3⟩
          go_wp2_with fail
          go_ret
          exact ⟨rfl, (O.trans o3 (fun _ _ h => h.elim)).below (Nat.le_refl _) (fun _ h => h)⟩

set_option linter.unusedVariables false in
theorem same_walk (n by_ : Int) (ad : Option Addr) (la ca : Nat) (za : List Int) (bd : Option Addr) (lb cb : Nat) (zb : List Int) (w : World) (w0 : (Lit.int .i64 n).wf = true) (w1 : (Lit.int .u32 by_).wf = true) (w2 : IsRow .i64 w ad la ca za) (w3 : IsRow .i64 w bd lb cb zb) :
    Calls Try.prog 3 #[.int .i64 n, .int .u32 by_, .slice ad la ca, .slice bd lb cb] w fun e w' => e = .returned (.bool true) ∧ Below w.heap.size w w' :=
  same_any n by_ ad la ca w2.len za bd lb cb w3.len zb w w2.cells w3.cells
end Go.Proofs.Ytbeaebemfcfkhab
