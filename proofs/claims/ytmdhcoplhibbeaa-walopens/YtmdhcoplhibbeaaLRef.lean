/- The contracts of the reference's Entry, Sum, Crc. -/
import Derived.Test.YtmdhcoplhibbeaaLNum
namespace Go.Proofs.Ytmdhcoplhibbeaa
open Go.RowKit

theorem entry_any (x : Nat) (hx : x < 4294967296) (w : World) :
    Calls Try.prog 38 #[.int .i64 x] w fun e w' => e = .returned (.int .u32 (entry x)) ∧ w' = w := by
  go_enter Try.func38, Try.ntmps38
  go_wp2
  go_loopw [3, 6] (fun l i wr => ∃ (j : Nat), j ≤ 8 ∧ i = .int .i64 j ∧ l = .int .u32 (shn j x) ∧ wr = w) (fun _ i _ => (8 - intOf i).toNat)
  case atStart => exact ⟨0, by omega, rfl, by simp [shn], rfl⟩
  case round =>
    obtain ⟨j, hj, rfl, rfl, rfl⟩ := hrel
    have hy := shn_lt j hx
    obtain ⟨y, hyy⟩ : ∃ y, y = shn j x := ⟨_, rfl⟩
    have HY : Hid _ := hyy
    rw [← hyy] at hy ⊢
    clear hyy
    by_cases hlt : j < 8
    · go_wp2
      · go_roundw
        case rel => exact ⟨j + 1, by omega, by go_num, by rw [half_odd hy (by assumption), HY.out]; rfl, trivial⟩
        case measure => simp [intOf]; omega
      · go_roundw
        case rel => exact ⟨j + 1, by omega, by go_num, by rw [half_even hy (by assumption), HY.out]; rfl, trivial⟩
        case measure => simp [intOf]; omega
    · obtain rfl : j = 8 := by omega
      go_wp2
      go_ret
      exact ⟨by rw [HY.out]; rfl, rfl⟩

/-- A table's numbers, beyond its end noughts. -/
def upTo (T : Nat → Nat) (k : Nat) (x : Nat) : Nat := if x < k then T x else 0
theorem upTo_lt {T : Nat → Nat} {k x : Nat} (h : ∀ x, x < k → T x < 4294967296) : upTo T k x < 4294967296 := by
  unfold upTo
  split
  · exact h x (by assumption)
  · omega

set_option maxHeartbeats 400000 in
theorem refsum_any (tad : Option Addr) (k tcap : Nat) (T : Nat → Nat) (hT : ∀ x, x < k → T x < 4294967296) (ad : Option Addr) (len cap : Nat) (hlen : len ≤ 9223372036854775807) (B : Nat → Nat) (w : World)
    (ht : ∀ i, i < k → ∃ g off, tad = some ⟨g, off, none⟩ ∧ w.cell? ⟨g, off + i, none⟩ = some (.int .u32 (T i)))
    (hz : ∀ i, i < len → B i < 256 ∧ ∃ b off, ad = some ⟨b, off, none⟩ ∧ w.cell? ⟨b, off + i, none⟩ = some (.int .u8 (B i))) :
    Calls Try.prog 39 #[.slice tad k tcap, .slice ad len cap] w fun e w' => e = .returned (.int .u32 (crc (upTo T k) B len)) ∧ w' = w := by
  have HZ : Hid _ := hz
  have HT : Hid _ := hT
  have HC : Hid _ := ht
  clear hz hT ht
  go_enter Try.func39, Try.ntmps39
  go_wp2
  go_loopw [5, 12] (fun l i wr => ∃ (j : Nat), j ≤ len ∧ i = .int .i64 j ∧ l = .int .u32 (crcst (upTo T k) B j) ∧ wr = w) (fun _ i _ => (len - intOf i).toNat)
  case atStart => exact ⟨0, by omega, rfl, rfl, rfl⟩
  case round =>
    obtain ⟨j, hj, rfl, rfl, rfl⟩ := hrel
    have hy := crcst_lt (T := upTo T k) (B := B) (fun x _ => upTo_lt HT.out) j (fun i hi => (HZ.out i (by omega)).1)
    obtain ⟨y, hyy⟩ : ∃ y, y = crcst (upTo T k) B j := ⟨_, rfl⟩
    have HY : Hid _ := hyy
    rw [← hyy] at hy ⊢
    clear hyy
    by_cases hlt : j < len
    · obtain ⟨hb, b, off, rfl, hc⟩ := HZ.out j hlt
      obtain ⟨X, hX⟩ : ∃ X, X = y % 256 ^^^ B j := ⟨_, rfl⟩
      have hx : X < 256 := hX ▸ byte_lt hb
      have e0 : bits .xor .u8 ((y : Int) % 256) (B j : Int) = (X : Int) := by
        have e := u8_xor_nat (y % 256) (B j) (by omega) hb
        rw [show ((y : Int) % 256) = ((y % 256 : Nat) : Int) from rfl, e, hX]
      have HX : Hid _ := hX
      clear hX
      by_cases hxk : X < k
      · obtain ⟨g, goff, rfl, hg⟩ := HC.out X hxk
        have hTX := HT.out X hxk
        go_wp2
        go_roundw
        case rel =>
          refine ⟨j + 1, by omega, by go_num, ?_, trivial⟩
          rw [show ((y : Int) / 256) = ((y / 256 : Nat) : Int) from rfl, bits_xor hTX (by omega), crcst, ← HY.out, ← HX.out, upTo, if_pos hxk]
        case measure => simp [intOf]; omega
      · go_wp2
        go_roundw
        case rel =>
          refine ⟨j + 1, by omega, by go_num, ?_, trivial⟩
          rw [show (0 : Int) = ((0 : Nat) : Int) from rfl, show ((y : Int) / 256) = ((y / 256 : Nat) : Int) from rfl, bits_xor (by omega) (by omega), crcst, ← HY.out, ← HX.out, upTo, if_neg hxk]
        case measure => simp [intOf]; omega
    · obtain rfl : j = len := by omega
      go_wp2
      go_ret
      refine ⟨?_, rfl⟩
      have e := bits_xor (show 4294967295 < 4294967296 by decide) hy
      rw [crc, ← HY.out, ← e]
      rfl

/-- The numbers of the reference's table of sums, as far as it has been made. -/
def ents (T : Nat → Nat) (k : Nat) : List Value := (List.range k).map fun i => Value.int .u32 ((T i : Nat) : Int)
theorem ents_len (T : Nat → Nat) (k : Nat) : (ents T k).length = k := by simp [ents]
theorem ents_succ (T : Nat → Nat) (k : Nat) : ents T (k + 1) = ents T k ++ [.int .u32 ((T k : Nat) : Int)] := by simp [ents, List.range_succ]
theorem ents_get (T : Nat → Nat) (k i : Nat) (h : i < k) : (ents T k)[i]? = some (.int .u32 ((T i : Nat) : Int)) := by
  simp [ents, List.getElem?_map, List.getElem?_range h]

theorem own_slice {w : World} {base k : Nat} {v : Value} {T : Nat → Nat} (h : w.ownsRow base 55 1 v k (ents T k)) :
    ∃ tad cap, v = .slice tad k cap ∧ ∀ i, i < k → ∃ g off, tad = some ⟨g, off, none⟩ ∧ w.cell? ⟨g, off + i, none⟩ = some (.int .u32 (T i)) := by
  rcases h.2 with ⟨rfl, rfl⟩ | ⟨g, cap, cur, rfl, hb, r⟩
  · exact ⟨none, 0, rfl, fun i hi => by omega⟩
  · refine ⟨some ⟨g, 0, none⟩, cap, rfl, fun i hi => ⟨g, 0, rfl, ?_⟩⟩
    have := World.ownsRow.cellAt h i (by omega)
    rw [ents_get T k i hi] at this
    simpa using this

theorem own_base {w : World} {base e size n k : Nat} {v : Value} {xs : List Value} (h : w.ownsRow base e size v n xs) (hk : v.ownBlock = some k) : base ≤ k := by
  rcases h.2 with ⟨rfl, -⟩ | ⟨g, cap, cur, rfl, hb, -⟩
  · simp [Value.ownBlock] at hk
  · simp [Value.ownBlock] at hk
    omega

set_option maxRecDepth 100000 in
set_option maxHeartbeats 1000000 in
theorem refcrc_any (ad : Option Addr) (len cap : Nat) (hlen : len ≤ 9223372036854775807) (B : Nat → Nat) (w : World)
    (hz : ∀ i, i < len → B i < 256 ∧ ∃ b off, ad = some ⟨b, off, none⟩ ∧ w.cell? ⟨b, off + i, none⟩ = some (.int .u8 (B i))) :
    Calls Try.prog 29 #[.slice ad len cap] w fun e w' => e = .returned (.int .u32 (crc entry B len)) ∧ Below w.heap.size w w' := by
  obtain ⟨i0, hi, hz0, hz1, hz2⟩ := info_parts Try.info22
  have HZ : Hid _ := hz
  clear hz
  go_enter Try.func29, Try.ntmps29
  go_wp2
  go_loopw [3, 5] (fun v i wr => ∃ (j : Nat), j ≤ 256 ∧ i = .int .i64 j ∧ wr.ownsRow w.heap.size 55 1 v j (ents entry j) ∧ Below w.heap.size w wr) (fun _ i _ => (256 - intOf i).toNat)
  case atStart => exact ⟨0, by omega, rfl, World.ownsRow_nil _ _ _ _, Below.refl _ _⟩
  case round =>
    obtain ⟨j, hj, rfl, hown, hb⟩ := hrel
    by_cases hlt : j < 256
    · have hs := hb.size
      go_wp2_with (first
        | (go_at_call 38; refine (entry_any j (by omega) _).mono ?_; rintro e w' ⟨rfl, hw'⟩; rw [hw']; clear hw' w')
        | (at_builtin; refine wpList_append_own _ rfl _ _ 68 rfl w.heap.size 55 i0 (.int .u32 0) 1 4 Try.underlying68 hi hz0 hz1 hz2 rfl (by decide) _ _ _ rfl (hown.alloc _) ⟨wr.heap.size, 0, none⟩ 1 1 [.int .u32 ((entry j : Nat) : Int)] rfl rfl ?c1 ?c2 ?c3 ?c4 ?c5 ?_))
      case c1 =>
        intro t u ht
        match t, ht with
        | 0, ht => simp at ht; subst ht; simp [Addr.add]
      case c2 => intro u hu; simp at hu; subst hu; rfl
      case c3 => unfold maxLen; omega
      case c4 => omega
      case c5 => simp; omega
      · intro v' w1 hown' hgrow _
        have hb1 : Below w.heap.size w w1 := (hb.alloc hs _).grown hgrow (by simp; omega) (fun k hk => own_base hown hk)
        rw [← ents_succ] at hown'
        clear hown hgrow
        go_wp2
        go_roundw
        case rel => exact ⟨j + 1, by omega, by go_num, hown', hb1⟩
        case measure => simp [intOf]; omega
    · obtain rfl : j = 256 := by omega
      obtain ⟨tad, tcap, rfl, hcells⟩ := own_slice hown
      go_wp2_with fail
      refine (refsum_any tad 256 tcap entry (fun x hx => entry_lt (by omega)) ad len cap hlen B wr hcells ?_).mono ?_
      · intro i hi
        obtain ⟨h1, b, off, rfl, hc⟩ := HZ.out i hi
        exact ⟨h1, b, off, rfl, (hb.cell (p := ⟨b, off + i, none⟩) (cell_lt hc)).trans hc⟩
      rintro e w' ⟨rfl, rfl⟩
      go_wp2_with fail
      go_ret
      refine ⟨?_, hb⟩
      have : crc (upTo entry 256) B len = crc entry B len := by
        unfold crc
        rw [crcst_congr (S := entry) (fun x hx => by simp [upTo, hx]) len (fun i hi => (HZ.out i hi).1)]
      rw [this]
      rfl
end Go.Proofs.Ytmdhcoplhibbeaa
