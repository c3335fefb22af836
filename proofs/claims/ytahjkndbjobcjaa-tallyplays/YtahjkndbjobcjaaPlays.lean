/- The walk of TallyPlays. -/
import Derived.Test.YtahjkndbjobcjaaParts
namespace Go.Proofs.Ytahjkndbjobcjaa
open Go.RowKit

/-- What the walk is told of the calls that came in: the two cells of each. -/
def Calls2 (w : World) (ad : Option Addr) (len : Nat) : Prop :=
  ∀ i, i < len → ∃ (b off : Nat) (d x : Int), ad = some ⟨b, off, none⟩ ∧ b < w.heap.size ∧ w.cell? ⟨b, off + i * 2, none⟩ = some (.int .i64 d) ∧ w.cell? ⟨b, off + i * 2 + 1, none⟩ = some (.int .i64 x)

set_option maxRecDepth 100000 in
set_option maxHeartbeats 4000000 in
theorem plays_neg (a0 : Int) (h0 : a0 ≤ 9223372036854775807) (hneg : a0 ≤ 0) (ad : Option Addr) (len cap : Nat) (hlen : len ≤ 9223372036854775807) (w : World) (HZ : Calls2 w ad len) :
    Calls Try.prog 3 #[.int .i64 a0, .slice ad len cap] w fun e w' => e = .returned (.bool true) ∧ Ext w w' := by
  go_enter Try.func3, Try.ntmps3
  go_wp2_with fail
  refine (new_some (Ext.refl w) a0 h0).mono ?_
  rintro e w1 ⟨c, rfl, s1, t1, x1, -⟩
  rw [show max 0 a0 = 0 by omega] at t1
  go_wp2_with fail
  go_loopw [7, 8] (fun n i wr => ∃ (k : Nat) (v : Int), k ≤ len ∧ i = .int .i64 k ∧ n = .int .i64 v ∧ Tal c v 0 wr ∧ Ext w wr) (fun _ i _ => (len - intOf i).toNat)
  case atStart => exact ⟨0, 0, by omega, rfl, rfl, t1, x1⟩
  case round =>
    clear t1 x1
    obtain ⟨k, v, hk1, rfl, rfl, t, x⟩ := hrel
    have l1 := t.low
    have l2 := t.le
    by_cases hlt : k < len
    · by_cases h200 : k < 200
      · obtain ⟨b, off, d, y, rfl, hb, hc, hd⟩ := HZ k hlt
        have hc' : wr.cell? ⟨b, off + k * 2, none⟩ = some (.int .i64 d) := (x.2.cell (p := ⟨b, off + k * 2, none⟩) hb).trans hc
        have hd' : wr.cell? ⟨b, off + k * 2 + 1, none⟩ = some (.int .i64 y) := (x.2.cell (p := ⟨b, off + k * 2 + 1, none⟩) hb).trans hd
        clear hc hd HZ
        go_wp2_with fail
        · refine (add_yes c v 0 y _ t (by omega) (by omega)).mono ?_
          rintro e w2 ⟨rfl, rfl⟩
          have t2 := t.put (v + y) (by omega) (by omega)
          have x2 := x.put s1 (v + y)
          clear t x hc' hd'
          go_wp2_with fail
          refine (now_any c (v + y) 0 _ t2).mono ?_
          rintro e w2 ⟨rfl, rfl⟩
          go_wp2_with fail
          refine (most_any c (v + y) 0 _ t2).mono ?_
          rintro e w2 ⟨rfl, rfl⟩
          go_wp2_with fail
          go_roundw
          case rel => exact ⟨k + 1, v + y, by omega, by go_num, by go_num, t2, x2⟩
          case measure => simp [intOf]; omega
        · refine (add_no c v 0 y _ t (by omega)).mono ?_
          rintro e w2 ⟨rfl, rfl⟩
          have t2 := t
          have x2 := x
          clear t x hc' hd'
          go_wp2_with fail
          refine (now_any c (v) 0 _ t2).mono ?_
          rintro e w2 ⟨rfl, rfl⟩
          go_wp2_with fail
          refine (most_any c (v) 0 _ t2).mono ?_
          rintro e w2 ⟨rfl, rfl⟩
          go_wp2_with fail
          go_roundw
          case rel => exact ⟨k + 1, v, by omega, by go_num, by go_num, t2, x2⟩
          case measure => simp [intOf]; omega
        · refine (add_no c v 0 y _ t (by omega)).mono ?_
          rintro e w2 ⟨rfl, rfl⟩
          have t2 := t
          have x2 := x
          clear t x hc' hd'
          go_wp2_with fail
          refine (now_any c (v) 0 _ t2).mono ?_
          rintro e w2 ⟨rfl, rfl⟩
          go_wp2_with fail
          refine (most_any c (v) 0 _ t2).mono ?_
          rintro e w2 ⟨rfl, rfl⟩
          go_wp2_with fail
          go_roundw
          case rel => exact ⟨k + 1, v, by omega, by go_num, by go_num, t2, x2⟩
          case measure => simp [intOf]; omega
        · refine (take_yes c v 0 y _ t (by omega) (by omega)).mono ?_
          rintro e w2 ⟨rfl, rfl⟩
          have t2 := t.put (v - y) (by omega) (by omega)
          have x2 := x.put s1 (v - y)
          clear t x hc' hd'
          go_wp2_with fail
          refine (now_any c (v - y) 0 _ t2).mono ?_
          rintro e w2 ⟨rfl, rfl⟩
          go_wp2_with fail
          refine (most_any c (v - y) 0 _ t2).mono ?_
          rintro e w2 ⟨rfl, rfl⟩
          go_wp2_with fail
          go_roundw
          case rel => exact ⟨k + 1, v - y, by omega, by go_num, by go_num, t2, x2⟩
          case measure => simp [intOf]; omega
        · refine (take_no c v 0 y _ t (by omega)).mono ?_
          rintro e w2 ⟨rfl, rfl⟩
          have t2 := t
          have x2 := x
          clear t x hc' hd'
          go_wp2_with fail
          refine (now_any c (v) 0 _ t2).mono ?_
          rintro e w2 ⟨rfl, rfl⟩
          go_wp2_with fail
          refine (most_any c (v) 0 _ t2).mono ?_
          rintro e w2 ⟨rfl, rfl⟩
          go_wp2_with fail
          go_roundw
          case rel => exact ⟨k + 1, v, by omega, by go_num, by go_num, t2, x2⟩
          case measure => simp [intOf]; omega
        · refine (take_no c v 0 y _ t (by omega)).mono ?_
          rintro e w2 ⟨rfl, rfl⟩
          have t2 := t
          have x2 := x
          clear t x hc' hd'
          go_wp2_with fail
          refine (now_any c (v) 0 _ t2).mono ?_
          rintro e w2 ⟨rfl, rfl⟩
          go_wp2_with fail
          refine (most_any c (v) 0 _ t2).mono ?_
          rintro e w2 ⟨rfl, rfl⟩
          go_wp2_with fail
          go_roundw
          case rel => exact ⟨k + 1, v, by omega, by go_num, by go_num, t2, x2⟩
          case measure => simp [intOf]; omega
        · refine (raise_no c v 0 y _ t (by omega)).mono ?_
          rintro e w2 ⟨rfl, rfl⟩
          have t2 := t
          have x2 := x
          clear t x hc' hd'
          go_wp2_with fail
          refine (now_any c (v) 0 _ t2).mono ?_
          rintro e w2 ⟨rfl, rfl⟩
          go_wp2_with fail
          refine (most_any c (v) 0 _ t2).mono ?_
          rintro e w2 ⟨rfl, rfl⟩
          go_wp2_with fail
          go_roundw
          case rel => exact ⟨k + 1, v, by omega, by go_num, by go_num, t2, x2⟩
          case measure => simp [intOf]; omega
        · refine (raise_no c v 0 y _ t (by omega)).mono ?_
          rintro e w2 ⟨rfl, rfl⟩
          have t2 := t
          have x2 := x
          clear t x hc' hd'
          go_wp2_with fail
          refine (now_any c (v) 0 _ t2).mono ?_
          rintro e w2 ⟨rfl, rfl⟩
          go_wp2_with fail
          refine (most_any c (v) 0 _ t2).mono ?_
          rintro e w2 ⟨rfl, rfl⟩
          go_wp2_with fail
          go_roundw
          case rel => exact ⟨k + 1, v, by omega, by go_num, by go_num, t2, x2⟩
          case measure => simp [intOf]; omega
        · refine (reset_any c v 0 _ t).mono ?_
          rintro e w2 ⟨rfl, rfl⟩
          have t2 := t.put (0) (by omega) (by omega)
          have x2 := x.put s1 (0)
          clear t x hc' hd'
          go_wp2_with fail
          refine (now_any c (0) 0 _ t2).mono ?_
          rintro e w2 ⟨rfl, rfl⟩
          go_wp2_with fail
          refine (most_any c (0) 0 _ t2).mono ?_
          rintro e w2 ⟨rfl, rfl⟩
          go_wp2_with fail
          go_roundw
          case rel => exact ⟨k + 1, 0, by omega, by go_num, by go_num, t2, x2⟩
          case measure => simp [intOf]; omega
      · go_wp2_with fail
        refine (awake_any _).mono ?_
        rintro e w1 ⟨rfl, hx⟩
        go_wp2_with fail
        go_ret
        exact ⟨rfl, x.trans hx⟩
    · go_wp2_with fail
      refine (awake_any _).mono ?_
      rintro e w1 ⟨rfl, hx⟩
      go_wp2_with fail
      go_ret
      exact ⟨rfl, x.trans hx⟩

set_option maxRecDepth 100000 in
set_option maxHeartbeats 4000000 in
theorem plays_pos (a0 : Int) (h0 : a0 ≤ 9223372036854775807) (hpos : 0 < a0) (ad : Option Addr) (len cap : Nat) (hlen : len ≤ 9223372036854775807) (w : World) (HZ : Calls2 w ad len) :
    Calls Try.prog 3 #[.int .i64 a0, .slice ad len cap] w fun e w' => e = .returned (.bool true) ∧ Ext w w' := by
  go_enter Try.func3, Try.ntmps3
  go_wp2_with fail
  refine (new_some (Ext.refl w) a0 h0).mono ?_
  rintro e w1 ⟨c, rfl, s1, t1, x1, -⟩
  rw [show max 0 a0 = a0 by omega] at t1
  go_wp2_with fail
  go_loopw [7, 8] (fun n i wr => ∃ (k : Nat) (v : Int), k ≤ len ∧ i = .int .i64 k ∧ n = .int .i64 v ∧ Tal c v a0 wr ∧ Ext w wr) (fun _ i _ => (len - intOf i).toNat)
  case atStart => exact ⟨0, 0, by omega, rfl, rfl, t1, x1⟩
  case round =>
    clear t1 x1
    obtain ⟨k, v, hk1, rfl, rfl, t, x⟩ := hrel
    have l1 := t.low
    have l2 := t.le
    by_cases hlt : k < len
    · by_cases h200 : k < 200
      · obtain ⟨b, off, d, y, rfl, hb, hc, hd⟩ := HZ k hlt
        have hc' : wr.cell? ⟨b, off + k * 2, none⟩ = some (.int .i64 d) := (x.2.cell (p := ⟨b, off + k * 2, none⟩) hb).trans hc
        have hd' : wr.cell? ⟨b, off + k * 2 + 1, none⟩ = some (.int .i64 y) := (x.2.cell (p := ⟨b, off + k * 2 + 1, none⟩) hb).trans hd
        clear hc hd HZ
        go_wp2_with fail
        · refine (add_yes c v a0 y _ t (by omega) (by omega)).mono ?_
          rintro e w2 ⟨rfl, rfl⟩
          have t2 := t.put (v + y) (by omega) (by omega)
          have x2 := x.put s1 (v + y)
          clear t x hc' hd'
          go_wp2_with fail
          refine (now_any c (v + y) a0 _ t2).mono ?_
          rintro e w2 ⟨rfl, rfl⟩
          go_wp2_with fail
          refine (most_any c (v + y) a0 _ t2).mono ?_
          rintro e w2 ⟨rfl, rfl⟩
          go_wp2_with fail
          go_roundw
          case rel => exact ⟨k + 1, v + y, by omega, by go_num, by go_num, t2, x2⟩
          case measure => simp [intOf]; omega
        · refine (add_no c v a0 y _ t (by omega)).mono ?_
          rintro e w2 ⟨rfl, rfl⟩
          have t2 := t
          have x2 := x
          clear t x hc' hd'
          go_wp2_with fail
          refine (now_any c (v) a0 _ t2).mono ?_
          rintro e w2 ⟨rfl, rfl⟩
          go_wp2_with fail
          refine (most_any c (v) a0 _ t2).mono ?_
          rintro e w2 ⟨rfl, rfl⟩
          go_wp2_with fail
          go_roundw
          case rel => exact ⟨k + 1, v, by omega, by go_num, by go_num, t2, x2⟩
          case measure => simp [intOf]; omega
        · refine (add_no c v a0 y _ t (by omega)).mono ?_
          rintro e w2 ⟨rfl, rfl⟩
          have t2 := t
          have x2 := x
          clear t x hc' hd'
          go_wp2_with fail
          refine (now_any c (v) a0 _ t2).mono ?_
          rintro e w2 ⟨rfl, rfl⟩
          go_wp2_with fail
          refine (most_any c (v) a0 _ t2).mono ?_
          rintro e w2 ⟨rfl, rfl⟩
          go_wp2_with fail
          go_roundw
          case rel => exact ⟨k + 1, v, by omega, by go_num, by go_num, t2, x2⟩
          case measure => simp [intOf]; omega
        · refine (take_yes c v a0 y _ t (by omega) (by omega)).mono ?_
          rintro e w2 ⟨rfl, rfl⟩
          have t2 := t.put (v - y) (by omega) (by omega)
          have x2 := x.put s1 (v - y)
          clear t x hc' hd'
          go_wp2_with fail
          refine (now_any c (v - y) a0 _ t2).mono ?_
          rintro e w2 ⟨rfl, rfl⟩
          go_wp2_with fail
          refine (most_any c (v - y) a0 _ t2).mono ?_
          rintro e w2 ⟨rfl, rfl⟩
          go_wp2_with fail
          go_roundw
          case rel => exact ⟨k + 1, v - y, by omega, by go_num, by go_num, t2, x2⟩
          case measure => simp [intOf]; omega
        · refine (take_no c v a0 y _ t (by omega)).mono ?_
          rintro e w2 ⟨rfl, rfl⟩
          have t2 := t
          have x2 := x
          clear t x hc' hd'
          go_wp2_with fail
          refine (now_any c (v) a0 _ t2).mono ?_
          rintro e w2 ⟨rfl, rfl⟩
          go_wp2_with fail
          refine (most_any c (v) a0 _ t2).mono ?_
          rintro e w2 ⟨rfl, rfl⟩
          go_wp2_with fail
          go_roundw
          case rel => exact ⟨k + 1, v, by omega, by go_num, by go_num, t2, x2⟩
          case measure => simp [intOf]; omega
        · refine (take_no c v a0 y _ t (by omega)).mono ?_
          rintro e w2 ⟨rfl, rfl⟩
          have t2 := t
          have x2 := x
          clear t x hc' hd'
          go_wp2_with fail
          refine (now_any c (v) a0 _ t2).mono ?_
          rintro e w2 ⟨rfl, rfl⟩
          go_wp2_with fail
          refine (most_any c (v) a0 _ t2).mono ?_
          rintro e w2 ⟨rfl, rfl⟩
          go_wp2_with fail
          go_roundw
          case rel => exact ⟨k + 1, v, by omega, by go_num, by go_num, t2, x2⟩
          case measure => simp [intOf]; omega
        · refine (raise_yes c v a0 y _ t (by omega) (by omega)).mono ?_
          rintro e w2 ⟨rfl, rfl⟩
          have t2 := t.put (y) (by omega) (by omega)
          have x2 := x.put s1 (y)
          clear t x hc' hd'
          go_wp2_with fail
          refine (now_any c (y) a0 _ t2).mono ?_
          rintro e w2 ⟨rfl, rfl⟩
          go_wp2_with fail
          refine (most_any c (y) a0 _ t2).mono ?_
          rintro e w2 ⟨rfl, rfl⟩
          go_wp2_with fail
          go_roundw
          case rel => exact ⟨k + 1, y, by omega, by go_num, by go_num, t2, x2⟩
          case measure => simp [intOf]; omega
        · refine (raise_no c v a0 y _ t (by omega)).mono ?_
          rintro e w2 ⟨rfl, rfl⟩
          have t2 := t
          have x2 := x
          clear t x hc' hd'
          go_wp2_with fail
          refine (now_any c (v) a0 _ t2).mono ?_
          rintro e w2 ⟨rfl, rfl⟩
          go_wp2_with fail
          refine (most_any c (v) a0 _ t2).mono ?_
          rintro e w2 ⟨rfl, rfl⟩
          go_wp2_with fail
          go_roundw
          case rel => exact ⟨k + 1, v, by omega, by go_num, by go_num, t2, x2⟩
          case measure => simp [intOf]; omega
        · refine (raise_no c v a0 y _ t (by omega)).mono ?_
          rintro e w2 ⟨rfl, rfl⟩
          have t2 := t
          have x2 := x
          clear t x hc' hd'
          go_wp2_with fail
          refine (now_any c (v) a0 _ t2).mono ?_
          rintro e w2 ⟨rfl, rfl⟩
          go_wp2_with fail
          refine (most_any c (v) a0 _ t2).mono ?_
          rintro e w2 ⟨rfl, rfl⟩
          go_wp2_with fail
          go_roundw
          case rel => exact ⟨k + 1, v, by omega, by go_num, by go_num, t2, x2⟩
          case measure => simp [intOf]; omega
        · refine (reset_any c v a0 _ t).mono ?_
          rintro e w2 ⟨rfl, rfl⟩
          have t2 := t.put (0) (by omega) (by omega)
          have x2 := x.put s1 (0)
          clear t x hc' hd'
          go_wp2_with fail
          refine (now_any c (0) a0 _ t2).mono ?_
          rintro e w2 ⟨rfl, rfl⟩
          go_wp2_with fail
          refine (most_any c (0) a0 _ t2).mono ?_
          rintro e w2 ⟨rfl, rfl⟩
          go_wp2_with fail
          go_roundw
          case rel => exact ⟨k + 1, 0, by omega, by go_num, by go_num, t2, x2⟩
          case measure => simp [intOf]; omega
      · go_wp2_with fail
        refine (awake_any _).mono ?_
        rintro e w1 ⟨rfl, hx⟩
        go_wp2_with fail
        go_ret
        exact ⟨rfl, x.trans hx⟩
    · go_wp2_with fail
      refine (awake_any _).mono ?_
      rintro e w1 ⟨rfl, hx⟩
      go_wp2_with fail
      go_ret
      exact ⟨rfl, x.trans hx⟩
end Go.Proofs.Ytahjkndbjobcjaa
