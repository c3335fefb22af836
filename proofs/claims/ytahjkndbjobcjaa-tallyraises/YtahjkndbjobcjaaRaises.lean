/- The walk of TallyRaises. -/
import Derived.Test.YtahjkndbjobcjaaParts
namespace Go.Proofs.Ytahjkndbjobcjaa
open Go.RowKit

set_option maxHeartbeats 1000000 in
theorem raises_any (a0 : Int) (h0 : a0 ≤ 9223372036854775807) (ad : Option Addr) (len cap : Nat) (hlen : len ≤ 9223372036854775807) (zs : List Int) (w : World)
    (hz : ∀ i, i < len → ∃ b off, ad = some ⟨b, off, none⟩ ∧ b < w.heap.size ∧ w.cell? ⟨b, off + i, none⟩ = some (.int .i64 (zs.getD i 0))) :
    Calls Try.prog 6 #[.int .i64 a0, .slice ad len cap] w fun e w' => e = .returned (.bool true) ∧ Ext w w' := by
  have HZ : Hid (∀ i, i < len → ∃ b off, ad = some ⟨b, off, none⟩ ∧ b < w.heap.size ∧ w.cell? ⟨b, off + i, none⟩ = some (.int .i64 (zs.getD i 0))) := hz
  clear hz
  go_enter Try.func6, Try.ntmps6
  go_wp2_with fail
  refine (new_some (Ext.refl w) a0 h0).mono ?_
  rintro e w1 ⟨c, rfl, s1, t1, x1, -⟩
  have M0 : 0 ≤ max 0 a0 := by omega
  go_wp2_with fail
  go_loopw [6, 13] (fun n i wr => ∃ (k : Nat) (v : Int), k ≤ len ∧ i = .int .i64 k ∧ n = .int .i64 v ∧ Tal c v (max 0 a0) wr ∧ Ext w wr) (fun _ i _ => (len - intOf i).toNat)
  case atStart => exact ⟨0, 0, by omega, rfl, rfl, t1, x1⟩
  case round =>
    clear t1 x1
    obtain ⟨k, v, hk1, rfl, rfl, t, x⟩ := hrel
    have l1 := t.low
    have l2 := t.le
    by_cases hlt : k < len
    · obtain ⟨b, off, rfl, hb, hc⟩ := HZ.out k hlt
      have hc' : wr.cell? ⟨b, off + k, none⟩ = some (.int .i64 (zs.getD k 0)) := (x.2.cell (p := ⟨b, off + k, none⟩) hb).trans hc
      clear hc
      generalize zs.getD k 0 = z at *
      by_cases h100 : 100 ≤ k
      · go_wp2_with fail
        refine (reset_any c v _ _ t).mono ?_
        rintro e w2 ⟨rfl, rfl⟩
        go_wp2_with fail
        refine (now_any c 0 _ _ (t.put 0 (by omega) M0)).mono ?_
        rintro e w2 ⟨rfl, rfl⟩
        go_wp2_with fail
        refine (awake_any _).mono ?_
        rintro e w1 ⟨rfl, hx⟩
        go_wp2_with fail
        go_ret
        exact ⟨rfl, (x.put s1 0).trans hx⟩
      · by_cases hz : z ≤ max 0 a0
        · by_cases hv : v < z
          · go_wp2_with fail
            all_goals
              refine (raise_yes c v _ z _ t hv hz).mono ?_
              rintro e w2 ⟨rfl, rfl⟩
              have t2 := t.put z (by omega) hz
              have x2 := x.put s1 z
              clear t x hc'
              go_wp2_with fail
              refine (now_any c z _ _ t2).mono ?_
              rintro e w2 ⟨rfl, rfl⟩
              go_wp2_with fail
              go_roundw
              case rel => exact ⟨k + 1, z, by omega, by go_num, rfl, t2, x2⟩
              case measure => simp [intOf]; omega
          · go_wp2_with fail
            all_goals
              refine (raise_no c v _ z _ t (by omega)).mono ?_
              rintro e w2 ⟨rfl, rfl⟩
              clear hc'
              go_wp2_with fail
              refine (now_any c v _ _ t).mono ?_
              rintro e w2 ⟨rfl, rfl⟩
              go_wp2_with fail
              go_roundw
              case rel => exact ⟨k + 1, v, by omega, by go_num, by go_num, t, x⟩
              case measure => simp [intOf]; omega
        · go_wp2_with fail
          all_goals
            refine (raise_no c v _ z _ t (by omega)).mono ?_
            rintro e w2 ⟨rfl, rfl⟩
            clear hc'
            go_wp2_with fail
            refine (now_any c v _ _ t).mono ?_
            rintro e w2 ⟨rfl, rfl⟩
            go_wp2_with fail
            go_roundw
            case rel => exact ⟨k + 1, v, by omega, by go_num, by go_num, t, x⟩
            case measure => simp [intOf]; omega
    · go_wp2_with fail
      refine (reset_any c v _ _ t).mono ?_
      rintro e w2 ⟨rfl, rfl⟩
      go_wp2_with fail
      refine (now_any c 0 _ _ (t.put 0 (by omega) M0)).mono ?_
      rintro e w2 ⟨rfl, rfl⟩
      go_wp2_with fail
      refine (awake_any _).mono ?_
      rintro e w1 ⟨rfl, hx⟩
      go_wp2_with fail
      go_ret
      exact ⟨rfl, (x.put s1 0).trans hx⟩
end Go.Proofs.Ytahjkndbjobcjaa
