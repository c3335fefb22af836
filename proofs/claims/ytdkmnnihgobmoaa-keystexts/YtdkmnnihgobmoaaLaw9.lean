/- The walks of KeysTexts, KeysBack, KeysBuckets, KeysOnce. -/
import Derived.Test.YtdkmnnihgobmoaaAwk9
import Derived.Test.YtdkmnnihgobmoaaRPar9
namespace Go.Proofs.Ytdkmnnihgobmoaa
open Go.RowKit

set_option maxRecDepth 100000 in
set_option maxHeartbeats 1000000 in
theorem texts_walk (k s : ByteArray) (w : World) (_hk : k.size ≤ 140737488351232) (hs : s.size ≤ 140737488351232) :
    Calls Try.prog 4 #[.string k, .string s] w fun e w' => e = .returned (.bool true) ∧ Off (fun _ => False) w w' := by
  by_cases h5 : 500 < k.size
  · have d5 : decide ((500 : Int) < (k.size : Int)) = true := decide_eq_true (by omega)
    go_enter Try.func4, Try.ntmps4
    go_wp2_with fail
    refine (awake_any _).mono ?_
    rintro e va ⟨rfl, oa⟩
    go_wp2_with fail
    go_ret
    exact ⟨rfl, oa⟩
  · have d5 : decide ((500 : Int) < (k.size : Int)) = false := decide_eq_false (by omega)
    go_enter Try.func4, Try.ntmps4
    go_wp2_with fail
    refine (parse_any s hs _).mono ?_
    rintro e w1 ⟨r, ok, rfl, told, o1⟩
    go_wp2_with fail
    refine (parsekey_any s hs _).mono ?_
    rintro e w2 ⟨q, is, rfl, told2, o2⟩
    obtain ⟨rfl, rfl⟩ := told.eq told2
    have O2 : Hid _ := o1.trans o2 (fun _ _ h => h)
    clear told told2 o1 o2
    go_wp2_with fail
    refine (text_any k (by omega) _).mono ?_
    rintro e w3 ⟨a, rfl, ha, o3⟩
    have O3 : Hid _ := O2.out.trans o3 (fun _ _ h => h)
    clear o3
    go_wp2_with fail
    refine (keytext_any k (by omega) _).mono ?_
    rintro e w4 ⟨b, rfl, hb, o4⟩
    have O4 : Hid _ := O3.out.trans o4 (fun _ _ h => h)
    have e1 : (a.toList == b.toList) = true := eql_tx (ha.trans hb.symm)
    have e2 : (r.toList == r.toList) = true := eql_tx rfl
    clear o4 ha hb
    cases ok <;> (
      go_wp2_with fail
      refine (awake_any _).mono ?_
      rintro e va ⟨rfl, oa⟩
      go_wp2_with fail
      go_ret
      exact ⟨rfl, O4.out.trans oa (fun _ _ h => h)⟩)

theorem told_back {a r : ByteArray} {ok : Bool} {t : List Nat} (h : Told t r ok) (e : t = txt (tx a)) : ok = true ∧ r = a := by
  have := h.eq (⟨.inl ⟨rfl, e.symm⟩⟩ : Told t a true)
  exact ⟨this.2, this.1⟩
set_option maxRecDepth 100000 in
set_option maxHeartbeats 1000000 in
theorem back_walk (a b : ByteArray) (w : World) (_ha : a.size ≤ 140737488351232) (_hb : b.size ≤ 140737488351232) :
    Calls Try.prog 5 #[.string a, .string b] w fun e w' => e = .returned (.bool true) ∧ Off (fun _ => False) w w' := by
  by_cases h5 : 500 < a.size
  · have d5 : decide ((500 : Int) < (a.size : Int)) = true := decide_eq_true (by omega)
    go_enter Try.func5, Try.ntmps5
    go_wp2_with fail
    refine (awake_any _).mono ?_
    rintro e va ⟨rfl, oa⟩
    go_wp2_with fail
    go_ret
    exact ⟨rfl, oa⟩
  · have d5 : decide ((500 : Int) < (a.size : Int)) = false := decide_eq_false (by omega)
    by_cases h6 : 500 < b.size
    · have d6 : decide ((500 : Int) < (b.size : Int)) = true := decide_eq_true (by omega)
      go_enter Try.func5, Try.ntmps5
      go_wp2_with fail
      refine (awake_any _).mono ?_
      rintro e va ⟨rfl, oa⟩
      go_wp2_with fail
      go_ret
      exact ⟨rfl, oa⟩
    · have d6 : decide ((500 : Int) < (b.size : Int)) = false := decide_eq_false (by omega)
      go_enter Try.func5, Try.ntmps5
      go_wp2_with fail
      refine (text_any a (by omega) _).mono ?_
      rintro e w1 ⟨p, rfl, hp, o1⟩
      have hps : p.size ≤ 140737488351232 := by
        have := (txt_len (tx a)).2
        rw [← hp, tx_len, tx_len] at this
        omega
      go_wp2_with fail
      refine (parse_any p hps _).mono ?_
      rintro e w2 ⟨r, ok, rfl, told, o2⟩
      obtain ⟨rfl, rfl⟩ := told_back told hp
      have O2 : Hid _ := o1.trans o2 (fun _ _ h => h)
      have e0 : (r.toList == r.toList) = true := eql_tx rfl
      clear told o1 o2 hp hps
      go_wp2_with fail
      refine (text_any r (by omega) _).mono ?_
      rintro e w3 ⟨x, rfl, hx, o3⟩
      have O3 : Hid _ := O2.out.trans o3 (fun _ _ h => h)
      have HX : Hid _ := hx
      clear o3 hx
      go_wp2_with fail
      refine (text_any b (by omega) _).mono ?_
      rintro e w4 ⟨y, rfl, hy, o4⟩
      have O4 : Hid _ := O3.out.trans o4 (fun _ _ h => h)
      have HY : Hid _ := hy
      clear o4 hy
      by_cases he : tx r = tx b
      · have e1 : (x.toList == y.toList) = true := eql_tx (by rw [HX.out, HY.out, he])
        have e2 : (r.toList == b.toList) = true := eql_tx he
        clear he
        go_wp2_with fail
        refine (awake_any _).mono ?_
        rintro e va ⟨rfl, oa⟩
        go_wp2_with fail
        go_ret
        exact ⟨rfl, O4.out.trans oa (fun _ _ h => h)⟩
      · have e1 : (x.toList == y.toList) = false := neq_tx (by rw [HX.out, HY.out]; exact fun e => he (txt_inj (tx_lt _) (tx_lt _) e))
        have e2 : (r.toList == b.toList) = false := neq_tx he
        clear he
        go_wp2_with fail
        refine (awake_any _).mono ?_
        rintro e va ⟨rfl, oa⟩
        go_wp2_with fail
        go_ret
        exact ⟨rfl, O4.out.trans oa (fun _ _ h => h)⟩

set_option maxRecDepth 100000 in
set_option maxHeartbeats 1000000 in
theorem buckets_walk (a b : ByteArray) (w : World) (_ha : a.size ≤ 140737488351232) (_hb : b.size ≤ 140737488351232) :
    Calls Try.prog 7 #[.string a, .string b] w fun e w' => e = .returned (.bool true) ∧ Off (fun _ => False) w w' := by
  by_cases h5 : 300 < a.size
  · have d5 : decide ((300 : Int) < (a.size : Int)) = true := decide_eq_true (by omega)
    go_enter Try.func7, Try.ntmps7
    go_wp2_with fail
    refine (awake_any _).mono ?_
    rintro e va ⟨rfl, oa⟩
    go_wp2_with fail
    go_ret
    exact ⟨rfl, oa⟩
  · have d5 : decide ((300 : Int) < (a.size : Int)) = false := decide_eq_false (by omega)
    by_cases h6 : 300 < b.size
    · have d6 : decide ((300 : Int) < (b.size : Int)) = true := decide_eq_true (by omega)
      go_enter Try.func7, Try.ntmps7
      go_wp2_with fail
      refine (awake_any _).mono ?_
      rintro e va ⟨rfl, oa⟩
      go_wp2_with fail
      go_ret
      exact ⟨rfl, oa⟩
    · have d6 : decide ((300 : Int) < (b.size : Int)) = false := decide_eq_false (by omega)
      obtain ⟨p, hp, ADD1⟩ := add_any a b (by omega)
      obtain ⟨q, hq, ADD2⟩ := add_any b a (by omega)
      have zp : p.size ≤ 600 := by rw [← tx_len, hp, List.length_append, tx_len, tx_len]; omega
      have zq : q.size ≤ 600 := by rw [← tx_len, hq, List.length_append, tx_len, tx_len]; omega
      have BA := bucket_any a (by omega)
      have BB := bucket_any b (by omega)
      have BP := bucket_any p (by omega)
      have BQ := bucket_any q (by omega)
      rw [hp, bkt_append] at BP
      rw [hq, bkt_append] at BQ
      have la := bkt_lt (tx a)
      have lb := bkt_lt (tx b)
      clear hp hq zp zq
      generalize bkt (tx a) = x at *
      generalize bkt (tx b) = y at *
      obtain ⟨z, hz⟩ : ∃ z, z = (x + y) % 4 := ⟨_, rfl⟩
      rw [← hz] at BP
      rw [Nat.add_comm y x, ← hz] at BQ
      have hzi : ((x : Int) + (y : Int)) % 4 = (z : Int) := by omega
      have hzt : ((x : Int) + (y : Int)).tmod 4 = (z : Int) := by rw [Int.tmod_eq_emod_of_nonneg (by omega)]; exact hzi
      have d1 : decide ((0 : Int) ≤ (x : Int)) = true := decide_eq_true (by omega)
      have d2 : decide ((x : Int) < 4) = true := decide_eq_true (by omega)
      have HBA : Hid _ := BA
      have HBB : Hid _ := BB
      have HBP : Hid _ := BP
      have HBQ : Hid _ := BQ
      clear hz BA BB BP BQ
      go_enter Try.func7, Try.ntmps7
      go_wp2_with fail
      refine Calls.mono (HBA.out _) ?_
      rintro e w1 ⟨rfl, hw⟩
      rw [hw]
      clear hw w1
      go_wp2_with fail
      refine Calls.mono (HBP.out _) ?_
      rintro e w1 ⟨rfl, hw⟩
      rw [hw]
      clear hw w1
      go_wp2_with fail
      refine Calls.mono (HBB.out _) ?_
      rintro e w1 ⟨rfl, hw⟩
      rw [hw]
      clear hw w1
      go_wp2_with fail
      refine Calls.mono (HBP.out _) ?_
      rintro e w1 ⟨rfl, hw⟩
      rw [hw]
      clear hw w1
      go_wp2_with fail
      refine Calls.mono (HBQ.out _) ?_
      rintro e w1 ⟨rfl, hw⟩
      rw [hw]
      clear hw w1
      go_wp2_with fail
      refine (awake_any _).mono ?_
      rintro e va ⟨rfl, oa⟩
      go_wp2_with fail
      go_ret
      exact ⟨rfl, oa⟩
end Go.Proofs.Ytdkmnnihgobmoaa
