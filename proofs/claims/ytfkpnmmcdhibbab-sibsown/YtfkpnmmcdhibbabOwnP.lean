/- Bytes that are written over; what Put by one who has seen all tells, where it tells OK. -/
import Derived.Test.YtfkpnmmcdhibbabSideP
namespace Go.Proofs.Ytfkpnmmcdhibbab

/-- n bytes, whichever, that may be written over. -/
structure ByS (w : World) (tad : Option Addr) (n : Nat) : Prop where
  at_ : ∀ i, i < n → ∃ (g : Nat) (t : TypeId) (cs : Array Value) (u : Nat), tad = some ⟨g, 0, none⟩ ∧ Cel g t cs w ∧ cs[i]? = some (.int .u8 (u : Int)) ∧ u < 256
theorem ByS.of {w : World} {tad : Option Addr} {cap : Nat} {bs : List Nat} (h : OwnR w tad cap bs) (hlt : ∀ x ∈ bs, x < 256) : ByS w tad bs.length := by
  refine ⟨fun i hi => ?_⟩
  rcases h.row.2 with ⟨-, h0⟩ | ⟨g, c, cur, hv, -, hh, -, -, hs, ht⟩
  · omega
  · simp only [Value.slice.injEq] at hv
    have hi2 : cur.toList[i]? = some (.int .u8 ((bs.getD i 0 : Nat) : Int)) := by
      have := vl_get bs i hi
      rw [← ht, List.getElem?_take_of_lt (by omega)] at this
      exact this
    refine ⟨g, _, cur, bs.getD i 0, hv.1, ⟨hh⟩, by simpa using hi2, ?_⟩
    have e : bs.getD i 0 = bs[i] := by simp [hi]
    rw [e]
    exact hlt _ (List.getElem_mem hi)
theorem ByS.off {D : Nat → Prop} {w w' : World} {tad : Option Addr} {n : Nat} (h : ByS w tad n) (o : Off D w w') (hD : ∀ c, blk tad = some c → ¬ D c) : ByS w' tad n := by
  refine ⟨fun i hi => ?_⟩
  obtain ⟨g, t, cs, u, e, hc, hx, hu⟩ := h.at_ i hi
  exact ⟨g, t, cs, u, e, hc.off o (hD g (by rw [e]; rfl)), hx, hu⟩
theorem ByS.set {w : World} {tad : Option Addr} {n : Nat} (h : ByS w tad n) (g i : Nat) {u : Int} (hu : ∃ x : Nat, u = (x : Int) ∧ x < 256) : ByS (w.setCell ⟨g, i, none⟩ (.int .u8 u)) tad n := by
  refine ⟨fun j hj => ?_⟩
  obtain ⟨g', t, cs, x, e, hc, hx, hlt⟩ := h.at_ j hj
  obtain ⟨y, rfl, hy⟩ := hu
  by_cases hg : g' = g
  · subst hg
    by_cases hi : i = j
    · subst hi
      refine ⟨g', t, _, y, e, hc.set i _, ?_, hy⟩
      obtain ⟨hs, -⟩ := Array.getElem?_eq_some_iff.1 hx
      rw [Array.getElem?_setIfInBounds_self]
      simp [hs]
    · refine ⟨g', t, _, x, e, hc.set i _, ?_, hlt⟩
      rw [Array.getElem?_setIfInBounds_ne hi]
      exact hx
  · exact ⟨g', t, cs, x, e, hc.other hg _, hx, hlt⟩
theorem put_ok0 {f : Nat → Int} {l : List A} {data : List Nat} (h1 : MayP f l) (hd : data.length ≤ 200) (h : putE f f l 0 data false = 0) :
    mayS (putV f f l 0 data false) (putL f f l 0 data false) = true ∧ liveA (putL f f l 0 data false) = [data] := by
  by_cases hs : f 0 < 1099511627776
  · obtain ⟨-, e2, e3, e4⟩ := put_seen (data := data) h1 (show 0 < 8 by omega) hs hd
    have e2' : putL f f l 0 data false = [⟨0, f 0 + 1, data, false⟩] := e2
    have e3' : putV f f l 0 data false = withV f 0 (f 0 + 1) := e3
    rw [e2', e3']
    exact ⟨may_yes e4, by simp [liveA]⟩
  · exfalso
    have hb : mayB f = true := by simp only [mayB, decide_eq_true_eq]; exact h1.seen
    have hok : okData data.length false = true := by simp [okData, hd]
    have hx : (nextV (maxV f f) 0).2.2 ≠ 0 := by
      rw [max_self]
      have hn : nodeB 0 = true := by simp [nodeB]
      have : 1099511627776 ≤ f 0 := by omega
      simp [nextV, hn, this]
    simp [putE, may_yes h1, hb, hok, hx] at h
theorem xor_one {u : Nat} (hu : u < 256) : ∃ x : Nat, bits .xor .u8 (u : Int) 1 = (x : Int) ∧ x < 256 := by
  have e := u8_xor_nat u 1 hu (by decide)
  refine ⟨u ^^^ 1, e, ?_⟩
  exact Nat.xor_lt_two_pow (n := 8) hu (by decide)
theorem keep_cell {w w' : World} {b o : Nat} {v : Value} (hw : Off (fun _ => False) w w') (h : w.cell? ⟨b, o, none⟩ = some v) : w'.cell? ⟨b, o, none⟩ = some v := by
  rw [← h]
  exact World.cell?_of_block (a := ⟨b, o, none⟩) (hw.block b (cell_lt h) (fun h => h))
theorem idx_data (i : Nat) {g n k c : Nat} (hk : n = k) (hi : i < k := by decide) (W : World) : (Instr.indexAt 42 (.slice (some ⟨g, 0, none⟩) n c) (.int .i64 (i : Int))).run Try.prog W = .ok (.pointer (some ⟨g, i, none⟩)) W := by
  subst hk
  have hi' : i < n := hi
  go_simp
theorem exec_idx {P : Program} {ρ : Operand → Value} {o : Oper} {t : TypeId} {x ix : Operand} {v : Value} {w : World} (ho : o.op = .indexAddr t x ix) (h : (Instr.indexAt t (ρ x) (ρ ix)).run P w = .ok v w) : Sem.run P (execOp ρ o) w = .ok (.value v) w := by
  have e : execOp ρ o = (do pure (.value (← Instr.indexAt t (ρ x) (ρ ix)))) := by unfold execOp; rw [ho]
  rw [e, Sem.run_bind, h]
  rfl
end Go.Proofs.Ytfkpnmmcdhibbab
