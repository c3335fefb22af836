/- Items of several texts. -/
import Derived.Test.YtmjmgdbhmbjmaabACh22
namespace Go.Proofs.Ytmjmgdbhmbjmaab
set_option maxRecDepth 100000
open Go.RowKit
theorem got_any {D Z : Nat → Prop} {p : Nat} {x : CM} {w : World} (h : CST D Z p x w) {n : Int} (hn : wf64 n) (node : Int) (key : ByteArray) (s : SV) (hs : SOk Z w s) : Calls Try.prog 8 #[.pointer (some ⟨p, 0, none⟩), .int .i64 n, .int .i64 node, (.agg #[.string key, .int .i64 (s.f 0), .int .i64 (s.f 1), .int .i64 (s.f 2), .int .i64 (s.f 3), .int .i64 (s.f 4), .int .i64 (s.f 5), .int .i64 (s.f 6), .int .i64 (s.f 7), .slice s.a s.l.length s.cap])] w fun e w' => ∃ x' D' Z', CST D' Z' p x' w' ∧ Gro D D' Z Z' w w' ∧ x'.abs = (gotA x.abs n node key s.abs).1 ∧ GotR (gotA x.abs n node key s.abs).2 e w.heap.size w' := by
 have HA : fndA n x.abs.t = (fndO n x.t).map OpD.abs := fnd_abs n x.t
 have fin : ∀ (e : Ending) (w' : World), gotA x.abs n node key s.abs = (x.abs, none) → (e = .returned (.tuple #[.slice none 0 0, .bool false]) ∧ Off (fun _ => False) w w') → ∃ x' D' Z', CST D' Z' p x' w' ∧ Gro D D' Z Z' w w' ∧ x'.abs = (gotA x.abs n node key s.abs).1 ∧ GotR (gotA x.abs n node key s.abs).2 e w.heap.size w' := by
  rintro e w' hg ⟨rfl, o⟩
  rw [hg]
  exact ⟨x, D, Z, h.free o, Gro.of (o.mono (fun _ _ h => h.elim)), rfl, rfl⟩
 cases hf : fndO n x.t with
 | none =>
  rw [hf] at HA
  exact (got_none h hn node key s hs hf).mono fun e w' k => fin e w' (gotA_none HA) k
 | some o =>
  rw [hf] at HA
  cases hr : o.read
  ·exact (got_write h hn node key s hs hf hr).mono fun e w' k => fin e w' (gotA_no HA (.inl hr)) k
  ·by_cases hk : key = o.key
   ·cases hm : (keyB key && mayA s.abs)
    ·exact (got_may h hn node key s hs hf hr hk hm).mono fun e w' k => fin e w' (gotA_no HA (.inr (.inr (.inl hm)))) k
    ·cases ha : (okN node && o.who node.toNat)
     ·cases hok : okN node
      ·exact got_deaf h hn node key s hs hf hr hk hm ha hok
      ·cases hb : addB o.need o.who node
       ·exact got_more h hn node key s hs hf hr hk hm ha hok hb
       ·exact got_done h hn node key s hs hf hr hk hm ha hok hb
     ·exact (got_has h hn node key s hs hf hr hk hm ha).mono fun e w' k => fin e w' (gotA_no HA (.inr (.inr (.inr ha)))) k
   ·exact (got_key h hn node key s hs hf hr hk).mono fun e w' k => fin e w' (gotA_no HA (.inr (.inl hk))) k
end Go.Proofs.Ytmjmgdbhmbjmaab
