/- The law's own reap; both tables side by side. -/
import Derived.Test.YtbagahlphnafdaaRefJ
import Derived.Test.YtbagahlphnafdaaArg10
namespace Go.Proofs.Ytbagahlphnafdaa
open Go.RowKit

/-- The program's table and the reference's, which hold the same. -/
structure Two (p b q : Nat) (t xs : List E) (w : World) : Prop where
  tab : Tab p b t w
  ref : RTab q xs w
  eq : absE xs = absE t
  ok : OkT (absE t)
  ne : p ≠ q
theorem Two.free {p b q : Nat} {t xs : List E} {w w' : World} (h : Two p b q t xs w) (o : Off (fun _ => False) w w') : Two p b q t xs w' := ⟨h.tab.free o, h.ref.free o, h.eq, h.ok, h.ne⟩
theorem Two.len {p b q : Nat} {t xs : List E} {w : World} (h : Two p b q t xs w) : xs.length = t.length := by
  have e := congrArg List.length h.eq
  rwa [absE_len, absE_len] at e
theorem RTab.apart {p b q : Nat} {t xs : List E} {w w' : World} (h : RTab q xs w) (k : Tab p b t w) (o : Off (fun c => c = b) w w') : RTab q xs w' := h.off o (h.ncel k) k.noI
theorem Tab.apart {p b q : Nat} {t xs : List E} {w w' : World} (k : Tab p b t w) (h : RTab q xs w) (o : Off (fun c => c = q) w w') (hp : p ≠ q) : Tab p b t w' := k.off o hp (fun e => h.ncel k e.symm) h.noI
section
variable {P : Program} {ops : Array Oper} {Q : Exit → Act → World → Prop} {md : Region.Mode}
/-- What stands may be said anew, and more of it, in the middle of a region. -/
theorem wpAnyH_mono {S S' : World → Prop} (h : ∀ w, S' w → S w) : ∀ (fuel : Nat) (listed : Array Bool) (a : Act) (w : World), wpAnyH P md ops Q S' fuel listed a w → wpAnyH P md ops Q S fuel listed a w
  | 0, _, _, _, k => k
  | fuel + 1, _, _, _, k => ⟨k.1, fun i hi => wpOp_mono (fun a' w' h' => ⟨h _ h'.1, wpAnyH_mono h fuel _ a' w' h'.2⟩) (k.2 i hi)⟩
end
theorem idx_txts {m n : Nat} (h : n < m) (c g o : Nat) (W : World) : (Instr.indexAt 23 (.slice (some ⟨g, o, none⟩) m c) (.int .i64 (n : Int))).run Try.prog W = .ok (.pointer (some ⟨g, o + n, none⟩)) W := by
  go_simp
set_option maxRecDepth 100000 in
set_option maxHeartbeats 2000000 in
theorem lreap_any (p b q : Nat) (t xs : List E) (ar : Option Addr) (cr : Nat) (ss : List ByteArray) (w0 w : World) (h : Two p b q t xs w) (hs : Strs w0 ar cr ss) (o : Off (fun _ => False) w0 w) (hb : w0.heap.size ≤ b) (hq : w0.heap.size ≤ q) :
    Calls Try.prog 15 #[.pointer (some ⟨p, 0, none⟩), .pointer (some ⟨q, 0, none⟩), .slice ar ss.length cr] w fun e w' => e = .returned (.bool true) ∧ ∃ t' xs', Two p b q t' xs' w' ∧ Off (fun _ => False) w0 w' := by
  have H0 : Hid _ := h
  have HS : Hid _ := hs
  have HO0 : Hid _ := o
  have HB : Hid (w0.heap.size ≤ b ∧ w0.heap.size ≤ q) := ⟨hb, hq⟩
  have hsl : ss.length ≤ 9223372036854775807 := Nat.le_trans hs.len hs.bound
  clear h hs o hb hq
  go_enter Try.func15, Try.ntmps15
  go_wp2_with fail
  go_loopw [11] (fun y wr => ∃ (n : Nat) (t xs : List E), y = .int .i64 (n : Int) ∧ n ≤ ss.length ∧ Two p b q t xs wr ∧ Off (fun _ => False) w0 wr) (fun y _ => (ss.length - intOf y).toNat)
  case atStart => exact ⟨0, t, xs, rfl, by omega, H0.out, HO0.out⟩
  case round =>
    clear H0 HO0 xs t
    obtain ⟨n, t, xs, rfl, hn, h2, O⟩ := hrel
    have H2 : Hid _ := h2
    have HO : Hid _ := O
    clear h2 O
    by_cases hlt : n < ss.length
    · have e1 : decide ((n : Int) < (ss.length : Int)) = true := decide_eq_true (by omega)
      have e2 : decide (n < ss.length) = true := decide_eq_true hlt
      obtain ⟨s, hs⟩ : ∃ s, ss[n]? = some s := ⟨_, List.getElem?_eq_getElem hlt⟩
      obtain ⟨bx, ox, rfl, kx, hsz⟩ := (HS.out.offD HO.out (fun _ _ h => h)).at_ n s hs
      have hix := idx_txts hlt
      by_cases h20 : n < 20
      · have d1 : decide ((n : Int) < 20) = true := decide_eq_true (by omega)
        have d2 : decide (n < 20) = true := decide_eq_true h20
        obtain ⟨r, hr⟩ : ∃ r, r = reapB (absE t) s := ⟨_, rfl⟩
        have HR : Hid _ := hr
        have HSZ : Hid _ := hsz
        clear hr hs
        go_wp2_with fail
        clear kx hix hsz
        refine (treap_any p b t s HSZ.out _ H2.out.tab).mono ?_
        rw [← HR.out]
        rintro e v1 ⟨rfl, t', tb, hat, o1⟩
        have HR1 : Hid _ := H2.out.ref.apart H2.out.tab o1
        have HT1 : Hid _ := tb
        have HAT : Hid _ := hat
        have HO1 : Hid _ := HO.out.trans o1 (fun i hi e => by have := HB.out.1; omega)
        clear tb hat o1
        go_wp2_with fail
        refine (rreap_any q xs s _ HR1.out).mono ?_
        rw [H2.out.eq, ← HR.out]
        rintro e v2 ⟨rfl, xs', rt, hax, o2⟩
        have H3 : Hid (Two p b q t' xs' v2) := ⟨HT1.out.apart HR1.out o2 H2.out.ne, rt, by rw [hax, HAT.out], by rw [HAT.out]; exact okT_reap H2.out.ok s, H2.out.ne⟩
        have HO2 : Hid _ := HO1.out.trans o2 (fun i hi e => by have := HB.out.2; omega)
        clear rt hax o2 HR HR1 HT1 HAT H2 HO
        cases r
        · go_wp2_with fail
          go_roundw
          case rel => exact ⟨n + 1, t', xs', by go_num, by omega, H3.out, HO2.out⟩
          case measure => simp [intOf]; omega
        · go_wp2_with fail
          go_roundw
          case rel => exact ⟨n + 1, t', xs', by go_num, by omega, H3.out, HO2.out⟩
          case measure => simp [intOf]; omega
      · have d1 : decide ((n : Int) < 20) = false := decide_eq_false (by omega)
        have d2 : decide (n < 20) = false := decide_eq_false h20
        clear hs
        go_wp2_with fail
        go_roundw
        case rel => exact ⟨n + 1, t, xs, by go_num, by omega, H2.out, HO.out⟩
        case measure => simp [intOf]; omega
    · obtain rfl : n = ss.length := by omega
      have e1 : decide ((ss.length : Int) < (ss.length : Int)) = false := decide_eq_false (by omega)
      have e2 : decide (ss.length < ss.length) = false := decide_eq_false (by omega)
      go_wp2_with fail
      go_ret
      exact ⟨rfl, t, xs, H2.out, HO.out⟩
end Go.Proofs.Ytbagahlphnafdaa
