/- Facts for SibsBytes. -/
import Derived.Test.YtfkpnmmcdhibbaaGRe
import Derived.Test.YtfkpnmmcdhibbaaSWe
import Derived.Test.YtfkpnmmcdhibbaaNodP
import Derived.Test.YtfkpnmmcdhibbaaSl12
import Derived.Test.YtfkpnmmcdhibbaaLgt
import Derived.Test.YtfkpnmmcdhibbaaAwk
import Derived.Test.YtfkpnmmcdhibbaaArg5
import Derived.Test.YtfkpnmmcdhibbaaGSame
import Derived.Test.YtfkpnmmcdhibbaaLessP
namespace Go.Proofs.Ytfkpnmmcdhibbaa
open Go.RowKit

def gv : Bool → Value → Value
  | true, v => v
  | false, _ => undef
def erZ : Bool → Int
  | true => 0
  | false => 4
theorem neq_same (x : Bool) (W : World) : (binOp .neq 4 (.bool x) (.bool x)).run Try.prog W = .ok (.bool false) W := by
  cases x <;> go_simp
theorem eql_bool (x : Bool) (W : World) : (binOp .eql 4 (.bool x) (.bool x)).run Try.prog W = .ok (.bool true) W := by cases x <;> go_simp
theorem er4 (x : Bool) : (erZ x == 4) = !x := by cases x <;> rfl
theorem er0 (x : Bool) : (erZ x == 0) = x := by cases x <;> rfl
theorem FW.tell {D : Nat → Prop} {b most : Nat} {st : Option (List Nat)} {w : World} (h : FW D b most st w) : ∃ sm tm nm km, ((errW st : Nat) : Int) = erZ sm ∧ Cel b 52 #[.slice tm nm km, .int .i64 (most : Int), .bool (!sm)] w ∧ (sm = true → nm = (st.getD []).length ∧ OwnR w tm km (st.getD [])) := by
  rcases h.is with ⟨rfl, t, n, c, h1⟩ | ⟨bs, tad, cap, rfl, h2, h3, -⟩
  · exact ⟨false, t, n, c, rfl, h1, fun h => by cases h⟩
  · exact ⟨true, tad, bs.length, cap, rfl, h2, fun _ => ⟨rfl, h3⟩⟩
theorem two_new {W x y : World} (O : Off (fun _ => False) W x) (hW : Wtr (fun c => c = x.heap.size) x.heap.size 100000 (some []) y) (o3 : Off (fun _ => False) x y) :
    ∃ (v : World) (p1 p2 : Nat) (D E : Nat → Prop), v = y.alloc (.cells #[.slice none 0 0, .int .i64 100000, .bool false] 52) ∧ p1 = x.heap.size ∧ p2 = y.heap.size ∧ Wtr D p1 100000 (some []) v ∧ FW E p2 100000 (some []) v ∧ (∀ c, D c → E c → False) ∧ (∀ c, D c → W.heap.size ≤ c) ∧ (∀ c, E c → W.heap.size ≤ c) ∧ Off (fun _ => False) W v := by
  have o2 : Off (fun _ => False) y (y.alloc (.cells #[.slice none 0 0, .int .i64 100000, .bool false] 52)) := (Off.refl _ y).alloc _
  have h1 := hW.lt _ hW.here
  have h2 := O.size
  have h3 := o3.size
  refine ⟨_, _, _, (fun c => c = x.heap.size), (fun c => c = y.heap.size), rfl, rfl, rfl, hW.off o2 (fun _ _ _ h => h), ⟨rfl, fun c h => by simp [h], by decide, .inr ⟨[], none, 0, rfl, Cel.new y _ _, OwnR.nil _, fun k hk => by simp [blk] at hk⟩⟩, fun c h1 h2 => by omega, fun c h => by omega, fun c h => by omega, (O.trans o3 (fun _ _ h => h)).trans o2 (fun _ _ h => h)⟩
theorem two_rd {bs : List Nat} {w x1 x2 : World} {rb : Nat} {Dr : Nat → Prop} {t2 : Option Addr} {c2 : Nat} (hlt : ∀ b ∈ bs, b < 256) (hbl : bs.length ≤ 140737488355328) (hrb : w.heap.size ≤ rb) (hD : ∀ c, Dr c → w.heap.size ≤ c) (R : Rdr 111 Dr rb (bs, 0) x1) (o6 : Off (fun _ => False) w x1) (o7 : Off (fun _ => False) x1 x2) (own : OwnR x2 t2 c2 bs) (hb : ∀ k, blk t2 = some k → x1.heap.size ≤ k) :
    ∃ (V0 : World) (mb : Nat) (Dm : Nat → Prop), V0 = x2.alloc (.cells #[.slice t2 bs.length c2, .int .i64 0] 63) ∧ mb = x2.heap.size ∧ Rdr 111 Dr rb (bs, 0) V0 ∧ Rdr 63 Dm mb (bs, 0) V0 ∧ rb ≠ mb ∧ ¬ Dr mb ∧ ¬ Dm rb ∧ w.heap.size ≤ rb ∧ w.heap.size ≤ mb ∧ (∀ c, Dr c → w.heap.size ≤ c) ∧ (∀ c, Dm c → w.heap.size ≤ c) ∧ Off (fun _ => False) w V0 := by
  have oo : Off (fun _ => False) x2 (x2.alloc (.cells #[.slice t2 bs.length c2, .int .i64 0] 63)) := (Off.refl _ x2).alloc _
  have h1 := R.here
  have h2 := o6.size
  have h3 := o7.size
  have hl2 : ∀ k, blk t2 = some k → k < x2.heap.size := own.lt
  refine ⟨_, _, (fun c => blk t2 = some c), rfl, rfl, (R.off o7 (fun h => h) (fun _ _ _ h => h)).off oo (fun h => h) (fun _ _ _ h => h), ?_, by omega, fun h => by have := R.lt _ h; omega, fun h => by have := hb _ h; omega, hrb, by omega, hD, fun c h => by have := hb _ h; omega, (o6.trans o7 (fun _ _ h => h)).trans oo (fun _ _ h => h)⟩
  refine ⟨⟨hlt, by simp, by simp⟩, fun c h => ?_, fun h => ?_, by simp only; omega, t2, c2, Cel.new x2 _ _, (own.off oo (fun _ _ _ h => h)).lie (fun c h => h)⟩
  · have := hl2 c h
    have := oo.size
    omega
  · have := hl2 _ h
    omega
theorem cel10 {b : Nat} {t : TypeId} {x0 x1 x2 x3 x4 x5 x6 x7 x8 x9 : Value} {w : World} (h : Cel b t #[x0, x1, x2, x3, x4, x5, x6, x7, x8, x9] w) : w.cell? ⟨b, 0, none⟩ = some x0 ∧ w.cell? ⟨b, 1, none⟩ = some x1 ∧ w.cell? ⟨b, 2, none⟩ = some x2 ∧ w.cell? ⟨b, 3, none⟩ = some x3 ∧ w.cell? ⟨b, 4, none⟩ = some x4 ∧ w.cell? ⟨b, 5, none⟩ = some x5 ∧ w.cell? ⟨b, 6, none⟩ = some x6 ∧ w.cell? ⟨b, 7, none⟩ = some x7 ∧ w.cell? ⟨b, 8, none⟩ = some x8 ∧ w.cell? ⟨b, 9, none⟩ = some x9 := by
  refine ⟨?_, ?_, ?_, ?_, ?_, ?_, ?_, ?_, ?_, ?_⟩ <;> (rw [h.cell]; rfl)
end Go.Proofs.Ytfkpnmmcdhibbaa
