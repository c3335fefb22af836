/- The contracts of bytes.Clone, copyOf, bytes.Compare, first, newTo. -/
import Derived.Test.YtmeclfgehpbjlaaMay
import Derived.Lib.Bytealg
import Derived.Lib.BytesEntry
import Derived.Laws.Externs
namespace Go.Proofs.Ytmeclfgehpbjlaa
open Go.RowKit

theorem bclone_any (t : Option Addr) (c : Nat) (bs : List Nat) (hb : bs.length ≤ 140737488355328) (w : World) (hs : Src w t c bs) :
    Calls Try.prog 52 #[.slice t bs.length c] w fun e w' => ∃ t' c', e = .returned (.slice t' bs.length c') ∧ OwnR w' t' c' bs ∧ (∀ k, blk t' = some k → w.heap.size ≤ k) ∧ Off (fun _ => False) w w' := by
  have hq := eql_nil
  rcases hs.is with ⟨rfl, rfl, rfl⟩ | ⟨ad, rfl, -⟩
  · go_enter Try.func52, Try.ntmps52
    go_wp2
    go_ret
    exact ⟨none, 0, rfl, OwnR.nil w, fun k hk => by simp [blk] at hk, Off.refl _ w⟩
  · have HS : Hid (Src w (some ad) c bs) := hs
    clear hs
    have L0 : OwnR (w.alloc (.cells #[] 5)) (some ⟨w.heap.size, 0, none⟩) 0 [] := ⟨World.ownsRow_lit w #[] 0 (Nat.zero_le _) (by decide) rfl⟩
    have O0 : Off (fun _ => False) w (w.alloc (.cells #[] 5)) := (Off.refl _ w).alloc _
    go_enter Try.func52, Try.ntmps52
    go_wp2_with (at_builtin; refine wpList_app rfl (.tmp 5) (.tmp 6) rfl _ 0 [] rfl L0 _ c bs rfl (HS.out.off O0 (fun _ _ _ h => h)) (by simpa using hb) ?_; intro t' c' w' ys hys own' off' at')
    go_ret
    obtain rfl : ys = bs := hys.out
    refine ⟨t', c', rfl, own', fun k hk => ?_, O0.trans off' (fun i hi hb => ?_)⟩
    · rcases at' with a | a
      · rw [a] at hk
        simp [blk] at hk
        omega
      · rw [a] at hk
        simp at hk
        omega
    · simp [blk] at hb
      omega

theorem results_val {fn : Func} {p : Tmp} (h : fn.results = #[.cell p 120]) {tmps : Array Value} {w : World} {b : Nat} {v : V} (hp : tmps.getD p undef = .pointer (some ⟨b, 0, none⟩)) (hc : Cel b 120 #[.int .i64 v.node, .int .i64 v.num, .slice v.ad v.data.length v.cap, .bool v.dead] w) :
    (results fn tmps).run Try.prog w = .ok (.agg #[.int .i64 v.node, .int .i64 v.num, .slice v.ad v.data.length v.cap, .bool v.dead]) w := by
  obtain ⟨d, hd⟩ : ∃ d, Try.prog.underlying 120 = some (.struct d) := ⟨_, Try.underlying120⟩
  exact results_cell_row h tmps w b 120 _ (0, 0) (.struct d) hp hc.is hd rfl (by kernel_rfl)
theorem Cel.st4 {b : Nat} {t : TypeId} {v : V} {w : World} (h : Cel b t #[.int .i64 v.node, .int .i64 v.num, .slice v.ad v.data.length v.cap, .bool v.dead] w) (u : V) : Cel b t #[.int .i64 u.node, .int .i64 u.num, .slice u.ad u.data.length u.cap, .bool u.dead] ((((w.setCell ⟨b, 0, none⟩ (.int .i64 u.node)).setCell ⟨b, 1, none⟩ (.int .i64 u.num)).setCell ⟨b, 2, none⟩ (.slice u.ad u.data.length u.cap)).setCell ⟨b, 3, none⟩ (.bool u.dead)) := by
  replace h := h.set 0 (.int .i64 u.node)
  simp only [List.setIfInBounds_toArray, List.set_cons_zero] at h
  replace h := h.set 1 (.int .i64 u.num)
  simp only [List.setIfInBounds_toArray, List.set_cons_zero, List.set_cons_succ] at h
  replace h := h.set 2 (.slice u.ad u.data.length u.cap)
  simp only [List.setIfInBounds_toArray, List.set_cons_zero, List.set_cons_succ] at h
  replace h := h.set 3 (.bool u.dead)
  simp only [List.setIfInBounds_toArray, List.set_cons_zero, List.set_cons_succ] at h
  exact h
theorem Cel.st4o {b c : Nat} {t : TypeId} {cs : Array Value} {w : World} (h : Cel c t cs w) (hb : c ≠ b) (u : V) : Cel c t cs ((((w.setCell ⟨b, 0, none⟩ (.int .i64 u.node)).setCell ⟨b, 1, none⟩ (.int .i64 u.num)).setCell ⟨b, 2, none⟩ (.slice u.ad u.data.length u.cap)).setCell ⟨b, 3, none⟩ (.bool u.dead)) :=
  (((h.other hb _).other hb _).other hb _).other hb _
theorem Off.st4 {D : Nat → Prop} {a w : World} {b : Nat} (h : Off D a w) (hb : D b ∨ a.heap.size ≤ b) (u : V) : Off D a ((((w.setCell ⟨b, 0, none⟩ (.int .i64 u.node)).setCell ⟨b, 1, none⟩ (.int .i64 u.num)).setCell ⟨b, 2, none⟩ (.slice u.ad u.data.length u.cap)).setCell ⟨b, 3, none⟩ (.bool u.dead)) :=
  (((h.setCell hb _).setCell hb _).setCell hb _).setCell hb _
def zeroV : V := ⟨0, 0, none, 0, [], false⟩

/-- Which of two rows of bytes comes first. -/
def ltL : List Nat → List Nat → Bool
  | [], [] => false
  | [], _ :: _ => true
  | _ :: _, [] => false
  | a :: xs, b :: ys => if a < b then true else if b < a then false else ltL xs ys
theorem u8_lt {a b : Nat} (ha : a < 256) (hb : b < 256) : (((a : Int).toNat.toUInt8 < (b : Int).toNat.toUInt8) ↔ a < b) := by
  rw [UInt8.lt_iff_toNat_lt]
  simp [Nat.toUInt8, UInt8.toNat_ofNat', Nat.mod_eq_of_lt ha, Nat.mod_eq_of_lt hb]
theorem cmp_lt : ∀ (xs ys : List Nat), (∀ x ∈ xs, x < 256) → (∀ x ∈ ys, x < 256) → (Lib.compareBytes (Lib.bytesOf (xs.map fun (b : Nat) => (b : Int))) (Lib.bytesOf (ys.map fun (b : Nat) => (b : Int))) < 0 ↔ ltL xs ys = true)
  | [], [], _, _ => by simp [Lib.bytesOf, Lib.compareBytes, ltL]
  | [], _ :: _, _, _ => by simp [Lib.bytesOf, Lib.compareBytes, ltL]
  | _ :: _, [], _, _ => by simp [Lib.bytesOf, Lib.compareBytes, ltL]
  | a :: xs, b :: ys, ha, hb => by
    have ih := cmp_lt xs ys (fun x hx => ha x (by simp [hx])) (fun x hx => hb x (by simp [hx]))
    have h1 := u8_lt (ha a (by simp)) (hb b (by simp))
    have h2 := u8_lt (hb b (by simp)) (ha a (by simp))
    simp only [Lib.bytesOf, List.map_cons, Lib.compareBytes, ltL] at ih ⊢
    simp only [h1, h2]
    by_cases e1 : a < b
    · simp [e1]
    · by_cases e2 : b < a
      · simp [e1, e2]
      · simp only [e1, e2, if_false]
        exact ih
theorem run_bytesOf {w : World} {t : Option Addr} {c : Nat} {xs : List Nat} (h : Src w t c xs) : (Extern.Bytes.bytesOf (.slice t xs.length c)).run Try.prog w = .ok ⟨(Lib.bytesOf (xs.map fun (b : Nat) => (b : Int))).toArray⟩ w := by
  rcases h.is with ⟨rfl, rfl, rfl⟩ | ⟨ad, rfl, hc⟩
  · rfl
  · have := Lib.run_loadBytesX (P := Try.prog) w (xs.map fun (b : Nat) => (b : Int)) ad .empty (fun j x hj => by
      refine hc j _ ?_
      simp only [vl, List.getElem?_map] at hj ⊢
      cases e : xs[j]? with
      | none => simp [e] at hj
      | some y => simp [e] at hj; simp [hj])
    simp only [List.length_map] at this
    show (Extern.Bytes.loadBytes ad xs.length .empty).run Try.prog w = _
    rw [this]
    simp [ByteArray.empty, ByteArray.emptyWithCapacity]
    try rfl
end Go.Proofs.Ytmeclfgehpbjlaa
