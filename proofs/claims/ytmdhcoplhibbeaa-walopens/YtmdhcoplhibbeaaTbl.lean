/- The table of sums and its blocks; lazy.Sum by it. -/
import Derived.Test.YtmdhcoplhibbeaaLNum
import Derived.Test.YtmdhcoplhibbeaaNum7
namespace Go.Proofs.Ytmdhcoplhibbeaa
open Go.RowKit

/-- The table of sums at block b, fresh or made; its blocks are among those of E. -/
structure Tbl (E : Nat → Prop) (b : Nat) (w : World) : Prop where
  here : E b
  lt : ∀ c, E c → c < w.heap.size
  is : (∃ nums, Tb b 256 (.func (.func 46) #[] #[]) 0 0 nums 0 w) ∨ ∃ r, E r ∧ Full b r 256 256 (fun j => (entry j : Int)) w
theorem Tbl.off {E D : Nat → Prop} {b : Nat} {w w' : World} (h : Tbl E b w) (o : Off D w w') (hD : ∀ c, E c → ¬ D c) : Tbl E b w' := by
  refine ⟨h.here, fun c hc => Nat.lt_of_lt_of_le (h.lt c hc) o.size, ?_⟩
  rcases h.is with ⟨nums, t⟩ | ⟨r, hr, f⟩
  · exact .inl ⟨nums, t.off o (hD b h.here)⟩
  · exact .inr ⟨r, hr, f.off o (hD b h.here) (hD r hr)⟩
theorem Tbl.free {E : Nat → Prop} {b : Nat} {w w' : World} (h : Tbl E b w) (o : Off (fun _ => False) w w') : Tbl E b w' := h.off o (fun _ _ h => h)

theorem told_entry {x : Nat} (hx : x < 256) : told (fun j => (entry j : Int)) 256 (x : Int) = ((entry x : Nat) : Int) := by
  simp [told]
  omega

/-- 'lazy.Sum' of bytes by the table. -/
theorem sum_tbl {E : Nat → Prop} {b : Nat} {w : World} (ht : Tbl E b w) {tad : Option Addr} {cap : Nat} {bs : List Nat} (h : Inp w tad cap bs) (hb : b < w.heap.size → blk tad ≠ some b ∨ bs = []) (hl : bs.length ≤ 9223372036854775807) :
    Calls Try.prog 44 #[.pointer (some ⟨b, 0, none⟩), .slice tad bs.length cap] w fun e w' => e = .returned (.int .u32 ((crcL bs : Nat) : Int)) ∧ ∃ E', Tbl E' b w' ∧ (∀ c, E' c → E c ∨ w.heap.size ≤ c) ∧ Off (fun c => c = b) w w' := by
  have hcells : ∀ i, i < bs.length → ∀ w', Off (fun c => c = b) w w' → ∀ g off, tad = some ⟨g, off, none⟩ → w.cell? ⟨g, off + i, none⟩ = some (.int .u8 ((bs.getD i 0 : Nat) : Int)) → w'.cell? ⟨g, off + i, none⟩ = some (.int .u8 ((bs.getD i 0 : Nat) : Int)) := by
    intro i hi w' o g off e hc
    rw [← hc]
    refine World.cell?_of_block (a := ⟨g, off + i, none⟩) (o.block g (cell_lt hc) (fun h => ?_))
    rcases hb (ht.lt b ht.here) with h1 | rfl
    · exact h1 (by rw [e, ← h]; rfl)
    · simp at hi
  rcases ht.is with ⟨nums, t⟩ | ⟨r, hr, f⟩
  · refine (sum_any (.pointer (some ⟨b, 0, none⟩)) entry (fun x hx => entry_lt (by omega)) (fun w' => St b 256 (.func (.func 46) #[] #[]) (fun j => (entry j : Int)) w.heap.size w' ∧ Off (fun c => c = b) w w') tad bs.length cap hl (fun i => bs.getD i 0) w ⟨.inl ⟨_, t⟩, Off.refl _ _⟩ ?_ ?_).mono ?_
    · rintro w1 x hx ⟨s, o⟩
      refine (at_st b 256 (by decide) 46 #[] (fun j => (entry j : Int)) (fun _ => False) (fun _ => True) w.heap.size x w1 s rem_makes trivial id o.size).mono ?_
      rintro e w2 ⟨rfl, s2, -, -, o2⟩
      exact ⟨by rw [told_entry hx], s2, o.trans o2 (fun i _ h => h.elim id False.elim)⟩
    · intro i hi
      obtain ⟨h1, g, off, rfl, hc⟩ := h.at_ hi
      exact ⟨h1, g, off, rfl, fun w1 p => hcells i hi w1 p.2 g off rfl hc⟩
    · rintro e w' ⟨rfl, s, o⟩
      refine ⟨rfl, ?_⟩
      rcases s with ⟨nums, t'⟩ | ⟨r, hr, f⟩
      · exact ⟨E, ⟨ht.here, fun c hc => Nat.lt_of_lt_of_le (ht.lt c hc) o.size, .inl ⟨nums, t'⟩⟩, fun c hc => .inl hc, o⟩
      · refine ⟨fun c => E c ∨ c = r, ⟨.inl ht.here, ?_, .inr ⟨r, .inr rfl, f⟩⟩, ?_, o⟩
        · rintro c (hc | rfl)
          · exact Nat.lt_of_lt_of_le (ht.lt c hc) o.size
          · exact f.2.lt
        · rintro c (hc | rfl)
          · exact .inl hc
          · exact .inr hr
  · refine (sum_any (.pointer (some ⟨b, 0, none⟩)) entry (fun x hx => entry_lt (by omega)) (fun w' => w' = w) tad bs.length cap hl (fun i => bs.getD i 0) w rfl ?_ ?_).mono ?_
    · rintro w1 x hx rfl
      exact at_full b r 256 256 (fun j => (entry j : Int)) x hx w1 f
    · intro i hi
      obtain ⟨h1, g, off, rfl, hc⟩ := h.at_ hi
      exact ⟨h1, g, off, rfl, fun w1 p => by rw [p]; exact hc⟩
    · rintro e w' ⟨rfl, rfl⟩
      exact ⟨rfl, E, ht, fun c hc => .inl hc, Off.refl _ _⟩

theorem poly_tbl (w : World) : Calls Try.prog 41 #[] w fun e w' => e = .returned (.pointer (some ⟨w.heap.size, 0, none⟩)) ∧ Tbl (fun c => c = w.heap.size) w.heap.size w' ∧ Off (fun _ => False) w w' := by
  refine (poly_any w).mono ?_
  rintro e w' ⟨rfl, t, o⟩
  exact ⟨rfl, ⟨rfl, fun c hc => by rw [hc]; exact t.lt, .inl ⟨_, t⟩⟩, o⟩
end Go.Proofs.Ytmdhcoplhibbeaa
