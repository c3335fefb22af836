/- The contracts of LazyMakes' table. -/
import Derived.Test.YtbeaebemfcfkhaaSmall
import Derived.Test.YtbeaebemfcfkhaaIsRow
import Derived.Deep.RegionHeld3
import Derived.BigQuiet
namespace Go.Proofs.Ytbeaebemfcfkhaa
open Go.RowKit

theorem Off.drewN {D : Nat → Prop} {a w : World} (h : Off D a w) (n : Nat) : Off D a (w.drewN n) := ⟨h.os, h.tape, h.output, h.size, h.block⟩

/-- A region that draws its order, in its midst: what is left only reads. -/
theorem mid_quiet {P : Program} {L : List Oper} {Q : Exit → Act → World → Prop} {a : Act} {w : World} {fuel : Nat} {listed : Array Bool} (k : Nat) (hs : Region.noSelect L.toArray = true) (hf : (L.drop k).length = fuel)
    (hB : Region.lexFrom .any L.toArray (L.drop k).length k listed = true)
    (h : wpQuiet P L.toArray (fun w' => ∃ n, w' = w.drewN n) (fun a' => ∀ w', (∃ n, w' = w.drewN n) → Q .normal a' w') (L.drop k) a) : wpAny P .any L.toArray Q fuel listed a w := by
  subst hf
  refine wpAny_of_quiet (C := fun w' => ∃ n, w' = w.drewN n) (Q := fun a' => ∀ w', (∃ n, w' = w.drewN n) → Q .normal a' w') (fun _ w' hw' h => h w' hw') _ _ _ _ ⟨0, rfl⟩ ?_
  exact wpAnyQ_lex (C := fun w' => ∃ n, w' = w.drewN n) (md := .any) hs (L.drop k) k listed a (by intro j; simp) hB h

theorem makes1 (j cr cc cb : Nat) (hj : j < 5000) (by_ : Int) (w : World) (h1 : cr ≠ cc) (h2 : cr ≠ cb) (h3 : cc ≠ cb)
    (hr : Cel cr 4 #[.bool true] w) (hc : Cel cc 3 #[.int .i64 j] w) (hb : Cel cb 22 #[.int .u32 by_] w) :
    Calls Try.prog 10 #[.int .i64 j, .pointer (some ⟨cr, 0, none⟩), .pointer (some ⟨cc, 0, none⟩), .pointer (some ⟨cb, 0, none⟩)] w fun e w' => e = .returned (.int .u32 ((j : Int) * by_ % 4294967296)) ∧
      Cel cr 4 #[.bool true] w' ∧ Cel cc 3 #[.int .i64 ((j + 1 : Nat) : Int)] w' ∧ Cel cb 22 #[.int .u32 by_] w' ∧ Off (fun c => c = cr ∨ c = cc ∨ c = cb) w w' := by
  have c1 := hr.cell 0
  have f1 := hr.free 0
  have c2 := hc.cell 0
  have f2 := hc.free 0
  have c3 := hb.cell 0
  have E : Hid (Cel cr 4 #[.bool true] ((w.setCell ⟨cr, 0, none⟩ (.bool true)).setCell ⟨cc, 0, none⟩ (.int .i64 ((j : Int) + 1))) ∧ Cel cc 3 #[.int .i64 ((j + 1 : Nat) : Int)] ((w.setCell ⟨cr, 0, none⟩ (.bool true)).setCell ⟨cc, 0, none⟩ (.int .i64 ((j : Int) + 1))) ∧ Cel cb 22 #[.int .u32 by_] ((w.setCell ⟨cr, 0, none⟩ (.bool true)).setCell ⟨cc, 0, none⟩ (.int .i64 ((j : Int) + 1))) ∧ Off (fun c => c = cr ∨ c = cc ∨ c = cb) w ((w.setCell ⟨cr, 0, none⟩ (.bool true)).setCell ⟨cc, 0, none⟩ (.int .i64 ((j : Int) + 1)))) := by
    refine ⟨(hr.set 0 (.bool true)).other (by simpa using h1) _, ?_, (hb.other (by simpa using h2.symm) _).other (by simpa using h3.symm) _, ?_⟩
    · have := (hc.other (p := ⟨cr, 0, none⟩) (by simpa using h1.symm) (.bool true)).set 0 (.int .i64 ((j : Int) + 1))
      exact this
    · exact ((Off.refl (fun c => c = cr ∨ c = cc ∨ c = cb) w).setCell (p := ⟨cr, 0, none⟩) (.inl (.inl rfl)) _).setCell (p := ⟨cc, 0, none⟩) (.inl (.inr (.inl rfl))) _
  simp at c1 c2 c3
  go_enter Try.func10, Try.ntmps10
  go_wp2
  go_ret
  exact ⟨rfl, E.out⟩


def mkF (by_ : Int) (j : Nat) : Int := (j : Int) * by_ % 4294967296
def mkInv (cr cc cb : Nat) (by_ : Int) (j : Nat) (w : World) : Prop := Cel cr 4 #[.bool true] w ∧ Cel cc 3 #[.int .i64 (j : Int)] w ∧ Cel cb 22 #[.int .u32 by_] w

theorem makes_makes (cr cc cb k : Nat) (hk : k ≤ 4096) (by_ : Int) (h1 : cr ≠ cc) (h2 : cr ≠ cb) (h3 : cc ≠ cb) :
    Makes 10 #[.pointer (some ⟨cr, 0, none⟩), .pointer (some ⟨cc, 0, none⟩), .pointer (some ⟨cb, 0, none⟩)] k (mkF by_) (fun c => c = cr ∨ c = cc ∨ c = cb) (mkInv cr cc cb by_) where
  call j hj w I := by
    refine Calls.mono (makes1 j cr cc cb (by omega) by_ w h1 h2 h3 I.1 I.2.1 I.2.2) ?_
    rintro e w' ⟨rfl, a, b, c, o⟩
    exact ⟨rfl, ⟨a, b, c⟩, o⟩
  keep E j w w' hE I o := ⟨I.1.off o (hE _ (.inl rfl)), I.2.1.off o (hE _ (.inr (.inl rfl))), I.2.2.off o (hE _ (.inr (.inr rfl)))⟩
  old j w I c h := by
    rcases h with rfl | rfl | rfl
    · exact I.1.lt
    · exact I.2.1.lt
    · exact I.2.2.lt
  enters args w := fn_enters Try.func10 (by kernel_rfl) rfl args w

/-- The table of LazyMakes, and how many calls there were: none, or all. -/
def Sm (b : Nat) (K : Int) (cr cc cb : Nat) (by_ : Int) (lo : Nat) (c : Int) (w : World) : Prop :=
  (c = 0 ∧ (∃ nums, Tb b K (.func (.func 10) #[] #[.pointer (some ⟨cr, 0, none⟩), .pointer (some ⟨cc, 0, none⟩), .pointer (some ⟨cb, 0, none⟩)]) 0 0 nums 0 w) ∧ mkInv cr cc cb by_ 0 w) ∨
  (c = K ∧ 0 < K ∧ ∃ r, lo ≤ r ∧ Full b r K.toNat K (mkF by_) w ∧ mkInv cr cc cb by_ K.toNat w)

theorem Sm.calls {b : Nat} {K : Int} {cr cc cb : Nat} {by_ : Int} {lo : Nat} {c : Int} {w : World} (h : Sm b K cr cc cb by_ lo c w) : w.cell? ⟨cc, 0, none⟩ = some (.int .i64 c) := by
  rcases h with ⟨rfl, -, I⟩ | ⟨rfl, h0, r, -, -, I⟩
  · rw [I.2.1.cell]; rfl
  · rw [I.2.1.cell]
    have : ((c.toNat : Nat) : Int) = c := by omega
    rw [this]; rfl
theorem Sm.right {b : Nat} {K : Int} {cr cc cb : Nat} {by_ : Int} {lo : Nat} {c : Int} {w : World} (h : Sm b K cr cc cb by_ lo c w) : w.cell? ⟨cr, 0, none⟩ = some (.bool true) := by
  rcases h with ⟨rfl, -, I⟩ | ⟨rfl, h0, r, -, -, I⟩
  · rw [I.1.cell]; rfl
  · rw [I.1.cell]; rfl
theorem Sm.by' {b : Nat} {K : Int} {cr cc cb : Nat} {by_ : Int} {lo : Nat} {c : Int} {w : World} (h : Sm b K cr cc cb by_ lo c w) : w.cell? ⟨cb, 0, none⟩ = some (.int .u32 by_) := by
  rcases h with ⟨rfl, -, I⟩ | ⟨rfl, h0, r, -, -, I⟩
  · rw [I.2.2.cell]; rfl
  · rw [I.2.2.cell]; rfl
theorem Sm.tb {b : Nat} {K : Int} {cr cc cb : Nat} {by_ : Int} {lo : Nat} {c : Int} {w : World} (h : Sm b K cr cc cb by_ lo c w) : ∃ fv d s nums, Tb b K fv d s nums c w := by
  rcases h with ⟨rfl, ⟨nums, t⟩, I⟩ | ⟨rfl, h0, r, -, ⟨⟨fv, t⟩, -⟩, I⟩
  · exact ⟨_, _, _, _, t⟩
  · have : ((c.toNat : Nat) : Int) = c := by omega
    rw [this] at t
    exact ⟨_, _, _, _, t⟩
theorem Sm.made {b : Nat} {K : Int} {cr cc cb : Nat} {by_ : Int} {lo : Nat} {c : Int} {w : World} (h : Sm b K cr cc cb by_ lo c w) :
    Calls Try.prog 12 #[.pointer (some ⟨b, 0, none⟩)] w fun e w' => e = .returned (.int .i64 c) ∧ w' = w := by
  obtain ⟨fv, d, s, nums, t⟩ := h.tb
  exact made_any _ _ _ _ _ _ _ _ t

theorem at_sm_in (b : Nat) (K : Int) (hK0 : 0 ≤ K) (hK : K ≤ 4096) (cr cc cb : Nat) (by_ : Int) (lo : Nat) (c i : Int) (hi : 0 ≤ i) (hi' : i < K) (w : World) (h1 : cr ≠ cc) (h2 : cr ≠ cb) (h3 : cc ≠ cb)
    (hb : b ≠ cr ∧ b ≠ cc ∧ b ≠ cb) (hlo : lo ≤ w.heap.size) (h : Sm b K cr cc cb by_ lo c w) :
    Calls Try.prog 13 #[.pointer (some ⟨b, 0, none⟩), .int .i64 i] w fun e w' => e = .returned (.int .u32 (i * by_ % 4294967296)) ∧ Sm b K cr cc cb by_ lo K w' ∧ Off (fun c => c = b ∨ c = cr ∨ c = cc ∨ c = cb) w w' := by
  obtain ⟨k, rfl⟩ := Int.eq_ofNat_of_zero_le hK0
  obtain ⟨j, rfl⟩ := Int.eq_ofNat_of_zero_le hi
  rcases h with ⟨rfl, ⟨nums, t⟩, I⟩ | ⟨rfl, h0, r, hr, f, I⟩
  · refine (at_first b k (by omega) 10 _ (mkF by_) _ _ nums j (by omega) w t (makes_makes cr cc cb k (by omega) by_ h1 h2 h3) I (by rintro (h | h | h) <;> omega)).mono ?_
    rintro e w' ⟨rfl, r, hr, f, I', O⟩
    exact ⟨rfl, .inr ⟨rfl, by omega, r, by omega, f, I'⟩, O⟩
  · refine (at_full b r k k (mkF by_) j (by omega) w f).mono ?_
    rintro e w' ⟨rfl, rfl⟩
    exact ⟨rfl, .inr ⟨rfl, by omega, r, hr, f, I⟩, Off.refl _ _⟩
theorem at_sm_out (b : Nat) (K : Int) (cr cc cb : Nat) (by_ : Int) (lo : Nat) (c i : Int) (hi : i < 0 ∨ K ≤ i) (w : World) (h : Sm b K cr cc cb by_ lo c w) :
    Calls Try.prog 13 #[.pointer (some ⟨b, 0, none⟩), .int .i64 i] w fun e w' => e = .returned (.int .u32 0) ∧ w' = w := by
  obtain ⟨fv, d, s, nums, t⟩ := h.tb
  exact at_out _ _ _ _ _ _ _ _ _ t hi

end Go.Proofs.Ytbeaebemfcfkhaa
