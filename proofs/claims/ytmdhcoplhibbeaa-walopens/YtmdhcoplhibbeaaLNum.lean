/- The contracts of remainder, Sum, Poly. -/
import Derived.Test.YtmdhcoplhibbeaaLAt
import Derived.Test.YtmdhcoplhibbeaaLPure
namespace Go.Proofs.Ytmdhcoplhibbeaa
set_option maxRecDepth 100000
open Go.RowKit

theorem half_odd {y : Nat} (hy : y < 4294967296) (h : (bits .and .u32 (y : Int) 1 == 1) = true) : bits .xor .u32 ((y : Int) / 2) 3988292384 = ((sh y : Nat) : Int) := by
  have e := u32_and_nat y 1 hy (by decide)
  have e2 := u32_xor_nat (y / 2) 3988292384 (by omega) (by decide)
  rw [Nat.and_one_is_mod] at e
  simp only [Int.natCast_one] at e
  rw [e] at h
  have h' : y % 2 = 1 := by have := eq_of_beq h; omega
  rw [sh, if_pos h', ← e2]
  rfl
theorem half_even {y : Nat} (hy : y < 4294967296) (h : (bits .and .u32 (y : Int) 1 == 1) = false) : (y : Int) / 2 = ((sh y : Nat) : Int) := by
  have e := u32_and_nat y 1 hy (by decide)
  rw [Nat.and_one_is_mod] at e
  simp only [Int.natCast_one] at e
  rw [e] at h
  have h' : ¬ y % 2 = 1 := by have := ne_of_beq_false h; omega
  rw [sh, if_neg h']
  rfl

theorem rem_any (x : Nat) (hx : x < 4294967296) (w : World) :
    Calls Try.prog 46 #[.int .i64 x] w fun e w' => e = .returned (.int .u32 (entry x)) ∧ w' = w := by
  go_enter Try.func46, Try.ntmps46
  go_wp2
  go_loopw [3, 7] (fun l i wr => ∃ (j : Nat), j ≤ 8 ∧ i = .int .i64 j ∧ l = .int .u32 (shn j x) ∧ wr = w) (fun _ i _ => (8 - intOf i).toNat)
  case atStart => exact ⟨0, by omega, rfl, by simp [shn], rfl⟩
  case round =>
    obtain ⟨j, hj, rfl, rfl, rfl⟩ := hrel
    have hy := shn_lt j hx
    obtain ⟨y, hyy⟩ : ∃ y, y = shn j x := ⟨_, rfl⟩
    have HY : Hid _ := hyy
    rw [← hyy] at hy ⊢
    clear hyy
    by_cases hlt : j < 8
    · go_wp2
      · go_roundw
        case rel => exact ⟨j + 1, by omega, by go_num, by rw [half_odd hy (by assumption), HY.out]; rfl, trivial⟩
        case measure => simp [intOf]; omega
      · go_roundw
        case rel => exact ⟨j + 1, by omega, by go_num, by rw [half_even hy (by assumption), HY.out]; rfl, trivial⟩
        case measure => simp [intOf]; omega
    · obtain rfl : j = 8 := by omega
      go_wp2
      go_ret
      exact ⟨by rw [HY.out]; rfl, rfl⟩

theorem sum_any (tv : Value) (T : Nat → Nat) (hT : ∀ x, x < 256 → T x < 4294967296) (P : World → Prop) (ad : Option Addr) (len cap : Nat) (hlen : len ≤ 9223372036854775807) (B : Nat → Nat) (w : World) (hP : P w)
    (hat : ∀ w (x : Nat), x < 256 → P w → Calls Try.prog 48 #[tv, .int .i64 x] w fun e w' => e = .returned (.int .u32 (T x)) ∧ P w')
    (hz : ∀ i, i < len → B i < 256 ∧ ∃ b off, ad = some ⟨b, off, none⟩ ∧ ∀ w, P w → w.cell? ⟨b, off + i, none⟩ = some (.int .u8 (B i))) :
    Calls Try.prog 44 #[tv, .slice ad len cap] w fun e w' => e = .returned (.int .u32 (crc T B len)) ∧ P w' := by
  have HZ : Hid _ := hz
  have HA : Hid _ := hat
  have HT : Hid _ := hT
  clear hz hat hT
  go_enter Try.func44, Try.ntmps44
  go_wp2
  go_loopw [5, 10] (fun l i wr => ∃ (j : Nat), j ≤ len ∧ i = .int .i64 j ∧ l = .int .u32 (crcst T B j) ∧ P wr) (fun _ i _ => (len - intOf i).toNat)
  case atStart => exact ⟨0, by omega, rfl, rfl, hP⟩
  case round =>
    obtain ⟨j, hj, rfl, rfl, hp⟩ := hrel
    have hy := crcst_lt (B := B) HT.out j (fun i hi => (HZ.out i (by omega)).1)
    obtain ⟨y, hyy⟩ : ∃ y, y = crcst T B j := ⟨_, rfl⟩
    have HY : Hid _ := hyy
    rw [← hyy] at hy ⊢
    clear hyy
    by_cases hlt : j < len
    · obtain ⟨hb, b, off, rfl, hc⟩ := HZ.out j hlt
      have hc' := hc wr hp
      clear hc
      have hx : y % 256 ^^^ B j < 256 := byte_lt hb
      have e1 : wrap64 (bits .xor .u8 ((y : Int) % 256) (B j : Int)) = ((y % 256 ^^^ B j : Nat) : Int) := by
        have e := u8_xor_nat (y % 256) (B j) (by omega) hb
        rw [show ((y : Int) % 256) = ((y % 256 : Nat) : Int) from rfl, e]
        simp only [wrap64]
        omega
      have A := HA.out wr _ hx hp
      rw [← e1] at A
      have HE : Hid _ := e1
      clear e1
      go_wp2_with fail
      refine Calls.mono A ?_
      rintro e w2 ⟨rfl, hp2⟩
      go_wp2_with fail
      go_roundw
      case rel =>
        refine ⟨j + 1, by omega, by go_num, ?_, hp2⟩
        rw [show ((y : Int) / 256) = ((y / 256 : Nat) : Int) from rfl, bits_xor (HT.out _ hx) (by omega), crcst, ← HY.out]
      case measure => simp [intOf]; omega
    · obtain rfl : j = len := by omega
      go_wp2
      go_ret
      refine ⟨?_, hp⟩
      have e := bits_xor (show 4294967295 < 4294967296 by decide) hy
      rw [crc, ← HY.out, ← e]
      rfl

theorem fn_enters {f : FuncId} {fn : Func} {c : Code} (hf : Try.prog.funcs[f]? = some fn) (hname : (fn.name == "runtime.NumGoroutine") = false) (hb : fn.body = some c) (args : Array Value) (w : World) :
    (callFunc f args).run Try.prog w = .ok (.enter f args) w := by
  have h1 : fn.name ≠ "runtime.NumGoroutine" := by simpa using hname
  simp [callFunc, hf, h1, hb]

theorem rem_makes : Makes 46 #[] 256 (fun j => (entry j : Int)) (fun _ => False) (fun _ _ => True) where
  call j hj w _ := by
    refine Calls.mono (rem_any j (by omega) w) ?_
    rintro e w' ⟨rfl, rfl⟩
    exact ⟨rfl, trivial, Off.refl _ _⟩
  keep _ _ _ _ _ _ _ := trivial
  old _ _ _ _ h := h.elim
  enters args w := fn_enters Try.func46 (by kernel_rfl) rfl args w

theorem poly_any (w : World) :
    Calls Try.prog 41 #[] w fun e w' => e = .returned (.pointer (some ⟨w.heap.size, 0, none⟩)) ∧ Tb w.heap.size 256 (.func (.func 46) #[] #[]) 0 0 (.slice none 0 0) 0 w' ∧ Off (fun _ => False) w w' := by
  have hmf : ∀ (fn : Fn) (first cap : Array Value) (w : World), (Instr.makeFunc fn first cap).run Try.prog w = .ok (.func fn first cap) w := fun _ _ _ _ => rfl
  go_enter Try.func41, Try.ntmps41
  go_wp2_with fail
  refine (new_fn 256 (.func 46) #[] #[] w).mono ?_
  rintro e w' ⟨rfl, t, o⟩
  go_wp2_with fail
  go_ret
  exact ⟨rfl, t, o⟩

/-- The sum of bytes by Poly: from a fresh table at b. -/
theorem sum_poly (b : Nat) (ad : Option Addr) (len cap : Nat) (hlen : len ≤ 9223372036854775807) (B : Nat → Nat) (w : World)
    (ht : Tb b 256 (.func (.func 46) #[] #[]) 0 0 (.slice none 0 0) 0 w)
    (hz : ∀ i, i < len → B i < 256 ∧ ∃ c off, ad = some ⟨c, off, none⟩ ∧ c ≠ b ∧ w.cell? ⟨c, off + i, none⟩ = some (.int .u8 (B i))) :
    Calls Try.prog 44 #[.pointer (some ⟨b, 0, none⟩), .slice ad len cap] w fun e w' => e = .returned (.int .u32 (crc entry B len)) ∧ Off (fun c => c = b) w w' := by
  refine (sum_any (.pointer (some ⟨b, 0, none⟩)) entry (fun x hx => entry_lt (by omega)) (fun w' => St b 256 (.func (.func 46) #[] #[]) (fun j => (entry j : Int)) 0 w' ∧ Off (fun c => c = b) w w') ad len cap hlen B w ⟨.inl ⟨_, ht⟩, Off.refl _ _⟩ ?_ ?_).mono ?_
  · rintro w1 x hx ⟨s, o⟩
    refine (at_st b 256 (by decide) 46 #[] (fun j => (entry j : Int)) (fun _ => False) (fun _ => True) 0 x w1 s rem_makes trivial id (Nat.zero_le _)).mono ?_
    rintro e w2 ⟨rfl, s2, -, -, o2⟩
    refine ⟨by simp [told]; omega, s2, o.trans o2 (fun i _ h => h.elim id False.elim)⟩
  · intro i hi
    obtain ⟨h1, c, off, rfl, hcb, hc⟩ := hz i hi
    refine ⟨h1, c, off, rfl, ?_⟩
    rintro w1 ⟨-, o⟩
    have hlt : c < w.heap.size := by
      rcases Nat.lt_or_ge c w.heap.size with h | h
      · exact h
      · simp [World.cell?, Array.getElem?_eq_none h] at hc
    rw [World.cell?_of_block (w := w) (o.block c hlt hcb)]
    exact hc
  · rintro e w' ⟨rfl, -, o⟩
    exact ⟨rfl, o⟩


end Go.Proofs.Ytmdhcoplhibbeaa
