/- The walk of LazySums. -/
import Derived.Test.YtbeaebemfcfkhaaRef
namespace Go.Proofs.Ytbeaebemfcfkhaa
open Go.RowKit

/-- What LazySums' function tells. -/
def fs (by_ j : Nat) : Nat := (j * by_ % 4294967296) ^^^ (by_ / 8)
theorem fs_lt {by_ j : Nat} (h : by_ < 4294967296) : fs by_ j < 4294967296 := x32 (Nat.mod_lt _ (by decide)) (by omega)
theorem fs_bits {by_ j : Nat} (h : by_ < 4294967296) : bits .xor .u32 ((j : Int) * (by_ : Int) % 4294967296) ((by_ : Int) / 8) = ((fs by_ j : Nat) : Int) := by
  have e := bits_xor (show j * by_ % 4294967296 < 4294967296 from Nat.mod_lt _ (by decide)) (show by_ / 8 < 4294967296 by omega)
  rw [fs, ← e]
  rfl

theorem sums1 (j cb : Nat) (hj : j < 5000) (by_ : Nat) (hby : by_ < 4294967296) (w : World) (hb : Cel cb 22 #[.int .u32 (by_ : Int)] w) :
    Calls Try.prog 15 #[.int .i64 j, .pointer (some ⟨cb, 0, none⟩)] w fun e w' => e = .returned (.int .u32 (fs by_ j)) ∧ w' = w := by
  have c3 := hb.cell 0
  simp at c3
  have e := fs_bits (j := j) hby
  go_enter Try.func15, Try.ntmps15
  go_wp2
  go_ret
  exact ⟨rfl, rfl⟩

theorem sums_makes (cb k : Nat) (hk : k ≤ 4096) (by_ : Nat) (hby : by_ < 4294967296) :
    Makes 15 #[.pointer (some ⟨cb, 0, none⟩)] k (fun j => (fs by_ j : Int)) (fun c => c = cb) (fun _ => Cel cb 22 #[.int .u32 (by_ : Int)]) where
  call j hj w I := by
    refine Calls.mono (sums1 j cb (by omega) by_ hby w I) ?_
    rintro e w' ⟨rfl, rfl⟩
    exact ⟨rfl, I, Off.refl _ _⟩
  keep E j w w' hE I o := I.off o (hE _ rfl)
  old j w I c h := by subst h; exact I.lt
  enters args w := fn_enters Try.func15 (by kernel_rfl) rfl args w

/-- Bytes that lie in every world of P. -/
def Lie (P : World → Prop) (ad : Option Addr) (len : Nat) (B : Nat → Nat) : Prop :=
  ∀ i, i < len → B i < 256 ∧ ∃ b off, ad = some ⟨b, off, none⟩ ∧ ∀ w, P w → w.cell? ⟨b, off + i, none⟩ = some (.int .u8 (B i))

theorem sum_tab (tb cb k : Nat) (hk : k ≤ 4096) (htc : tb ≠ cb) (by_ : Nat) (hby : by_ < 4294967296) (ad : Option Addr) (len cap : Nat) (hlen : len ≤ 9223372036854775807) (B : Nat → Nat) (w : World)
    (ht : ∃ nums, Tb tb k (.func (.func 15) #[] #[.pointer (some ⟨cb, 0, none⟩)]) 0 0 nums 0 w) (hI : Cel cb 22 #[.int .u32 (by_ : Int)] w)
    (hz : Lie (fun w' => Off (fun c => c = tb ∨ c = cb) w w') ad len B) :
    Calls Try.prog 16 #[.pointer (some ⟨tb, 0, none⟩), .slice ad len cap] w fun e w' => e = .returned (.int .u32 (crc (upTo (fs by_) k) B len)) ∧ Off (fun c => c = tb ∨ c = cb) w w' := by
  refine (sum_any (.pointer (some ⟨tb, 0, none⟩)) (upTo (fs by_) k) (fun x _ => upTo_lt (fun x _ => fs_lt hby)) (fun w' => (St tb k (.func (.func 15) #[] #[.pointer (some ⟨cb, 0, none⟩)]) (fun j => (fs by_ j : Int)) 0 w' ∧ Cel cb 22 #[.int .u32 (by_ : Int)] w') ∧ Off (fun c => c = tb ∨ c = cb) w w') ad len cap hlen B w ⟨⟨.inl ht, hI⟩, Off.refl _ _⟩ ?_ ?_).mono ?_
  · rintro w1 x hx ⟨⟨s, i1⟩, o⟩
    refine (at_st tb k hk 15 _ (fun j => (fs by_ j : Int)) _ _ 0 x w1 s (sums_makes cb k hk by_ hby) i1 htc (Nat.zero_le _)).mono ?_
    rintro e w2 ⟨rfl, s2, -, i2, o2⟩
    refine ⟨?_, ⟨s2, i2⟩, o.trans o2 (fun i _ h => h)⟩
    have : told (fun j => (fs by_ j : Int)) k (x : Int) = ((upTo (fs by_) k x : Nat) : Int) := by
      unfold told upTo
      by_cases h : x < k
      · rw [if_pos (by omega), if_pos h]; rfl
      · rw [if_neg (by omega), if_neg h]; rfl
    rw [this]
  · intro i hi
    obtain ⟨h1, c, off, rfl, hc⟩ := hz i hi
    exact ⟨h1, c, off, rfl, fun w1 h => hc w1 h.2⟩
  · rintro e w' ⟨rfl, -, o⟩
    exact ⟨rfl, o⟩

theorem sum_nil (ad : Option Addr) (len cap : Nat) (hlen : len ≤ 9223372036854775807) (B : Nat → Nat) (w : World)
    (hz : Lie (fun w' => w' = w) ad len B) :
    Calls Try.prog 16 #[.pointer none, .slice ad len cap] w fun e w' => e = .returned (.int .u32 (crc (fun _ => 0) B len)) ∧ w' = w := by
  refine (sum_any (.pointer none) (fun _ => 0) (fun _ _ => by omega) (fun w' => w' = w) ad len cap hlen B w rfl ?_ hz).mono ?_
  · rintro w1 x hx rfl
    exact at_nil _ _
  · rintro e w' ⟨rfl, rfl⟩
    exact ⟨rfl, rfl⟩

theorem crc_congr {T S B : Nat → Nat} (h : ∀ x, x < 256 → T x = S x) (n : Nat) (hB : ∀ i, i < n → B i < 256) : crc T B n = crc S B n := by
  unfold crc; rw [crcst_congr h n hB]

set_option maxRecDepth 100000 in
set_option maxHeartbeats 1000000 in
theorem sums_any (n : Int) (by_ : Nat) (hby : by_ < 4294967296) (ad : Option Addr) (len cap : Nat) (hlen : len ≤ 9223372036854775807) (B : Nat → Nat) (w : World)
    (hz : ∀ i, i < len → B i < 256 ∧ ∃ b off, ad = some ⟨b, off, none⟩ ∧ b < w.heap.size ∧ w.cell? ⟨b, off + i, none⟩ = some (.int .u8 (B i))) :
    Calls Try.prog 4 #[.slice ad len cap, .int .i64 n, .int .u32 by_] w fun e w' => e = .returned (.bool true) ∧ Below w.heap.size w w' := by
  have hmf : ∀ (fn : Fn) (first cap : Array Value) (w : World), (Instr.makeFunc fn first cap).run Try.prog w = .ok (.func fn first cap) w := fun _ _ _ _ => rfl
  obtain ⟨i0, hi, hz0, hz1, hz2⟩ := info_parts Try.info22
  have HB : Hid (∀ w', Off (fun c => w.heap.size ≤ c) w w' → ∀ i, i < len → B i < 256 ∧ ∃ b off, ad = some ⟨b, off, none⟩ ∧ b < w.heap.size ∧ w'.cell? ⟨b, off + i, none⟩ = some (.int .u8 (B i))) := by
    intro w' o i hi
    obtain ⟨h1, b, off, h2, h3, h4⟩ := hz i hi
    exact ⟨h1, b, off, h2, h3, (World.cell?_of_block (a := ⟨b, off + i, none⟩) (o.block b h3 (by omega))).trans h4⟩
  clear hz
  have n0 : 0 ≤ (IntKind.u64.wrap n).tmod 300 ∧ (IntKind.u64.wrap n).tmod 300 < 300 := by
    rw [IntKind.wrap_u64, Int.tmod_eq_emod_of_nonneg (by omega)]
    omega
  obtain ⟨k, ek⟩ := Int.eq_ofNat_of_zero_le n0.1
  have hk : k < 300 := by omega
  clear n0
  obtain ⟨k1, ek1⟩ : ∃ k1 : Nat, k1 = min k 256 := ⟨_, rfl⟩
  have hk1 : k1 ≤ 256 := by omega
  have hm1 : ∀ (ts : Array TypeId) (t : TypeId) (W : World), (Builtin.min_ ts t #[.int .i64 (k : Int), .int .i64 256]).run Try.prog W = .ok (.int .i64 (k1 : Int)) W := fun ts t W => by
    rw [run_min_int2, ek1]; congr 2; omega
  have N : Hid _ := new_fn k (.func 15) #[] #[.pointer (some ⟨w.heap.size, 0, none⟩)] (w.alloc (.cells #[.int .u32 (by_ : Int)] 22))
  rw [show min (max (k : Int) 0) 4096 = (k : Int) by omega, show (w.alloc (.cells #[.int .u32 (by_ : Int)] 22)).heap.size = w.heap.size + 1 by simp] at N
  have vC := Cel.new w 22 #[.int .u32 (by_ : Int)]
  have vO : Off (fun c => w.heap.size ≤ c) w (w.alloc (.cells #[.int .u32 (by_ : Int)] 22)) := (Off.refl _ w).alloc _
  have HK1 : Hid _ := ek1
  clear ek1
  go_enter Try.func4, Try.ntmps4
  go_wp2_with fail
  refine Calls.mono N.out ?_
  rintro e w1 ⟨rfl, t0, o⟩
  have C0 := vC.off o id
  have O0 : Off (fun c => w.heap.size ≤ c) w w1 := vO.trans o (fun _ _ h => h.elim)
  clear vC vO o N
  go_wp2_with fail
  clear hm1 ek
  go_loopw [8, 19] (fun v i wr => ∃ (j : Nat), j ≤ k1 ∧ i = .int .i64 j ∧ wr.ownsRow (w.heap.size + 2) 22 1 v j (ents (fs by_) j) ∧ Tb (w.heap.size + 1) k (.func (.func 15) #[] #[.pointer (some ⟨w.heap.size, 0, none⟩)]) 0 0 (.slice none 0 0) 0 wr ∧ Cel w.heap.size 22 #[.int .u32 (by_ : Int)] wr ∧ Off (fun c => w.heap.size ≤ c) w wr) (fun _ i _ => (k1 - intOf i).toNat)
  case atStart => exact ⟨0, by omega, rfl, World.ownsRow_nil _ _ _ _, t0, C0, O0⟩
  case round =>
    clear t0 C0 O0
    obtain ⟨j, hj, rfl, hown, T, C, O⟩ := hrel
    have hs := T.lt
    by_cases hlt : j < k1
    · have c1 := C.cell 0
      simp at c1
      have e1 := fs_bits (j := j) hby
      go_wp2_with (at_builtin; refine wpList_append_own _ rfl _ _ 33 rfl (w.heap.size + 2) 22 i0 (.int .u32 0) 1 4 Try.underlying33 hi hz0 hz1 hz2 rfl (by decide) _ _ _ rfl (hown.alloc _) ⟨wr.heap.size, 0, none⟩ 1 1 [.int .u32 ((fs by_ j : Nat) : Int)] rfl rfl ?c1 ?c2 ?c3 ?c4 ?c5 ?_)
      case c1 =>
        intro t u ht
        match t, ht with
        | 0, ht => simp at ht; subst ht; simp [Addr.add]
      case c2 => intro u hu; simp at hu; subst hu; rfl
      case c3 => unfold maxLen; omega
      case c4 => omega
      case c5 => simp; omega
      · intro v' w2 hown' hgrow _
        have O1 : Off (fun c => w.heap.size + 2 ≤ c) wr w2 := (((Off.refl _ wr).alloc _).grown hgrow (fun k hk => .inl (own_base hown hk)))
        rw [← ents_succ] at hown'
        have T2 := T.off O1 (by omega)
        have C2 := C.off O1 (by omega)
        have O2 := O.trans O1 (fun i _ h => by omega)
        clear hown hgrow c1 T C
        go_wp2
        go_roundw
        case rel => exact ⟨j + 1, by omega, by go_num, hown', T2, C2, O2⟩
        case measure => simp [intOf]; omega
    · obtain rfl : j = k1 := by omega
      obtain ⟨tad, tcap, rfl, hcells⟩ := own_slice hown
      have gold : ∀ g off, tad = some ⟨g, off, none⟩ → w.heap.size + 2 ≤ g := by
        intro g off h
        have := own_base hown (k := g) (by rw [h]; rfl)
        exact this
      -- the numbers lie in every world that has turned no block between the table and what is new
      have HC : Hid (∀ w', Off (fun c => (w.heap.size ≤ c ∧ c < w.heap.size + 2) ∨ wr.heap.size ≤ c) wr w' → ∀ i, i < j → ∃ g off, tad = some ⟨g, off, none⟩ ∧ w'.cell? ⟨g, off + i, none⟩ = some (.int .u32 (fs by_ i))) := by
        intro w' o i hi
        obtain ⟨g, off, h1, h2⟩ := hcells i hi
        have hg := gold g off h1
        have hlt := cell_lt h2
        refine ⟨g, off, h1, (World.cell?_of_block (a := ⟨g, off + i, none⟩) (o.block g hlt ?_)).trans h2⟩
        simp only at hlt
        omega
      have R0 : Off (fun c => wr.heap.size ≤ c) wr wr := Off.refl _ _
      have QO : ∀ w', Off (fun c => (w.heap.size ≤ c ∧ c < w.heap.size + 2) ∨ wr.heap.size ≤ c) wr w' → Off (fun c => w.heap.size ≤ c) w w' := fun w' q => O.trans q (fun i hi h => by have := O.size; omega)
      have HQ : Hid _ := QO
      have bl : ∀ i, i < len → B i < 256 := fun i hi => (HB.out wr O i hi).1
      have HL : Hid _ := bl
      clear hcells hown gold QO bl
      go_wp2_with fail
      refine (poly_any wr).mono ?_
      rintro e w2 ⟨rfl, tp, o2⟩
      have R2 := R0.trans o2 (fun _ _ h => h.elim)
      go_wp2_with fail
      refine (sum_poly wr.heap.size ad len cap hlen B w2 tp (fun i hi => by
        obtain ⟨h1, b, off, h2, h3, h4⟩ := HB.out w2 (HQ.out w2 (R2.mono (fun _ h => .inr h))) i hi
        exact ⟨h1, b, off, h2, by omega, h4⟩)).mono ?_
      rintro e w3 ⟨rfl, o3⟩
      have R3 := R2.trans o3 (fun _ hi h => by omega)
      clear tp o2 o3
      go_wp2_with fail
      refine (refcrc_any ad len cap hlen B w3 (fun i hi => by
        obtain ⟨h1, b, off, h2, h3, h4⟩ := HB.out w3 (HQ.out w3 (R3.mono (fun _ h => .inr h))) i hi
        exact ⟨h1, b, off, h2, h4⟩)).mono ?_
      rintro e w4 ⟨rfl, b4⟩
      have R4 := R3.trans (Off.of_below (D := fun _ => False) b4) (fun _ hi h => h.elim)
      have T4 := T.off R4 (by omega)
      have C4 := C.off R4 (by omega)
      have Q4 : Off (fun c => (w.heap.size ≤ c ∧ c < w.heap.size + 2) ∨ wr.heap.size ≤ c) wr w4 := R4.mono (fun _ h => .inr h)
      clear b4 T C R0 R2 R3 R4
      go_wp2_with fail
      refine (sum_tab (w.heap.size + 1) w.heap.size k (by omega) (by omega) by_ hby ad len cap hlen B w4 ⟨_, T4⟩ C4 (fun i hi => by
        obtain ⟨h1, b, off, h2, h3, h4⟩ := HB.out w4 (HQ.out w4 Q4) i hi
        exact ⟨h1, b, off, h2, fun w' o' => (World.cell?_of_block (a := ⟨b, off + i, none⟩) (o'.block b (by have := T4.lt; omega) (by omega))).trans h4⟩)).mono ?_
      rintro e w5 ⟨rfl, o5⟩
      have Q5 := Q4.trans o5 (fun _ hi h => by omega)
      clear T4 C4 o5
      go_wp2_with fail
      refine (refsum_any tad j tcap (fs by_) (fun x _ => fs_lt hby) ad len cap hlen B w5 (HC.out w5 Q5) (fun i hi => by
        obtain ⟨h1, b, off, h2, h3, h4⟩ := HB.out w5 (HQ.out w5 Q5) i hi
        exact ⟨h1, b, off, h2, h4⟩)).mono ?_
      rintro e w6 ⟨rfl, hw6⟩
      rw [hw6]
      clear hw6 w6
      have e5 : crc (upTo (fs by_) j) B len = crc (upTo (fs by_) k) B len := crc_congr (fun x hx => by
        have := HK1.out
        unfold upTo
        by_cases h : x < k
        · rw [if_pos h, if_pos (by omega)]
        · rw [if_neg h, if_neg (by omega)]) len HL.out
      rw [e5]
      clear e5
      go_wp2_with fail
      refine (sum_nil ad len cap hlen B w5 (fun i hi => by
        obtain ⟨h1, b, off, h2, h3, h4⟩ := HB.out w5 (HQ.out w5 Q5) i hi
        exact ⟨h1, b, off, h2, fun w' hw => hw ▸ h4⟩)).mono ?_
      rintro e w6 ⟨rfl, hw6⟩
      rw [hw6]
      clear hw6 w6
      go_wp2_with fail
      refine (refsum_any none 0 0 (fun _ => 0) (fun x _ => by omega) ad len cap hlen B w5 (fun i hi => by omega) (fun i hi => by
        obtain ⟨h1, b, off, h2, h3, h4⟩ := HB.out w5 (HQ.out w5 Q5) i hi
        exact ⟨h1, b, off, h2, h4⟩)).mono ?_
      rintro e w6 ⟨rfl, hw6⟩
      rw [hw6]
      clear hw6 w6
      have e6 : crc (upTo (fun _ => 0) 0) B len = crc (fun _ => 0) B len := crc_congr (fun x hx => by simp [upTo]) len HL.out
      rw [e6]
      clear e6
      go_wp2_with fail
      refine (mix_any ad len cap hlen B w5 (fun i hi => by
        obtain ⟨h1, b, off, h2, h3, h4⟩ := HB.out w5 (HQ.out w5 Q5) i hi
        exact ⟨b, off, h2, h1, h4⟩)).mono ?_
      rintro e w6 ⟨rfl, hw6⟩
      rw [hw6]
      clear hw6 w6
      go_wp2_with fail
      refine (refmix_any ad len cap hlen B w5 (fun i hi => by
        obtain ⟨h1, b, off, h2, h3, h4⟩ := HB.out w5 (HQ.out w5 Q5) i hi
        exact ⟨h1, b, off, h2, h4⟩)).mono ?_
      rintro e w6 ⟨rfl, hw6⟩
      rw [hw6]
      clear hw6 w6
      go_wp2_with fail
      refine (awake_any _).mono ?_
      rintro e w6 ⟨rfl, o6⟩
      go_wp2_with fail
      go_ret
      exact ⟨rfl, ((HQ.out w5 Q5).trans o6 (fun _ _ h => h.elim)).below (Nat.le_refl _) (fun _ h => h)⟩

set_option linter.unusedVariables false in
theorem sums_walk (ad : Option Addr) (len cap : Nat) (zs : List Int) (n by_ : Int) (w : World) (w0 : IsRow .u8 w ad len cap zs) (w1 : (Lit.int .i64 n).wf = true) (w2 : (Lit.int .u32 by_).wf = true) :
    Calls Try.prog 4 #[.slice ad len cap, .int .i64 n, .int .u32 by_] w fun e w' => e = .returned (.bool true) ∧ Below w.heap.size w w' := by
  have hb : 0 ≤ by_ ∧ by_ ≤ 4294967295 := by
    simp only [Lit.wf, Bool.and_eq_true, decide_eq_true_eq] at w2
    exact w2
  obtain ⟨y, rfl⟩ := Int.eq_ofNat_of_zero_le hb.1
  exact sums_any n y (by omega) ad len cap w0.len (bytesOf zs) w w0.bytes
end Go.Proofs.Ytbeaebemfcfkhaa
