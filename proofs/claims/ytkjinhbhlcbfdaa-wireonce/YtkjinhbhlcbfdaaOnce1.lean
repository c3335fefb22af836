/- The closures of WireOnce: what was taken, written again. -/
import Derived.Test.YtkjinhbhlcbfdaaFlag
namespace Go.Proofs.Ytkjinhbhlcbfdaa
open Go.RowKit

theorem put_room (bs : List Nat) : putS bs.length (some []) bs = some bs := by simp [putS]

theorem put33 {D : Nat → Prop} {b most : Nat} {st : Option (List Nat)} {w : World} (hW : Wtr D b most st w) (n : Nat) (hn : n < 18446744073709551616) (P0 : Nat) (hv : w.cell? ⟨P0, 0, none⟩ = some (.int .u64 (n : Int))) (hsz : (st.getD []).length + 10 ≤ 140737488355328) :
    Calls Try.prog 33 #[.pointer (some ⟨b, 0, none⟩), .pointer (some ⟨P0, 0, none⟩)] w fun e w' => e = .returned (.tuple #[]) ∧ Put D b most st (numB n) w w' := by
  obtain ⟨xx, hxx⟩ : ∃ xx, xx = numB n := ⟨_, rfl⟩
  rw [← hxx]
  have HXX : Hid _ := hxx
  clear hxx
  go_enter Try.func33, Try.ntmps33
  go_wp2_with fail
  refine (wnum_any hW n hn hsz).mono ?_
  rw [← HXX.out]
  rintro e w1 ⟨rfl, P⟩
  go_wp2_with fail
  go_end0
  exact ⟨rfl, P⟩

set_option maxRecDepth 100000 in
set_option maxHeartbeats 1000000 in
theorem same33 {D : Nat → Prop} {b : Nat} {s : RS} {w : World} (hR : Rdr 65 D b s w) (B0 P0 : Nat) (tad : Option Addr) (cap : Nat) (bs : List Nat) (hbl : bs.length ≤ 140737488351232) (n : Nat) (hn : n < 18446744073709551616) (hbox : w.cell? ⟨B0, 0, none⟩ = some (.slice tad bs.length cap)) (hsrc : Src w tad cap bs) (hv : w.cell? ⟨P0, 0, none⟩ = some (.int .u64 (n : Int)))  (hx : endS s = 0 → numB n = bs) :
    Calls Try.prog 32 #[.pointer (some ⟨b, 0, none⟩), .func (Fn.func 33) #[] #[.pointer (some ⟨P0, 0, none⟩)], .pointer (some ⟨B0, 0, none⟩)] w fun e w' => e = .returned (.bool true) ∧ Off (fun _ => False) w w' := by
  have keep : ∀ (w' : World) (p : Nat) (v : Value), Off (fun _ => False) w w' → w.cell? ⟨p, 0, none⟩ = some v → w'.cell? ⟨p, 0, none⟩ = some v := fun w' p v o h => by
    rw [← h]
    exact World.cell?_of_block (a := ⟨p, 0, none⟩) (o.block p (cell_lt h) (fun h => h))
  have HKE : Hid _ := keep
  have HSR : Hid (Src w tad cap bs) := hsrc
  
  clear keep hsrc 
  obtain ⟨er, ee⟩ : ∃ er, er = endS s := ⟨_, rfl⟩
  rw [← ee] at hx
  have EE : Hid _ := ee
  clear ee
  by_cases her : er = 0
  · have ex := hx her
    have HXX : Hid _ := ex
    have hd : (((er : Nat) : Int) == 0) = true := by rw [beq_iff_eq]; omega
    have HER : Hid _ := her
    clear ex hx her
    go_enter Try.func32, Try.ntmps32
    go_wp2_with fail
    refine (rend_any hR).mono ?_
    rw [← EE.out]
    rintro e v0 ⟨rfl, hw⟩
    rw [hw]
    clear hw v0
    go_wp2_with fail
    refine (newWriter_any _ (by omega) w).mono ?_
    rintro e w1 ⟨rfl, W1, o1⟩
    rw [show ((bs.length : Nat) : Int).toNat = bs.length from by omega] at W1
    have v1 := HKE.out w1 P0 _ o1 hv
    go_wp2_with fail
    refine (put33 W1 n hn P0 v1 (by simp)).mono ?_
    rintro e w2 ⟨rfl, D2, W2, o2, g2⟩
    rw [HXX.out, put_room] at W2
    have O2 : Off (fun _ => False) w w2 := o1.trans o2 (fun i hi h => by have : i = w.heap.size := h; omega)
    go_wp2_with fail
    refine (done_any W2 (by simp; omega)).mono ?_
    rintro e w3 ⟨t3, c3, rfl, own3, hb3, o3⟩
    have O3 := O2.trans o3 (fun _ _ h => h)
    replace own3 : OwnR w3 t3 c3 bs := own3
    simp only [Option.getD_some, errW]
    have C1 := conv_src own3.src
    have C2 := conv_src (HSR.out.off O3 (fun _ _ _ h => h))
    have b3 := HKE.out w3 B0 _ O3 hbox
    clear own3 hb3 W2 o2 g2 v1 hv hbox W1
    go_wp2_with fail
    go_ret
    exact ⟨rfl, O3⟩
  · have hd : (((er : Nat) : Int) == 0) = false := by rw [beq_eq_false_iff_ne]; omega
    go_enter Try.func32, Try.ntmps32
    go_wp2_with fail
    refine (rend_any hR).mono ?_
    rw [← EE.out]
    rintro e v0 ⟨rfl, hw⟩
    rw [hw]
    clear hw v0
    go_wp2_with fail
    go_ret
    exact ⟨rfl, Off.refl _ _⟩

theorem put34 {D : Nat → Prop} {b most : Nat} {st : Option (List Nat)} {w : World} (hW : Wtr D b most st w) (i : Int) (i0 : -9223372036854775808 ≤ i) (i1 : i ≤ 9223372036854775807) (P0 : Nat) (hv : w.cell? ⟨P0, 0, none⟩ = some (.int .i64 i)) (hsz : (st.getD []).length + 10 ≤ 140737488355328) :
    Calls Try.prog 34 #[.pointer (some ⟨b, 0, none⟩), .pointer (some ⟨P0, 0, none⟩)] w fun e w' => e = .returned (.tuple #[]) ∧ Put D b most st (numB (zig i)) w w' := by
  obtain ⟨xx, hxx⟩ : ∃ xx, xx = numB (zig i) := ⟨_, rfl⟩
  rw [← hxx]
  have HXX : Hid _ := hxx
  clear hxx
  go_enter Try.func34, Try.ntmps34
  go_wp2_with fail
  refine (wint_any hW i i0 i1 hsz).mono ?_
  rw [← HXX.out]
  rintro e w1 ⟨rfl, P⟩
  go_wp2_with fail
  go_end0
  exact ⟨rfl, P⟩

set_option maxRecDepth 100000 in
set_option maxHeartbeats 1000000 in
theorem same34 {D : Nat → Prop} {b : Nat} {s : RS} {w : World} (hR : Rdr 65 D b s w) (B0 P0 : Nat) (tad : Option Addr) (cap : Nat) (bs : List Nat) (hbl : bs.length ≤ 140737488351232) (i : Int) (i0 : -9223372036854775808 ≤ i) (i1 : i ≤ 9223372036854775807) (hbox : w.cell? ⟨B0, 0, none⟩ = some (.slice tad bs.length cap)) (hsrc : Src w tad cap bs) (hv : w.cell? ⟨P0, 0, none⟩ = some (.int .i64 i))  (hx : endS s = 0 → numB (zig i) = bs) :
    Calls Try.prog 32 #[.pointer (some ⟨b, 0, none⟩), .func (Fn.func 34) #[] #[.pointer (some ⟨P0, 0, none⟩)], .pointer (some ⟨B0, 0, none⟩)] w fun e w' => e = .returned (.bool true) ∧ Off (fun _ => False) w w' := by
  have keep : ∀ (w' : World) (p : Nat) (v : Value), Off (fun _ => False) w w' → w.cell? ⟨p, 0, none⟩ = some v → w'.cell? ⟨p, 0, none⟩ = some v := fun w' p v o h => by
    rw [← h]
    exact World.cell?_of_block (a := ⟨p, 0, none⟩) (o.block p (cell_lt h) (fun h => h))
  have HKE : Hid _ := keep
  have HSR : Hid (Src w tad cap bs) := hsrc
  
  clear keep hsrc 
  obtain ⟨er, ee⟩ : ∃ er, er = endS s := ⟨_, rfl⟩
  rw [← ee] at hx
  have EE : Hid _ := ee
  clear ee
  by_cases her : er = 0
  · have ex := hx her
    have HXX : Hid _ := ex
    have hd : (((er : Nat) : Int) == 0) = true := by rw [beq_iff_eq]; omega
    have HER : Hid _ := her
    clear ex hx her
    go_enter Try.func32, Try.ntmps32
    go_wp2_with fail
    refine (rend_any hR).mono ?_
    rw [← EE.out]
    rintro e v0 ⟨rfl, hw⟩
    rw [hw]
    clear hw v0
    go_wp2_with fail
    refine (newWriter_any _ (by omega) w).mono ?_
    rintro e w1 ⟨rfl, W1, o1⟩
    rw [show ((bs.length : Nat) : Int).toNat = bs.length from by omega] at W1
    have v1 := HKE.out w1 P0 _ o1 hv
    go_wp2_with fail
    refine (put34 W1 i i0 i1 P0 v1 (by simp)).mono ?_
    rintro e w2 ⟨rfl, D2, W2, o2, g2⟩
    rw [HXX.out, put_room] at W2
    have O2 : Off (fun _ => False) w w2 := o1.trans o2 (fun i hi h => by have : i = w.heap.size := h; omega)
    go_wp2_with fail
    refine (done_any W2 (by simp; omega)).mono ?_
    rintro e w3 ⟨t3, c3, rfl, own3, hb3, o3⟩
    have O3 := O2.trans o3 (fun _ _ h => h)
    replace own3 : OwnR w3 t3 c3 bs := own3
    simp only [Option.getD_some, errW]
    have C1 := conv_src own3.src
    have C2 := conv_src (HSR.out.off O3 (fun _ _ _ h => h))
    have b3 := HKE.out w3 B0 _ O3 hbox
    clear own3 hb3 W2 o2 g2 v1 hv hbox W1
    go_wp2_with fail
    go_ret
    exact ⟨rfl, O3⟩
  · have hd : (((er : Nat) : Int) == 0) = false := by rw [beq_eq_false_iff_ne]; omega
    go_enter Try.func32, Try.ntmps32
    go_wp2_with fail
    refine (rend_any hR).mono ?_
    rw [← EE.out]
    rintro e v0 ⟨rfl, hw⟩
    rw [hw]
    clear hw v0
    go_wp2_with fail
    go_ret
    exact ⟨rfl, Off.refl _ _⟩

theorem put35 {D : Nat → Prop} {b most : Nat} {st : Option (List Nat)} {w : World} (hW : Wtr D b most st w) (g : Bool) (P0 : Nat) (hv : w.cell? ⟨P0, 0, none⟩ = some (.bool g)) (hsz : (st.getD []).length + 1 ≤ 140737488355328) :
    Calls Try.prog 35 #[.pointer (some ⟨b, 0, none⟩), .pointer (some ⟨P0, 0, none⟩)] w fun e w' => e = .returned (.tuple #[]) ∧ Put D b most st ([if g then 1 else 0]) w w' := by
  obtain ⟨xx, hxx⟩ : ∃ xx, xx = [if g then 1 else 0] := ⟨_, rfl⟩
  rw [← hxx]
  have HXX : Hid _ := hxx
  clear hxx
  go_enter Try.func35, Try.ntmps35
  go_wp2_with fail
  refine (wflag_any hW g hsz).mono ?_
  rw [← HXX.out]
  rintro e w1 ⟨rfl, P⟩
  go_wp2_with fail
  go_end0
  exact ⟨rfl, P⟩

set_option maxRecDepth 100000 in
set_option maxHeartbeats 1000000 in
theorem same35 {D : Nat → Prop} {b : Nat} {s : RS} {w : World} (hR : Rdr 65 D b s w) (B0 P0 : Nat) (tad : Option Addr) (cap : Nat) (bs : List Nat) (hbl : bs.length ≤ 140737488351232) (g : Bool) (hbox : w.cell? ⟨B0, 0, none⟩ = some (.slice tad bs.length cap)) (hsrc : Src w tad cap bs) (hv : w.cell? ⟨P0, 0, none⟩ = some (.bool g))  (hx : endS s = 0 → [if g then 1 else 0] = bs) :
    Calls Try.prog 32 #[.pointer (some ⟨b, 0, none⟩), .func (Fn.func 35) #[] #[.pointer (some ⟨P0, 0, none⟩)], .pointer (some ⟨B0, 0, none⟩)] w fun e w' => e = .returned (.bool true) ∧ Off (fun _ => False) w w' := by
  have keep : ∀ (w' : World) (p : Nat) (v : Value), Off (fun _ => False) w w' → w.cell? ⟨p, 0, none⟩ = some v → w'.cell? ⟨p, 0, none⟩ = some v := fun w' p v o h => by
    rw [← h]
    exact World.cell?_of_block (a := ⟨p, 0, none⟩) (o.block p (cell_lt h) (fun h => h))
  have HKE : Hid _ := keep
  have HSR : Hid (Src w tad cap bs) := hsrc
  
  clear keep hsrc 
  obtain ⟨er, ee⟩ : ∃ er, er = endS s := ⟨_, rfl⟩
  rw [← ee] at hx
  have EE : Hid _ := ee
  clear ee
  by_cases her : er = 0
  · have ex := hx her
    have HXX : Hid _ := ex
    have hd : (((er : Nat) : Int) == 0) = true := by rw [beq_iff_eq]; omega
    have HER : Hid _ := her
    clear ex hx her
    go_enter Try.func32, Try.ntmps32
    go_wp2_with fail
    refine (rend_any hR).mono ?_
    rw [← EE.out]
    rintro e v0 ⟨rfl, hw⟩
    rw [hw]
    clear hw v0
    go_wp2_with fail
    refine (newWriter_any _ (by omega) w).mono ?_
    rintro e w1 ⟨rfl, W1, o1⟩
    rw [show ((bs.length : Nat) : Int).toNat = bs.length from by omega] at W1
    have v1 := HKE.out w1 P0 _ o1 hv
    go_wp2_with fail
    refine (put35 W1 g P0 v1 (by simp)).mono ?_
    rintro e w2 ⟨rfl, D2, W2, o2, g2⟩
    rw [HXX.out, put_room] at W2
    have O2 : Off (fun _ => False) w w2 := o1.trans o2 (fun i hi h => by have : i = w.heap.size := h; omega)
    go_wp2_with fail
    refine (done_any W2 (by simp; omega)).mono ?_
    rintro e w3 ⟨t3, c3, rfl, own3, hb3, o3⟩
    have O3 := O2.trans o3 (fun _ _ h => h)
    replace own3 : OwnR w3 t3 c3 bs := own3
    simp only [Option.getD_some, errW]
    have C1 := conv_src own3.src
    have C2 := conv_src (HSR.out.off O3 (fun _ _ _ h => h))
    have b3 := HKE.out w3 B0 _ O3 hbox
    clear own3 hb3 W2 o2 g2 v1 hv hbox W1
    go_wp2_with fail
    go_ret
    exact ⟨rfl, O3⟩
  · have hd : (((er : Nat) : Int) == 0) = false := by rw [beq_eq_false_iff_ne]; omega
    go_enter Try.func32, Try.ntmps32
    go_wp2_with fail
    refine (rend_any hR).mono ?_
    rw [← EE.out]
    rintro e v0 ⟨rfl, hw⟩
    rw [hw]
    clear hw v0
    go_wp2_with fail
    go_ret
    exact ⟨rfl, Off.refl _ _⟩

theorem put36 {D : Nat → Prop} {b most : Nat} {st : Option (List Nat)} {w : World} (hW : Wtr D b most st w) (tt : Option Addr) (tc : Nat) (text : List Nat) (P0 : Nat) (hv : w.cell? ⟨P0, 0, none⟩ = some (.slice tt text.length tc)) (hbody : ∀ w', Off D w w' → Src w' tt tc text) (hsz : (st.getD []).length + 10 + text.length ≤ 140737488355328) :
    Calls Try.prog 36 #[.pointer (some ⟨b, 0, none⟩), .pointer (some ⟨P0, 0, none⟩)] w fun e w' => e = .returned (.tuple #[]) ∧ Put D b most st (numB text.length ++ text) w w' := by
  obtain ⟨xx, hxx⟩ : ∃ xx, xx = numB text.length ++ text := ⟨_, rfl⟩
  rw [← hxx]
  have HXX : Hid _ := hxx
  clear hxx
  go_enter Try.func36, Try.ntmps36
  go_wp2_with fail
  refine (wtext_any hW tt tc text hbody hsz).mono ?_
  rw [← HXX.out]
  rintro e w1 ⟨rfl, P⟩
  go_wp2_with fail
  go_end0
  exact ⟨rfl, P⟩

set_option maxRecDepth 100000 in
set_option maxHeartbeats 1000000 in
theorem same36 {D : Nat → Prop} {b : Nat} {s : RS} {w : World} (hR : Rdr 65 D b s w) (B0 P0 : Nat) (tad : Option Addr) (cap : Nat) (bs : List Nat) (hbl : bs.length ≤ 140737488351232) (tt : Option Addr) (tc : Nat) (text : List Nat) (hbox : w.cell? ⟨B0, 0, none⟩ = some (.slice tad bs.length cap)) (hsrc : Src w tad cap bs) (hv : w.cell? ⟨P0, 0, none⟩ = some (.slice tt text.length tc)) (hts : ∀ w', Off (fun _ => False) w w' → Src w' tt tc text) (htl : text.length ≤ 140737488351232) (hx : endS s = 0 → numB text.length ++ text = bs) :
    Calls Try.prog 32 #[.pointer (some ⟨b, 0, none⟩), .func (Fn.func 36) #[] #[.pointer (some ⟨P0, 0, none⟩)], .pointer (some ⟨B0, 0, none⟩)] w fun e w' => e = .returned (.bool true) ∧ Off (fun _ => False) w w' := by
  have keep : ∀ (w' : World) (p : Nat) (v : Value), Off (fun _ => False) w w' → w.cell? ⟨p, 0, none⟩ = some v → w'.cell? ⟨p, 0, none⟩ = some v := fun w' p v o h => by
    rw [← h]
    exact World.cell?_of_block (a := ⟨p, 0, none⟩) (o.block p (cell_lt h) (fun h => h))
  have HKE : Hid _ := keep
  have HSR : Hid (Src w tad cap bs) := hsrc
  have HTS : Hid _ := hts
  clear keep hsrc hts
  obtain ⟨er, ee⟩ : ∃ er, er = endS s := ⟨_, rfl⟩
  rw [← ee] at hx
  have EE : Hid _ := ee
  clear ee
  by_cases her : er = 0
  · have ex := hx her
    have HXX : Hid _ := ex
    have hd : (((er : Nat) : Int) == 0) = true := by rw [beq_iff_eq]; omega
    have HER : Hid _ := her
    clear ex hx her
    go_enter Try.func32, Try.ntmps32
    go_wp2_with fail
    refine (rend_any hR).mono ?_
    rw [← EE.out]
    rintro e v0 ⟨rfl, hw⟩
    rw [hw]
    clear hw v0
    go_wp2_with fail
    refine (newWriter_any _ (by omega) w).mono ?_
    rintro e w1 ⟨rfl, W1, o1⟩
    rw [show ((bs.length : Nat) : Int).toNat = bs.length from by omega] at W1
    have v1 := HKE.out w1 P0 _ o1 hv
    go_wp2_with fail
    refine (put36 W1 tt tc text P0 v1 (fun w' o => HTS.out w' ((o1.mono (fun _ _ h => h.elim)).trans o (fun i hi h => by have : i = w.heap.size := h; omega))) (by simp; omega)).mono ?_
    rintro e w2 ⟨rfl, D2, W2, o2, g2⟩
    rw [HXX.out, put_room] at W2
    have O2 : Off (fun _ => False) w w2 := o1.trans o2 (fun i hi h => by have : i = w.heap.size := h; omega)
    go_wp2_with fail
    refine (done_any W2 (by simp; omega)).mono ?_
    rintro e w3 ⟨t3, c3, rfl, own3, hb3, o3⟩
    have O3 := O2.trans o3 (fun _ _ h => h)
    replace own3 : OwnR w3 t3 c3 bs := own3
    simp only [Option.getD_some, errW]
    have C1 := conv_src own3.src
    have C2 := conv_src (HSR.out.off O3 (fun _ _ _ h => h))
    have b3 := HKE.out w3 B0 _ O3 hbox
    clear own3 hb3 W2 o2 g2 v1 hv hbox W1
    go_wp2_with fail
    go_ret
    exact ⟨rfl, O3⟩
  · have hd : (((er : Nat) : Int) == 0) = false := by rw [beq_eq_false_iff_ne]; omega
    go_enter Try.func32, Try.ntmps32
    go_wp2_with fail
    refine (rend_any hR).mono ?_
    rw [← EE.out]
    rintro e v0 ⟨rfl, hw⟩
    rw [hw]
    clear hw v0
    go_wp2_with fail
    go_ret
    exact ⟨rfl, Off.refl _ _⟩
end Go.Proofs.Ytkjinhbhlcbfdaa
