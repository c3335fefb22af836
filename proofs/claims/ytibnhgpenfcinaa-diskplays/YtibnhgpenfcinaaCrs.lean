/- A crash; what every program must know of it. -/
import Derived.Test.YtibnhgpenfcinaaDsk
import Derived.Lib.SlBytesConst
namespace Go.Proofs.Ytibnhgpenfcinaa
open Go.RowKit

/-- How many bytes stay of n, s of them sure. -/
def keepN (n s : Nat) (p : Int) : Nat := s + (p % 18446744073709551616).toNat % (n - s + 1)
theorem keepN_le {n s : Nat} (h : s ≤ n) (p : Int) : keepN n s p ≤ n := by
  have := Nat.mod_lt (p % 18446744073709551616).toNat (show n - s + 1 > 0 by omega)
  unfold keepN
  omega
theorem keepN_ge (n s : Nat) (p : Int) : s ≤ keepN n s p := by unfold keepN; omega

theorem wrap_mod {n s : Nat} (h : s ≤ n) (p : Int) (m : Nat) (hm : m = (p % 18446744073709551616).toNat % (n - s + 1)) : (IntKind.u64.wrap p).tmod ((n : Int) - (s : Int) + 1) = (m : Int) := by
  have e : IntKind.u64.wrap p = (((p % 18446744073709551616).toNat : Nat) : Int) := by
    simp only [IntKind.wrap, IntKind.bits, IntKind.signed]
    go_num
  have e2 : (n : Int) - (s : Int) + 1 = ((n - s + 1 : Nat) : Int) := by omega
  rw [e, e2, hm]
  rfl
theorem src2 (w : World) (x y : Nat) (fz : Nat × Nat) : Src (w.alloc (.cells #[.int .u8 (x : Int), .int .u8 (y : Int)] 5 fz)) (some ⟨w.heap.size, 0, none⟩) 2 [x, y] := by
  have h := heap_alloc_new w (.cells #[.int .u8 (x : Int), .int .u8 (y : Int)] 5 fz)
  refine ⟨.inr ⟨_, rfl, fun j u hj => ?_⟩⟩
  match j, hj with
  | 0, hj =>
    simp [vl] at hj
    subst hj
    rw [add_lit]
    simp only [World.cell?]
    rw [h]
    rfl
  | 1, hj =>
    simp [vl] at hj
    subst hj
    rw [add_lit]
    simp only [World.cell?]
    rw [h]
    rfl

theorem crash_any {D : Nat → Prop} {b most : Nat} {bs : List Nat} {s : Nat} {w : World} (h : Dsk D b most bs s w) (p : Int) :
    Calls Try.prog 15 #[.pointer (some ⟨b, 0, none⟩), .int .i64 p] w fun e w' => e = .returned (.tuple #[]) ∧ Dsk D b most (bs.take (keepN bs.length s p)) (keepN bs.length s p) w' ∧ Off D w w' := by
  have hle := keepN_le h.su p
  obtain ⟨m, hm⟩ : ∃ m, m = (p % 18446744073709551616).toNat % (bs.length - s + 1) := ⟨_, rfl⟩
  have hk : keepN bs.length s p = s + m := by rw [hm]; rfl
  rw [hk] at hle ⊢
  have hf := h.fit
  have hb := h.bound
  have hs := h.su
  have ek : (IntKind.u64.wrap p).tmod ((bs.length : Int) - (s : Int) + 1) = (m : Int) := wrap_mod hs p m hm
  clear hm hk
  have H := h
  obtain ⟨tad, cap, h1, h2, h3⟩ := h.is
  have c1 : w.cell? ⟨b, 1, none⟩ = some (.slice tad bs.length cap) := by rw [h1.cell]; rfl
  have c2 : w.cell? ⟨b, 2, none⟩ = some (.int .i64 (s : Int)) := by rw [h1.cell]; rfl
  clear h1 h2 h3 h
  go_enter Try.func15, Try.ntmps15
  go_wp2_with fail
  go_region
  go_wp2_with fail
  rw [show (s : Int) + (m : Int) = ((s + m : Nat) : Int) by omega]
  refine (cut_any (H.free ((Off.refl _ w).drew)) (s + m) hle).mono ?_
  rintro e w1 ⟨rfl, K, off⟩
  go_wp2_with fail
  go_end0
  exact ⟨rfl, K, ((Off.refl D w).drew).trans off (fun _ _ h => h)⟩

set_option maxRecDepth 100000 in
set_option maxHeartbeats 1000000 in
theorem awake_any (w : World) : Calls Try.prog 19 #[] w fun e w' => e = .returned (.bool true) ∧ Off (fun _ => False) w w' := by
  have hcv := fun (w : World) (C : Array Value) (n c : Nat) => Lib.run_convert_bytes_const (P := Try.prog) w 25 5 C n c Try.underlying25 Try.underlying5
  go_enter Try.func19, Try.ntmps19
  go_wp2_with fail
  refine (new_any 10 w).mono ?_
  rintro e w1 ⟨b, rfl, hb, K, o1⟩
  have hro : roomOf 10 = 10 := rfl
  rw [hro] at K
  go_wp2_with fail
  have OA : Off (fun _ => False) w1 (w1.alloc (.cells #[.int .u8 97, .int .u8 98] 5 (2, 3))) := (Off.refl _ w1).alloc _
  refine (append_any (K.free OA) (some ⟨w1.heap.size, 0, none⟩) 2 [97, 98] (src2 _ _ _ _) (by simp)).mono ?_
  rintro e w2 ⟨rfl, D2, K2, o2, d2⟩
  have O2 := (o1.mono (E := fun c => c = b) (fun _ _ h => h.elim)).trans ((OA.mono (fun _ _ h => h.elim)).trans o2 (fun _ _ h => h)) (fun _ _ h => h)
  have O2 : Off (fun _ => False) w w2 := O2.mono (fun i hi h => by omega)
  replace d2 : ∀ c, D2 c → w.heap.size ≤ c := fun c hc => by
    have := o1.size
    have := OA.size
    rcases d2 c hc with h | h <;> omega
  clear OA o2 K o1 hb
  go_wp2_with fail
  refine (sync_any K2.toDsk0).mono ?_
  rintro e w3 ⟨rfl, K3, o3⟩
  replace O2 := (O2.mono (fun _ _ h => h.elim)).trans o3 (fun _ _ h => h)
  replace O2 : Off (fun _ => False) w w3 := O2.mono (fun i hi h => by have := d2 i h; omega)
  clear o3 K2
  go_wp2_with fail
  have OA : Off (fun _ => False) w3 (w3.alloc (.cells #[.int .u8 99, .int .u8 100] 5 (2, 3))) := (Off.refl _ w3).alloc _
  refine (append_any (K3.free OA) (some ⟨w3.heap.size, 0, none⟩) 2 [99, 100] (src2 _ _ _ _) (by simp)).mono ?_
  rintro e w4 ⟨rfl, D4, K4, o4, d4⟩
  have O3 : Hid _ := O2
  replace O2 := (O2.mono (E := D2) (fun _ _ h => h.elim)).trans ((OA.mono (fun _ _ h => h.elim)).trans o4 (fun _ _ h => h)) (fun _ _ h => h)
  replace O2 : Off (fun _ => False) w w4 := O2.mono (fun i hi h => by have := d2 i h; omega)
  replace d4 : ∀ c, D4 c → w.heap.size ≤ c := fun c hc => by
    have := O3.out.size
    have := OA.size
    rcases d4 c hc with h | h
    · exact d2 c h
    · omega
  clear OA o4 K3
  go_wp2_with fail
  refine (crash_any K4 1).mono ?_
  rintro e w5 ⟨rfl, K5, o5⟩
  replace O2 := (O2.mono (E := D4) (fun _ _ h => h.elim)).trans o5 (fun _ _ h => h)
  replace O2 : Off (fun _ => False) w w5 := O2.mono (fun i hi h => by have := d4 i h; omega)
  clear o5 K4
  go_wp2_with fail
  refine (bytes_any K5).mono ?_
  rintro e w6 ⟨t, c, rfl, own, -, o6⟩
  replace O2 := O2.trans o6 (fun _ _ h => h)
  have hl : List.take (keepN (appL 10 (appL 10 [] [97, 98]) [99, 100]).length (appL 10 [] [97, 98]).length 1) (appL 10 (appL 10 [] [97, 98]) [99, 100]) = [97, 98, 99] := by decide
  rw [hl] at own ⊢
  have hcs : (convert 25 9 (.slice t 3 c)).run Try.prog w6 = .ok (.string (strOf [97, 98, 99])) w6 := conv_src own.src
  have hst : strOf [97, 98, 99] = ⟨#[97, 98, 99]⟩ := by rfl
  rw [hst] at hcs
  clear K5 o6 own
  go_wp2_with fail
  go_ret
  exact ⟨rfl, O2⟩
end Go.Proofs.Ytibnhgpenfcinaa
