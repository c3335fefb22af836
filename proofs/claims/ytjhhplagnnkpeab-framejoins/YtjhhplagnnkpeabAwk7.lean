/- awake of layer 7. -/
import Derived.Test.YtjhhplagnnkpeabSm7
namespace Go.Proofs.Ytjhhplagnnkpeab
open Go.RowKit

theorem Inp.nil (w : World) : Inp w none 0 [] := ⟨Src.nil w, Nat.le_refl _, by simp⟩
theorem x_inp (w : World) : Inp (w.alloc (.cells #[.int .u8 120] 5 (1, 2))) (some ⟨w.heap.size, 0, none⟩) 1 [120] := by
  refine ⟨⟨.inr ⟨_, rfl, fun j u hj => ?_⟩⟩, Nat.le_refl _, by simp⟩
  have h := heap_alloc_new w (.cells #[.int .u8 120] 5 (1, 2))
  match j, hj with
  | 0, hj =>
    simp [vl] at hj
    subst hj
    rw [add_lit]
    simp only [World.cell?, h]
    rfl
theorem rec_x : Rec [120] := ⟨by simp, by simp⟩
theorem x_len : (frm [120]).length = 9 := frm_len _
theorem x_tk : tkE (frm [120]) = 0 ∧ tkR (frm [120]) = [120] ∧ tkN (frm [120]) = 9 := by
  have h1 := tkE_frm rec_x []
  have h2 := tkR_frm rec_x []
  have h3 := tkN_frm rec_x []
  rw [List.append_nil] at h1 h2 h3
  exact ⟨h1, h2, h3⟩
theorem x_str : strOf [120] = ⟨#[120]⟩ := by rfl

set_option maxRecDepth 100000 in
set_option maxHeartbeats 1000000 in
theorem awake_any (w : World) : Calls Try.prog 9 #[] w fun e w' => e = .returned (.bool true) ∧ Off (fun _ => False) w w' := by
  have hcv := fun (w : World) (C : Array Value) (n c : Nat) => Lib.run_convert_bytes_const (P := Try.prog) w 23 5 C n c Try.underlying23 Try.underlying5
  have I1 := x_inp w
  have O1 : Off (fun _ => False) w (w.alloc (.cells #[.int .u8 120] 5 (1, 2))) := (Off.refl _ w).alloc _
  have P1 : Hid _ := put_any (Inp.nil (w.alloc (.cells #[.int .u8 120] 5 (1, 2)))) I1 (by simp) (by simp)
  rw [List.nil_append, x_len] at P1
  have HO1 : Hid _ := O1
  clear I1 O1
  go_enter Try.func9, Try.ntmps9
  go_wp2_with fail
  refine Calls.mono P1.out ?_
  rintro e w1 ⟨t1, c1, rfl, R1, -, O1⟩
  have F1 := HO1.out.trans O1 (fun _ _ h => h)
  have T1 : Hid _ := takeF_any (R1.inp (frm_lt rec_x.lt)) (by rw [x_len]; omega)
  rw [x_tk.1, x_tk.2.1, x_tk.2.2, x_len] at T1
  clear R1 O1 P1
  go_wp2_with fail
  refine Calls.mono T1.out ?_
  rintro e w2 ⟨t2, c2, rfl, R2, -, O2⟩
  have F2 := F1.trans O2 (fun _ _ h => h)
  have hs := conv_src R2.src
  rw [x_str] at hs
  replace hs : (convert 23 9 (.slice t2 1 c2)).run Try.prog w2 = .ok (.string ⟨#[120]⟩) w2 := hs
  clear R2 T1 F1 O2
  go_wp2_with fail
  go_ret
  exact ⟨rfl, F2⟩
end Go.Proofs.Ytjhhplagnnkpeab
