/- addByte, Text of the program; KeyText of the reference. -/
import Derived.Test.YtdkmnnihgobmoaaKfn
import Derived.Deep.RegionHeld
import Derived.BigRegion
import Derived.BigQuiet
import Derived.Laws.BitsAllLaws
import Derived.Laws.OwnMore
namespace Go.Proofs.Ytdkmnnihgobmoaa
open Go.RowKit

theorem take_at {P : Program} {md : Region.Mode} {ops : Array Oper} {Q : Exit → Act → World → Prop} {S : World → Prop} {i : Nat} {oi : Oper} (d : Nat) {v : Value} {fuel : Nat} {listed : Array Bool} {a : Act} {w : World} (hi : ops[i]? = some oi) (hd : oi.dst = some d)
    (hs : Region.noSelect ops = true) (hf : Region.free md ops listed i = true) (hr : (Region.ready md ops listed).contains i = true)
    (hQ : ∀ c a w, Q (.panic c) (a.put oi.dst v) w → Q (.panic c) a w) (hy : YieldsIf P ops S oi v a) (hS : S w)
    (h : wpAnyH P md ops Q S fuel (listed.setIfInBounds i true) (a.put (some d) v) w) : wpAnyH P md ops Q S (fuel + 1) listed a w :=
  wpAnyH_take hi hs hf hr hQ hy hS (by rw [hd]; exact h)
/-- 'append(s, x...)' of bytes, s the call's own, as a run. -/
theorem app_run {w : World} {tad : Option Addr} {cap : Nat} {bs : List Nat} (hown : OwnR w tad cap bs) {xt : Option Addr} {xc : Nat} {xs : List Nat} (hsrc : Src w xt xc xs) (hb : bs.length + xs.length ≤ 140737488355328) (ty : TypeId) :
    ∃ t' c' w', (Builtin.append_ #[27, 27] ty #[.slice tad bs.length cap, .slice xt xs.length xc]).run Try.prog w = .ok (.slice t' (bs ++ xs).length c') w' ∧ OwnR w' t' c' (bs ++ xs) ∧ Off (fun c => blk tad = some c) w w' ∧ (blk t' = blk tad ∨ blk t' = some w.heap.size) := by
  obtain ⟨i0, hi, hz0, hz1, hz2⟩ := info_parts Try.infoB
  rcases hsrc.is with ⟨rfl, rfl, rfl⟩ | ⟨ad, rfl, hc⟩
  · refine ⟨tad, cap, w, ?_, by rw [List.append_nil]; exact hown, Off.refl _ w, .inl rfl⟩
    rw [List.append_nil]
    exact run_append_owned_none (P := Try.prog) (w := w) 0 27 ty 5 i0 1 Try.underlying27 hi _ _ _ hown.row
  · obtain ⟨v', w', hr, own', grow', -, hat⟩ := run_append_own_at (P := Try.prog) w 0 27 ty 5 i0 (.int .u8 0) 1 1 Try.underlying27 hi hz0 hz1 hz2 rfl (by decide) _ _ _ hown.row ad xs.length xc (vl xs) (by simp [vl_len]) hc (vl_one xs) (by unfold maxLen; omega) (by omega) (Nat.zero_le _)
    rw [← vl_append, ← List.length_append] at own'
    obtain ⟨t', c', rfl⟩ : ∃ t' c', v' = .slice t' (bs ++ xs).length c' := by
      rcases own'.2 with ⟨rfl, h0⟩ | ⟨g, c, cur, hv, -⟩
      · exact ⟨none, 0, by rw [h0]⟩
      · exact ⟨_, _, hv⟩
    rw [blk_own, blk_own] at hat
    rw [blk_own] at grow'
    exact ⟨t', c', w', hr, ⟨own'⟩, (Off.refl _ w).grown grow' (fun k hk => .inl hk), hat⟩
theorem wp_append_if {P : Program} {o : Oper} {a : Act} {w w' : World} {K : Act → World → Prop} {Q : Exit → Act → World → Prop} {y : Nat → Option Bool} {E : Prop} (hw : Region.wanted o y = true) (s x : Operand) {t u : TypeId}
    (ho : o.op = .call { callee := .builtin .append, args := #[s, x], argTypes := #[t, u] }) {v v' X : Value} (hs : a.eval s = v) (hx : a.eval x = X) (hr : (Builtin.append_ #[t, u] o.type #[v, X]).run P w = .ok v' w')
    (d : Nat) (hd : o.dst = some d) (h : K (a.put (some d) v') w') : if Region.wanted o y = true then Oper.wp P o a w K Q else E := by
  rw [if_pos hw]
  unfold Oper.wp execOp
  simp only [ho, resolve, invoke, builtin, Sem.run_bind, Sem.run_pure, Result.andThen_ok, List.map_toArray, List.map_cons, List.map_nil, hs, hx, hr]
  rw [← hd] at h
  exact h


/-- Three new bytes. -/
theorem src3 (w : World) (x y z : Nat) : Src (w.alloc (.cells #[.int .u8 (x : Int), .int .u8 (y : Int), .int .u8 (z : Int)] 5)) (some ⟨w.heap.size, 0, none⟩) 3 [x, y, z] := by
  refine ⟨.inr ⟨_, rfl, fun j u hj => ?_⟩⟩
  have hc := Cel.new w 5 #[.int .u8 (x : Int), .int .u8 (y : Int), .int .u8 (z : Int)]
  rw [add_lit, Nat.zero_add, hc.cell]
  match j, hj with
  | 0, hj => simp [vl] at hj; subst hj; rfl
  | 1, hj => simp [vl] at hj; subst hj; rfl
  | 2, hj => simp [vl] at hj; subst hj; rfl
theorem hx_at {n : Nat} (h : n < 16) (W : World) : (Instr.index 9 (.string ⟨#[48, 49, 50, 51, 52, 53, 54, 55, 56, 57, 97, 98, 99, 100, 101, 102]⟩) (.int .u8 (n : Int))).run Try.prog W = .ok (.int .u8 ((hx n : Nat) : Int)) W := by
  have := idx_any ⟨#[48, 49, 50, 51, 52, 53, 54, 55, 56, 57, 97, 98, 99, 100, 101, 102]⟩ (i := n) (by simpa [tx] using h) .u8 W
  rw [this]
  congr 3
  match n, h with
  | 0, _ | 1, _ | 2, _ | 3, _ | 4, _ | 5, _ | 6, _ | 7, _ | 8, _ | 9, _ | 10, _ | 11, _ | 12, _ | 13, _ | 14, _ | 15, _ => rfl
  | n + 16, h => exact absurd h (by omega)

theorem and15 {b : Nat} (h : b < 256) : bits .and .u8 (b : Int) 15 = ((b % 16 : Nat) : Int) := by
  rw [show (15 : Int) = ((15 : Nat) : Int) from rfl, u8_and_nat b 15 h (by decide)]
  congr 1
  exact Nat.and_two_pow_sub_one_eq_mod b 4
set_option maxRecDepth 100000 in
set_option maxHeartbeats 1000000 in
theorem addbyte_any {w : World} {t : Option Addr} {c : Nat} {bs : List Nat} (own : OwnR w t c bs) (hb : bs.length ≤ 140737488000000) (b : Nat) (hb8 : b < 256) :
    Calls Try.prog 25 #[.slice t bs.length c, .int .u8 (b : Int)] w fun e w' => ∃ t' c' ys, e = .returned (.slice t' ys.length c') ∧ Hid (ys = bs ++ t1 b) ∧ OwnR w' t' c' ys ∧ Off (fun c => blk t = some c) w w' ∧ (blk t' = blk t ∨ ∀ k, blk t' = some k → w.heap.size ≤ k) := by
  have OWN : Hid _ := own
  clear own
  have hp := plain_any b hb8
  have HP : Hid _ := hp
  clear hp
  cases h : pl b with
  | true =>
    rw [h] at HP
    have S1 := src_new w b
    go_enter Try.func25, Try.ntmps25
    go_wp2_with fail
    refine Calls.mono (HP.out _) ?_
    rintro e w1 ⟨rfl, hw⟩
    rw [hw]
    clear hw w1
    go_wp2_with (at_builtin; refine wpList_app rfl (.tmp 7) (.tmp 9) rfl t c bs rfl (OWN.out.off ((Off.refl (fun _ => False) w).alloc _) (fun _ _ _ h => h)) (some ⟨w.heap.size, 0, none⟩) 1 [b] rfl S1 (by simp; omega) ?_; intro t2 c2 w2 ys hys own2 off2 at2)
    go_ret
    refine ⟨t2, c2, ys, rfl, ?_, own2, ((Off.refl _ w).alloc _).trans off2 (fun _ _ h => h), ?_⟩
    · exact hys.out.trans (by rw [t1_pl h])
    · rcases at2 with e | e
      · exact .inl e
      · refine .inr (fun k hk => ?_)
        rw [e] at hk
        simp at hk
        omega
  | false =>
    rw [h] at HP
    obtain ⟨h4, hh4⟩ : ∃ h4, h4 = b / 16 := ⟨_, rfl⟩
    obtain ⟨l4, hl4⟩ : ∃ l4, l4 = b % 16 := ⟨_, rfl⟩
    have SHR : (b : Int) / 16 = (h4 : Int) := by omega
    have AND : bits .and .u8 (b : Int) 15 = (l4 : Int) := by rw [and15 hb8, hl4]
    have I1 := hx_at (n := h4) (by omega)
    have I2 := hx_at (n := l4) (by omega)
    have HH4 : Hid _ := hh4
    have HL4 : Hid _ := hl4
    clear hh4 hl4
    go_enter Try.func25, Try.ntmps25
    go_wp2_with fail
    refine Calls.mono (HP.out _) ?_
    rintro e w1 ⟨rfl, hw⟩
    rw [hw]
    clear hw w1
    go_wp2_with fail
    refine wp_region_held_drew (S := fun w' => Off (fun c => blk t = some c) w w') (by kernel_rfl) ((Off.refl _ w).drew) (fun hS => ?_)
    have hS0 : Off (fun _ => False) w w.drew := (Off.refl _ w).drew
    generalize w.drew = W0 at hS hS0 ⊢
    refine take_at (i := 0) 11 (v := .slice t bs.length c) rfl rfl (by kernel_rfl) (by kernel_rfl) (by kernel_rfl) (fun _ _ _ h => h) (Or.inl ⟨by rfl, fun w' hw' => by go_simp⟩) hS ?_
    simp only [Act.put, List.setIfInBounds_toArray, List.set_cons_zero, List.set_cons_succ]
    refine take_at (i := 1) 12 (v := .int .u8 (b : Int)) rfl rfl (by kernel_rfl) (by kernel_rfl) (by kernel_rfl) (fun _ _ _ h => h) (Or.inl ⟨by rfl, fun w' hw' => by go_simp⟩) hS ?_
    simp only [Act.put, List.setIfInBounds_toArray, List.set_cons_zero, List.set_cons_succ]
    refine take_at (i := 2) 13 (v := .int .u8 ((h4 : Nat) : Int)) rfl rfl (by kernel_rfl) (by kernel_rfl) (by kernel_rfl) (fun _ _ _ h => h) (Or.inl ⟨by rfl, fun w' hw' => by have h9 := SHR; go_simp⟩) hS ?_
    simp only [Act.put, List.setIfInBounds_toArray, List.set_cons_zero, List.set_cons_succ]
    refine take_at (i := 3) 14 (v := .int .u8 ((hx h4 : Nat) : Int)) rfl rfl (by kernel_rfl) (by kernel_rfl) (by kernel_rfl) (fun _ _ _ h => h) (Or.inl ⟨by rfl, fun w' hw' => by have h9 := I1 w'; go_simp⟩) hS ?_
    simp only [Act.put, List.setIfInBounds_toArray, List.set_cons_zero, List.set_cons_succ]
    refine take_at (i := 4) 15 (v := .int .u8 (b : Int)) rfl rfl (by kernel_rfl) (by kernel_rfl) (by kernel_rfl) (fun _ _ _ h => h) (Or.inl ⟨by rfl, fun w' hw' => by go_simp⟩) hS ?_
    simp only [Act.put, List.setIfInBounds_toArray, List.set_cons_zero, List.set_cons_succ]
    refine take_at (i := 5) 16 (v := .int .u8 ((l4 : Nat) : Int)) rfl rfl (by kernel_rfl) (by kernel_rfl) (by kernel_rfl) (fun _ _ _ h => h) (Or.inl ⟨by rfl, fun w' hw' => by have h9 := AND; go_simp⟩) hS ?_
    simp only [Act.put, List.setIfInBounds_toArray, List.set_cons_zero, List.set_cons_succ]
    refine take_at (i := 6) 17 (v := .int .u8 ((hx l4 : Nat) : Int)) rfl rfl (by kernel_rfl) (by kernel_rfl) (by kernel_rfl) (fun _ _ _ h => h) (Or.inl ⟨by rfl, fun w' hw' => by have h9 := I2 w'; go_simp⟩) hS ?_
    simp only [Act.put, List.setIfInBounds_toArray, List.set_cons_zero, List.set_cons_succ]
    refine wpAnyH_ready (rs := [7]) (by kernel_rfl) (by simp) ?_
    refine AllReadyH.cons rfl (fun K' hK' => ?_) AllReadyH.nil
    go_simp
    refine hK'.out _ _ (hS.alloc _) (fun hS => ?_)
    clear hK' K'
    have S3 := src3 W0 37 (hx h4) (hx l4)
    have OW := (OWN.out.off (hS0 : Off (fun _ => False) w W0) (fun _ _ _ h => h)).off ((Off.refl (fun _ => False) W0).alloc (.cells #[.int .u8 ((37 : Nat) : Int), .int .u8 ((hx h4 : Nat) : Int), .int .u8 ((hx l4 : Nat) : Int)] 5)) (fun _ _ _ h => h)
    obtain ⟨t3, c3, W3, hr, own3, o3, at3⟩ := app_run OW S3 (by simp; omega) 27
    have O3 : Off (fun c => blk t = some c) w W3 := hS.trans o3 (fun _ _ h => h)
    refine wpAnyH_ready (rs := [8]) (by kernel_rfl) (by simp) ?_
    refine AllReadyH.cons rfl (fun K' hK' => ?_) AllReadyH.nil
    refine wp_append_if rfl (.tmp 11) (.tmp 18) rfl rfl rfl hr 19 rfl ?_
    simp only [Act.put, List.setIfInBounds_toArray, List.set_cons_zero, List.set_cons_succ]
    obtain ⟨ys, hys⟩ : ∃ ys, ys = bs ++ [37, hx h4, hx l4] := ⟨_, rfl⟩
    rw [← hys] at own3 ⊢
    have HYS : Hid _ := hys
    clear hys
    refine hK'.out _ _ O3 (fun hS => ?_)
    clear hK' K' hr O3 o3
    refine take_at (i := 9) 4 (v := .slice t3 ys.length c3) rfl rfl (by kernel_rfl) (by kernel_rfl) (by kernel_rfl) (fun _ _ _ h => h) (Or.inl ⟨by rfl, fun w' hw' => by go_simp⟩) hS ?_
    simp only [Act.put, List.setIfInBounds_toArray, List.set_cons_zero, List.set_cons_succ]
    refine wpAnyH_done (by kernel_rfl) ?_ _
    go_wp2_with fail
    go_ret
    refine ⟨t3, c3, ys, rfl, ?_, own3, hS, ?_⟩
    · exact HYS.out.trans (by rw [t1_no h, HH4.out, HL4.out])
    · rcases at3 with e | e
      · exact .inl e
      · refine .inr (fun k hk => ?_)
        have := hS0.size
        rw [e] at hk
        simp at hk
        omega
end Go.Proofs.Ytdkmnnihgobmoaa
