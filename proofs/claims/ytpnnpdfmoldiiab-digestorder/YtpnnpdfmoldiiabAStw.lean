/- Items of several texts. -/
import Derived.Shelf.SlSortCmp.KitK
import Derived.Sort.WalkB2
import Derived.Sort.WalkB12
import Derived.Deep.LoopGhost
import Derived.Deep.RegionHeld
import Derived.Deep.MidRow
import Derived.Test.YtpnnpdfmoldiiabATake
import Derived.Test.YtpnnpdfmoldiiabASrt
namespace Go.Proofs.Ytpnnpdfmoldiiab
open Go.Shelf Go.RowKit Go.Lib Go.Sort
def swpN {α : Type} [Inhabited α] (d : Array α) (a b : Nat) : Nat → Array α
 | 0 => d
 | n + 1 => swp (swpN d a b n) (a + n) (b + n)
theorem swpN_size {α : Type} [Inhabited α] (d : Array α) (a b : Nat) : ∀ n, (swpN d a b n).size = d.size
 | 0 => rfl
 | n + 1 => by rw [swpN, size_swp, swpN_size d a b n]
theorem exec_load {P : Program} {ρ : Operand → Value} {o : Oper} {t : TypeId} {x : Operand} {v : Value} {w : World} (ho : o.op = .load t x) (h : (Instr.loadAt t (ρ x)).run P w = .ok v w) : Sem.run P (execOp ρ o) w = .ok (.value v) w := by
 have e : execOp ρ o = (do pure (.value (← Instr.loadAt t (ρ x)))) := by unfold execOp; rw [ho]
 rw [e, Sem.run_bind, h]
 rfl
theorem exec_store {P : Program} {ρ : Operand → Value} {o : Oper} {t : TypeId} {x y : Operand} {w w' : World} (ho : o.op = .store t x y) (h : (Instr.storeAt t (ρ x) (ρ y)).run P w = .ok () w') : Sem.run P (execOp ρ o) w = .ok .skip w' := by
 have e : execOp ρ o = (do Instr.storeAt t (ρ x) (ρ y); pure .skip) := by unfold execOp; rw [ho]
 rw [e, Sem.run_bind, h]
 rfl
theorem rdyV {P : Program} {ops : Array Oper} {o : Oper} {a : Act} {w w' : World} {v : Value} {K' : Act → World → Prop} {Q : Exit → Act → World → Prop} (dd : Nat) (hd : o.dst = some dd) (hw : Region.wanted o (yielded ops a.tmps) = true) (h : Sem.run P (execOp a.eval o) w = .ok (.value v) w') (hk : K' (a.put (some dd) v) w') :
  if Region.wanted o (yielded ops a.tmps) = true then Oper.wp P o a w K' Q else K' (a.put o.dst undef) w := by
 rw [if_pos hw]
 unfold Oper.wp
 rw [h, Oper.upon_value, hd]
 exact hk
theorem rdyS {P : Program} {ops : Array Oper} {o : Oper} {a : Act} {w w' : World} {K' : Act → World → Prop} {Q : Exit → Act → World → Prop} (hd : o.dst = none) (hw : Region.wanted o (yielded ops a.tmps) = true) (h : Sem.run P (execOp a.eval o) w = .ok .skip w') (hk : K' a w') :
  if Region.wanted o (yielded ops a.tmps) = true then Oper.wp P o a w K' Q else K' (a.put o.dst undef) w := by
 rw [if_pos hw]
 unfold Oper.wp
 rw [h, Oper.upon_skip, hd]
 exact hk
theorem load_dg {w : World} {b o : Nat} {cs : Array Value} (h : Sem.run Try.prog (loadCellsFrom ⟨b, o, none⟩ 0 10 #[]) w = .ok cs w) : (Instr.loadAt 50 (.pointer (some ⟨b, o, none⟩))).run Try.prog w = .ok (.agg cs) w := by
 have hi : (Try.prog.info? 50).map (·.size) = some 10 := by kernel_rfl
 have hl : (loadCells ⟨b, o, none⟩ 10).run Try.prog w = .ok cs w := h
 have hv : (loadVar 50 ⟨b, o, none⟩).run Try.prog w = .ok (.agg cs) w := by
  cases hq : Try.prog.info? 50 with
  | none => simp [hq] at hi
  | some i =>
   have hs : i.size = 10 := by simpa [hq] using hi
   have hagg : (isAgg 50).run Try.prog w = .ok true w := by
    unfold isAgg
    rw [Sem.run_bind, run_underlying Try.underlying50 w]
    rfl
   simp [loadVar, Sem.run_bind, hagg, sizeOf, typeInfo, hq, hs, hl]
 simp only [Instr.loadAt, Instr.sureAddr, Sem.run_bind, Sem.run_pure, Result.andThen_ok, hv]
theorem store_dg {w w' : World} {b o : Nat} {cs : List Value} (hn : cs.length = 10) (h : Sem.run Try.prog (storeCells ⟨b, o, none⟩ cs 0) w = .ok () w') : (Instr.storeAt 50 (.pointer (some ⟨b, o, none⟩)) (.agg cs.toArray)).run Try.prog w = .ok () w' := by
 have hi : (Try.prog.info? 50).map (·.size) = some 10 := by kernel_rfl
 have hv : (storeVar 50 ⟨b, o, none⟩ (.agg cs.toArray)).run Try.prog w = .ok () w' := by
  cases hq : Try.prog.info? 50 with
  | none => simp [hq] at hi
  | some i =>
   have hs : i.size = 10 := by simpa [hq] using hi
   simp [storeVar, sizeOf, typeInfo, hq, Value.cells, hs, hn, h]
 simp only [Instr.storeAt, Instr.sureAddr, Sem.run_bind, Sem.run_pure, Result.andThen_ok, hv]
set_option maxRecDepth 100000 in
set_option maxHeartbeats 800000 in
theorem dgswap_any {α : Type} [Inhabited α] (enc : α → List Value) (cmp : Value) (blk off cap a b n : Nat) (d0 d : Array α) (w0 w : World)
  (R : RowK enc 10 w0 blk off d0) (hs : d0.size = d.size) (S : SWK enc 10 w0 blk off d w) (hab : a + n ≤ b) (hb : b + n ≤ d.size) (hsz : d.size < 4611686018427387904) :
  Calls Try.prog 98 #[.slice (some ⟨blk, off, none⟩) d.size cap, .int .i64 a, .int .i64 b, .int .i64 n, cmp] w fun e w' => e = .returned (.tuple #[]) ∧ SWK enc 10 w0 blk off (swpN d a b n) w' := by
 have S0 : Aside (SWK enc 10 w0 blk off d w) := S
 clear S
 go_enter Try.func98, Try.ntmps98
 go_wp2
 go_loopg [10] n (fun kx s10 wr => ∃ i : Nat, s10 = .int .i64 i ∧ i ≤ n ∧ n - i ≤ kx ∧ Aside (SWK enc 10 w0 blk off (swpN d a b i) wr))
 case atStart => exact ⟨0, rfl, by omega, by omega, S0⟩
 case round =>
  clear S0
  obtain ⟨i, rfl, hin, hkx, S1⟩ := hrel
  by_cases hlt : i < n
  ·have hz : (i : Int) < (n : Int) := by omega
   have hds := swpN_size d a b i
   obtain ⟨dk, hdk⟩ : ∃ dk, dk = swpN d a b i := ⟨_, rfl⟩
   rw [← hdk] at S1 hds
   have HDK : Aside (dk = swpN d a b i) := hdk
   clear hdk
   go_wp2_with fail
   have ea : ((a : Int) + (i : Int)).toNat = a + i := by omega
   have pa : (0 : Int) ≤ (a : Int) + (i : Int) := by omega
   have ba : (a : Int) + (i : Int) < (d.size : Int) := by omega
   have ra : IntKind.i64.wrap ((a : Int) + (i : Int)) = (a : Int) + (i : Int) := by rw [IntKind.wrap_i64]; omega
   have eb : ((b : Int) + (i : Int)).toNat = b + i := by omega
   have pb : (0 : Int) ≤ (b : Int) + (i : Int) := by omega
   have bb : (b : Int) + (i : Int) < (d.size : Int) := by omega
   have rb : IntKind.i64.wrap ((b : Int) + (i : Int)) = (b : Int) + (i : Int) := by rw [IntKind.wrap_i64]; omega
   have S2 : Aside (SWK enc 10 w0 blk off (swp dk (a + i) (b + i)) ((wr.drew.setCells blk (off + (a + i) * 10) (enc dk[b + i]!)).setCells blk (off + (b + i) * 10) (enc dk[a + i]!))) := S1.out.swapped R (a + i) (b + i) (by omega) (by omega)
   have la := S1.out.ld1 R (by omega) Try.prog (a + i) (by omega)
   have lb := S1.out.ld1 R (by omega) Try.prog (b + i) (by omega)
   have sa := S1.out.st1 R (by omega) Try.prog (a + i) (by omega) dk[b + i]!
   have sb := S1.out.st2 R (by omega) Try.prog (a + i) (b + i) (by omega) (by omega) dk[b + i]! dk[a + i]!
   have na : (enc dk[a + i]!).length = 10 := R.hk _
   have nb : (enc dk[b + i]!).length = 10 := R.hk _
   generalize enc dk[a + i]! = cI at S2 la sb na
   generalize enc dk[b + i]! = cJ at S2 lb sa sb nb
   clear S1
   refine wp_region_held_drew (S := fun _ => True) (by kernel_rfl) trivial (fun hS => ?_)
   refine take_at (i := 0) 16 (v := .slice (some ⟨blk, off, none⟩) d.size cap) rfl rfl (by kernel_rfl) (by kernel_rfl) (by kernel_rfl) (fun _ _ _ h => h) (Or.inl ⟨by rfl, fun w' hw' => by go_simp⟩) hS ?_
   simp only [Act.put, lsA, lsZ, lsS]
   refine take_at (i := 1) 17 (v := .int .i64 (a : Int)) rfl rfl (by kernel_rfl) (by kernel_rfl) (by kernel_rfl) (fun _ _ _ h => h) (Or.inl ⟨by rfl, fun w' hw' => by go_simp⟩) hS ?_
   simp only [Act.put, lsA, lsZ, lsS]
   refine take_at (i := 2) 18 (v := .int .i64 (i : Int)) rfl rfl (by kernel_rfl) (by kernel_rfl) (by kernel_rfl) (fun _ _ _ h => h) (Or.inl ⟨by rfl, fun w' hw' => by go_simp⟩) hS ?_
   simp only [Act.put, lsA, lsZ, lsS]
   refine take_at (i := 3) 19 (v := .int .i64 ((a : Int) + (i : Int))) rfl rfl (by kernel_rfl) (by kernel_rfl) (by kernel_rfl) (fun _ _ _ h => h) (Or.inl ⟨by rfl, fun w' hw' => by go_simp⟩) hS ?_
   simp only [Act.put, lsA, lsZ, lsS]
   refine take_at (i := 4) 20 (v := .slice (some ⟨blk, off, none⟩) d.size cap) rfl rfl (by kernel_rfl) (by kernel_rfl) (by kernel_rfl) (fun _ _ _ h => h) (Or.inl ⟨by rfl, fun w' hw' => by go_simp⟩) hS ?_
   simp only [Act.put, lsA, lsZ, lsS]
   refine take_at (i := 5) 21 (v := .int .i64 (b : Int)) rfl rfl (by kernel_rfl) (by kernel_rfl) (by kernel_rfl) (fun _ _ _ h => h) (Or.inl ⟨by rfl, fun w' hw' => by go_simp⟩) hS ?_
   simp only [Act.put, lsA, lsZ, lsS]
   refine take_at (i := 6) 22 (v := .int .i64 (i : Int)) rfl rfl (by kernel_rfl) (by kernel_rfl) (by kernel_rfl) (fun _ _ _ h => h) (Or.inl ⟨by rfl, fun w' hw' => by go_simp⟩) hS ?_
   simp only [Act.put, lsA, lsZ, lsS]
   refine take_at (i := 7) 23 (v := .int .i64 ((b : Int) + (i : Int))) rfl rfl (by kernel_rfl) (by kernel_rfl) (by kernel_rfl) (fun _ _ _ h => h) (Or.inl ⟨by rfl, fun w' hw' => by go_simp⟩) hS ?_
   simp only [Act.put, lsA, lsZ, lsS]
   refine take_at (i := 8) 24 (v := .slice (some ⟨blk, off, none⟩) d.size cap) rfl rfl (by kernel_rfl) (by kernel_rfl) (by kernel_rfl) (fun _ _ _ h => h) (Or.inl ⟨by rfl, fun w' hw' => by go_simp⟩) hS ?_
   simp only [Act.put, lsA, lsZ, lsS]
   refine take_at (i := 9) 25 (v := .int .i64 (b : Int)) rfl rfl (by kernel_rfl) (by kernel_rfl) (by kernel_rfl) (fun _ _ _ h => h) (Or.inl ⟨by rfl, fun w' hw' => by go_simp⟩) hS ?_
   simp only [Act.put, lsA, lsZ, lsS]
   refine take_at (i := 10) 26 (v := .int .i64 (i : Int)) rfl rfl (by kernel_rfl) (by kernel_rfl) (by kernel_rfl) (fun _ _ _ h => h) (Or.inl ⟨by rfl, fun w' hw' => by go_simp⟩) hS ?_
   simp only [Act.put, lsA, lsZ, lsS]
   refine take_at (i := 11) 27 (v := .int .i64 ((b : Int) + (i : Int))) rfl rfl (by kernel_rfl) (by kernel_rfl) (by kernel_rfl) (fun _ _ _ h => h) (Or.inl ⟨by rfl, fun w' hw' => by go_simp⟩) hS ?_
   simp only [Act.put, lsA, lsZ, lsS]
   refine take_at (i := 12) 28 (v := .pointer (some ⟨blk, off + (b + i) * 10, none⟩)) rfl rfl (by kernel_rfl) (by kernel_rfl) (by kernel_rfl) (fun _ _ _ h => h) (Or.inl ⟨by rfl, fun w' hw' => by go_simp⟩) hS ?_
   simp only [Act.put, lsA, lsZ, lsS]
   refine take_at (i := 14) 30 (v := .slice (some ⟨blk, off, none⟩) d.size cap) rfl rfl (by kernel_rfl) (by kernel_rfl) (by kernel_rfl) (fun _ _ _ h => h) (Or.inl ⟨by rfl, fun w' hw' => by go_simp⟩) hS ?_
   simp only [Act.put, lsA, lsZ, lsS]
   refine take_at (i := 15) 31 (v := .int .i64 (a : Int)) rfl rfl (by kernel_rfl) (by kernel_rfl) (by kernel_rfl) (fun _ _ _ h => h) (Or.inl ⟨by rfl, fun w' hw' => by go_simp⟩) hS ?_
   simp only [Act.put, lsA, lsZ, lsS]
   refine take_at (i := 16) 32 (v := .int .i64 (i : Int)) rfl rfl (by kernel_rfl) (by kernel_rfl) (by kernel_rfl) (fun _ _ _ h => h) (Or.inl ⟨by rfl, fun w' hw' => by go_simp⟩) hS ?_
   simp only [Act.put, lsA, lsZ, lsS]
   refine take_at (i := 17) 33 (v := .int .i64 ((a : Int) + (i : Int))) rfl rfl (by kernel_rfl) (by kernel_rfl) (by kernel_rfl) (fun _ _ _ h => h) (Or.inl ⟨by rfl, fun w' hw' => by go_simp⟩) hS ?_
   simp only [Act.put, lsA, lsZ, lsS]
   refine take_at (i := 18) 34 (v := .pointer (some ⟨blk, off + (a + i) * 10, none⟩)) rfl rfl (by kernel_rfl) (by kernel_rfl) (by kernel_rfl) (fun _ _ _ h => h) (Or.inl ⟨by rfl, fun w' hw' => by go_simp⟩) hS ?_
   simp only [Act.put, lsA, lsZ, lsS]
   refine wpAnyH_ready (rs := [13, 19]) (by kernel_rfl) (by simp) ?_
   refine AllReadyH.cons rfl (fun K' hK' => ?_) (AllReadyH.cons rfl (fun K' hK' => ?_) AllReadyH.nil)
   ·refine rdyV 29 rfl (by rfl) (exec_load rfl (load_dg lb)) ?_
    refine hK'.out _ _ trivial (fun hS => ?_)
    clear hK' K'
    simp only [Act.put, lsA, lsZ, lsS]
    refine wpAnyH_ready (rs := [19]) (by kernel_rfl) (by simp) ?_
    refine AllReadyH.cons rfl (fun K' hK' => ?_) AllReadyH.nil
    refine rdyV 35 rfl (by rfl) (exec_load rfl (load_dg la)) ?_
    refine hK'.out _ _ trivial (fun hS => ?_)
    clear hK' K'
    simp only [Act.put, lsA, lsZ, lsS]
    refine take_at (i := 20) 36 (v := .pointer (some ⟨blk, off + (a + i) * 10, none⟩)) rfl rfl (by kernel_rfl) (by kernel_rfl) (by kernel_rfl) (fun _ _ _ h => h) (Or.inl ⟨by rfl, fun w' hw' => by go_simp⟩) hS ?_
    simp only [Act.put, lsA, lsZ, lsS]
    refine wpAnyH_ready (rs := [21]) (by kernel_rfl) (by simp) ?_
    refine AllReadyH.cons rfl (fun K' hK' => ?_) AllReadyH.nil
    refine rdyS rfl (by rfl) (exec_store rfl (store_dg nb sa)) ?_
    refine hK'.out _ _ trivial (fun hS => ?_)
    clear hK' K'
    refine take_at (i := 22) 37 (v := .pointer (some ⟨blk, off + (b + i) * 10, none⟩)) rfl rfl (by kernel_rfl) (by kernel_rfl) (by kernel_rfl) (fun _ _ _ h => h) (Or.inl ⟨by rfl, fun w' hw' => by go_simp⟩) hS ?_
    simp only [Act.put, lsA, lsZ, lsS]
    refine wpAnyH_ready (rs := [23]) (by kernel_rfl) (by simp) ?_
    refine AllReadyH.cons rfl (fun K' hK' => ?_) AllReadyH.nil
    refine rdyS rfl (by rfl) (exec_store rfl (store_dg na sb)) ?_
    refine hK'.out _ _ trivial (fun hS => ?_)
    clear hK' K'
    refine wpAnyH_done (by kernel_rfl) ?_ _
    clear la lb sa sb
    generalize (wr.drew.setCells blk (off + (a + i) * 10) cJ).setCells blk (off + (b + i) * 10) cI = w2 at S2 ⊢
    go_wp2
    go_roundg (n - (i + 1))
    case measure => omega
    case rel =>
     refine ⟨i + 1, by simp, by omega, Nat.le_refl _, ?_⟩
     rw [HDK.out] at S2
     exact S2
   ·refine rdyV 35 rfl (by rfl) (exec_load rfl (load_dg la)) ?_
    refine hK'.out _ _ trivial (fun hS => ?_)
    clear hK' K'
    simp only [Act.put, lsA, lsZ, lsS]
    refine wpAnyH_ready (rs := [13]) (by kernel_rfl) (by simp) ?_
    refine AllReadyH.cons rfl (fun K' hK' => ?_) AllReadyH.nil
    refine rdyV 29 rfl (by rfl) (exec_load rfl (load_dg lb)) ?_
    refine hK'.out _ _ trivial (fun hS => ?_)
    clear hK' K'
    simp only [Act.put, lsA, lsZ, lsS]
    refine take_at (i := 20) 36 (v := .pointer (some ⟨blk, off + (a + i) * 10, none⟩)) rfl rfl (by kernel_rfl) (by kernel_rfl) (by kernel_rfl) (fun _ _ _ h => h) (Or.inl ⟨by rfl, fun w' hw' => by go_simp⟩) hS ?_
    simp only [Act.put, lsA, lsZ, lsS]
    refine wpAnyH_ready (rs := [21]) (by kernel_rfl) (by simp) ?_
    refine AllReadyH.cons rfl (fun K' hK' => ?_) AllReadyH.nil
    refine rdyS rfl (by rfl) (exec_store rfl (store_dg nb sa)) ?_
    refine hK'.out _ _ trivial (fun hS => ?_)
    clear hK' K'
    refine take_at (i := 22) 37 (v := .pointer (some ⟨blk, off + (b + i) * 10, none⟩)) rfl rfl (by kernel_rfl) (by kernel_rfl) (by kernel_rfl) (fun _ _ _ h => h) (Or.inl ⟨by rfl, fun w' hw' => by go_simp⟩) hS ?_
    simp only [Act.put, lsA, lsZ, lsS]
    refine wpAnyH_ready (rs := [23]) (by kernel_rfl) (by simp) ?_
    refine AllReadyH.cons rfl (fun K' hK' => ?_) AllReadyH.nil
    refine rdyS rfl (by rfl) (exec_store rfl (store_dg na sb)) ?_
    refine hK'.out _ _ trivial (fun hS => ?_)
    clear hK' K'
    refine wpAnyH_done (by kernel_rfl) ?_ _
    clear la lb sa sb
    generalize (wr.drew.setCells blk (off + (a + i) * 10) cJ).setCells blk (off + (b + i) * 10) cI = w2 at S2 ⊢
    go_wp2
    go_roundg (n - (i + 1))
    case measure => omega
    case rel =>
     refine ⟨i + 1, by simp, by omega, Nat.le_refl _, ?_⟩
     rw [HDK.out] at S2
     exact S2
  ·obtain rfl : i = n := by omega
   go_wp2
   go_end0
   exact ⟨rfl, S1.out⟩
end Go.Proofs.Ytpnnpdfmoldiiab
