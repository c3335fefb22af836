/- Items of several texts. -/
import Derived.Shelf.SlSortCmp.KitK
import Derived.Sort.WalkB2
import Derived.Sort.WalkB12
import Derived.Deep.LoopGhost
import Derived.Deep.RegionHeld
import Derived.Deep.MidRow
import Derived.Test.YtpnnpdfmoldiiaaQTake
import Derived.Test.YtpnnpdfmoldiiaaQSrt
namespace Go.Proofs.Ytpnnpdfmoldiiaa
open Go.Shelf Go.RowKit Go.Lib Go.Sort
def swpN {α : Type} [Inhabited α] (d : Array α) (a b : Nat) : Nat → Array α
 | 0 => d
 | n + 1 => swp (swpN d a b n) (a + n) (b + n)
theorem swpN_size {α : Type} [Inhabited α] (d : Array α) (a b : Nat) : ∀ n, (swpN d a b n).size = d.size
 | 0 => rfl
 | n + 1 => by rw [swpN, size_swp, swpN_size d a b n]
theorem exec_load {P : Program} {ρ : Operand → Value} {o : Oper} {t : TypeId} {x : Operand} {v : Value} {w : World} (ho : o.op = .load t x) (h : (Instr.loadAt t (ρ x)).run P w = .ok v w) : Sem.run P (execOp ρ o) w = .ok (.value v) w := by
 have e : execOp ρ o = (do pure (.value (← Instr.loadAt t (ρ x)))) := by unfold execOp; rw [ho]
 rw [e, Sem.run_bind, h]
 rfl
theorem exec_store {P : Program} {ρ : Operand → Value} {o : Oper} {t : TypeId} {x y : Operand} {w w' : World} (ho : o.op = .store t x y) (h : (Instr.storeAt t (ρ x) (ρ y)).run P w = .ok () w') : Sem.run P (execOp ρ o) w = .ok .skip w' := by
 have e : execOp ρ o = (do Instr.storeAt t (ρ x) (ρ y); pure .skip) := by unfold execOp; rw [ho]
 rw [e, Sem.run_bind, h]
 rfl
theorem rdyV {P : Program} {ops : Array Oper} {o : Oper} {a : Act} {w w' : World} {v : Value} {K' : Act → World → Prop} {Q : Exit → Act → World → Prop} (dd : Nat) (hd : o.dst = some dd) (hw : Region.wanted o (yielded ops a.tmps) = true) (h : Sem.run P (execOp a.eval o) w = .ok (.value v) w') (hk : K' (a.put (some dd) v) w') :
  if Region.wanted o (yielded ops a.tmps) = true then Oper.wp P o a w K' Q else K' (a.put o.dst undef) w := by
 rw [if_pos hw]
 unfold Oper.wp
 rw [h, Oper.upon_value, hd]
 exact hk
theorem rdyS {P : Program} {ops : Array Oper} {o : Oper} {a : Act} {w w' : World} {K' : Act → World → Prop} {Q : Exit → Act → World → Prop} (hd : o.dst = none) (hw : Region.wanted o (yielded ops a.tmps) = true) (h : Sem.run P (execOp a.eval o) w = .ok .skip w') (hk : K' a w') :
  if Region.wanted o (yielded ops a.tmps) = true then Oper.wp P o a w K' Q else K' (a.put o.dst undef) w := by
 rw [if_pos hw]
 unfold Oper.wp
 rw [h, Oper.upon_skip, hd]
 exact hk
theorem load_dg {w : World} {b o : Nat} {cs : Array Value} (h : Sem.run Try.prog (loadCellsFrom ⟨b, o, none⟩ 0 10 #[]) w = .ok cs w) : (Instr.loadAt 27 (.pointer (some ⟨b, o, none⟩))).run Try.prog w = .ok (.agg cs) w := by
 have hi : (Try.prog.info? 27).map (·.size) = some 10 := by kernel_rfl
 have hl : (loadCells ⟨b, o, none⟩ 10).run Try.prog w = .ok cs w := h
 have hv : (loadVar 27 ⟨b, o, none⟩).run Try.prog w = .ok (.agg cs) w := by
  cases hq : Try.prog.info? 27 with
  | none => simp [hq] at hi
  | some i =>
   have hs : i.size = 10 := by simpa [hq] using hi
   have hagg : (isAgg 27).run Try.prog w = .ok true w := by
    unfold isAgg
    rw [Sem.run_bind, run_underlying Try.underlying27 w]
    rfl
   simp [loadVar, Sem.run_bind, hagg, sizeOf, typeInfo, hq, hs, hl]
 simp only [Instr.loadAt, Instr.sureAddr, Sem.run_bind, Sem.run_pure, Result.andThen_ok, hv]
theorem store_dg {w w' : World} {b o : Nat} {cs : List Value} (hn : cs.length = 10) (h : Sem.run Try.prog (storeCells ⟨b, o, none⟩ cs 0) w = .ok () w') : (Instr.storeAt 27 (.pointer (some ⟨b, o, none⟩)) (.agg cs.toArray)).run Try.prog w = .ok () w' := by
 have hi : (Try.prog.info? 27).map (·.size) = some 10 := by kernel_rfl
 have hv : (storeVar 27 ⟨b, o, none⟩ (.agg cs.toArray)).run Try.prog w = .ok () w' := by
  cases hq : Try.prog.info? 27 with
  | none => simp [hq] at hi
  | some i =>
   have hs : i.size = 10 := by simpa [hq] using hi
   simp [storeVar, sizeOf, typeInfo, hq, Value.cells, hs, hn, h]
 simp only [Instr.storeAt, Instr.sureAddr, Sem.run_bind, Sem.run_pure, Result.andThen_ok, hv]
set_option maxRecDepth 100000 in
set_option maxHeartbeats 800000 in
theorem dgswap_any {α : Type} [Inhabited α] (enc : α → List Value) (cmp : Value) (blk off cap a b n : Nat) (d0 d : Array α) (w0 w : World)
  (R : RowK enc 10 w0 blk off d0) (hs : d0.size = d.size) (S : SWK enc 10 w0 blk off d w) (hab : a + n ≤ b) (hb : b + n ≤ d.size) (hsz : d.size < 4611686018427387904) :
  Calls Try.prog 158 #[.slice (some ⟨blk, off, none⟩) d.size cap, .int .i64 a, .int .i64 b, .int .i64 n, cmp] w fun e w' => e = .returned (.tuple #[]) ∧ SWK enc 10 w0 blk off (swpN d a b n) w' := by
 have S0 : Aside (SWK enc 10 w0 blk off d w) := S
 clear S
 go_enter Try.func158, Try.ntmps158
 go_wp2
 go_loopg [10] n (fun kx s10 wr => ∃ i : Nat, s10 = .int .i64 i ∧ i ≤ n ∧ n - i ≤ kx ∧ Aside (SWK enc 10 w0 blk off (swpN d a b i) wr))
 case atStart => exact ⟨0, rfl, by omega, by omega, S0⟩
 case round =>
  clear S0
  obtain ⟨i, rfl, hin, hkx, S1⟩ := hrel
  by_cases hlt : i < n
  ·have hz : (i : Int) < (n : Int) := by omega
   have hds := swpN_size d a b i
   obtain ⟨dk, hdk⟩ : ∃ dk, dk = swpN d a b i := ⟨_, rfl⟩
   rw [← hdk] at S1 hds
   have HDK : Aside (dk = swpN d a b i) := hdk
   clear hdk
   go_wp2_with fail
   have ea : ((a : Int) + (i : Int)).toNat = a + i := by omega
   have pa : (0 : Int) ≤ (a : Int) + (i : Int) := by omega
   have ba : (a : Int) + (i : Int) < (d.size : Int) := by omega
   have ra : IntKind.i64.wrap ((a : Int) + (i : Int)) = (a : Int) + (i : Int) := by rw [IntKind.wrap_i64]; omega
   have eb : ((b : Int) + (i : Int)).toNat = b + i := by omega
   have pb : (0 : Int) ≤ (b : Int) + (i : Int) := by omega
   have bb : (b : Int) + (i : Int) < (d.size : Int) := by omega
   have rb : IntKind.i64.wrap ((b : Int) + (i : Int)) = (b : Int) + (i : Int) := by rw [IntKind.wrap_i64]; omega
   have S2 : Aside (SWK enc 10 w0 blk off (swp dk (a + i) (b + i)) ((wr.drew.setCells blk (off + (a + i) * 10) (enc dk[b + i]!)).setCells blk (off + (b + i) * 10) (enc dk[a + i]!))) := S1.out.swapped R (a + i) (b + i) (by omega) (by omega)
   have la := S1.out.ld1 R (by omega) Try.prog (a + i) (by omega)
   have lb := S1.out.ld1 R (by omega) Try.prog (b + i) (by omega)
   have sa := S1.out.st1 R (by omega) Try.prog (a + i) (by omega) dk[b + i]!
   have sb := S1.out.st2 R (by omega) Try.prog (a + i) (b + i) (by omega) (by omega) dk[b + i]! dk[a + i]!
   have na : (enc dk[a + i]!).length = 10 := R.hk _
   have nb : (enc dk[b + i]!).length = 10 := R.hk _
   generalize enc dk[a + i]! = cI at S2 la sb na
   generalize enc dk[b + i]! = cJ at S2 lb sa sb nb
   clear S1
   refine wp_region_held_drew (S := fun _ => True) (by kernel_rfl) trivial (fun hS => ?_)
   refine take_at (i := 0) 16 (v := .slice (some ⟨blk, off, none⟩) d.size cap) rfl rfl (by kernel_rfl) (by kernel_rfl) (by kernel_rfl) (fun _ _ _ h => h) (Or.inl ⟨by rfl, fun w' hw' => by go_simp⟩) hS ?_
   simp only [Act.put, lsA, lsZ, lsS]
   refine take_at (i := 1) 17 (v := .int .i64 (a : Int)) rfl rfl (by kernel_rfl) (by kernel_rfl) (by kernel_rfl) (fun _ _ _ h => h) (Or.inl ⟨by rfl, fun w' hw' => by go_simp⟩) hS ?_
   simp only [Act.put, lsA, lsZ, lsS]
   refine take_at (i := 2) 18 (v := .int .i64 (i : Int)) rfl rfl (by kernel_rfl) (by kernel_rfl) (by kernel_rfl) (fun _ _ _ h => h) (Or.inl ⟨by rfl, fun w' hw' => by go_simp⟩) hS ?_
   simp only [Act.put, lsA, lsZ, lsS]
   refine take_at (i := 3) 19 (v := .int .i64 ((a : Int) + (i : Int))) rfl rfl (by kernel_rfl) (by kernel_rfl) (by kernel_rfl) (fun _ _ _ h => h) (Or.inl ⟨by rfl, fun w' hw' => by go_simp⟩) hS ?_
   simp only [Act.put, lsA, lsZ, lsS]
   refine take_at (i := 4) 20 (v := .slice (some ⟨blk, off, none⟩) d.size cap) rfl rfl (by kernel_rfl) (by kernel_rfl) (by kernel_rfl) (fun _ _ _ h => h) (Or.inl ⟨by rfl, fun w' hw' => by go_simp⟩) hS ?_
   simp only [Act.put, lsA, lsZ, lsS]
   refine take_at (i := 5) 21 (v := .int .i64 (b : Int)) rfl rfl (by kernel_rfl) (by kernel_rfl) (by kernel_rfl) (fun _ _ _ h => h) (Or.inl ⟨by rfl, fun w' hw' => by go_simp⟩) hS ?_
   simp only [Act.put, lsA, lsZ, lsS]
   refine take_at (i := 6) 22 (v := .int .i64 (i : Int)) rfl rfl (by kernel_rfl) (by kernel_rfl) (by kernel_rfl) (fun _ _ _ h => h) (Or.inl ⟨by rfl, fun w' hw' => by go_simp⟩) hS ?_
   simp only [Act.put, lsA, lsZ, lsS]
   refine take_at (i := 7) 23 (v := .int .i64 ((b : Int) + (i : Int))) rfl rfl (by kernel_rfl) (by kernel_rfl) (by kernel_rfl) (fun _ _ _ h => h) (Or.inl ⟨by rfl, fun w' hw' => by go_simp⟩) hS ?_
   simp only [Act.put, lsA, lsZ, lsS]
   refine take_at (i := 8) 24 (v := .slice (some ⟨blk, off, none⟩) d.size cap) rfl rfl (by kernel_rfl) (by kernel_rfl) (by kernel_rfl) (fun _ _ _ h => h) (Or.inl ⟨by rfl, fun w' hw' => by go_simp⟩) hS ?_
   simp only [Act.put, lsA, lsZ, lsS]
   refine take_at (i := 9) 25 (v := .int .i64 (b : Int)) rfl rfl (by kernel_rfl) (by kernel_rfl) (by kernel_rfl) (fun _ _ _ h => h) (Or.inl ⟨by rfl, fun w' hw' => by go_simp⟩) hS ?_
   simp only [Act.put, lsA, lsZ, lsS]
   refine take_at (i := 10) 26 (v := .int .i64 (i : Int)) rfl rfl (by kernel_rfl) (by kernel_rfl) (by kernel_rfl) (fun _ _ _ h => h) (Or.inl ⟨by rfl, fun w' hw' => by go_simp⟩) hS ?_
   simp only [Act.put, lsA, lsZ, lsS]
   refine take_at (i := 11) 27 (v := .int .i64 ((b : Int) + (i : Int))) rfl rfl (by kernel_rfl) (by kernel_rfl) (by kernel_rfl) (fun _ _ _ h => h) (Or.inl ⟨by rfl, fun w' hw' => by go_simp⟩) hS ?_
   simp only [Act.put, lsA, lsZ, lsS]
   refine take_at (i := 12) 28 (v := .pointer (some ⟨blk, off + (b + i) * 10, none⟩)) rfl rfl (by kernel_rfl) (by kernel_rfl) (by kernel_rfl) (fun _ _ _ h => h) (Or.inl ⟨by rfl, fun w' hw' => by go_simp⟩) hS ?_
   simp only [Act.put, lsA, lsZ, lsS]
   refine take_at (i := 14) 30 (v := .slice (some ⟨blk, off, none⟩) d.size cap) rfl rfl (by kernel_rfl) (by kernel_rfl) (by kernel_rfl) (fun _ _ _ h => h) (Or.inl ⟨by rfl, fun w' hw' => by go_simp⟩) hS ?_
   simp only [Act.put, lsA, lsZ, lsS]
   refine take_at (i := 15) 31 (v := .int .i64 (a : Int)) rfl rfl (by kernel_rfl) (by kernel_rfl) (by kernel_rfl) (fun _ _ _ h => h) (Or.inl ⟨by rfl, fun w' hw' => by go_simp⟩) hS ?_
   simp only [Act.put, lsA, lsZ, lsS]
   refine take_at (i := 16) 32 (v := .int .i64 (i : Int)) rfl rfl (by kernel_rfl) (by kernel_rfl) (by kernel_rfl) (fun _ _ _ h => h) (Or.inl ⟨by rfl, fun w' hw' => by go_simp⟩) hS ?_
   simp only [Act.put, lsA, lsZ, lsS]
   refine take_at (i := 17) 33 (v := .int .i64 ((a : Int) + (i : Int))) rfl rfl (by kernel_rfl) (by kernel_rfl) (by kernel_rfl) (fun _ _ _ h => h) (Or.inl ⟨by rfl, fun w' hw' => by go_simp⟩) hS ?_
   simp only [Act.put, lsA, lsZ, lsS]
   refine take_at (i := 18) 34 (v := .pointer (some ⟨blk, off + (a + i) * 10, none⟩)) rfl rfl (by kernel_rfl) (by kernel_rfl) (by kernel_rfl) (fun _ _ _ h => h) (Or.inl ⟨by rfl, fun w' hw' => by go_simp⟩) hS ?_
   simp only [Act.put, lsA, lsZ, lsS]
   refine wpAnyH_ready (rs := [13, 19]) (by kernel_rfl) (by simp) ?_
   refine AllReadyH.cons rfl (fun K' hK' => ?_) (AllReadyH.cons rfl (fun K' hK' => ?_) AllReadyH.nil)
   ·refine rdyV 29 rfl (by rfl) (exec_load rfl (load_dg lb)) ?_
    refine hK'.out _ _ trivial (fun hS => ?_)
    clear hK' K'
    simp only [Act.put, lsA, lsZ, lsS]
    refine wpAnyH_ready (rs := [19]) (by kernel_rfl) (by simp) ?_
    refine AllReadyH.cons rfl (fun K' hK' => ?_) AllReadyH.nil
    refine rdyV 35 rfl (by rfl) (exec_load rfl (load_dg la)) ?_
    refine hK'.out _ _ trivial (fun hS => ?_)
    clear hK' K'
    simp only [Act.put, lsA, lsZ, lsS]
    refine take_at (i := 20) 36 (v := .pointer (some ⟨blk, off + (a + i) * 10, none⟩)) rfl rfl (by kernel_rfl) (by kernel_rfl) (by kernel_rfl) (fun _ _ _ h => h) (Or.inl ⟨by rfl, fun w' hw' => by go_simp⟩) hS ?_
    simp only [Act.put, lsA, lsZ, lsS]
    refine wpAnyH_ready (rs := [21]) (by kernel_rfl) (by simp) ?_
    refine AllReadyH.cons rfl (fun K' hK' => ?_) AllReadyH.nil
    refine rdyS rfl (by rfl) (exec_store rfl (store_dg nb sa)) ?_
    refine hK'.out _ _ trivial (fun hS => ?_)
    clear hK' K'
    refine take_at (i := 22) 37 (v := .pointer (some ⟨blk, off + (b + i) * 10, none⟩)) rfl rfl (by kernel_rfl) (by kernel_rfl) (by kernel_rfl) (fun _ _ _ h => h) (Or.inl ⟨by rfl, fun w' hw' => by go_simp⟩) hS ?_
    simp only [Act.put, lsA, lsZ, lsS]
    refine wpAnyH_ready (rs := [23]) (by kernel_rfl) (by simp) ?_
    refine AllReadyH.cons rfl (fun K' hK' => ?_) AllReadyH.nil
    refine rdyS rfl (by rfl) (exec_store rfl (store_dg na sb)) ?_
    refine hK'.out _ _ trivial (fun hS => ?_)
    clear hK' K'
    refine wpAnyH_done (by kernel_rfl) ?_ _
    clear la lb sa sb
    generalize (wr.drew.setCells blk (off + (a + i) * 10) cJ).setCells blk (off + (b + i) * 10) cI = w2 at S2 ⊢
    go_wp2
    go_roundg (n - (i + 1))
    case measure => omega
    case rel =>
     refine ⟨i + 1, by simp, by omega, Nat.le_refl _, ?_⟩
     rw [HDK.out] at S2
     exact S2
   ·refine rdyV 35 rfl (by rfl) (exec_load rfl (load_dg la)) ?_
    refine hK'.out _ _ trivial (fun hS => ?_)
    clear hK' K'
    simp only [Act.put, lsA, lsZ, lsS]
    refine wpAnyH_ready (rs := [13]) (by kernel_rfl) (by simp) ?_
    refine AllReadyH.cons rfl (fun K' hK' => ?_) AllReadyH.nil
    refine rdyV 29 rfl (by rfl) (exec_load rfl (load_dg lb)) ?_
    refine hK'.out _ _ trivial (fun hS => ?_)
    clear hK' K'
    simp only [Act.put, lsA, lsZ, lsS]
    refine take_at (i := 20) 36 (v := .pointer (some ⟨blk, off + (a + i) * 10, none⟩)) rfl rfl (by kernel_rfl) (by kernel_rfl) (by kernel_rfl) (fun _ _ _ h => h) (Or.inl ⟨by rfl, fun w' hw' => by go_simp⟩) hS ?_
    simp only [Act.put, lsA, lsZ, lsS]
    refine wpAnyH_ready (rs := [21]) (by kernel_rfl) (by simp) ?_
    refine AllReadyH.cons rfl (fun K' hK' => ?_) AllReadyH.nil
    refine rdyS rfl (by rfl) (exec_store rfl (store_dg nb sa)) ?_
    refine hK'.out _ _ trivial (fun hS => ?_)
    clear hK' K'
    refine take_at (i := 22) 37 (v := .pointer (some ⟨blk, off + (b + i) * 10, none⟩)) rfl rfl (by kernel_rfl) (by kernel_rfl) (by kernel_rfl) (fun _ _ _ h => h) (Or.inl ⟨by rfl, fun w' hw' => by go_simp⟩) hS ?_
    simp only [Act.put, lsA, lsZ, lsS]
    refine wpAnyH_ready (rs := [23]) (by kernel_rfl) (by simp) ?_
    refine AllReadyH.cons rfl (fun K' hK' => ?_) AllReadyH.nil
    refine rdyS rfl (by rfl) (exec_store rfl (store_dg na sb)) ?_
    refine hK'.out _ _ trivial (fun hS => ?_)
    clear hK' K'
    refine wpAnyH_done (by kernel_rfl) ?_ _
    clear la lb sa sb
    generalize (wr.drew.setCells blk (off + (a + i) * 10) cJ).setCells blk (off + (b + i) * 10) cI = w2 at S2 ⊢
    go_wp2
    go_roundg (n - (i + 1))
    case measure => omega
    case rel =>
     refine ⟨i + 1, by simp, by omega, Nat.le_refl _, ?_⟩
     rw [HDK.out] at S2
     exact S2
  ·obtain rfl : i = n := by omega
   go_wp2
   go_end0
   exact ⟨rfl, S1.out⟩
end Go.Proofs.Ytpnnpdfmoldiiaa

namespace Go.Proofs.Ytpnnpdfmoldiiaa
open Go.Shelf Go.RowKit Go.Lib Go.Sort
theorem getM_at {α : Type} [Inhabited α] {d : Array α} {A B : List α} {x : α} {i : Nat} (h : d.toList = A ++ x :: B) (hi : i = A.length) : d[i]! = x := by
 subst hi
 have h1 : d.toList[A.length]? = some x := by rw [h]; simp
 have h2 : d[A.length]? = some x := by rw [← h1]; simp
 rw [getElem!_def, h2]
theorem set_at {α : Type} {d : Array α} {A B : List α} {x y : α} {i : Nat} (h : d.toList = A ++ x :: B) (hi : i = A.length) : (d.setIfInBounds i y).toList = A ++ y :: B := by
 subst hi
 rw [Array.toList_setIfInBounds, h]
 simp
theorem swp_list {α : Type} [Inhabited α] {d : Array α} {A B C : List α} {l r : α} {i j : Nat} (h : d.toList = A ++ l :: (B ++ r :: C)) (hi : i = A.length) (hj : j = A.length + 1 + B.length) : (swp d i j).toList = A ++ r :: (B ++ l :: C) := by
 have e1 : d[i]! = l := getM_at h hi
 have h' : d.toList = (A ++ l :: B) ++ r :: C := by rw [h]; simp
 have e2 : d[j]! = r := getM_at h' (by simp; omega)
 unfold swp
 rw [e1, e2]
 have h1 : (d.setIfInBounds i r).toList = (A ++ r :: B) ++ r :: C := by rw [set_at (y := r) h hi]; simp
 rw [set_at (y := l) h1 (by simp; omega)]
 simp
theorem swpN_list {α : Type} [Inhabited α] {d : Array α} {a b : Nat} : ∀ {n : Nat} {X L M R Y : List α}, d.toList = X ++ (L ++ (M ++ (R ++ Y))) → a = X.length → L.length = n → R.length = n → b = X.length + n + M.length → (swpN d a b n).toList = X ++ (R ++ (M ++ (L ++ Y)))
 | 0, X, L, M, R, Y, h, _, hL, hR, _ => by
  obtain rfl := List.length_eq_zero_iff.1 hL
  obtain rfl := List.length_eq_zero_iff.1 hR
  exact h
 | n + 1, X, L, M, R, Y, h, ha, hL, hR, hb => by
  obtain ⟨L0, l, rfl⟩ : ∃ L0 l, L = L0 ++ [l] := ⟨L.dropLast, L.getLast (by intro e; simp [e] at hL), (List.dropLast_concat_getLast _).symm⟩
  obtain ⟨R0, r, rfl⟩ : ∃ R0 r, R = R0 ++ [r] := ⟨R.dropLast, R.getLast (by intro e; simp [e] at hR), (List.dropLast_concat_getLast _).symm⟩
  have hL0 : L0.length = n := by simp at hL; exact hL
  have hR0 : R0.length = n := by simp at hR; exact hR
  have ih := swpN_list (d := d) (a := a) (b := b) (n := n) (X := X) (L := L0) (M := l :: M) (R := R0) (Y := r :: Y) (by rw [h]; simp) ha hL0 hR0 (by simp; omega)
  show (swp (swpN d a b n) (a + n) (b + n)).toList = _
  have h2 : (swpN d a b n).toList = (X ++ R0) ++ l :: ((M ++ L0) ++ r :: Y) := by rw [ih]; simp
  rw [swp_list h2 (by simp; omega) (by simp; omega)]
  simp
structure RotL {α : Type} (m i j : Nat) (T : List α) (d : Array α) : Prop where
 is : ∃ X L R Y : List α, d.toList = X ++ (L ++ (R ++ Y)) ∧ X.length = m - i ∧ L.length = i ∧ R.length = j ∧ T = X ++ (R ++ (L ++ Y))
theorem RotL.left {α : Type} [Inhabited α] {m i j : Nat} {T : List α} {d : Array α} (h : RotL m i j T d) (him : i ≤ m) (hij : j < i) : RotL m (i - j) j T (swpN d (m - i) m j) := by
 obtain ⟨X, L, R, Y, h1, h2, h3, h4, h5⟩ := h.is
 have e : L = L.take j ++ L.drop j := (List.take_append_drop j L).symm
 have l1 : (L.take j).length = j := by simp; omega
 have l2 : (L.drop j).length = i - j := by simp; omega
 generalize L.take j = L1 at e l1
 generalize L.drop j = L2 at e l2
 subst e
 have hs := swpN_list (d := d) (a := m - i) (b := m) (n := j) (X := X) (L := L1) (M := L2) (R := R) (Y := Y) (by rw [h1]; simp) h2.symm l1 h4 (by omega)
 exact ⟨X ++ R, L2, L1, Y, by rw [hs]; simp, by simp; omega, l2, l1, by rw [h5]; simp⟩
theorem RotL.right {α : Type} [Inhabited α] {m i j : Nat} {T : List α} {d : Array α} (h : RotL m i j T d) (him : i ≤ m) (hij : i < j) : RotL m i (j - i) T (swpN d (m - i) (m + j - i) i) := by
 obtain ⟨X, L, R, Y, h1, h2, h3, h4, h5⟩ := h.is
 have e : R = R.take (j - i) ++ R.drop (j - i) := (List.take_append_drop _ R).symm
 have l1 : (R.take (j - i)).length = j - i := by simp; omega
 have l2 : (R.drop (j - i)).length = i := by simp; omega
 generalize R.take (j - i) = R1 at e l1
 generalize R.drop (j - i) = R2 at e l2
 subst e
 have hs := swpN_list (d := d) (a := m - i) (b := m + j - i) (n := i) (X := X) (L := L) (M := R1) (R := R2) (Y := Y) (by rw [h1]; simp) h2.symm h3 l2 (by omega)
 exact ⟨X, R2, R1, L ++ Y, by rw [hs], h2, l2, l1, by rw [h5]; simp⟩
theorem RotL.done {α : Type} [Inhabited α] {m i : Nat} {T : List α} {d : Array α} (h : RotL m i i T d) (him : i ≤ m) : (swpN d (m - i) m i).toList = T := by
 obtain ⟨X, L, R, Y, h1, h2, h3, h4, h5⟩ := h.is
 rw [h5, swpN_list (d := d) (a := m - i) (b := m) (n := i) (X := X) (L := L) (M := []) (R := R) (Y := Y) (by rw [h1]; simp) h2.symm h3 h4 (by simp; omega)]
 simp
theorem RotL.size {α : Type} {m i j : Nat} {T : List α} {d : Array α} (h : RotL m i j T d) (him : i ≤ m) : m + j ≤ d.size := by
 obtain ⟨X, L, R, Y, h1, h2, h3, h4, h5⟩ := h.is
 have e : d.toList.length = d.size := by simp
 rw [h1] at e
 simp at e
 omega
end Go.Proofs.Ytpnnpdfmoldiiaa

namespace Go.Proofs.Ytpnnpdfmoldiiaa
open Go.Shelf Go.RowKit Go.Lib Go.Sort
set_option maxRecDepth 100000 in
set_option maxHeartbeats 800000 in
theorem dgrot_any {α : Type} [Inhabited α] (enc : α → List Value) (cmp : Value) (blk off cap a m b : Nat) (d0 d : Array α) (T : List α) (w0 w : World)
  (R : RowK enc 10 w0 blk off d0) (hs : d0.size = d.size) (S : SWK enc 10 w0 blk off d w) (ham : a < m) (hmb : m < b) (hb : b ≤ d.size) (hsz : d.size < 4611686018427387904) (hT : RotL m (m - a) (b - m) T d) :
  Calls Try.prog 156 #[.slice (some ⟨blk, off, none⟩) d.size cap, .int .i64 a, .int .i64 m, .int .i64 b, cmp] w fun e w' => e = .returned (.tuple #[]) ∧ ∃ d' : Array α, d'.toList = T ∧ SWK enc 10 w0 blk off d' w' := by
 have S0 : Aside (SWK enc 10 w0 blk off d w) := S
 have T0 : Aside (RotL m (m - a) (b - m) T d) := hT
 have ei : (m : Int) - (a : Int) = ((m - a : Nat) : Int) := by omega
 have ej : (b : Int) - (m : Int) = ((b - m : Nat) : Int) := by omega
 have ri : IntKind.i64.wrap ((m : Int) - (a : Int)) = ((m - a : Nat) : Int) := by rw [IntKind.wrap_i64] <;> omega
 have rj : IntKind.i64.wrap ((b : Int) - (m : Int)) = ((b - m : Nat) : Int) := by rw [IntKind.wrap_i64] <;> omega
 clear S hT
 go_enter Try.func156, Try.ntmps156
 go_upto_region 2 with fail
 go_loopg [10, 11] (b - a) (fun kx s10 s11 wr => ∃ (i j : Nat) (dk : Array α), s10 = .int .i64 i ∧ s11 = .int .i64 j ∧ 0 < i ∧ 0 < j ∧ i ≤ m ∧ i + j ≤ kx ∧ dk.size = d.size ∧ Aside (RotL m i j T dk) ∧ Aside (SWK enc 10 w0 blk off dk wr))
 case atStart => exact ⟨m - a, b - m, d, by simp, by simp, by omega, by omega, by omega, by omega, rfl, T0, S0⟩
 case round =>
  clear S0 T0 ei ej ri rj
  obtain ⟨i, j, dk, rfl, rfl, hi, hj, him, hk, hds, T1, S1⟩ := hrel
  have hz := T1.out.size him
  have hmz : m ≤ 4611686018427387904 := by omega
  have r1 : IntKind.i64.wrap ((m : Int) - (i : Int)) = ((m - i : Nat) : Int) := by rw [IntKind.wrap_i64] <;> omega
  have e1 : (m : Int) - (i : Int) = ((m - i : Nat) : Int) := by omega
  rcases Nat.lt_trichotomy i j with hlt | rfl | hlt
  ·have n0 : ((i : Int) != (j : Int)) = true := by simp; omega
   have g0 : ¬ ((j : Int) < (i : Int)) := by omega
   have r2 : IntKind.i64.wrap ((m : Int) + (j : Int)) = (m : Int) + (j : Int) := by rw [IntKind.wrap_i64] <;> omega
   have e2 : (m : Int) + (j : Int) - (i : Int) = ((m + j - i : Nat) : Int) := by omega
   have r3 : IntKind.i64.wrap ((m : Int) + (j : Int) - (i : Int)) = ((m + j - i : Nat) : Int) := by rw [IntKind.wrap_i64] <;> omega
   have e3 : (j : Int) - (i : Int) = ((j - i : Nat) : Int) := by omega
   have r4 : IntKind.i64.wrap ((j : Int) - (i : Int)) = ((j - i : Nat) : Int) := by rw [IntKind.wrap_i64] <;> omega
   have c := dgswap_any enc cmp blk off cap (m - i) (m + j - i) i d0 dk w0 wr R (by omega) S1.out (by omega) (by omega) (by omega)
   rw [hds] at c
   have T2 : Aside _ := T1.out.right him hlt
   have z2 := (swpN_size dk (m - i) (m + j - i) i).trans hds
   clear T1 S1
   go_wp2_with fail
   refine c.mono ?_
   clear c
   rintro e w2 ⟨rfl, S2⟩
   have S3 : Aside _ := S2
   clear S2
   generalize swpN dk (m - i) (m + j - i) i = d2 at S3 T2 z2
   go_wp2
   go_roundg (i + (j - i))
   case measure => omega
   case rel => exact ⟨i, j - i, d2, rfl, by simp, hi, by omega, him, by omega, z2, T2, S3⟩
  ·have n0 : ((i : Int) != (i : Int)) = false := by simp
   have c := dgswap_any enc cmp blk off cap (m - i) m i d0 dk w0 wr R (by omega) S1.out (by omega) (by omega) (by omega)
   rw [hds] at c
   have T2 : Aside _ := T1.out.done him
   clear T1 S1
   go_wp2_with fail
   refine c.mono ?_
   clear c
   rintro e w2 ⟨rfl, S2⟩
   go_wp2_with fail
   go_end0
   exact ⟨rfl, _, T2.out, S2⟩
  ·have n0 : ((i : Int) != (j : Int)) = true := by simp; omega
   have g0 : (j : Int) < (i : Int) := by omega
   have e3 : (i : Int) - (j : Int) = ((i - j : Nat) : Int) := by omega
   have r4 : IntKind.i64.wrap ((i : Int) - (j : Int)) = ((i - j : Nat) : Int) := by rw [IntKind.wrap_i64] <;> omega
   have c := dgswap_any enc cmp blk off cap (m - i) m j d0 dk w0 wr R (by omega) S1.out (by omega) (by omega) (by omega)
   rw [hds] at c
   have T2 : Aside _ := T1.out.left him hlt
   have z2 := (swpN_size dk (m - i) m j).trans hds
   clear T1 S1
   go_wp2_with fail
   refine c.mono ?_
   clear c
   rintro e w2 ⟨rfl, S2⟩
   have S3 : Aside _ := S2
   clear S2
   generalize swpN dk (m - i) m j = d2 at S3 T2 z2
   go_wp2
   go_roundg (i - j + j)
   case measure => omega
   case rel => exact ⟨i - j, j, d2, by simp, rfl, by omega, hj, by omega, by omega, z2, T2, S3⟩
end Go.Proofs.Ytpnnpdfmoldiiaa

namespace Go.Proofs.Ytpnnpdfmoldiiaa
def mgD {α : Type} (lt : α → α → Bool) (L R : List α) : List α := List.merge L R (fun x y => !lt y x)
theorem mgD_nil {α : Type} {lt : α → α → Bool} (R : List α) : mgD lt [] R = R := by simp [mgD]
theorem mgD_nil' {α : Type} {lt : α → α → Bool} (L : List α) : mgD lt L [] = L := by simp [mgD]
theorem mgD_cons {α : Type} {lt : α → α → Bool} (l r : α) (L R : List α) : mgD lt (l :: L) (r :: R) = if lt r l = true then r :: mgD lt (l :: L) R else l :: mgD lt L (r :: R) := by
 unfold mgD
 rw [List.cons_merge_cons]
 cases lt r l <;> simp
theorem mgD_splitN {α : Type} {lt : α → α → Bool} {L2 R2 : List α} : ∀ (n : Nat) {L1 R1 : List α}, L1.length + R1.length ≤ n → (∀ r ∈ R1, ∀ l ∈ L2, lt r l = true) → (∀ l ∈ L1, ∀ r ∈ R2, lt r l = false) → mgD lt (L1 ++ L2) (R1 ++ R2) = mgD lt L1 R1 ++ mgD lt L2 R2
 | _, [], [], _, _, _ => by simp [mgD_nil]
 | 0, _ :: _, _, h, _, _ => by simp at h
 | 0, [], _ :: _, h, _, _ => by simp at h
 | n + 1, [], r :: R1, hn, h1, h2 => by
  have ih := mgD_splitN n (L1 := []) (R1 := R1) (L2 := L2) (R2 := R2) (by simp at hn ⊢; omega) (fun x hx => h1 x (by simp [hx])) h2
  simp only [List.nil_append, mgD_nil, List.cons_append] at ih ⊢
  cases L2 with
  | nil => simp [mgD_nil]
  | cons l L2 => rw [mgD_cons, if_pos (h1 r (by simp) l (by simp)), ih]
 | n + 1, l :: L1, [], hn, h1, h2 => by
  have ih := mgD_splitN n (L1 := L1) (R1 := []) (L2 := L2) (R2 := R2) (by simp at hn ⊢; omega) h1 (fun x hx => h2 x (by simp [hx]))
  simp only [List.nil_append, mgD_nil', List.cons_append] at ih ⊢
  cases R2 with
  | nil => simp [mgD_nil']
  | cons r R2 => rw [mgD_cons, if_neg (by rw [h2 l (by simp) r (by simp)]; simp), ih]
 | n + 1, l :: L1, r :: R1, hn, h1, h2 => by
  have i1 := mgD_splitN n (L1 := l :: L1) (R1 := R1) (L2 := L2) (R2 := R2) (by simp at hn ⊢; omega) (fun x hx => h1 x (by simp [hx])) h2
  have i2 := mgD_splitN n (L1 := L1) (R1 := r :: R1) (L2 := L2) (R2 := R2) (by simp at hn ⊢; omega) h1 (fun x hx => h2 x (by simp [hx]))
  simp only [List.cons_append] at i1 i2 ⊢
  rw [mgD_cons, mgD_cons, i1, i2]
  split <;> simp
theorem mgD_split {α : Type} {lt : α → α → Bool} {L1 R1 L2 R2 : List α} (h1 : ∀ r ∈ R1, ∀ l ∈ L2, lt r l = true) (h2 : ∀ l ∈ L1, ∀ r ∈ R2, lt r l = false) : mgD lt (L1 ++ L2) (R1 ++ R2) = mgD lt L1 R1 ++ mgD lt L2 R2 :=
 mgD_splitN _ (Nat.le_refl _) h1 h2
theorem mgD_into {α : Type} {lt : α → α → Bool} {x : α} {R1 R2 : List α} (h1 : ∀ r ∈ R1, lt r x = true) (h2 : ∀ r ∈ R2, lt r x = false) : mgD lt [x] (R1 ++ R2) = R1 ++ x :: R2 := by
 have a := mgD_split (lt := lt) (L1 := []) (R1 := R1) (L2 := [x]) (R2 := R2) (by simpa using h1) (by simp)
 have b := mgD_split (lt := lt) (L1 := [x]) (R1 := []) (L2 := []) (R2 := R2) (by simp) (by simpa using h2)
 simp only [List.nil_append, List.append_nil, mgD_nil, mgD_nil', List.cons_append] at a b
 rw [a, b]
theorem mgD_onto {α : Type} {lt : α → α → Bool} {y : α} {L1 L2 : List α} (h1 : ∀ l ∈ L1, lt y l = false) (h2 : ∀ l ∈ L2, lt y l = true) : mgD lt (L1 ++ L2) [y] = L1 ++ y :: L2 := by
 have a := mgD_split (lt := lt) (L1 := L1) (R1 := []) (L2 := L2) (R2 := [y]) (by simp) (by simpa using h1)
 have b := mgD_split (lt := lt) (L1 := []) (R1 := [y]) (L2 := L2) (R2 := []) (by simpa using h2) (by simp)
 simp only [List.nil_append, List.append_nil, mgD_nil, mgD_nil', List.cons_append] at a b
 rw [a, b]
def Ord {α : Type} (lt : α → α → Bool) (l : List α) : Prop := List.Pairwise (fun x y => lt y x = false) l
structure Wk {α : Type} (lt : α → α → Bool) : Prop where
 asym : ∀ x y, lt x y = true → lt y x = false
 tr : ∀ x y z, lt y x = false → lt z y = false → lt z x = false
theorem mgD_mem {α : Type} {lt : α → α → Bool} : ∀ (n : Nat) {L R : List α}, L.length + R.length ≤ n → ∀ x, x ∈ mgD lt L R ↔ x ∈ L ∨ x ∈ R
 | _, [], R, _, x => by simp [mgD_nil]
 | _, l :: L, [], _, x => by simp [mgD_nil']
 | 0, _ :: _, _ :: _, h, _ => by simp at h
 | n + 1, l :: L, r :: R, h, x => by
  have i1 := mgD_mem n (L := l :: L) (R := R) (lt := lt) (by simp at h ⊢; omega) x
  have i2 := mgD_mem n (L := L) (R := r :: R) (lt := lt) (by simp at h ⊢; omega) x
  rw [mgD_cons]
  split
  ·simp only [List.mem_cons] at i1 ⊢
   rw [i1]
   constructor
   ·rintro (h | (h | h) | h) <;> simp [h]
   ·rintro ((h | h) | h | h) <;> simp [h]
  ·simp only [List.mem_cons] at i2 ⊢
   rw [i2]
   constructor
   ·rintro (h | h | h | h) <;> simp [h]
   ·rintro ((h | h) | h | h) <;> simp [h]
theorem mgD_ord {α : Type} {lt : α → α → Bool} (W : Wk lt) : ∀ (n : Nat) {L R : List α}, L.length + R.length ≤ n → Ord lt L → Ord lt R → Ord lt (mgD lt L R)
 | _, [], R, _, _, hR => by rw [mgD_nil]; exact hR
 | _, l :: L, [], _, hL, _ => by rw [mgD_nil']; exact hL
 | 0, _ :: _, _ :: _, h, _, _ => by simp at h
 | n + 1, l :: L, r :: R, h, hL, hR => by
  have i1 := mgD_ord W n (L := l :: L) (R := R) (by simp at h ⊢; omega) hL (List.pairwise_cons.1 hR).2
  have i2 := mgD_ord W n (L := L) (R := r :: R) (by simp at h ⊢; omega) (List.pairwise_cons.1 hL).2 hR
  have a1 := (List.pairwise_cons.1 hL).1
  have a2 := (List.pairwise_cons.1 hR).1
  rw [mgD_cons]
  split
  ·next hlt =>
   refine List.pairwise_cons.2 ⟨fun x hx => ?_, i1⟩
   rcases (mgD_mem _ (Nat.le_refl _) x).1 hx with hx | hx
   ·rcases List.mem_cons.1 hx with rfl | hx
    ·exact W.asym _ _ hlt
    ·exact W.tr r l x (W.asym _ _ hlt) (a1 x hx)
   ·exact a2 x hx
  ·next hlt =>
   have hlt : lt r l = false := by simpa using hlt
   refine List.pairwise_cons.2 ⟨fun x hx => ?_, i2⟩
   rcases (mgD_mem _ (Nat.le_refl _) x).1 hx with hx | hx
   ·exact a1 x hx
   ·rcases List.mem_cons.1 hx with rfl | hx
    ·exact hlt
    ·exact W.tr l r x hlt (a2 x hx)
theorem mgD_keep {α : Type} {lt : α → α → Bool} {p : α → Bool} (W : Wk lt) (hp : ∀ x y, p x = true → p y = true → lt y x = false) : ∀ (n : Nat) {L R : List α}, L.length + R.length ≤ n → Ord lt L → (mgD lt L R).filter p = L.filter p ++ R.filter p
 | _, [], R, _, _ => by simp [mgD_nil]
 | _, l :: L, [], _, _ => by simp [mgD_nil']
 | 0, _ :: _, _ :: _, h, _ => by simp at h
 | n + 1, l :: L, r :: R, h, hL => by
  have i1 := mgD_keep W hp n (L := l :: L) (R := R) (by simp at h ⊢; omega) hL
  have i2 := mgD_keep W hp n (L := L) (R := r :: R) (by simp at h ⊢; omega) (List.pairwise_cons.1 hL).2
  have a1 := (List.pairwise_cons.1 hL).1
  rw [mgD_cons]
  split
  ·next hlt =>
   rw [List.filter_cons, i1]
   cases hr : p r
   ·simp [hr]
   ·have e : (l :: L).filter p = [] := by
     rw [List.filter_eq_nil_iff]
     intro x hx hpx
     have hx2 : lt r x = false := hp x r hpx hr
     rcases List.mem_cons.1 hx with rfl | hx
     ·rw [hlt] at hx2; cases hx2
     ·have := W.tr l x r (a1 x hx) hx2
      rw [hlt] at this; cases this
    rw [e]
    simp [hr]
  ·cases hl : p l
   ·rw [List.filter_cons_of_neg (by simp [hl]), List.filter_cons_of_neg (by simp [hl]), i2]
   ·rw [List.filter_cons_of_pos hl, List.filter_cons_of_pos hl, i2]
    rfl
end Go.Proofs.Ytpnnpdfmoldiiaa

namespace Go.Proofs.Ytpnnpdfmoldiiaa
open Go.Shelf Go.RowKit Go.Lib Go.Sort
theorem insInner_list {α : Type} [Inhabited α] {lt : α → α → Bool} (W : Wk lt) {a : Nat} {A : List α} (ha : a = A.length) : ∀ (j : Nat) {d : Array α} {L C : List α} {y : α}, d.toList = A ++ (L ++ y :: C) → j = A.length + L.length → Ord lt L → (insInner lt a j d).toList = A ++ (mgD lt L [y] ++ C)
 | 0, d, L, C, y, h, hj, _ => by
  have : L.length = 0 := by omega
  obtain rfl := List.length_eq_zero_iff.1 this
  rw [insInner, mgD_nil, h]
  rfl
 | j + 1, d, L, C, y, h, hj, hL => by
  rw [insInner]
  by_cases hz : L = []
  ·subst hz
   have hn : ¬ (j + 1 > a) := by simp at hj; omega
   simp [hn, mgD_nil, h]
  obtain ⟨L0, l, rfl⟩ : ∃ L0 l, L = L0 ++ [l] := ⟨L.dropLast, L.getLast hz, (List.dropLast_concat_getLast hz).symm⟩
  have hj' : j = A.length + L0.length := by simp at hj; omega
  have e1 : d[j + 1]! = y := getM_at (A := A ++ (L0 ++ [l])) (B := C) (by rw [h]; simp) (by simp; omega)
  have e0 : d[j]! = l := getM_at (A := A ++ L0) (B := y :: C) (by rw [h]; simp) (by simp; omega)
  have hgt : (decide (j + 1 > a)) = true := by simp; omega
  rw [e1, e0, hgt, Bool.true_and]
  cases hlt : lt y l
  ·have hall : ∀ x ∈ L0 ++ [l], lt y x = false := by
    intro x hx
    rcases List.mem_append.1 hx with hx | hx
    ·exact W.tr x l y ((List.pairwise_append.1 hL).2.2 x hx l (by simp)) hlt
    ·rw [List.mem_singleton.1 hx]; exact hlt
   have e := mgD_onto (lt := lt) (y := y) (L1 := L0 ++ [l]) (L2 := []) hall (by simp)
   rw [List.append_nil] at e
   rw [e, if_neg (by simp), h]
   simp
  ·rw [if_pos rfl]
   have hs : (swp d (j + 1) j).toList = A ++ (L0 ++ y :: (l :: C)) := by
    have e : swp d (j + 1) j = (d.setIfInBounds (j + 1) l).setIfInBounds j y := by unfold swp; rw [e1, e0]
    have h1 : (d.setIfInBounds (j + 1) l).toList = (A ++ L0) ++ l :: (l :: C) := by
     rw [set_at (A := A ++ (L0 ++ [l])) (B := C) (x := y) (y := l) (by rw [h]; simp) (by simp; omega)]
     simp
    rw [e, set_at (y := y) h1 (by simp; omega)]
    simp
   have e := mgD_split (lt := lt) (L1 := L0) (R1 := [y]) (L2 := [l]) (R2 := []) (by simpa using hlt) (by simp)
   rw [List.append_nil, mgD_nil'] at e
   rw [insInner_list W ha j hs hj' (List.pairwise_append.1 hL).1, e]
   simp
def insD {α : Type} (lt : α → α → Bool) (S B : List α) : List α := B.foldl (fun s y => mgD lt s [y]) S
theorem insD_ord {α : Type} {lt : α → α → Bool} (W : Wk lt) : ∀ {B S : List α}, Ord lt S → Ord lt (insD lt S B)
 | [], _, h => h
 | y :: B, S, h => insD_ord W (B := B) (S := mgD lt S [y]) (mgD_ord W _ (Nat.le_refl _) h (by simp [Ord]))
theorem mgD_len {α : Type} {lt : α → α → Bool} (L R : List α) : (mgD lt L R).length = L.length + R.length := by unfold mgD; rw [List.length_merge]
theorem insD_len {α : Type} {lt : α → α → Bool} : ∀ {B S : List α}, (insD lt S B).length = S.length + B.length
 | [], _ => rfl
 | y :: B, S => by
  show (insD lt (mgD lt S [y]) B).length = _
  rw [insD_len, mgD_len]
  simp
  omega
theorem insD_keep {α : Type} {lt : α → α → Bool} {p : α → Bool} (W : Wk lt) (hp : ∀ x y, p x = true → p y = true → lt y x = false) : ∀ {B S : List α}, Ord lt S → (insD lt S B).filter p = S.filter p ++ B.filter p
 | [], _, _ => by simp [insD]
 | y :: B, S, h => by
  show (insD lt (mgD lt S [y]) B).filter p = _
  rw [insD_keep W hp (mgD_ord W _ (Nat.le_refl _) h (by simp [Ord])), mgD_keep W hp _ (Nat.le_refl _) h, List.append_assoc, ← List.filter_append]
  rfl
theorem insOuter_list {α : Type} [Inhabited α] {lt : α → α → Bool} (W : Wk lt) {a b : Nat} {A : List α} (ha : a = A.length) : ∀ {B S C : List α} {i : Nat} {d : Array α}, d.toList = A ++ (S ++ (B ++ C)) → i = A.length + S.length → b = A.length + S.length + B.length → Ord lt S → (insOuter lt a b i d).toList = A ++ (insD lt S B ++ C)
 | [], S, C, i, d, h, hi, hb, _ => by
  rw [insOuter, if_neg (by simp at hb; omega), h]
  rfl
 | y :: B, S, C, i, d, h, hi, hb, hS => by
  rw [insOuter, if_pos (by simp at hb; omega)]
  have h1 : (insInner lt a i d).toList = A ++ (mgD lt S [y] ++ (B ++ C)) := insInner_list W ha i (by rw [h]; simp) hi hS
  exact insOuter_list W ha (B := B) (S := mgD lt S [y]) (C := C) h1 (by rw [mgD_len]; simp; omega) (by rw [mgD_len]; simp at hb ⊢; omega) (mgD_ord W _ (Nat.le_refl _) hS (by simp [Ord]))
theorem insSort_list {α : Type} [Inhabited α] {lt : α → α → Bool} (W : Wk lt) {a b : Nat} {A B C : List α} {d : Array α} (h : d.toList = A ++ (B ++ C)) (ha : a = A.length) (hb : b = A.length + B.length) : (insertionSort lt d a b).toList = A ++ (insD lt [] B ++ C) := by
 unfold insertionSort
 cases B with
 | nil => rw [insOuter, if_neg (by simp at hb; omega), h]; rfl
 | cons x B =>
  have := insOuter_list W ha (B := B) (S := [x]) (C := C) (i := a + 1) (b := b) (d := d) (by rw [h]; simp) (by simp; omega) (by simp at hb ⊢; omega) (by simp [Ord])
  rw [this]
  show _ = A ++ (insD lt (mgD lt [] [x]) B ++ C)
  rw [mgD_nil]
end Go.Proofs.Ytpnnpdfmoldiiaa

namespace Go.Proofs.Ytpnnpdfmoldiiaa
open Go.Shelf Go.RowKit Go.Lib Go.Sort
theorem last_ord {α : Type} {lt : α → α → Bool} (W : Wk lt) {l : List α} (h : Ord lt l) {z : α} (hz : l.getLast? = some z) : ∀ x ∈ l, lt z x = false := by
 intro x hx
 obtain ⟨l0, rfl⟩ : ∃ l0, l = l0 ++ [z] := by
  have hn : l ≠ [] := by intro e; simp [e] at hz
  refine ⟨l.dropLast, ?_⟩
  rw [List.getLast?_eq_some_getLast hn] at hz
  have e := (List.dropLast_concat_getLast hn).symm
  rw [Option.some.inj hz] at e
  exact e
 rcases List.mem_append.1 hx with hx | hx
 ·exact (List.pairwise_append.1 h).2.2 x hx z (by simp)
 ·rw [List.mem_singleton.1 hx]
  cases hc : lt z z
  ·rfl
  ·exact (W.asym _ _ hc).symm.trans hc |>.symm ▸ rfl
theorem head_ord {α : Type} {lt : α → α → Bool} (W : Wk lt) {l : List α} (h : Ord lt l) {z : α} (hz : l.head? = some z) : ∀ x ∈ l, lt x z = false := by
 intro x hx
 cases l with
 | nil => simp at hx
 | cons y l =>
  simp at hz
  subst hz
  rcases List.mem_cons.1 hx with rfl | hx
  ·cases hc : lt x x
   ·rfl
   ·rw [← hc, W.asym _ _ hc]
  ·exact (List.pairwise_cons.1 h).1 x hx
theorem cut_lt {α : Type} {lt : α → α → Bool} (W : Wk lt) {L2 R1 : List α} (oL : Ord lt L2) (oR : Ord lt R1) (h : ∀ r l, R1.getLast? = some r → L2.head? = some l → lt r l = true) : ∀ r ∈ R1, ∀ l ∈ L2, lt r l = true := by
 intro r hr l hl
 obtain ⟨z, hz⟩ : ∃ z, R1.getLast? = some z := by
  cases hq : R1.getLast? with
  | none => rw [List.getLast?_eq_none_iff.1 hq] at hr; simp at hr
  | some z => exact ⟨z, rfl⟩
 obtain ⟨f, hf⟩ : ∃ f, L2.head? = some f := by
  cases L2 with
  | nil => simp at hl
  | cons f _ => exact ⟨f, rfl⟩
 have h0 := h z f hz hf
 cases hc : lt r l
 ·have h1 := W.tr f l r (head_ord W oL hf l hl) hc
  have h2 := W.tr f r z h1 (last_ord W oR hz r hr)
  rw [h0] at h2
  cases h2
 ·rfl
theorem cut_ge {α : Type} {lt : α → α → Bool} (W : Wk lt) {L1 R2 : List α} (oL : Ord lt L1) (oR : Ord lt R2) (h : ∀ l r, L1.getLast? = some l → R2.head? = some r → lt r l = false) : ∀ l ∈ L1, ∀ r ∈ R2, lt r l = false := by
 intro l hl r hr
 obtain ⟨z, hz⟩ : ∃ z, L1.getLast? = some z := by
  cases hq : L1.getLast? with
  | none => rw [List.getLast?_eq_none_iff.1 hq] at hl; simp at hl
  | some z => exact ⟨z, rfl⟩
 obtain ⟨f, hf⟩ : ∃ f, R2.head? = some f := by
  cases R2 with
  | nil => simp at hr
  | cons f _ => exact ⟨f, rfl⟩
 have h1 := W.tr l z f (last_ord W oL hz l hl) (h z f hz hf)
 exact W.tr l f r h1 (head_ord W oR hf r hr)
end Go.Proofs.Ytpnnpdfmoldiiaa

namespace Go.Proofs.Ytpnnpdfmoldiiaa
open Go.Shelf Go.RowKit Go.Lib Go.Sort
theorem take_last {α : Type} {l : List α} {t : Nat} (ht : t ≤ l.length) {z : α} (h : (l.take t).getLast? = some z) : 0 < t ∧ l[t - 1]? = some z := by
 cases t with
 | zero => simp at h
 | succ t =>
  refine ⟨by omega, ?_⟩
  have hl : t < l.length := by omega
  have e2 : l.take (t + 1) = l.take t ++ [l[t]] := by rw [List.take_add_one, List.getElem?_eq_getElem hl]; rfl
  rw [e2, List.getLast?_concat] at h
  rw [Nat.add_sub_cancel, List.getElem?_eq_getElem hl]
  exact h
theorem drop_head {α : Type} {l : List α} {t : Nat} {z : α} (h : (l.drop t).head? = some z) : l[t]? = some z := by
 rw [List.head?_drop] at h
 exact h
theorem ord_take {α : Type} {lt : α → α → Bool} {l : List α} (h : Ord lt l) (t : Nat) : Ord lt (l.take t) := List.Pairwise.sublist (List.take_sublist t l) h
theorem ord_drop {α : Type} {lt : α → α → Bool} {l : List α} (h : Ord lt l) (t : Nat) : Ord lt (l.drop t) := List.Pairwise.sublist (List.drop_sublist t l) h
theorem ord_one {α : Type} {lt : α → α → Bool} (x : α) : Ord lt [x] := List.pairwise_singleton _ _
theorem symA {α : Type} {lt : α → α → Bool} (W : Wk lt) {x : α} {R : List α} (oR : Ord lt R) {t : Nat} (ht : t ≤ R.length) (hlo : ∀ r, 0 < t → R[t - 1]? = some r → lt r x = true) (hhi : ∀ r, R[t]? = some r → lt r x = false) : mgD lt [x] R = R.take t ++ x :: R.drop t := by
 have h1 := cut_lt W (ord_one x) (ord_take oR t) (fun r l hr hl => by
  simp at hl
  subst hl
  obtain ⟨h0, h1⟩ := take_last ht hr
  exact hlo r h0 h1)
 have h2 := cut_ge W (ord_one x) (ord_drop oR t) (fun l r hl hr => by
  simp at hl
  subst hl
  exact hhi r (drop_head hr))
 have := mgD_into (lt := lt) (x := x) (R1 := R.take t) (R2 := R.drop t) (fun r hr => h1 r hr x (by simp)) (fun r hr => h2 x (by simp) r hr)
 rwa [List.take_append_drop] at this
theorem symB {α : Type} {lt : α → α → Bool} (W : Wk lt) {y : α} {L : List α} (oL : Ord lt L) {t : Nat} (ht : t ≤ L.length) (hlo : ∀ l, 0 < t → L[t - 1]? = some l → lt y l = false) (hhi : ∀ l, L[t]? = some l → lt y l = true) : mgD lt L [y] = L.take t ++ y :: L.drop t := by
 have h1 := cut_lt W (ord_drop oL t) (ord_one y) (fun r l hr hl => by
  simp at hr
  subst hr
  exact hhi l (drop_head hl))
 have h2 := cut_ge W (ord_take oL t) (ord_one y) (fun l r hl hr => by
  simp at hr
  subst hr
  obtain ⟨h0, h1⟩ := take_last ht hl
  exact hlo l h0 h1)
 have := mgD_onto (lt := lt) (y := y) (L1 := L.take t) (L2 := L.drop t) (fun l hl => h2 l hl y (by simp)) (fun l hl => h1 y (by simp) l hl)
 rwa [List.take_append_drop] at this
theorem symC {α : Type} {lt : α → α → Bool} (W : Wk lt) {L R : List α} (oL : Ord lt L) (oR : Ord lt R) {s e : Nat} (hs : s ≤ L.length) (he : e ≤ R.length)
  (hA : ∀ r l, 0 < e → R[e - 1]? = some r → L[s]? = some l → lt r l = true) (hB : ∀ l r, 0 < s → L[s - 1]? = some l → R[e]? = some r → lt r l = false) :
  mgD lt L R = mgD lt (L.take s) (R.take e) ++ mgD lt (L.drop s) (R.drop e) := by
 have h1 := cut_lt W (ord_drop oL s) (ord_take oR e) (fun r l hr hl => by
  obtain ⟨h0, h1⟩ := take_last he hr
  exact hA r l h0 h1 (drop_head hl))
 have h2 := cut_ge W (ord_take oL s) (ord_drop oR e) (fun l r hl hr => by
  obtain ⟨h0, h1⟩ := take_last hs hl
  exact hB l r h0 h1 (drop_head hr))
 have := mgD_split (lt := lt) (L1 := L.take s) (R1 := R.take e) (L2 := L.drop s) (R2 := R.drop e) h1 h2
 rwa [List.take_append_drop, List.take_append_drop] at this
theorem stepA {α : Type} [Inhabited α] {d : Array α} {X R Z : List α} {x : α} {t k : Nat} (h : d.toList = X ++ (R.take t ++ x :: (R.drop t ++ Z))) (ht : t < R.length) (hk : k = X.length + t) : (swp d k (k + 1)).toList = X ++ (R.take (t + 1) ++ x :: (R.drop (t + 1) ++ Z)) := by
 have e1 : R.drop t = R[t] :: R.drop (t + 1) := List.drop_eq_getElem_cons ht
 have e2 : R.take (t + 1) = R.take t ++ [R[t]] := by rw [List.take_add_one, List.getElem?_eq_getElem ht]; rfl
 have hl : (R.take t).length = t := by rw [List.length_take]; omega
 rw [e1] at h
 rw [e2]
 generalize R.take t = A1 at h hl ⊢
 generalize R.drop (t + 1) = B1 at h ⊢
 generalize R[t] = r at h ⊢
 have := swp_list (d := d) (A := X ++ A1) (B := []) (C := B1 ++ Z) (l := x) (r := r) (i := k) (j := k + 1) (by rw [h]; simp) (by rw [List.length_append, hl, hk]) (by rw [List.length_append, hl, hk]; simp)
 rw [this]
 simp
theorem swp_comm' {α : Type} [Inhabited α] (d : Array α) (i j : Nat) (h : i ≠ j) : swp d i j = swp d j i := by
 unfold swp
 exact Array.setIfInBounds_comm _ _ h
theorem stepB {α : Type} [Inhabited α] {d : Array α} {X L Z : List α} {y : α} {u k : Nat} (h : d.toList = X ++ (L.take (u + 1) ++ y :: (L.drop (u + 1) ++ Z))) (hu : u < L.length) (hk : k = X.length + (u + 1)) : (swp d k (k - 1)).toList = X ++ (L.take u ++ y :: (L.drop u ++ Z)) := by
 have e1 : L.drop u = L[u] :: L.drop (u + 1) := List.drop_eq_getElem_cons hu
 have e2 : L.take (u + 1) = L.take u ++ [L[u]] := by rw [List.take_add_one, List.getElem?_eq_getElem hu]; rfl
 have hl : (L.take u).length = u := by rw [List.length_take]; omega
 rw [e2] at h
 rw [e1]
 have hc : swp d k (k - 1) = swp d (k - 1) k := swp_comm' d k (k - 1) (by omega)
 generalize L.take u = A1 at h hl ⊢
 generalize L.drop (u + 1) = B1 at h ⊢
 generalize L[u] = l0 at h ⊢
 have := swp_list (d := d) (A := X ++ A1) (B := []) (C := B1 ++ Z) (l := l0) (r := y) (i := k - 1) (j := k) (by rw [h]; simp) (by rw [List.length_append, hl, hk]; omega) (by rw [List.length_append, hl, hk]; simp; omega)
 rw [hc, this]
 simp
end Go.Proofs.Ytpnnpdfmoldiiaa
