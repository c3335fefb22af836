/- Items of several texts. -/
import Derived.Test.YthjbnpaghiojlaaGreatKSam
namespace Go.Proofs.YthjbnpaghiojlaaGreat
open Go.RowKit
def leqS (f g:Nat→Int) (l k:List A):Bool:=mayS f l && mayS g k && sameS (joinV f g l k) g (joinL f g l k) k
theorem leq_no {f g:Nat→Int} {l k:List A} (h:mayS f l=false∨mayS g k=false):leqS f g l k=false:=by
 unfold leqS
 rcases h with h | h <;> simp [h]
theorem leq_yes {f g:Nat→Int} {l k:List A} (h1:mayS f l=true) (h2:mayS g k=true):leqS f g l k=sameS (joinV f g l k) g (joinL f g l k) k:=by simp [leqS,h1,h2]
set_option maxRecDepth 100000 in
set_option maxHeartbeats 1000000 in
theorem sleq_any (f g:Nat→Int) (a b:Option Addr) (ca cb:Nat) (l k:List V) (w:World) (h1:Row w a ca l) (h2:Row w b cb k) :
  Calls Tryz.prog 69 #[.agg #[.int .i64 (f 0),.int .i64 (f 1),.int .i64 (f 2),.int .i64 (f 3),.int .i64 (f 4),.int .i64 (f 5),.int .i64 (f 6),.int .i64 (f 7),.slice a l.length ca],.agg #[.int .i64 (g 0),.int .i64 (g 1),.int .i64 (g 2),.int .i64 (g 3),.int .i64 (g 4),.int .i64 (g 5),.int .i64 (g 6),.int .i64 (g 7),.slice b k.length cb]] w fun e w'=>e=.returned (.bool (leqS f g (cont l) (cont k)))∧Off (fun _=>False) w w':=by
 go_enter Tryz.func69,Tryz.ntmps69
 go_wp2_with fail
 obtain ⟨W,hW⟩:∃ W,W=((w.alloc (.cells #[.int .i64 (f 0),.int .i64 (f 1),.int .i64 (f 2),.int .i64 (f 3),.int .i64 (f 4),.int .i64 (f 5),.int .i64 (f 6),.int .i64 (f 7),.slice a l.length ca] 47)).alloc (.cells #[.int .i64 (g 0),.int .i64 (g 1),.int .i64 (g 2),.int .i64 (g 3),.int .i64 (g 4),.int .i64 (g 5),.int .i64 (g 6),.int .i64 (g 7),.slice b k.length cb] 47)):=⟨_,rfl⟩
 have O:Off (fun _=>False) w W:=by rw [hW]; exact ((Off.refl _ w).alloc _).alloc _
 have C0:Cel w.heap.size 47 #[.int .i64 (f 0),.int .i64 (f 1),.int .i64 (f 2),.int .i64 (f 3),.int .i64 (f 4),.int .i64 (f 5),.int .i64 (f 6),.int .i64 (f 7),.slice a l.length ca] W:=by rw [hW]; exact (Cel.new w _ _).alloc _
 have C1:Cel (w.heap.size + 1) 47 #[.int .i64 (g 0),.int .i64 (g 1),.int .i64 (g 2),.int .i64 (g 3),.int .i64 (g 4),.int .i64 (g 5),.int .i64 (g 6),.int .i64 (g 7),.slice b k.length cb] W:=by rw [hW]; exact Cel.new1 w _ _ _
 rw [← hW]
 have H0:Hid _:=C0
 have H1:Hid _:=C1
 have HR1:Hid _:=h1.off O
 have HR2:Hid _:=h2.off O
 have HO:Hid _:=O
 clear hW O C0 C1 h1 h2
 refine wp_region_held_drew (S:=fun w'=>Off (fun _=>False) W w') (by kernel_rfl) ((Off.refl _ W).drew) (fun hS=>?_)
 cases m1:mayS f (cont l)
 ·refine take_r 0 5 (.agg #[.int .i64 (f 0),.int .i64 (f 1),.int .i64 (f 2),.int .i64 (f 3),.int .i64 (f 4),.int .i64 (f 5),.int .i64 (f 6),.int .i64 (f 7),.slice a l.length ca]) rfl (Or.inl ⟨by rfl,fun w' hw'=>by obtain ⟨x0,x1,x2,x3,x4,x5,x6,x7,x8⟩:=cel9 (H0.out.off hw' (fun h=>h)); go_simp⟩) hS ?_
  simp only [Act.put,lsA,lsZ,lsS]
  have ra:=HR1.out.off hS
  refine wpAnyH_ready (rs:=[1]) (by kernel_rfl) (by simp) ?_
  refine AllReadyH.cons rfl (fun K' hK'=>?_) AllReadyH.nil
  go_simp
  refine (smay_any f a ca l _ ra).mono ?_
  rw [m1]
  rintro e v1 ⟨rfl,o1⟩
  have hS1:=hS.trans o1 (fun _ _ h=>h)
  refine hK'.out _ _ hS1 (fun hS=>?_)
  clear hK' K' hS1
  clear o1 ra
  refine take_q 2 7 (.bool false) hS ?_
  simp only [Act.put,lsA,lsZ,lsS]
  refine take_r 3 8 (undef) rfl (Or.inr ⟨by rfl,rfl⟩) hS ?_
  simp only [Act.put,lsA,lsZ,lsS]
  refine take_r 4 9 (undef) rfl (Or.inr ⟨by rfl,rfl⟩) hS ?_
  simp only [Act.put,lsA,lsZ,lsS]
  refine take_q 5 10 (.bool false) hS ?_
  simp only [Act.put,lsA,lsZ,lsS]
  refine take_q 6 11 (.bool false) hS ?_
  simp only [Act.put,lsA,lsZ,lsS]
  refine take_r 7 12 (undef) rfl (Or.inr ⟨by rfl,rfl⟩) hS ?_
  simp only [Act.put,lsA,lsZ,lsS]
  refine take_r 8 13 (undef) rfl (Or.inr ⟨by rfl,rfl⟩) hS ?_
  simp only [Act.put,lsA,lsZ,lsS]
  refine take_r 9 14 (undef) rfl (Or.inr ⟨by rfl,rfl⟩) hS ?_
  simp only [Act.put,lsA,lsZ,lsS]
  refine take_r 10 15 (undef) rfl (Or.inr ⟨by rfl,rfl⟩) hS ?_
  simp only [Act.put,lsA,lsZ,lsS]
  refine take_r 11 16 (undef) rfl (Or.inr ⟨by rfl,rfl⟩) hS ?_
  simp only [Act.put,lsA,lsZ,lsS]
  refine take_q 12 17 (.bool false) hS ?_
  simp only [Act.put,lsA,lsZ,lsS]
  refine take_q 13 4 (.bool false) hS ?_
  simp only [Act.put,lsA,lsZ,lsS]
  refine wpAnyH_done (by kernel_rfl) ?_ _
  go_wp2_with fail
  go_ret
  exact ⟨by rw [leq_no (.inl m1)]; rfl,HO.out.trans hS (fun _ _ h=>h)⟩
 ·cases m2:mayS g (cont k)
  ·refine take_r 0 5 (.agg #[.int .i64 (f 0),.int .i64 (f 1),.int .i64 (f 2),.int .i64 (f 3),.int .i64 (f 4),.int .i64 (f 5),.int .i64 (f 6),.int .i64 (f 7),.slice a l.length ca]) rfl (Or.inl ⟨by rfl,fun w' hw'=>by obtain ⟨x0,x1,x2,x3,x4,x5,x6,x7,x8⟩:=cel9 (H0.out.off hw' (fun h=>h)); go_simp⟩) hS ?_
   simp only [Act.put,lsA,lsZ,lsS]
   have ra:=HR1.out.off hS
   refine wpAnyH_ready (rs:=[1]) (by kernel_rfl) (by simp) ?_
   refine AllReadyH.cons rfl (fun K' hK'=>?_) AllReadyH.nil
   go_simp
   refine (smay_any f a ca l _ ra).mono ?_
   rw [m1]
   rintro e v1 ⟨rfl,o1⟩
   have hS1:=hS.trans o1 (fun _ _ h=>h)
   refine hK'.out _ _ hS1 (fun hS=>?_)
   clear hK' K' hS1
   clear o1 ra
   refine take_q 2 7 (.bool true) hS ?_
   simp only [Act.put,lsA,lsZ,lsS]
   refine take_r 3 8 (.agg #[.int .i64 (g 0),.int .i64 (g 1),.int .i64 (g 2),.int .i64 (g 3),.int .i64 (g 4),.int .i64 (g 5),.int .i64 (g 6),.int .i64 (g 7),.slice b k.length cb]) rfl (Or.inl ⟨by rfl,fun w' hw'=>by obtain ⟨x0,x1,x2,x3,x4,x5,x6,x7,x8⟩:=cel9 (H1.out.off hw' (fun h=>h)); go_simp⟩) hS ?_
   simp only [Act.put,lsA,lsZ,lsS]
   have ra:=HR2.out.off hS
   refine wpAnyH_ready (rs:=[4]) (by kernel_rfl) (by simp) ?_
   refine AllReadyH.cons rfl (fun K' hK'=>?_) AllReadyH.nil
   go_simp
   refine (smay_any g b cb k _ ra).mono ?_
   rw [m2]
   rintro e v1 ⟨rfl,o1⟩
   have hS1:=hS.trans o1 (fun _ _ h=>h)
   refine hK'.out _ _ hS1 (fun hS=>?_)
   clear hK' K' hS1
   clear o1 ra
   refine take_q 5 10 (.bool false) hS ?_
   simp only [Act.put,lsA,lsZ,lsS]
   refine take_q 6 11 (.bool false) hS ?_
   simp only [Act.put,lsA,lsZ,lsS]
   refine take_r 7 12 (undef) rfl (Or.inr ⟨by rfl,rfl⟩) hS ?_
   simp only [Act.put,lsA,lsZ,lsS]
   refine take_r 8 13 (undef) rfl (Or.inr ⟨by rfl,rfl⟩) hS ?_
   simp only [Act.put,lsA,lsZ,lsS]
   refine take_r 9 14 (undef) rfl (Or.inr ⟨by rfl,rfl⟩) hS ?_
   simp only [Act.put,lsA,lsZ,lsS]
   refine take_r 10 15 (undef) rfl (Or.inr ⟨by rfl,rfl⟩) hS ?_
   simp only [Act.put,lsA,lsZ,lsS]
   refine take_r 11 16 (undef) rfl (Or.inr ⟨by rfl,rfl⟩) hS ?_
   simp only [Act.put,lsA,lsZ,lsS]
   refine take_q 12 17 (.bool false) hS ?_
   simp only [Act.put,lsA,lsZ,lsS]
   refine take_q 13 4 (.bool false) hS ?_
   simp only [Act.put,lsA,lsZ,lsS]
   refine wpAnyH_done (by kernel_rfl) ?_ _
   go_wp2_with fail
   go_ret
   exact ⟨by rw [leq_no (.inr m2)]; rfl,HO.out.trans hS (fun _ _ h=>h)⟩
  ·refine take_r 0 5 (.agg #[.int .i64 (f 0),.int .i64 (f 1),.int .i64 (f 2),.int .i64 (f 3),.int .i64 (f 4),.int .i64 (f 5),.int .i64 (f 6),.int .i64 (f 7),.slice a l.length ca]) rfl (Or.inl ⟨by rfl,fun w' hw'=>by obtain ⟨x0,x1,x2,x3,x4,x5,x6,x7,x8⟩:=cel9 (H0.out.off hw' (fun h=>h)); go_simp⟩) hS ?_
   simp only [Act.put,lsA,lsZ,lsS]
   have ra:=HR1.out.off hS
   refine wpAnyH_ready (rs:=[1]) (by kernel_rfl) (by simp) ?_
   refine AllReadyH.cons rfl (fun K' hK'=>?_) AllReadyH.nil
   go_simp
   refine (smay_any f a ca l _ ra).mono ?_
   rw [m1]
   rintro e v1 ⟨rfl,o1⟩
   have hS1:=hS.trans o1 (fun _ _ h=>h)
   refine hK'.out _ _ hS1 (fun hS=>?_)
   clear hK' K' hS1
   clear o1 ra
   refine take_q 2 7 (.bool true) hS ?_
   simp only [Act.put,lsA,lsZ,lsS]
   refine take_r 3 8 (.agg #[.int .i64 (g 0),.int .i64 (g 1),.int .i64 (g 2),.int .i64 (g 3),.int .i64 (g 4),.int .i64 (g 5),.int .i64 (g 6),.int .i64 (g 7),.slice b k.length cb]) rfl (Or.inl ⟨by rfl,fun w' hw'=>by obtain ⟨x0,x1,x2,x3,x4,x5,x6,x7,x8⟩:=cel9 (H1.out.off hw' (fun h=>h)); go_simp⟩) hS ?_
   simp only [Act.put,lsA,lsZ,lsS]
   have ra:=HR2.out.off hS
   refine wpAnyH_ready (rs:=[4]) (by kernel_rfl) (by simp) ?_
   refine AllReadyH.cons rfl (fun K' hK'=>?_) AllReadyH.nil
   go_simp
   refine (smay_any g b cb k _ ra).mono ?_
   rw [m2]
   rintro e v1 ⟨rfl,o1⟩
   have hS1:=hS.trans o1 (fun _ _ h=>h)
   refine hK'.out _ _ hS1 (fun hS=>?_)
   clear hK' K' hS1
   clear o1 ra
   refine take_q 5 10 (.bool true) hS ?_
   simp only [Act.put,lsA,lsZ,lsS]
   refine take_q 6 11 (.bool true) hS ?_
   simp only [Act.put,lsA,lsZ,lsS]
   refine take_r 7 12 (.agg #[.int .i64 (f 0),.int .i64 (f 1),.int .i64 (f 2),.int .i64 (f 3),.int .i64 (f 4),.int .i64 (f 5),.int .i64 (f 6),.int .i64 (f 7),.slice a l.length ca]) rfl (Or.inl ⟨by rfl,fun w' hw'=>by obtain ⟨x0,x1,x2,x3,x4,x5,x6,x7,x8⟩:=cel9 (H0.out.off hw' (fun h=>h)); go_simp⟩) hS ?_
   simp only [Act.put,lsA,lsZ,lsS]
   refine take_r 8 13 (.agg #[.int .i64 (g 0),.int .i64 (g 1),.int .i64 (g 2),.int .i64 (g 3),.int .i64 (g 4),.int .i64 (g 5),.int .i64 (g 6),.int .i64 (g 7),.slice b k.length cb]) rfl (Or.inl ⟨by rfl,fun w' hw'=>by obtain ⟨x0,x1,x2,x3,x4,x5,x6,x7,x8⟩:=cel9 (H1.out.off hw' (fun h=>h)); go_simp⟩) hS ?_
   simp only [Act.put,lsA,lsZ,lsS]
   refine take_r 10 15 (.agg #[.int .i64 (g 0),.int .i64 (g 1),.int .i64 (g 2),.int .i64 (g 3),.int .i64 (g 4),.int .i64 (g 5),.int .i64 (g 6),.int .i64 (g 7),.slice b k.length cb]) rfl (Or.inl ⟨by rfl,fun w' hw'=>by obtain ⟨x0,x1,x2,x3,x4,x5,x6,x7,x8⟩:=cel9 (H1.out.off hw' (fun h=>h)); go_simp⟩) hS ?_
   simp only [Act.put,lsA,lsZ,lsS]
   have ra:=HR1.out.off hS
   have rb:=HR2.out.off hS
   refine wpAnyH_ready (rs:=[9]) (by kernel_rfl) (by simp) ?_
   refine AllReadyH.cons rfl (fun K' hK'=>?_) AllReadyH.nil
   go_simp
   refine (sjoin_any f g a b ca cb l k _ ra rb).mono ?_
   rintro e v1 ⟨j,aj,cj,lj,rfl,hj,hlj,mj,o1⟩
   have hS1:=hS.trans o1 (fun _ _ h=>h)
   refine hK'.out _ _ hS1 (fun hS=>?_)
   clear hK' K' hS1
   have rj:=mj.row
   have rb2:=rb.off o1
   have HJ:Hid _:=hj
   have HLJ:Hid _:=hlj
   clear hj hlj mj o1 ra rb
   refine wpAnyH_ready (rs:=[11]) (by kernel_rfl) (by simp) ?_
   refine AllReadyH.cons rfl (fun K' hK'=>?_) AllReadyH.nil
   go_simp
   refine (ssame_any j g aj b cj cb lj k _ rj rb2).mono ?_
   rw [HLJ.out]
   rintro e v1 ⟨rfl,o1⟩
   have hS1:=hS.trans o1 (fun _ _ h=>h)
   refine hK'.out _ _ hS1 (fun hS=>?_)
   clear hK' K' hS1
   clear o1 rj rb2
   refine take_q 12 17 (.bool (sameS j g (joinL f g (cont l) (cont k)) (cont k))) hS ?_
   simp only [Act.put,lsA,lsZ,lsS]
   refine take_q 13 4 (.bool (sameS j g (joinL f g (cont l) (cont k)) (cont k))) hS ?_
   simp only [Act.put,lsA,lsZ,lsS]
   refine wpAnyH_done (by kernel_rfl) ?_ _
   go_wp2_with fail
   go_ret
   exact ⟨by rw [leq_yes m1 m2,HJ.out]; rfl,HO.out.trans hS (fun _ _ h=>h)⟩
end Go.Proofs.YthjbnpaghiojlaaGreat
