/- Items of several texts. -/
import Derived.Test.YthjbnpaghiojlaaGreatKThy0
namespace Go.Proofs.YthjbnpaghiojlaaGreat
open Go.RowKit
set_option maxRecDepth 100000 in
set_option maxHeartbeats 8000000 in
theorem merge_any (fA fB:Nat→Int) (pA pB:Nat) (a b:Option Addr) (ca cb:Nat) (l1 l2:List V) (w:World) (h1:Row w a ca l1) (h2:Row w b cb l2) (hA:Cel pA 43 #[.int .i64 (fA 0),.int .i64 (fA 1),.int .i64 (fA 2),.int .i64 (fA 3),.int .i64 (fA 4),.int .i64 (fA 5),.int .i64 (fA 6),.int .i64 (fA 7)] w) (hB:Cel pB 43 #[.int .i64 (fB 0),.int .i64 (fB 1),.int .i64 (fB 2),.int .i64 (fB 3),.int .i64 (fB 4),.int .i64 (fB 5),.int .i64 (fB 6),.int .i64 (fB 7)] w) (hn:l1.length + l2.length≤100) :
  Calls Tryz.prog 124 #[.slice a l1.length ca,.slice b l2.length cb,.func (.func 182) #[] #[.pointer (some ⟨pA,0,none⟩)],.func (.func 182) #[] #[.pointer (some ⟨pB,0,none⟩)]] w fun e w'=>∃ a' c' l,e=.returned (.slice a' l.length c')∧OwnV w' a' c' l ∧
   (∀ v ∈ l,VOk w' v∧OwnR w' v.ad v.cap v.data∧∀ k,blk v.ad=some k→w.heap.size≤k∧blk a' ≠ some k)∧(∀ k,blk a'=some k→w.heap.size≤k)∧cont l=mergeA (nc fA) (nc fB) (cont l1) (cont l2)∧Off (fun _=>False) w w':=by
 have hmf:∀ (fn:Fn) (first cap:Array Value) (w:World),(Instr.makeFunc fn first cap).run Tryz.prog w=.ok (.func fn first cap) w:=fun _ _ _ _=>rfl
 obtain ⟨TGT,hTGT⟩:∃ T,T=mergeA (nc fA) (nc fB) (cont l1) (cont l2):=⟨_,rfl⟩
 have HTG:Hid _:=hTGT
 rw [← hTGT]
 clear hTGT
 have HPA:Hid _:=hA
 have HPB:Hid _:=hB
 have OU0:Out w.heap.size (w.alloc (.cells #[.slice none 0 0] 45)).heap.size w.heap.size [] (w.alloc (.cells #[.slice none 0 0] 45)):=⟨⟨by omega,by simp⟩,none,0,Cel.new w _ _,OwnV.nil _,fun k hk=>by simp [blk] at hk,fun v hv=>by simp at hv⟩
 have HOU0:Hid _:=OU0
 clear hA hB OU0
 go_enter Tryz.func124,Tryz.ntmps124
 go_wp2_with fail
 go_loopw [0,1] (fun x y wr=>∃ (ax:Option Addr) (cx:Nat) (l1x:List V) (ay:Option Addr) (cy:Nat) (l2x l:List V),x=.slice ax l1x.length cx∧y=.slice ay l2x.length cy∧Row w ax cx l1x∧Row w ay cy l2x∧Out w.heap.size wr.heap.size w.heap.size l wr∧l.length + l1x.length + l2x.length≤900∧Off (fun _=>False) w wr∧cont l ++ mergeA (nc fA) (nc fB) (cont l1x) (cont l2x)=TGT) (fun x y _=>slLen x + slLen y)
 case atStart=>exact ⟨a,ca,l1,b,cb,l2,[],rfl,rfl,h1,h2,HOU0.out,by simp; omega,(Off.refl _ w).alloc _,by rw [HTG.out]; rfl⟩
 case round =>
  clear h1 h2 HOU0 HTG hn
  obtain ⟨ax,cx,l1x,ay,cy,l2x,l,rfl,rfl,hr1,hr2,OUT,hb,OV,ht⟩:=hrel
  have HT:Hid _:=ht
  clear ht
  rcases nil_or (l:=l1x) with hl1 | ⟨x,xs,hl1⟩
  ·obtain ⟨t1,t2,t3⟩:=test_zero hl1
   have HNIL:Hid (cont l1x=[]∨cont l2x=[]):=.inl (by rw [hl1]; rfl)
   clear hl1
   go_wp2_with fail
   go_loopw [71] (fun y wr=>∃ (n:Nat) (l:List V),y=.int .i64 (n:Int)∧n≤l1x.length∧Out w.heap.size wr.heap.size w.heap.size l wr∧l.length + (l1x.length - n)≤900 - l2x.length∧Off (fun _=>False) w wr∧cont l ++ ((cont (l1x.drop n)).filter (nc fA) ++ (cont l2x).filter (nc fB))=TGT) (fun y _=>(l1x.length - intOf y).toNat)
   case atStart=>exact ⟨0,l,rfl,by omega,OUT,by omega,OV,by rw [List.drop_zero,← mergeA_nil _ _ _ _ HNIL.out]; exact HT.out⟩
   case round =>
    obtain ⟨n,l,rfl,hn,OUT,hb,OV,ht⟩:=hrel
    have HT:Hid _:=ht
    clear ht
    by_cases hlt:n < l1x.length
    ·have e1:decide ((n:Int) < (l1x.length:Int))=true:=decide_eq_true (by omega)
     have e2:decide (n < l1x.length)=true:=decide_eq_true hlt
     obtain ⟨v,hv⟩:∃ v,l1x[n]?=some v:=⟨_,List.getElem?_eq_getElem hlt⟩
     obtain ⟨b0,o0,rfl,k,hvo⟩:=hr1.at_ n v hv
     obtain ⟨k0,k1,k2,k3⟩:=k.off OV (fun _ h=>h)
     have HVV:Hid _:=hvo
     have HKV:Hid _:=hv
     clear k hvo hv
     have C0:=Cel.new wr 87 #[.int .i64 v.node,.int .i64 v.num,.slice v.ad v.data.length v.cap,.bool v.dead]
     replace OUT:=OUT.off ((Off.refl _ wr).alloc (.cells #[.int .i64 v.node,.int .i64 v.num,.slice v.ad v.data.length v.cap,.bool v.dead] 87))
     replace OV:=OV.alloc (.cells #[.int .i64 v.node,.int .i64 v.num,.slice v.ad v.data.length v.cap,.bool v.dead] 87)
     generalize hM0:wr.heap.size=M at C0 OUT
     have HXM:Hid (M≤M):=Nat.le_refl _
     go_wp2_with fail
     generalize hV0:wr.alloc (.cells #[.int .i64 v.node,.int .i64 v.num,.slice v.ad v.data.length v.cap,.bool v.dead] 87)=v1 at C0 OUT OV ⊢
     have HM:Hid (M≤v1.drew.heap.size):=by show M≤v1.heap.size; rw [← hV0,← hM0]; simp
     clear hV0 hM0 k0 k1 k2 k3
     have OVd:Off (fun _=>False) w v1.drew:=OV.drew
     have OUd:=OUT.drew
     refine wp_region_held_drew (S:=fun w'=>Cel M 87 #[.int .i64 v.node,.int .i64 v.num,.slice v.ad v.data.length v.cap,.bool v.dead] w') (by kernel_rfl) (C0.drew) (fun hS=>?_)
     clear C0
     refine take_q 0 75 (.func (.func 179) #[] #[.pointer (some ⟨w.heap.size,0,none⟩)]) hS ?_
     simp only [Act.put,lsA,lsZ,lsS]
     refine take_r 1 76 (.agg #[.int .i64 v.node,.int .i64 v.num,.slice v.ad v.data.length v.cap,.bool v.dead]) rfl (Or.inl ⟨by rfl,fun w' hw'=>by obtain ⟨x0,x1,x2,x3⟩:=cel4 hw'; go_simp⟩) hS ?_
     simp only [Act.put,lsA,lsZ,lsS]
     refine take_q 2 77 (.func (.func 182) #[] #[.pointer (some ⟨pA,0,none⟩)]) hS ?_
     simp only [Act.put,lsA,lsZ,lsS]
     refine take_r 3 78 (.agg #[.int .i64 v.node,.int .i64 v.num,.slice v.ad v.data.length v.cap,.bool v.dead]) rfl (Or.inl ⟨by rfl,fun w' hw'=>by obtain ⟨x0,x1,x2,x3⟩:=cel4 hw'; go_simp⟩) hS ?_
     simp only [Act.put,lsA,lsZ,lsS]
     refine wpAnyH_ready (rs:=[4]) (by kernel_rfl) (by simp) ?_
     refine AllReadyH.cons rfl (fun K' hK'=>?_) AllReadyH.nil
     go_simp
     refine (newTo1_any fA v pA _ (HPA.out.off OVd (fun h=>h))).mono ?_
     rintro e v2 ⟨rfl,o2⟩
     refine hK'.out _ _ (hS.off o2 (fun h=>h)) (fun hS=>?_)
     clear hK' K'
     have oC:=OVd.trans o2 (fun _ _ h=>h)
     have s2:M≤v2.heap.size:=Nat.le_trans HM.out o2.size
     have hv2:=HVV.out.off oC (fun _ _ _ h=>h)
     have OU2:=OUd.off o2
     clear OUd OVd o2
     refine wpAnyH_ready (rs:=[5]) (by kernel_rfl) (by simp) ?_
     refine AllReadyH.cons rfl (fun K' hK'=>?_) AllReadyH.nil
     go_simp
     refine (take_any w.heap.size M w.heap.size l v _ v2 OU2 hv2 (by omega) oC.size s2).mono ?_
     rintro e v3 ⟨rfl,l',hl',OUT',o3⟩
     refine hK'.out _ _ (hS.off o3 (fun h=>by have:=h.2; have:=HXM.out; omega)) (fun hS=>?_)
     clear hK' K'
     have oD:Off (fun _=>False) w v3:=oC.trans o3 (fun i hi h=>by omega)
     have hln:=abs_len hl'
     have HO3:Hid _:=oD
     have HOUT:Hid _:=OUT'
     have HL3:Hid _:=hl'
     clear oC o3 s2 hv2 oD OUT' hl' hS OU2 OV OUT
     refine wpAnyH_done (by kernel_rfl) ?_ _
     go_wp2_with fail
     go_roundw
     case rel=>exact ⟨n + 1,l',by go_num,by omega,HOUT.out,by omega,HO3.out,by rw [HL3.out,← HT.out,filter_step HKV.out]; simp [nc,V.abs]⟩
     case measure=>simp [intOf]; omega
    ·obtain rfl:n=l1x.length:=by omega
     have e1:decide ((l1x.length:Int) < (l1x.length:Int))=false:=decide_eq_false (by omega)
     have e2:decide (l1x.length < l1x.length)=false:=decide_eq_false (by omega)
     go_wp2_with fail
     go_loopw [84] (fun y wr=>∃ (n:Nat) (l:List V),y=.int .i64 (n:Int)∧n≤l2x.length∧Out w.heap.size wr.heap.size w.heap.size l wr∧l.length + (l2x.length - n)≤900∧Off (fun _=>False) w wr∧cont l ++ (cont (l2x.drop n)).filter (nc fB)=TGT) (fun y _=>(l2x.length - intOf y).toNat)
     case atStart=>exact ⟨0,l,rfl,by omega,OUT,by omega,OV,by have:=HT.out; simpa [cont] using this⟩
     case round =>
      obtain ⟨n,l,rfl,hn,OUT,hb,OV,ht⟩:=hrel
      have HT:Hid _:=ht
      clear ht
      by_cases hlt:n < l2x.length
      ·have e1:decide ((n:Int) < (l2x.length:Int))=true:=decide_eq_true (by omega)
       have e2:decide (n < l2x.length)=true:=decide_eq_true hlt
       obtain ⟨v,hv⟩:∃ v,l2x[n]?=some v:=⟨_,List.getElem?_eq_getElem hlt⟩
       obtain ⟨b0,o0,rfl,k,hvo⟩:=hr2.at_ n v hv
       obtain ⟨k0,k1,k2,k3⟩:=k.off OV (fun _ h=>h)
       have HVV:Hid _:=hvo
       have HKV:Hid _:=hv
       clear k hvo hv
       have C0:=Cel.new wr 87 #[.int .i64 v.node,.int .i64 v.num,.slice v.ad v.data.length v.cap,.bool v.dead]
       replace OUT:=OUT.off ((Off.refl _ wr).alloc (.cells #[.int .i64 v.node,.int .i64 v.num,.slice v.ad v.data.length v.cap,.bool v.dead] 87))
       replace OV:=OV.alloc (.cells #[.int .i64 v.node,.int .i64 v.num,.slice v.ad v.data.length v.cap,.bool v.dead] 87)
       generalize hM0:wr.heap.size=M at C0 OUT
       have HXM:Hid (M≤M):=Nat.le_refl _
       go_wp2_with fail
       generalize hV0:wr.alloc (.cells #[.int .i64 v.node,.int .i64 v.num,.slice v.ad v.data.length v.cap,.bool v.dead] 87)=v1 at C0 OUT OV ⊢
       have HM:Hid (M≤v1.drew.heap.size):=by show M≤v1.heap.size; rw [← hV0,← hM0]; simp
       clear hV0 hM0 k0 k1 k2 k3
       have OVd:Off (fun _=>False) w v1.drew:=OV.drew
       have OUd:=OUT.drew
       refine wp_region_held_drew (S:=fun w'=>Cel M 87 #[.int .i64 v.node,.int .i64 v.num,.slice v.ad v.data.length v.cap,.bool v.dead] w') (by kernel_rfl) (C0.drew) (fun hS=>?_)
       clear C0
       refine take_q 0 88 (.func (.func 179) #[] #[.pointer (some ⟨w.heap.size,0,none⟩)]) hS ?_
       simp only [Act.put,lsA,lsZ,lsS]
       refine take_r 1 89 (.agg #[.int .i64 v.node,.int .i64 v.num,.slice v.ad v.data.length v.cap,.bool v.dead]) rfl (Or.inl ⟨by rfl,fun w' hw'=>by obtain ⟨x0,x1,x2,x3⟩:=cel4 hw'; go_simp⟩) hS ?_
       simp only [Act.put,lsA,lsZ,lsS]
       refine take_q 2 90 (.func (.func 182) #[] #[.pointer (some ⟨pB,0,none⟩)]) hS ?_
       simp only [Act.put,lsA,lsZ,lsS]
       refine take_r 3 91 (.agg #[.int .i64 v.node,.int .i64 v.num,.slice v.ad v.data.length v.cap,.bool v.dead]) rfl (Or.inl ⟨by rfl,fun w' hw'=>by obtain ⟨x0,x1,x2,x3⟩:=cel4 hw'; go_simp⟩) hS ?_
       simp only [Act.put,lsA,lsZ,lsS]
       refine wpAnyH_ready (rs:=[4]) (by kernel_rfl) (by simp) ?_
       refine AllReadyH.cons rfl (fun K' hK'=>?_) AllReadyH.nil
       go_simp
       refine (newTo1_any fB v pB _ (HPB.out.off OVd (fun h=>h))).mono ?_
       rintro e v2 ⟨rfl,o2⟩
       refine hK'.out _ _ (hS.off o2 (fun h=>h)) (fun hS=>?_)
       clear hK' K'
       have oC:=OVd.trans o2 (fun _ _ h=>h)
       have s2:M≤v2.heap.size:=Nat.le_trans HM.out o2.size
       have hv2:=HVV.out.off oC (fun _ _ _ h=>h)
       have OU2:=OUd.off o2
       clear OUd OVd o2
       refine wpAnyH_ready (rs:=[5]) (by kernel_rfl) (by simp) ?_
       refine AllReadyH.cons rfl (fun K' hK'=>?_) AllReadyH.nil
       go_simp
       refine (take_any w.heap.size M w.heap.size l v _ v2 OU2 hv2 (by omega) oC.size s2).mono ?_
       rintro e v3 ⟨rfl,l',hl',OUT',o3⟩
       refine hK'.out _ _ (hS.off o3 (fun h=>by have:=h.2; have:=HXM.out; omega)) (fun hS=>?_)
       clear hK' K'
       have oD:Off (fun _=>False) w v3:=oC.trans o3 (fun i hi h=>by omega)
       have hln:=abs_len hl'
       have HO3:Hid _:=oD
       have HOUT:Hid _:=OUT'
       have HL3:Hid _:=hl'
       clear oC o3 s2 hv2 oD OUT' hl' hS OU2 OV OUT
       refine wpAnyH_done (by kernel_rfl) ?_ _
       go_wp2_with fail
       go_roundw
       case rel=>exact ⟨n + 1,l',by go_num,by omega,HOUT.out,by omega,HO3.out,by rw [HL3.out,← HT.out,filter_step HKV.out]; simp [nc,V.abs]⟩
       case measure=>simp [intOf]; omega
      ·obtain rfl:n=l2x.length:=by omega
       have e1:decide ((l2x.length:Int) < (l2x.length:Int))=false:=decide_eq_false (by omega)
       have e2:decide (l2x.length < l2x.length)=false:=decide_eq_false (by omega)
       have HOUT:Hid _:=OUT
       obtain ⟨hlo,a9,c9,hc9,own9,hr9,hv9⟩:=OUT
       have x9:=hc9.cell 0
       simp at x9
       clear hc9 HOUT
       have HO9:Hid _:=own9
       have HV9:Hid _:=hv9
       have HR9:Hid _:=hr9
       have HOV:Hid _:=OV
       clear own9 hv9 hr9 OV hlo
       go_wp2_with fail
       go_ret
       refine ⟨a9,c9,l,rfl,HO9.out,fun v hv=>⟨(HV9.out v hv).1,(HV9.out v hv).2.1,fun k hk=>⟨((HV9.out v hv).2.2 k hk).1,((HV9.out v hv).2.2 k hk).2.2⟩⟩,fun k hk=>(HR9.out k hk).1,?_,HOV.out⟩
       have:=HT.out
       simpa [cont] using this
  ·rcases nil_or (l:=l2x) with hl2 | ⟨y,ys,hl2⟩
   ·obtain ⟨t0,t1,t2,t3⟩:=test_pos hl1
    obtain ⟨t4,t5,t6⟩:=test_zero hl2
    have HNIL:Hid (cont l1x=[]∨cont l2x=[]):=.inr (by rw [hl2]; rfl)
    clear hl1 hl2
    go_wp2_with fail
    go_loopw [71] (fun y wr=>∃ (n:Nat) (l:List V),y=.int .i64 (n:Int)∧n≤l1x.length∧Out w.heap.size wr.heap.size w.heap.size l wr∧l.length + (l1x.length - n)≤900 - l2x.length∧Off (fun _=>False) w wr∧cont l ++ ((cont (l1x.drop n)).filter (nc fA) ++ (cont l2x).filter (nc fB))=TGT) (fun y _=>(l1x.length - intOf y).toNat)
    case atStart=>exact ⟨0,l,rfl,by omega,OUT,by omega,OV,by rw [List.drop_zero,← mergeA_nil _ _ _ _ HNIL.out]; exact HT.out⟩
    case round =>
     obtain ⟨n,l,rfl,hn,OUT,hb,OV,ht⟩:=hrel
     have HT:Hid _:=ht
     clear ht
     by_cases hlt:n < l1x.length
     ·have e1:decide ((n:Int) < (l1x.length:Int))=true:=decide_eq_true (by omega)
      have e2:decide (n < l1x.length)=true:=decide_eq_true hlt
      obtain ⟨v,hv⟩:∃ v,l1x[n]?=some v:=⟨_,List.getElem?_eq_getElem hlt⟩
      obtain ⟨b0,o0,rfl,k,hvo⟩:=hr1.at_ n v hv
      obtain ⟨k0,k1,k2,k3⟩:=k.off OV (fun _ h=>h)
      have HVV:Hid _:=hvo
      have HKV:Hid _:=hv
      clear k hvo hv
      have C0:=Cel.new wr 87 #[.int .i64 v.node,.int .i64 v.num,.slice v.ad v.data.length v.cap,.bool v.dead]
      replace OUT:=OUT.off ((Off.refl _ wr).alloc (.cells #[.int .i64 v.node,.int .i64 v.num,.slice v.ad v.data.length v.cap,.bool v.dead] 87))
      replace OV:=OV.alloc (.cells #[.int .i64 v.node,.int .i64 v.num,.slice v.ad v.data.length v.cap,.bool v.dead] 87)
      generalize hM0:wr.heap.size=M at C0 OUT
      have HXM:Hid (M≤M):=Nat.le_refl _
      go_wp2_with fail
      generalize hV0:wr.alloc (.cells #[.int .i64 v.node,.int .i64 v.num,.slice v.ad v.data.length v.cap,.bool v.dead] 87)=v1 at C0 OUT OV ⊢
      have HM:Hid (M≤v1.drew.heap.size):=by show M≤v1.heap.size; rw [← hV0,← hM0]; simp
      clear hV0 hM0 k0 k1 k2 k3
      have OVd:Off (fun _=>False) w v1.drew:=OV.drew
      have OUd:=OUT.drew
      refine wp_region_held_drew (S:=fun w'=>Cel M 87 #[.int .i64 v.node,.int .i64 v.num,.slice v.ad v.data.length v.cap,.bool v.dead] w') (by kernel_rfl) (C0.drew) (fun hS=>?_)
      clear C0
      refine take_q 0 75 (.func (.func 179) #[] #[.pointer (some ⟨w.heap.size,0,none⟩)]) hS ?_
      simp only [Act.put,lsA,lsZ,lsS]
      refine take_r 1 76 (.agg #[.int .i64 v.node,.int .i64 v.num,.slice v.ad v.data.length v.cap,.bool v.dead]) rfl (Or.inl ⟨by rfl,fun w' hw'=>by obtain ⟨x0,x1,x2,x3⟩:=cel4 hw'; go_simp⟩) hS ?_
      simp only [Act.put,lsA,lsZ,lsS]
      refine take_q 2 77 (.func (.func 182) #[] #[.pointer (some ⟨pA,0,none⟩)]) hS ?_
      simp only [Act.put,lsA,lsZ,lsS]
      refine take_r 3 78 (.agg #[.int .i64 v.node,.int .i64 v.num,.slice v.ad v.data.length v.cap,.bool v.dead]) rfl (Or.inl ⟨by rfl,fun w' hw'=>by obtain ⟨x0,x1,x2,x3⟩:=cel4 hw'; go_simp⟩) hS ?_
      simp only [Act.put,lsA,lsZ,lsS]
      refine wpAnyH_ready (rs:=[4]) (by kernel_rfl) (by simp) ?_
      refine AllReadyH.cons rfl (fun K' hK'=>?_) AllReadyH.nil
      go_simp
      refine (newTo1_any fA v pA _ (HPA.out.off OVd (fun h=>h))).mono ?_
      rintro e v2 ⟨rfl,o2⟩
      refine hK'.out _ _ (hS.off o2 (fun h=>h)) (fun hS=>?_)
      clear hK' K'
      have oC:=OVd.trans o2 (fun _ _ h=>h)
      have s2:M≤v2.heap.size:=Nat.le_trans HM.out o2.size
      have hv2:=HVV.out.off oC (fun _ _ _ h=>h)
      have OU2:=OUd.off o2
      clear OUd OVd o2
      refine wpAnyH_ready (rs:=[5]) (by kernel_rfl) (by simp) ?_
      refine AllReadyH.cons rfl (fun K' hK'=>?_) AllReadyH.nil
      go_simp
      refine (take_any w.heap.size M w.heap.size l v _ v2 OU2 hv2 (by omega) oC.size s2).mono ?_
      rintro e v3 ⟨rfl,l',hl',OUT',o3⟩
      refine hK'.out _ _ (hS.off o3 (fun h=>by have:=h.2; have:=HXM.out; omega)) (fun hS=>?_)
      clear hK' K'
      have oD:Off (fun _=>False) w v3:=oC.trans o3 (fun i hi h=>by omega)
      have hln:=abs_len hl'
      have HO3:Hid _:=oD
      have HOUT:Hid _:=OUT'
      have HL3:Hid _:=hl'
      clear oC o3 s2 hv2 oD OUT' hl' hS OU2 OV OUT
      refine wpAnyH_done (by kernel_rfl) ?_ _
      go_wp2_with fail
      go_roundw
      case rel=>exact ⟨n + 1,l',by go_num,by omega,HOUT.out,by omega,HO3.out,by rw [HL3.out,← HT.out,filter_step HKV.out]; simp [nc,V.abs]⟩
      case measure=>simp [intOf]; omega
     ·obtain rfl:n=l1x.length:=by omega
      have e1:decide ((l1x.length:Int) < (l1x.length:Int))=false:=decide_eq_false (by omega)
      have e2:decide (l1x.length < l1x.length)=false:=decide_eq_false (by omega)
      go_wp2_with fail
      go_loopw [84] (fun y wr=>∃ (n:Nat) (l:List V),y=.int .i64 (n:Int)∧n≤l2x.length∧Out w.heap.size wr.heap.size w.heap.size l wr∧l.length + (l2x.length - n)≤900∧Off (fun _=>False) w wr∧cont l ++ (cont (l2x.drop n)).filter (nc fB)=TGT) (fun y _=>(l2x.length - intOf y).toNat)
      case atStart=>exact ⟨0,l,rfl,by omega,OUT,by omega,OV,by have:=HT.out; simpa [cont] using this⟩
      case round =>
       obtain ⟨n,l,rfl,hn,OUT,hb,OV,ht⟩:=hrel
       have HT:Hid _:=ht
       clear ht
       by_cases hlt:n < l2x.length
       ·have e1:decide ((n:Int) < (l2x.length:Int))=true:=decide_eq_true (by omega)
        have e2:decide (n < l2x.length)=true:=decide_eq_true hlt
        obtain ⟨v,hv⟩:∃ v,l2x[n]?=some v:=⟨_,List.getElem?_eq_getElem hlt⟩
        obtain ⟨b0,o0,rfl,k,hvo⟩:=hr2.at_ n v hv
        obtain ⟨k0,k1,k2,k3⟩:=k.off OV (fun _ h=>h)
        have HVV:Hid _:=hvo
        have HKV:Hid _:=hv
        clear k hvo hv
        have C0:=Cel.new wr 87 #[.int .i64 v.node,.int .i64 v.num,.slice v.ad v.data.length v.cap,.bool v.dead]
        replace OUT:=OUT.off ((Off.refl _ wr).alloc (.cells #[.int .i64 v.node,.int .i64 v.num,.slice v.ad v.data.length v.cap,.bool v.dead] 87))
        replace OV:=OV.alloc (.cells #[.int .i64 v.node,.int .i64 v.num,.slice v.ad v.data.length v.cap,.bool v.dead] 87)
        generalize hM0:wr.heap.size=M at C0 OUT
        have HXM:Hid (M≤M):=Nat.le_refl _
        go_wp2_with fail
        generalize hV0:wr.alloc (.cells #[.int .i64 v.node,.int .i64 v.num,.slice v.ad v.data.length v.cap,.bool v.dead] 87)=v1 at C0 OUT OV ⊢
        have HM:Hid (M≤v1.drew.heap.size):=by show M≤v1.heap.size; rw [← hV0,← hM0]; simp
        clear hV0 hM0 k0 k1 k2 k3
        have OVd:Off (fun _=>False) w v1.drew:=OV.drew
        have OUd:=OUT.drew
        refine wp_region_held_drew (S:=fun w'=>Cel M 87 #[.int .i64 v.node,.int .i64 v.num,.slice v.ad v.data.length v.cap,.bool v.dead] w') (by kernel_rfl) (C0.drew) (fun hS=>?_)
        clear C0
        refine take_q 0 88 (.func (.func 179) #[] #[.pointer (some ⟨w.heap.size,0,none⟩)]) hS ?_
        simp only [Act.put,lsA,lsZ,lsS]
        refine take_r 1 89 (.agg #[.int .i64 v.node,.int .i64 v.num,.slice v.ad v.data.length v.cap,.bool v.dead]) rfl (Or.inl ⟨by rfl,fun w' hw'=>by obtain ⟨x0,x1,x2,x3⟩:=cel4 hw'; go_simp⟩) hS ?_
        simp only [Act.put,lsA,lsZ,lsS]
        refine take_q 2 90 (.func (.func 182) #[] #[.pointer (some ⟨pB,0,none⟩)]) hS ?_
        simp only [Act.put,lsA,lsZ,lsS]
        refine take_r 3 91 (.agg #[.int .i64 v.node,.int .i64 v.num,.slice v.ad v.data.length v.cap,.bool v.dead]) rfl (Or.inl ⟨by rfl,fun w' hw'=>by obtain ⟨x0,x1,x2,x3⟩:=cel4 hw'; go_simp⟩) hS ?_
        simp only [Act.put,lsA,lsZ,lsS]
        refine wpAnyH_ready (rs:=[4]) (by kernel_rfl) (by simp) ?_
        refine AllReadyH.cons rfl (fun K' hK'=>?_) AllReadyH.nil
        go_simp
        refine (newTo1_any fB v pB _ (HPB.out.off OVd (fun h=>h))).mono ?_
        rintro e v2 ⟨rfl,o2⟩
        refine hK'.out _ _ (hS.off o2 (fun h=>h)) (fun hS=>?_)
        clear hK' K'
        have oC:=OVd.trans o2 (fun _ _ h=>h)
        have s2:M≤v2.heap.size:=Nat.le_trans HM.out o2.size
        have hv2:=HVV.out.off oC (fun _ _ _ h=>h)
        have OU2:=OUd.off o2
        clear OUd OVd o2
        refine wpAnyH_ready (rs:=[5]) (by kernel_rfl) (by simp) ?_
        refine AllReadyH.cons rfl (fun K' hK'=>?_) AllReadyH.nil
        go_simp
        refine (take_any w.heap.size M w.heap.size l v _ v2 OU2 hv2 (by omega) oC.size s2).mono ?_
        rintro e v3 ⟨rfl,l',hl',OUT',o3⟩
        refine hK'.out _ _ (hS.off o3 (fun h=>by have:=h.2; have:=HXM.out; omega)) (fun hS=>?_)
        clear hK' K'
        have oD:Off (fun _=>False) w v3:=oC.trans o3 (fun i hi h=>by omega)
        have hln:=abs_len hl'
        have HO3:Hid _:=oD
        have HOUT:Hid _:=OUT'
        have HL3:Hid _:=hl'
        clear oC o3 s2 hv2 oD OUT' hl' hS OU2 OV OUT
        refine wpAnyH_done (by kernel_rfl) ?_ _
        go_wp2_with fail
        go_roundw
        case rel=>exact ⟨n + 1,l',by go_num,by omega,HOUT.out,by omega,HO3.out,by rw [HL3.out,← HT.out,filter_step HKV.out]; simp [nc,V.abs]⟩
        case measure=>simp [intOf]; omega
       ·obtain rfl:n=l2x.length:=by omega
        have e1:decide ((l2x.length:Int) < (l2x.length:Int))=false:=decide_eq_false (by omega)
        have e2:decide (l2x.length < l2x.length)=false:=decide_eq_false (by omega)
        have HOUT:Hid _:=OUT
        obtain ⟨hlo,a9,c9,hc9,own9,hr9,hv9⟩:=OUT
        have x9:=hc9.cell 0
        simp at x9
        clear hc9 HOUT
        have HO9:Hid _:=own9
        have HV9:Hid _:=hv9
        have HR9:Hid _:=hr9
        have HOV:Hid _:=OV
        clear own9 hv9 hr9 OV hlo
        go_wp2_with fail
        go_ret
        refine ⟨a9,c9,l,rfl,HO9.out,fun v hv=>⟨(HV9.out v hv).1,(HV9.out v hv).2.1,fun k hk=>⟨((HV9.out v hv).2.2 k hk).1,((HV9.out v hv).2.2 k hk).2.2⟩⟩,fun k hk=>(HR9.out k hk).1,?_,HOV.out⟩
        have:=HT.out
        simpa [cont] using this
   ·obtain ⟨t0,t1,t2,t3⟩:=test_pos hl1
    obtain ⟨t4,t5,t6,t7⟩:=test_pos hl2
    obtain ⟨bx,ox1,rfl,kx,vx⟩:=hr1.head hl1
    obtain ⟨by1,oy1,rfl,ky,vy⟩:=hr2.head hl2
    have HN1:Hid _:=len_cons hl1
    have HN2:Hid _:=len_cons hl2
    have HE1:Hid _:=hl1
    have HE2:Hid _:=hl2
    have HVX:Hid _:=vx
    have HVY:Hid _:=vy
    have HKX:Hid _:=kx.off OV (fun _ h=>h)
    have HKY:Hid _:=ky.off OV (fun _ h=>h)
    have HOW:Hid _:=OV
    obtain ⟨M,hM⟩:∃ M,M=wr.heap.size:=⟨_,rfl⟩
    rw [← hM] at OUT
    have HMM:Hid _:=hM
    have HOU:Hid _:=OUT
    clear hl1 hl2 vx vy kx ky OV hM OUT
    go_wp2_with fail
    refine wp_region_held_drew (S:=fun w'=>Off (fun _=>False) wr w') (by kernel_rfl) ((Off.refl _ wr).drew) (fun hS=>?_)
    refine take_q 0 26 (.slice (some ⟨bx,ox1,none⟩) l1x.length cx) hS ?_
    simp only [Act.put,lsA,lsZ,lsS]
    refine take_q 1 27 (.pointer (some ⟨bx,ox1,none⟩)) hS ?_
    simp only [Act.put,lsA,lsZ,lsS]
    refine take_r 2 28 (.agg #[.int .i64 x.node,.int .i64 x.num,.slice x.ad x.data.length x.cap,.bool x.dead]) rfl (Or.inl ⟨by rfl,fun w' hw'=>by obtain ⟨x0,x1,x2,x3⟩:=HKX.out.off hw' (fun _ h=>h); go_simp⟩) hS ?_
    simp only [Act.put,lsA,lsZ,lsS]
    refine take_q 3 29 (.slice (some ⟨by1,oy1,none⟩) l2x.length cy) hS ?_
    simp only [Act.put,lsA,lsZ,lsS]
    refine take_q 4 30 (.pointer (some ⟨by1,oy1,none⟩)) hS ?_
    simp only [Act.put,lsA,lsZ,lsS]
    refine take_r 5 31 (.agg #[.int .i64 y.node,.int .i64 y.num,.slice y.ad y.data.length y.cap,.bool y.dead]) rfl (Or.inl ⟨by rfl,fun w' hw'=>by obtain ⟨x0,x1,x2,x3⟩:=HKY.out.off hw' (fun _ h=>h); go_simp⟩) hS ?_
    simp only [Act.put,lsA,lsZ,lsS]
    refine wpAnyH_ready (rs:=[6,7]) (by kernel_rfl) (by simp) ?_
    refine AllReadyH.cons rfl (fun K' hK'=>?_) (AllReadyH.cons rfl (fun K' hK'=>?_) AllReadyH.nil)
    ·go_simp
     refine hK'.out _ _ (hS.alloc _) (fun hS=>?_)
     clear hK' K'
     refine wpAnyH_ready (rs:=[7]) (by kernel_rfl) (by simp) ?_
     refine AllReadyH.cons rfl (fun K' hK'=>?_) AllReadyH.nil
     go_simp
     refine hK'.out _ _ (hS.alloc _) (fun hS=>?_)
     clear hK' K'
     obtain ⟨V0,hV0⟩:∃ V0,V0=((wr.alloc (.cells #[.int .i64 0,.int .i64 0,.slice none 0 0,.bool false] 87)).alloc (.cells #[.int .i64 0,.int .i64 0,.slice none 0 0,.bool false] 87)).drew:=⟨_,rfl⟩
     have D0:Cel wr.heap.size 87 #[.int .i64 zeroV.node,.int .i64 zeroV.num,.slice zeroV.ad zeroV.data.length zeroV.cap,.bool zeroV.dead] V0:=by rw [hV0]; exact ((Cel.new wr _ _).alloc _).drew
     have D1:Cel (wr.heap.size + 1) 87 #[.int .i64 zeroV.node,.int .i64 zeroV.num,.slice zeroV.ad zeroV.data.length zeroV.cap,.bool zeroV.dead] V0:=by rw [hV0]; exact (Cel.new1 wr _ _ _).drew
     rw [← hV0] at hS ⊢
     clear hV0
     generalize hX:wr.heap.size=X0 at D0 D1 hS ⊢
     generalize hY:X0 + 1=Y0 at D1 hS ⊢
     have hXY:X0 ≠ Y0:=by omega
     obtain ⟨x0,x1,x2,x3⟩:=cel4 D0
     have fx:=(D0).free
     refine wpAnyH_ready (rs:=[8]) (by kernel_rfl) (by simp) ?_
     refine AllReadyH.cons rfl (fun K' hK'=>?_) AllReadyH.nil
     go_simp
     have hS1:=hS.st4 (b:=X0) (.inr (by omega)) x
     refine hK'.out _ _ hS1 (fun hS=>?_)
     clear hK' K' hS1 x0 x1 x2 x3 fx
     have E0:=D0.st4 x
     have E1:=D1.st4o (b:=X0) (by omega) x
     clear D0 D1
     generalize hV1:((((V0.setCell ⟨X0,0,none⟩ (.int .i64 x.node)).setCell ⟨X0,1,none⟩ (.int .i64 x.num)).setCell ⟨X0,2,none⟩ (.slice x.ad x.data.length x.cap)).setCell ⟨X0,3,none⟩ (.bool x.dead))=V1 at E0 E1 hS ⊢
     clear hV1
     obtain ⟨x0,x1,x2,x3⟩:=cel4 E1
     have fx:=E1.free
     refine wpAnyH_ready (rs:=[9]) (by kernel_rfl) (by simp) ?_
     refine AllReadyH.cons rfl (fun K' hK'=>?_) AllReadyH.nil
     go_simp
     have hS1:=hS.st4 (b:=Y0) (.inr (by omega)) y
     refine hK'.out _ _ hS1 (fun hS=>?_)
     clear hK' K' hS1 x0 x1 x2 x3 fx
     have CX:=E0.st4o (b:=Y0) (by omega) y
     have CY:=E1.st4 y
     clear E0 E1
     generalize hV2:((((V1.setCell ⟨Y0,0,none⟩ (.int .i64 y.node)).setCell ⟨Y0,1,none⟩ (.int .i64 y.num)).setCell ⟨Y0,2,none⟩ (.slice y.ad y.data.length y.cap)).setCell ⟨Y0,3,none⟩ (.bool y.dead))=V at CX CY hS ⊢
     clear hV2
     have OUT:=HOU.out.off hS
     have OV:=HOW.out.trans hS (fun _ _ h=>h)
     have hsV:M≤V.heap.size:=by have:=hS.size; have:=HMM.out; omega
     have HXM:Hid (M≤X0):=by show M≤X0; have:=HMM.out; omega
     have HYM:Hid (M≤Y0):=by show M≤Y0; have:=HMM.out; omega
     clear hS hX hY hXY
     refine wpAnyH_done (by kernel_rfl) ?_ _
     generalize X0=X at CX HXM ⊢
     generalize Y0=Y at CY HYM ⊢
     obtain ⟨x0,x1,x2,x3⟩:=cel4 CX
     obtain ⟨y0,y1,y2,y3⟩:=cel4 CY
     cases hxy:lessB x.node x.num y.node y.num
     ·go_wp2_with fail
      refine (less_any _ _ _ _ _).mono ?_
      rw [hxy]
      rintro e v1 ⟨rfl,o1⟩
      replace CX:=CX.off o1 (fun h=>h)
      replace CY:=CY.off o1 (fun h=>h)
      replace OV:=OV.trans o1 (fun _ _ h=>h)
      replace OUT:=OUT.off o1
      have hsV1:=Nat.le_trans hsV o1.size
      clear o1 x0 x1 x2 x3 y0 y1 y2 y3 hsV
      obtain ⟨x0,x1,x2,x3⟩:=cel4 CX
      obtain ⟨y0,y1,y2,y3⟩:=cel4 CY
      cases hyx:lessB y.node y.num x.node x.num
      ·obtain ⟨z,hz⟩:∃ z,z=firstV x y:=⟨_,rfl⟩
       have HZ:Hid _:=hz
       clear hz
       go_wp2_with fail
       refine (less_any _ _ _ _ _).mono ?_
       rw [hyx]
       rintro e v4 ⟨rfl,o4⟩
       replace CX:=CX.off o4 (fun h=>h)
       replace CY:=CY.off o4 (fun h=>h)
       replace OV:=OV.trans o4 (fun _ _ h=>h)
       replace OUT:=OUT.off o4
       have hsV4:=Nat.le_trans hsV1 o4.size
       clear o4 x0 x1 x2 x3 y0 y1 y2 y3 hsV1
       obtain ⟨x0,x1,x2,x3⟩:=cel4 CX
       obtain ⟨y0,y1,y2,y3⟩:=cel4 CY
       obtain ⟨a',ht,hr'⟩:=hr1.tail' HE1.out
       obtain ⟨a2',ht2,hr2'⟩:=hr2.tail' HE2.out
       go_wp2_with fail
       have ox:=HVX.out.off OV (fun _ _ _ h=>h)
       have oy:=HVY.out.off OV (fun _ _ _ h=>h)
       refine (first_any x y _ ox oy).mono ?_
       rw [← HZ.out]
       rintro e v5 ⟨rfl,o5⟩
       have OV5:=OV.trans o5 (fun _ _ h=>h)
       have OUT5:=OUT.off o5
       have oz:VOk v5 z:=by rw [HZ.out]; exact (firstV_ok ox oy).off o5 (fun _ _ _ h=>h)
       have s5:=Nat.le_trans hsV4 o5.size
       clear o5 x0 x1 x2 x3 y0 y1 y2 y3 CX CY ox oy OV OUT hsV4
       go_wp2_with fail
       refine (take_any w.heap.size M w.heap.size l z true v5 OUT5 oz (by omega) OV5.size s5).mono ?_
       rintro e v3 ⟨rfl,l',hl',OUT',o3⟩
       have oD:Off (fun _=>False) w v3:=OV5.trans o3 (fun i hi h=>by omega)
       have hln:=abs_len hl'
       have HO3:Hid _:=oD
       have HOUT:Hid _:=OUT'
       have HL3:Hid _:=hl'
       clear o3 oD OUT' hl' OV5 OUT5 oz s5
       go_wp2_with fail
       refine wp_region_held_drew (S:=fun _=>True) (by kernel_rfl) trivial (fun hS=>?_)
       refine take_q 0 37 (.slice (some ⟨bx,ox1,none⟩) l1x.length cx) hS ?_
       simp only [Act.put,lsA,lsZ,lsS]
       refine take_q 1 38 (.slice a' xs.length (cx - 1)) hS ?_
       simp only [Act.put,lsA,lsZ,lsS]
       refine take_q 2 39 (.slice (some ⟨by1,oy1,none⟩) l2x.length cy) hS ?_
       simp only [Act.put,lsA,lsZ,lsS]
       refine take_q 3 40 (.slice a2' ys.length (cy - 1)) hS ?_
       simp only [Act.put,lsA,lsZ,lsS]
       refine take_q 4 0 (.slice a' xs.length (cx - 1)) hS ?_
       simp only [Act.put,List.setIfInBounds_toArray,List.set_cons_zero]
       refine take_q 5 1 (.slice a2' ys.length (cy - 1)) hS ?_
       simp only [Act.put,lsA,lsZ,lsS]
       refine wpAnyH_done (by kernel_rfl) ?_ _
       go_wp2_with fail
       go_roundw
       case rel=>exact ⟨_,_,xs,_,_,ys,l',rfl,rfl,hr',hr2',HOUT.out.drew,by have h1:=HN1.out; have h2:=HN2.out; omega,HO3.out.drew,by rw [HL3.out,← HT.out,HE1.out,HE2.out,cont_cons,cont_cons,mergeA_eq (x:=x.abs) (y:=y.abs) _ _ _ _ hxy hyx,List.append_assoc,HZ.out,firstV_abs]; rfl⟩
       case measure =>
        have h1:=HN1.out
        have h2:=HN2.out
        simp [slLen]
        omega
      ·have CX0:=CX
       clear CX0
       obtain ⟨a',ht,hr'⟩:=hr2.tail' HE2.out
       go_wp2_with fail
       refine (less_any _ _ _ _ _).mono ?_
       rw [hyx]
       rintro e v4 ⟨rfl,o4⟩
       replace CY:=CY.off o4 (fun h=>h)
       replace OV:=OV.trans o4 (fun _ _ h=>h)
       replace OUT:=OUT.off o4
       have HM:Hid (M≤v4.drew.heap.size):=Nat.le_trans hsV1 o4.size
       have HXM0:=HXM
       clear HXM
       have HXM:Hid _:=HYM.out
       clear o4 x0 x1 x2 x3 y0 y1 y2 y3 CX hsV1
       go_wp2_with fail
       have OVd:Off (fun _=>False) w v4.drew:=OV.drew
       have OUd:=OUT.drew
       refine wp_region_held_drew (S:=fun w'=>Cel Y 87 #[.int .i64 y.node,.int .i64 y.num,.slice y.ad y.data.length y.cap,.bool y.dead] w') (by kernel_rfl) (CY.drew) (fun hS=>?_)
       clear CY
       refine take_q 0 61 (.func (.func 179) #[] #[.pointer (some ⟨w.heap.size,0,none⟩)]) hS ?_
       simp only [Act.put,lsA,lsZ,lsS]
       refine take_r 1 62 (.agg #[.int .i64 y.node,.int .i64 y.num,.slice y.ad y.data.length y.cap,.bool y.dead]) rfl (Or.inl ⟨by rfl,fun w' hw'=>by obtain ⟨x0,x1,x2,x3⟩:=cel4 hw'; go_simp⟩) hS ?_
       simp only [Act.put,lsA,lsZ,lsS]
       refine take_q 2 63 (.func (.func 182) #[] #[.pointer (some ⟨pB,0,none⟩)]) hS ?_
       simp only [Act.put,lsA,lsZ,lsS]
       refine take_r 3 64 (.agg #[.int .i64 y.node,.int .i64 y.num,.slice y.ad y.data.length y.cap,.bool y.dead]) rfl (Or.inl ⟨by rfl,fun w' hw'=>by obtain ⟨x0,x1,x2,x3⟩:=cel4 hw'; go_simp⟩) hS ?_
       simp only [Act.put,lsA,lsZ,lsS]
       refine wpAnyH_ready (rs:=[4]) (by kernel_rfl) (by simp) ?_
       refine AllReadyH.cons rfl (fun K' hK'=>?_) AllReadyH.nil
       go_simp
       refine (newTo1_any fB y pB _ (HPB.out.off OVd (fun h=>h))).mono ?_
       rintro e v2 ⟨rfl,o2⟩
       refine hK'.out _ _ (hS.off o2 (fun h=>h)) (fun hS=>?_)
       clear hK' K'
       have oC:=OVd.trans o2 (fun _ _ h=>h)
       have s2:M≤v2.heap.size:=Nat.le_trans HM.out o2.size
       have hv2:=HVY.out.off oC (fun _ _ _ h=>h)
       have OU2:=OUd.off o2
       clear OUd OVd o2
       refine wpAnyH_ready (rs:=[5]) (by kernel_rfl) (by simp) ?_
       refine AllReadyH.cons rfl (fun K' hK'=>?_) AllReadyH.nil
       go_simp
       refine (take_any w.heap.size M w.heap.size l y _ v2 OU2 hv2 (by omega) oC.size s2).mono ?_
       rintro e v3 ⟨rfl,l',hl',OUT',o3⟩
       refine hK'.out _ _ (hS.off o3 (fun h=>by have:=h.2; have:=HXM.out; omega)) (fun hS=>?_)
       clear hK' K'
       have oD:Off (fun _=>False) w v3:=oC.trans o3 (fun i hi h=>by omega)
       have hln:=abs_len hl'
       have HO3:Hid _:=oD
       have HOUT:Hid _:=OUT'
       have HL3:Hid _:=hl'
       clear oC o3 s2 hv2 oD OUT' hl' hS OU2 OV OUT
       refine wpAnyH_done (by kernel_rfl) ?_ _
       go_wp2_with fail
       go_roundw
       case rel=>exact ⟨_,_,l1x,_,_,ys,l',rfl,rfl,hr1,hr',HOUT.out,by have h1:=HN1.out; have h2:=HN2.out; omega,HO3.out,by rw [HL3.out,← HT.out,HE1.out,HE2.out,cont_cons,cont_cons,mergeA_gt (x:=x.abs) (y:=y.abs) _ _ _ _ hxy hyx,List.append_assoc]; rfl⟩
       case measure =>
        have h1:=HN1.out
        have h2:=HN2.out
        simp [slLen]
        omega
     ·go_wp2_with fail
      refine (less_any _ _ _ _ _).mono ?_
      rw [hxy]
      rintro e v1 ⟨rfl,o1⟩
      replace CX:=CX.off o1 (fun h=>h)
      replace OV:=OV.trans o1 (fun _ _ h=>h)
      replace OUT:=OUT.off o1
      have HM:Hid (M≤v1.drew.heap.size):=Nat.le_trans hsV o1.size
      clear o1 x0 x1 x2 x3 y0 y1 y2 y3 CY hsV
      obtain ⟨a',ht,hr'⟩:=hr1.tail' HE1.out
      go_wp2_with fail
      have OVd:Off (fun _=>False) w v1.drew:=OV.drew
      have OUd:=OUT.drew
      refine wp_region_held_drew (S:=fun w'=>Cel X 87 #[.int .i64 x.node,.int .i64 x.num,.slice x.ad x.data.length x.cap,.bool x.dead] w') (by kernel_rfl) (CX.drew) (fun hS=>?_)
      clear CX
      refine take_q 0 47 (.func (.func 179) #[] #[.pointer (some ⟨w.heap.size,0,none⟩)]) hS ?_
      simp only [Act.put,lsA,lsZ,lsS]
      refine take_r 1 48 (.agg #[.int .i64 x.node,.int .i64 x.num,.slice x.ad x.data.length x.cap,.bool x.dead]) rfl (Or.inl ⟨by rfl,fun w' hw'=>by obtain ⟨x0,x1,x2,x3⟩:=cel4 hw'; go_simp⟩) hS ?_
      simp only [Act.put,lsA,lsZ,lsS]
      refine take_q 2 49 (.func (.func 182) #[] #[.pointer (some ⟨pA,0,none⟩)]) hS ?_
      simp only [Act.put,lsA,lsZ,lsS]
      refine take_r 3 50 (.agg #[.int .i64 x.node,.int .i64 x.num,.slice x.ad x.data.length x.cap,.bool x.dead]) rfl (Or.inl ⟨by rfl,fun w' hw'=>by obtain ⟨x0,x1,x2,x3⟩:=cel4 hw'; go_simp⟩) hS ?_
      simp only [Act.put,lsA,lsZ,lsS]
      refine wpAnyH_ready (rs:=[4]) (by kernel_rfl) (by simp) ?_
      refine AllReadyH.cons rfl (fun K' hK'=>?_) AllReadyH.nil
      go_simp
      refine (newTo1_any fA x pA _ (HPA.out.off OVd (fun h=>h))).mono ?_
      rintro e v2 ⟨rfl,o2⟩
      refine hK'.out _ _ (hS.off o2 (fun h=>h)) (fun hS=>?_)
      clear hK' K'
      have oC:=OVd.trans o2 (fun _ _ h=>h)
      have s2:M≤v2.heap.size:=Nat.le_trans HM.out o2.size
      have hv2:=HVX.out.off oC (fun _ _ _ h=>h)
      have OU2:=OUd.off o2
      clear OUd OVd o2
      refine wpAnyH_ready (rs:=[5]) (by kernel_rfl) (by simp) ?_
      refine AllReadyH.cons rfl (fun K' hK'=>?_) AllReadyH.nil
      go_simp
      refine (take_any w.heap.size M w.heap.size l x _ v2 OU2 hv2 (by omega) oC.size s2).mono ?_
      rintro e v3 ⟨rfl,l',hl',OUT',o3⟩
      refine hK'.out _ _ (hS.off o3 (fun h=>by have:=h.2; have:=HXM.out; omega)) (fun hS=>?_)
      clear hK' K'
      have oD:Off (fun _=>False) w v3:=oC.trans o3 (fun i hi h=>by omega)
      have hln:=abs_len hl'
      have HO3:Hid _:=oD
      have HOUT:Hid _:=OUT'
      have HL3:Hid _:=hl'
      clear oC o3 s2 hv2 oD OUT' hl' hS OU2 OV OUT
      refine wpAnyH_done (by kernel_rfl) ?_ _
      go_wp2_with fail
      go_roundw
      case rel=>exact ⟨_,_,xs,_,_,l2x,l',rfl,rfl,hr',hr2,HOUT.out,by have h1:=HN1.out; have h2:=HN2.out; omega,HO3.out,by rw [HL3.out,← HT.out,HE1.out,HE2.out,cont_cons,cont_cons,mergeA_lt (x:=x.abs) (y:=y.abs) _ _ _ _ hxy,List.append_assoc]; rfl⟩
      case measure =>
       have h1:=HN1.out
       have h2:=HN2.out
       simp [slLen]
       omega
    ·go_simp
     refine hK'.out _ _ (hS.alloc _) (fun hS=>?_)
     clear hK' K'
     refine wpAnyH_ready (rs:=[6]) (by kernel_rfl) (by simp) ?_
     refine AllReadyH.cons rfl (fun K' hK'=>?_) AllReadyH.nil
     go_simp
     refine hK'.out _ _ (hS.alloc _) (fun hS=>?_)
     clear hK' K'
     obtain ⟨V0,hV0⟩:∃ V0,V0=((wr.alloc (.cells #[.int .i64 0,.int .i64 0,.slice none 0 0,.bool false] 87)).alloc (.cells #[.int .i64 0,.int .i64 0,.slice none 0 0,.bool false] 87)).drew:=⟨_,rfl⟩
     have D0:Cel wr.heap.size 87 #[.int .i64 zeroV.node,.int .i64 zeroV.num,.slice zeroV.ad zeroV.data.length zeroV.cap,.bool zeroV.dead] V0:=by rw [hV0]; exact ((Cel.new wr _ _).alloc _).drew
     have D1:Cel (wr.heap.size + 1) 87 #[.int .i64 zeroV.node,.int .i64 zeroV.num,.slice zeroV.ad zeroV.data.length zeroV.cap,.bool zeroV.dead] V0:=by rw [hV0]; exact (Cel.new1 wr _ _ _).drew
     rw [← hV0] at hS ⊢
     clear hV0
     generalize hX:wr.heap.size=X0 at D0 D1 hS ⊢
     generalize hY:X0 + 1=Y0 at D1 hS ⊢
     have hXY:X0 ≠ Y0:=by omega
     obtain ⟨x0,x1,x2,x3⟩:=cel4 D1
     have fx:=(D1).free
     refine wpAnyH_ready (rs:=[8]) (by kernel_rfl) (by simp) ?_
     refine AllReadyH.cons rfl (fun K' hK'=>?_) AllReadyH.nil
     go_simp
     have hS1:=hS.st4 (b:=Y0) (.inr (by omega)) x
     refine hK'.out _ _ hS1 (fun hS=>?_)
     clear hK' K' hS1 x0 x1 x2 x3 fx
     have E0:=D1.st4 x
     have E1:=D0.st4o (b:=Y0) (by omega) x
     clear D1 D0
     generalize hV1:((((V0.setCell ⟨Y0,0,none⟩ (.int .i64 x.node)).setCell ⟨Y0,1,none⟩ (.int .i64 x.num)).setCell ⟨Y0,2,none⟩ (.slice x.ad x.data.length x.cap)).setCell ⟨Y0,3,none⟩ (.bool x.dead))=V1 at E0 E1 hS ⊢
     clear hV1
     obtain ⟨x0,x1,x2,x3⟩:=cel4 E1
     have fx:=E1.free
     refine wpAnyH_ready (rs:=[9]) (by kernel_rfl) (by simp) ?_
     refine AllReadyH.cons rfl (fun K' hK'=>?_) AllReadyH.nil
     go_simp
     have hS1:=hS.st4 (b:=X0) (.inr (by omega)) y
     refine hK'.out _ _ hS1 (fun hS=>?_)
     clear hK' K' hS1 x0 x1 x2 x3 fx
     have CX:=E0.st4o (b:=X0) (by omega) y
     have CY:=E1.st4 y
     clear E0 E1
     generalize hV2:((((V1.setCell ⟨X0,0,none⟩ (.int .i64 y.node)).setCell ⟨X0,1,none⟩ (.int .i64 y.num)).setCell ⟨X0,2,none⟩ (.slice y.ad y.data.length y.cap)).setCell ⟨X0,3,none⟩ (.bool y.dead))=V at CX CY hS ⊢
     clear hV2
     have OUT:=HOU.out.off hS
     have OV:=HOW.out.trans hS (fun _ _ h=>h)
     have hsV:M≤V.heap.size:=by have:=hS.size; have:=HMM.out; omega
     have HXM:Hid (M≤Y0):=by show M≤Y0; have:=HMM.out; omega
     have HYM:Hid (M≤X0):=by show M≤X0; have:=HMM.out; omega
     clear hS hX hY hXY
     refine wpAnyH_done (by kernel_rfl) ?_ _
     generalize Y0=X at CX HXM ⊢
     generalize X0=Y at CY HYM ⊢
     obtain ⟨x0,x1,x2,x3⟩:=cel4 CX
     obtain ⟨y0,y1,y2,y3⟩:=cel4 CY
     cases hxy:lessB x.node x.num y.node y.num
     ·go_wp2_with fail
      refine (less_any _ _ _ _ _).mono ?_
      rw [hxy]
      rintro e v1 ⟨rfl,o1⟩
      replace CX:=CX.off o1 (fun h=>h)
      replace CY:=CY.off o1 (fun h=>h)
      replace OV:=OV.trans o1 (fun _ _ h=>h)
      replace OUT:=OUT.off o1
      have hsV1:=Nat.le_trans hsV o1.size
      clear o1 x0 x1 x2 x3 y0 y1 y2 y3 hsV
      obtain ⟨x0,x1,x2,x3⟩:=cel4 CX
      obtain ⟨y0,y1,y2,y3⟩:=cel4 CY
      cases hyx:lessB y.node y.num x.node x.num
      ·obtain ⟨z,hz⟩:∃ z,z=firstV x y:=⟨_,rfl⟩
       have HZ:Hid _:=hz
       clear hz
       go_wp2_with fail
       refine (less_any _ _ _ _ _).mono ?_
       rw [hyx]
       rintro e v4 ⟨rfl,o4⟩
       replace CX:=CX.off o4 (fun h=>h)
       replace CY:=CY.off o4 (fun h=>h)
       replace OV:=OV.trans o4 (fun _ _ h=>h)
       replace OUT:=OUT.off o4
       have hsV4:=Nat.le_trans hsV1 o4.size
       clear o4 x0 x1 x2 x3 y0 y1 y2 y3 hsV1
       obtain ⟨x0,x1,x2,x3⟩:=cel4 CX
       obtain ⟨y0,y1,y2,y3⟩:=cel4 CY
       obtain ⟨a',ht,hr'⟩:=hr1.tail' HE1.out
       obtain ⟨a2',ht2,hr2'⟩:=hr2.tail' HE2.out
       go_wp2_with fail
       have ox:=HVX.out.off OV (fun _ _ _ h=>h)
       have oy:=HVY.out.off OV (fun _ _ _ h=>h)
       refine (first_any x y _ ox oy).mono ?_
       rw [← HZ.out]
       rintro e v5 ⟨rfl,o5⟩
       have OV5:=OV.trans o5 (fun _ _ h=>h)
       have OUT5:=OUT.off o5
       have oz:VOk v5 z:=by rw [HZ.out]; exact (firstV_ok ox oy).off o5 (fun _ _ _ h=>h)
       have s5:=Nat.le_trans hsV4 o5.size
       clear o5 x0 x1 x2 x3 y0 y1 y2 y3 CX CY ox oy OV OUT hsV4
       go_wp2_with fail
       refine (take_any w.heap.size M w.heap.size l z true v5 OUT5 oz (by omega) OV5.size s5).mono ?_
       rintro e v3 ⟨rfl,l',hl',OUT',o3⟩
       have oD:Off (fun _=>False) w v3:=OV5.trans o3 (fun i hi h=>by omega)
       have hln:=abs_len hl'
       have HO3:Hid _:=oD
       have HOUT:Hid _:=OUT'
       have HL3:Hid _:=hl'
       clear o3 oD OUT' hl' OV5 OUT5 oz s5
       go_wp2_with fail
       refine wp_region_held_drew (S:=fun _=>True) (by kernel_rfl) trivial (fun hS=>?_)
       refine take_q 0 37 (.slice (some ⟨bx,ox1,none⟩) l1x.length cx) hS ?_
       simp only [Act.put,lsA,lsZ,lsS]
       refine take_q 1 38 (.slice a' xs.length (cx - 1)) hS ?_
       simp only [Act.put,lsA,lsZ,lsS]
       refine take_q 2 39 (.slice (some ⟨by1,oy1,none⟩) l2x.length cy) hS ?_
       simp only [Act.put,lsA,lsZ,lsS]
       refine take_q 3 40 (.slice a2' ys.length (cy - 1)) hS ?_
       simp only [Act.put,lsA,lsZ,lsS]
       refine take_q 4 0 (.slice a' xs.length (cx - 1)) hS ?_
       simp only [Act.put,List.setIfInBounds_toArray,List.set_cons_zero]
       refine take_q 5 1 (.slice a2' ys.length (cy - 1)) hS ?_
       simp only [Act.put,lsA,lsZ,lsS]
       refine wpAnyH_done (by kernel_rfl) ?_ _
       go_wp2_with fail
       go_roundw
       case rel=>exact ⟨_,_,xs,_,_,ys,l',rfl,rfl,hr',hr2',HOUT.out.drew,by have h1:=HN1.out; have h2:=HN2.out; omega,HO3.out.drew,by rw [HL3.out,← HT.out,HE1.out,HE2.out,cont_cons,cont_cons,mergeA_eq (x:=x.abs) (y:=y.abs) _ _ _ _ hxy hyx,List.append_assoc,HZ.out,firstV_abs]; rfl⟩
       case measure =>
        have h1:=HN1.out
        have h2:=HN2.out
        simp [slLen]
        omega
      ·have CX0:=CX
       clear CX0
       obtain ⟨a',ht,hr'⟩:=hr2.tail' HE2.out
       go_wp2_with fail
       refine (less_any _ _ _ _ _).mono ?_
       rw [hyx]
       rintro e v4 ⟨rfl,o4⟩
       replace CY:=CY.off o4 (fun h=>h)
       replace OV:=OV.trans o4 (fun _ _ h=>h)
       replace OUT:=OUT.off o4
       have HM:Hid (M≤v4.drew.heap.size):=Nat.le_trans hsV1 o4.size
       have HXM0:=HXM
       clear HXM
       have HXM:Hid _:=HYM.out
       clear o4 x0 x1 x2 x3 y0 y1 y2 y3 CX hsV1
       go_wp2_with fail
       have OVd:Off (fun _=>False) w v4.drew:=OV.drew
       have OUd:=OUT.drew
       refine wp_region_held_drew (S:=fun w'=>Cel Y 87 #[.int .i64 y.node,.int .i64 y.num,.slice y.ad y.data.length y.cap,.bool y.dead] w') (by kernel_rfl) (CY.drew) (fun hS=>?_)
       clear CY
       refine take_q 0 61 (.func (.func 179) #[] #[.pointer (some ⟨w.heap.size,0,none⟩)]) hS ?_
       simp only [Act.put,lsA,lsZ,lsS]
       refine take_r 1 62 (.agg #[.int .i64 y.node,.int .i64 y.num,.slice y.ad y.data.length y.cap,.bool y.dead]) rfl (Or.inl ⟨by rfl,fun w' hw'=>by obtain ⟨x0,x1,x2,x3⟩:=cel4 hw'; go_simp⟩) hS ?_
       simp only [Act.put,lsA,lsZ,lsS]
       refine take_q 2 63 (.func (.func 182) #[] #[.pointer (some ⟨pB,0,none⟩)]) hS ?_
       simp only [Act.put,lsA,lsZ,lsS]
       refine take_r 3 64 (.agg #[.int .i64 y.node,.int .i64 y.num,.slice y.ad y.data.length y.cap,.bool y.dead]) rfl (Or.inl ⟨by rfl,fun w' hw'=>by obtain ⟨x0,x1,x2,x3⟩:=cel4 hw'; go_simp⟩) hS ?_
       simp only [Act.put,lsA,lsZ,lsS]
       refine wpAnyH_ready (rs:=[4]) (by kernel_rfl) (by simp) ?_
       refine AllReadyH.cons rfl (fun K' hK'=>?_) AllReadyH.nil
       go_simp
       refine (newTo1_any fB y pB _ (HPB.out.off OVd (fun h=>h))).mono ?_
       rintro e v2 ⟨rfl,o2⟩
       refine hK'.out _ _ (hS.off o2 (fun h=>h)) (fun hS=>?_)
       clear hK' K'
       have oC:=OVd.trans o2 (fun _ _ h=>h)
       have s2:M≤v2.heap.size:=Nat.le_trans HM.out o2.size
       have hv2:=HVY.out.off oC (fun _ _ _ h=>h)
       have OU2:=OUd.off o2
       clear OUd OVd o2
       refine wpAnyH_ready (rs:=[5]) (by kernel_rfl) (by simp) ?_
       refine AllReadyH.cons rfl (fun K' hK'=>?_) AllReadyH.nil
       go_simp
       refine (take_any w.heap.size M w.heap.size l y _ v2 OU2 hv2 (by omega) oC.size s2).mono ?_
       rintro e v3 ⟨rfl,l',hl',OUT',o3⟩
       refine hK'.out _ _ (hS.off o3 (fun h=>by have:=h.2; have:=HXM.out; omega)) (fun hS=>?_)
       clear hK' K'
       have oD:Off (fun _=>False) w v3:=oC.trans o3 (fun i hi h=>by omega)
       have hln:=abs_len hl'
       have HO3:Hid _:=oD
       have HOUT:Hid _:=OUT'
       have HL3:Hid _:=hl'
       clear oC o3 s2 hv2 oD OUT' hl' hS OU2 OV OUT
       refine wpAnyH_done (by kernel_rfl) ?_ _
       go_wp2_with fail
       go_roundw
       case rel=>exact ⟨_,_,l1x,_,_,ys,l',rfl,rfl,hr1,hr',HOUT.out,by have h1:=HN1.out; have h2:=HN2.out; omega,HO3.out,by rw [HL3.out,← HT.out,HE1.out,HE2.out,cont_cons,cont_cons,mergeA_gt (x:=x.abs) (y:=y.abs) _ _ _ _ hxy hyx,List.append_assoc]; rfl⟩
       case measure =>
        have h1:=HN1.out
        have h2:=HN2.out
        simp [slLen]
        omega
     ·go_wp2_with fail
      refine (less_any _ _ _ _ _).mono ?_
      rw [hxy]
      rintro e v1 ⟨rfl,o1⟩
      replace CX:=CX.off o1 (fun h=>h)
      replace OV:=OV.trans o1 (fun _ _ h=>h)
      replace OUT:=OUT.off o1
      have HM:Hid (M≤v1.drew.heap.size):=Nat.le_trans hsV o1.size
      clear o1 x0 x1 x2 x3 y0 y1 y2 y3 CY hsV
      obtain ⟨a',ht,hr'⟩:=hr1.tail' HE1.out
      go_wp2_with fail
      have OVd:Off (fun _=>False) w v1.drew:=OV.drew
      have OUd:=OUT.drew
      refine wp_region_held_drew (S:=fun w'=>Cel X 87 #[.int .i64 x.node,.int .i64 x.num,.slice x.ad x.data.length x.cap,.bool x.dead] w') (by kernel_rfl) (CX.drew) (fun hS=>?_)
      clear CX
      refine take_q 0 47 (.func (.func 179) #[] #[.pointer (some ⟨w.heap.size,0,none⟩)]) hS ?_
      simp only [Act.put,lsA,lsZ,lsS]
      refine take_r 1 48 (.agg #[.int .i64 x.node,.int .i64 x.num,.slice x.ad x.data.length x.cap,.bool x.dead]) rfl (Or.inl ⟨by rfl,fun w' hw'=>by obtain ⟨x0,x1,x2,x3⟩:=cel4 hw'; go_simp⟩) hS ?_
      simp only [Act.put,lsA,lsZ,lsS]
      refine take_q 2 49 (.func (.func 182) #[] #[.pointer (some ⟨pA,0,none⟩)]) hS ?_
      simp only [Act.put,lsA,lsZ,lsS]
      refine take_r 3 50 (.agg #[.int .i64 x.node,.int .i64 x.num,.slice x.ad x.data.length x.cap,.bool x.dead]) rfl (Or.inl ⟨by rfl,fun w' hw'=>by obtain ⟨x0,x1,x2,x3⟩:=cel4 hw'; go_simp⟩) hS ?_
      simp only [Act.put,lsA,lsZ,lsS]
      refine wpAnyH_ready (rs:=[4]) (by kernel_rfl) (by simp) ?_
      refine AllReadyH.cons rfl (fun K' hK'=>?_) AllReadyH.nil
      go_simp
      refine (newTo1_any fA x pA _ (HPA.out.off OVd (fun h=>h))).mono ?_
      rintro e v2 ⟨rfl,o2⟩
      refine hK'.out _ _ (hS.off o2 (fun h=>h)) (fun hS=>?_)
      clear hK' K'
      have oC:=OVd.trans o2 (fun _ _ h=>h)
      have s2:M≤v2.heap.size:=Nat.le_trans HM.out o2.size
      have hv2:=HVX.out.off oC (fun _ _ _ h=>h)
      have OU2:=OUd.off o2
      clear OUd OVd o2
      refine wpAnyH_ready (rs:=[5]) (by kernel_rfl) (by simp) ?_
      refine AllReadyH.cons rfl (fun K' hK'=>?_) AllReadyH.nil
      go_simp
      refine (take_any w.heap.size M w.heap.size l x _ v2 OU2 hv2 (by omega) oC.size s2).mono ?_
      rintro e v3 ⟨rfl,l',hl',OUT',o3⟩
      refine hK'.out _ _ (hS.off o3 (fun h=>by have:=h.2; have:=HXM.out; omega)) (fun hS=>?_)
      clear hK' K'
      have oD:Off (fun _=>False) w v3:=oC.trans o3 (fun i hi h=>by omega)
      have hln:=abs_len hl'
      have HO3:Hid _:=oD
      have HOUT:Hid _:=OUT'
      have HL3:Hid _:=hl'
      clear oC o3 s2 hv2 oD OUT' hl' hS OU2 OV OUT
      refine wpAnyH_done (by kernel_rfl) ?_ _
      go_wp2_with fail
      go_roundw
      case rel=>exact ⟨_,_,xs,_,_,l2x,l',rfl,rfl,hr',hr2,HOUT.out,by have h1:=HN1.out; have h2:=HN2.out; omega,HO3.out,by rw [HL3.out,← HT.out,HE1.out,HE2.out,cont_cons,cont_cons,mergeA_lt (x:=x.abs) (y:=y.abs) _ _ _ _ hxy,List.append_assoc]; rfl⟩
      case measure =>
       have h1:=HN1.out
       have h2:=HN2.out
       simp [slLen]
       omega
end Go.Proofs.YthjbnpaghiojlaaGreat

namespace Go.Proofs.YthjbnpaghiojlaaGreat
open Go.RowKit
theorem vec_ext {f g:Nat→Int} (h:∀ j,j < 8→f j=g j) (s:Value):(.agg #[.int .i64 (f 0),.int .i64 (f 1),.int .i64 (f 2),.int .i64 (f 3),.int .i64 (f 4),.int .i64 (f 5),.int .i64 (f 6),.int .i64 (f 7),s]:Value)=.agg #[.int .i64 (g 0),.int .i64 (g 1),.int .i64 (g 2),.int .i64 (g 3),.int .i64 (g 4),.int .i64 (g 5),.int .i64 (g 6),.int .i64 (g 7),s]:=by
 rw [h 0 (by decide),h 1 (by decide),h 2 (by decide),h 3 (by decide),h 4 (by decide),h 5 (by decide),h 6 (by decide),h 7 (by decide)]
theorem Cel.st9 {b:Nat} {t:TypeId} {f:Nat→Int} {s:Value} {w:World} (h:Cel b t #[.int .i64 (f 0),.int .i64 (f 1),.int .i64 (f 2),.int .i64 (f 3),.int .i64 (f 4),.int .i64 (f 5),.int .i64 (f 6),.int .i64 (f 7),s] w) (g:Nat→Int) (r:Value):Cel b t #[.int .i64 (g 0),.int .i64 (g 1),.int .i64 (g 2),.int .i64 (g 3),.int .i64 (g 4),.int .i64 (g 5),.int .i64 (g 6),.int .i64 (g 7),r] (((((((((w.setCell ⟨b,0,none⟩ (.int .i64 (g 0))).setCell ⟨b,1,none⟩ (.int .i64 (g 1))).setCell ⟨b,2,none⟩ (.int .i64 (g 2))).setCell ⟨b,3,none⟩ (.int .i64 (g 3))).setCell ⟨b,4,none⟩ (.int .i64 (g 4))).setCell ⟨b,5,none⟩ (.int .i64 (g 5))).setCell ⟨b,6,none⟩ (.int .i64 (g 6))).setCell ⟨b,7,none⟩ (.int .i64 (g 7))).setCell ⟨b,8,none⟩ r):=by
 replace h:=h.set 0 (.int .i64 (g 0))
 simp only [List.setIfInBounds_toArray,List.set_cons_zero] at h
 replace h:=h.set 1 (.int .i64 (g 1))
 simp only [lsA,lsZ,lsS] at h
 replace h:=h.set 2 (.int .i64 (g 2))
 simp only [lsA,lsZ,lsS] at h
 replace h:=h.set 3 (.int .i64 (g 3))
 simp only [lsA,lsZ,lsS] at h
 replace h:=h.set 4 (.int .i64 (g 4))
 simp only [lsA,lsZ,lsS] at h
 replace h:=h.set 5 (.int .i64 (g 5))
 simp only [lsA,lsZ,lsS] at h
 replace h:=h.set 6 (.int .i64 (g 6))
 simp only [lsA,lsZ,lsS] at h
 replace h:=h.set 7 (.int .i64 (g 7))
 simp only [lsA,lsZ,lsS] at h
 replace h:=h.set 8 r
 simp only [lsA,lsZ,lsS] at h
 exact h
theorem Off.st9 {D:Nat→Prop} {a w:World} {b:Nat} (h:Off D a w) (hb:D b∨a.heap.size≤b) (g:Nat→Int) (r:Value):Off D a (((((((((w.setCell ⟨b,0,none⟩ (.int .i64 (g 0))).setCell ⟨b,1,none⟩ (.int .i64 (g 1))).setCell ⟨b,2,none⟩ (.int .i64 (g 2))).setCell ⟨b,3,none⟩ (.int .i64 (g 3))).setCell ⟨b,4,none⟩ (.int .i64 (g 4))).setCell ⟨b,5,none⟩ (.int .i64 (g 5))).setCell ⟨b,6,none⟩ (.int .i64 (g 6))).setCell ⟨b,7,none⟩ (.int .i64 (g 7))).setCell ⟨b,8,none⟩ r) :=
 ((((((((h.setCell hb _).setCell hb _).setCell hb _).setCell hb _).setCell hb _).setCell hb _).setCell hb _).setCell hb _).setCell hb _
theorem Cel.clr9 {b:Nat} {t:TypeId} {f:Nat→Int} {s:Value} {w:World} (h:Cel b t #[.int .i64 (f 0),.int .i64 (f 1),.int .i64 (f 2),.int .i64 (f 3),.int .i64 (f 4),.int .i64 (f 5),.int .i64 (f 6),.int .i64 (f 7),s] w):Cel b t #[.int .i64 0,.int .i64 0,.int .i64 0,.int .i64 0,.int .i64 0,.int .i64 0,.int .i64 0,.int .i64 0,.slice none 0 0] (((((((((w.setCell ⟨b,0,none⟩ (.int .i64 0)).setCell ⟨b,1,none⟩ (.int .i64 0)).setCell ⟨b,2,none⟩ (.int .i64 0)).setCell ⟨b,3,none⟩ (.int .i64 0)).setCell ⟨b,4,none⟩ (.int .i64 0)).setCell ⟨b,5,none⟩ (.int .i64 0)).setCell ⟨b,6,none⟩ (.int .i64 0)).setCell ⟨b,7,none⟩ (.int .i64 0)).setCell ⟨b,8,none⟩ (.slice none 0 0)):=by
 have:=h.st9 zer (.slice none 0 0)
 simp only [zer] at this
 exact this
theorem Off.clr9 {D:Nat→Prop} {a w:World} {b:Nat} (h:Off D a w) (hb:D b∨a.heap.size≤b):Off D a (((((((((w.setCell ⟨b,0,none⟩ (.int .i64 0)).setCell ⟨b,1,none⟩ (.int .i64 0)).setCell ⟨b,2,none⟩ (.int .i64 0)).setCell ⟨b,3,none⟩ (.int .i64 0)).setCell ⟨b,4,none⟩ (.int .i64 0)).setCell ⟨b,5,none⟩ (.int .i64 0)).setCell ⟨b,6,none⟩ (.int .i64 0)).setCell ⟨b,7,none⟩ (.int .i64 0)).setCell ⟨b,8,none⟩ (.slice none 0 0)) :=
 ((((((((h.setCell hb _).setCell hb _).setCell hb _).setCell hb _).setCell hb _).setCell hb _).setCell hb _).setCell hb _).setCell hb _
theorem results_none9 {fn:Func} {p:Tmp} (h:fn.results=#[.cell p 47]) {tmps:Array Value} {w:World} {b:Nat} (hp:tmps.getD p undef=.pointer (some ⟨b,0,none⟩)) (hc:Cel b 47 #[.int .i64 0,.int .i64 0,.int .i64 0,.int .i64 0,.int .i64 0,.int .i64 0,.int .i64 0,.int .i64 0,.slice none 0 0] w) :
  (results fn tmps).run Tryz.prog w=.ok (.agg #[.int .i64 0,.int .i64 0,.int .i64 0,.int .i64 0,.int .i64 0,.int .i64 0,.int .i64 0,.int .i64 0,.slice none 0 0]) w:=by
 obtain ⟨d,hd⟩:∃ d,Tryz.prog.underlying 47=some (.struct d):=⟨_,Tryz.underlying47⟩
 exact results_cell_row h tmps w b 47 _ (0,0) (.struct d) hp hc.is hd rfl (by kernel_rfl)
theorem results_sibs {fn:Func} {p:Tmp} (h:fn.results=#[.cell p 47]) {tmps:Array Value} {w:World} {b:Nat} {f:Nat→Int} {s:Value} (hp:tmps.getD p undef=.pointer (some ⟨b,0,none⟩)) (hc:Cel b 47 #[.int .i64 (f 0),.int .i64 (f 1),.int .i64 (f 2),.int .i64 (f 3),.int .i64 (f 4),.int .i64 (f 5),.int .i64 (f 6),.int .i64 (f 7),s] w) :
  (results fn tmps).run Tryz.prog w=.ok (.agg #[.int .i64 (f 0),.int .i64 (f 1),.int .i64 (f 2),.int .i64 (f 3),.int .i64 (f 4),.int .i64 (f 5),.int .i64 (f 6),.int .i64 (f 7),s]) w:=by
 obtain ⟨d,hd⟩:∃ d,Tryz.prog.underlying 47=some (.struct d):=⟨_,Tryz.underlying47⟩
 exact results_cell_row h tmps w b 47 _ (0,0) (.struct d) hp hc.is hd rfl (by kernel_rfl)
structure Made (N:Nat) (w:World) (a:Option Addr) (cap:Nat) (l:List V):Prop where
 row:Row w a cap l
 own:∀ v ∈ l,OwnR w v.ad v.cap v.data∧∀ k,blk v.ad=some k→N≤k∧blk a ≠ some k
 lo:∀ k,blk a=some k→N≤k
theorem Made.off {N:Nat} {w w':World} {a:Option Addr} {cap:Nat} {l:List V} (h:Made N w a cap l) (o:Off (fun _=>False) w w'):Made N w' a cap l :=
 ⟨h.row.off o,fun v hv=>⟨(h.own v hv).1.off o (fun _ _ _ h=>h),(h.own v hv).2⟩,h.lo⟩
theorem Made.offN {D:Nat→Prop} {N:Nat} {w w':World} {a:Option Addr} {cap:Nat} {l:List V} (h:Made N w a cap l) (o:Off D w w') (hD:∀ k,N≤k→¬ D k):Made N w' a cap l :=
 ⟨h.row.offD o (fun c _ hc=>hD c (h.lo c hc)) (fun v hv c _ hc=>hD c ((h.own v hv).2 c hc).1),fun v hv=>⟨(h.own v hv).1.off o (fun c _ hc=>hD c ((h.own v hv).2 c hc).1),(h.own v hv).2⟩,h.lo⟩
theorem Made.nil (N:Nat) (w:World):Made N w none 0 []:=⟨Row.nil w none 0 (by omega),fun v hv=>by simp at hv,fun k hk=>by simp [blk] at hk⟩
theorem Made.mono {N M:Nat} {w:World} {a:Option Addr} {cap:Nat} {l:List V} (h:Made N w a cap l) (hM:M≤N):Made M w a cap l :=
 ⟨h.row,fun v hv=>⟨(h.own v hv).1,fun k hk=>⟨Nat.le_trans hM ((h.own v hv).2 k hk).1,((h.own v hv).2 k hk).2⟩⟩,fun k hk=>Nat.le_trans hM (h.lo k hk)⟩
theorem OwnV.made {N:Nat} {w:World} {a:Option Addr} {cap:Nat} {l:List V} (h:OwnV w a cap l) (hv:∀ v ∈ l,VOk w v∧OwnR w v.ad v.cap v.data∧∀ k,blk v.ad=some k→N≤k∧blk a ≠ some k) (ha:∀ k,blk a=some k→N≤k):Made N w a cap l :=
 ⟨h.toRow (fun v hx=>(hv v hx).1),fun v hx=>(hv v hx).2,ha⟩
theorem Made.take {N:Nat} {w:World} {a:Option Addr} {cap:Nat} {l:List V} (h:Made N w a cap l) (m:Nat) (hm:m≤l.length) :
  (∀ W,(Instr.slice 45 (.slice a l.length cap) none (some (.int .i64 (m:Int))) none).run Tryz.prog W=.ok (.slice a (l.take m).length cap) W)∧Made N w a cap (l.take m):=by
 have hc:=h.row.len
 have hb:=h.row.bound
 refine ⟨fun W=>?_,⟨⟨by simp; omega,hb,fun i v hi=>?_⟩,fun v hv=>h.own v (List.mem_of_mem_take hv),h.lo⟩⟩
 ·rw [run_slice_h (P:=Tryz.prog) (t:=45) (ht:=by kernel_rfl) (h0:=by omega) (h2:=by omega)]
  have hs:(sizeOf (Tryz.prog.elem 45)).run Tryz.prog W=.ok 4 W:=by
   have:Tryz.prog.elem 45=87:=by kernel_rfl
   rw [this]
   obtain ⟨i0,hi,hz0,hz1,hz2⟩:=info_parts Tryz.infoV
   simp [sizeOf,typeInfo,hi,hz1]
  rw [hs]
  have e:(l.take m).length=m:=by simp; omega
  rw [e]
  cases l with
  | nil =>
   obtain rfl:m=0:=by simpa using hm
   simp [Result.andThen,sliced]
   cases a <;> simp [Addr.add]
  | cons v l' =>
   obtain ⟨b,o,rfl,-⟩:=h.row.at_ 0 v rfl
   simp [Result.andThen,sliced,Addr.add]
 ·refine h.row.at_ i v ?_
  rw [List.getElem?_take] at hi
  split at hi
  ·exact hi
  ·simp at hi
def maxV (f g:Nat→Int):Nat→Int:=fun j=>max (f j) (g j)
def joinV (f g:Nat→Int) (l1 l2:List A):Nat→Int:=if mayS f l1=true∧mayS g l2=true then maxV f g else zer
def joinL (f g:Nat→Int) (l1 l2:List A):List A:=if mayS f l1=true∧mayS g l2=true then (mergeA (nc g) (nc f) l1 l2).take 16 else []
end Go.Proofs.YthjbnpaghiojlaaGreat

namespace Go.Proofs.YthjbnpaghiojlaaGreat
open Go.RowKit
theorem min_any (n m:Nat) (h:m=min n 16) (ts:Array TypeId) (t:TypeId) (W:World):(Builtin.min_ ts t #[.int .i64 (n:Int),.int .i64 16]).run Tryz.prog W=.ok (.int .i64 (m:Int)) W:=by
 rw [run_min_int2]
 congr 2
 split <;> omega
set_option maxRecDepth 100000 in
set_option maxHeartbeats 1000000 in
theorem sjoin_any (f g:Nat→Int) (a b:Option Addr) (ca cb:Nat) (l1 l2:List V) (w:World) (h1:Row w a ca l1) (h2:Row w b cb l2) :
  Calls Tryz.prog 130 #[.agg #[.int .i64 (f 0),.int .i64 (f 1),.int .i64 (f 2),.int .i64 (f 3),.int .i64 (f 4),.int .i64 (f 5),.int .i64 (f 6),.int .i64 (f 7),.slice a l1.length ca],.agg #[.int .i64 (g 0),.int .i64 (g 1),.int .i64 (g 2),.int .i64 (g 3),.int .i64 (g 4),.int .i64 (g 5),.int .i64 (g 6),.int .i64 (g 7),.slice b l2.length cb]] w fun e w'=>∃ (h:Nat→Int) (a':Option Addr) (c':Nat) (l:List V),e=.returned (.agg #[.int .i64 (h 0),.int .i64 (h 1),.int .i64 (h 2),.int .i64 (h 3),.int .i64 (h 4),.int .i64 (h 5),.int .i64 (h 6),.int .i64 (h 7),.slice a' l.length c'])∧h=joinV f g (cont l1) (cont l2)∧cont l=joinL f g (cont l1) (cont l2)∧Made w.heap.size w' a' c' l∧Off (fun _=>False) w w':=by
 have hnot:=not_any
 obtain ⟨W,hW⟩:∃ W,W=(((w.alloc (.cells #[.int .i64 (f 0),.int .i64 (f 1),.int .i64 (f 2),.int .i64 (f 3),.int .i64 (f 4),.int .i64 (f 5),.int .i64 (f 6),.int .i64 (f 7),.slice a l1.length ca] 47)).alloc (.cells #[.int .i64 (g 0),.int .i64 (g 1),.int .i64 (g 2),.int .i64 (g 3),.int .i64 (g 4),.int .i64 (g 5),.int .i64 (g 6),.int .i64 (g 7),.slice b l2.length cb] 47)).alloc (.cells #[.int .i64 (zer 0),.int .i64 (zer 1),.int .i64 (zer 2),.int .i64 (zer 3),.int .i64 (zer 4),.int .i64 (zer 5),.int .i64 (zer 6),.int .i64 (zer 7),.slice none 0 0] 47)):=⟨_,rfl⟩
 have O:Off (fun _=>False) w W:=by rw [hW]; exact (((Off.refl _ w).alloc _).alloc _).alloc _
 have C0:Cel w.heap.size 47 #[.int .i64 (f 0),.int .i64 (f 1),.int .i64 (f 2),.int .i64 (f 3),.int .i64 (f 4),.int .i64 (f 5),.int .i64 (f 6),.int .i64 (f 7),.slice a l1.length ca] W:=by rw [hW]; exact ((Cel.new w _ _).alloc _).alloc _
 have C1:Cel (w.heap.size + 1) 47 #[.int .i64 (g 0),.int .i64 (g 1),.int .i64 (g 2),.int .i64 (g 3),.int .i64 (g 4),.int .i64 (g 5),.int .i64 (g 6),.int .i64 (g 7),.slice b l2.length cb] W:=by rw [hW]; exact (Cel.new1 w _ _ _).alloc _
 have C2:Cel (w.heap.size + 2) 47 #[.int .i64 (zer 0),.int .i64 (zer 1),.int .i64 (zer 2),.int .i64 (zer 3),.int .i64 (zer 4),.int .i64 (zer 5),.int .i64 (zer 6),.int .i64 (zer 7),.slice none 0 0] W:=by rw [hW]; exact Cel.new2 w _ _ _ _
 have HW:Hid ((((w.alloc (.cells #[.int .i64 (f 0),.int .i64 (f 1),.int .i64 (f 2),.int .i64 (f 3),.int .i64 (f 4),.int .i64 (f 5),.int .i64 (f 6),.int .i64 (f 7),.slice a l1.length ca] 47)).alloc (.cells #[.int .i64 (g 0),.int .i64 (g 1),.int .i64 (g 2),.int .i64 (g 3),.int .i64 (g 4),.int .i64 (g 5),.int .i64 (g 6),.int .i64 (g 7),.slice b l2.length cb] 47)).alloc (.cells #[.int .i64 0,.int .i64 0,.int .i64 0,.int .i64 0,.int .i64 0,.int .i64 0,.int .i64 0,.int .i64 0,.slice none 0 0] 47))=W):=hW.symm
 have R1:=h1.off O
 have R2:=h2.off O
 obtain ⟨x0,x1,x2,x3,x4,x5,x6,x7,x8⟩:=cel9 C0
 have HC0:Hid _:=C0
 have HC1:Hid _:=C1
 have HC2:Hid _:=C2
 have HO:Hid _:=O
 have HR1:Hid _:=R1
 have HR2:Hid _:=R2
 clear hW C0 C1 C2 O R1 R2
 cases m1:mayS f (cont l1)
 ·have hj:joinV f g (cont l1) (cont l2)=zer∧joinL f g (cont l1) (cont l2)=[]:=by simp [joinV,joinL,m1]
  go_enter Tryz.func130,Tryz.ntmps130
  go_wp2_with fail
  rw [HW.out]
  refine (smay_any f a ca l1 W HR1.out).mono ?_
  rw [m1]
  rintro e w1 ⟨rfl,o1⟩
  have D2:=HC2.out.off o1 (fun h=>h)
  clear x0 x1 x2 x3 x4 x5 x6 x7 x8
  obtain ⟨x0,x1,x2,x3,x4,x5,x6,x7,x8⟩:=cel9 D2
  have fz:=D2.free
  rw [show w.heap.size + 1 + 1=w.heap.size + 2 from rfl]
  generalize hq2:w.heap.size + 2=q2 at D2 x0 x1 x2 x3 x4 x5 x6 x7 x8 fz ⊢
  have hq:w.heap.size≤q2:=by omega
  clear hq2
  go_wp2_with fail
  have E2:=D2.clr9
  have OE:=(HO.out.trans o1 (fun _ _ h=>h)).clr9 (b:=q2) (.inr (by omega))
  refine bodyPost_ret (results_none9 rfl rfl E2) rfl ?_
  exact ⟨zer,none,0,[],rfl,hj.1.symm,by rw [hj.2]; rfl,Made.nil _ _,OE⟩
 cases m2:mayS g (cont l2)
 ·have hj:joinV f g (cont l1) (cont l2)=zer∧joinL f g (cont l1) (cont l2)=[]:=by simp [joinV,joinL,m2]
  go_enter Tryz.func130,Tryz.ntmps130
  go_wp2_with fail
  rw [HW.out]
  refine (smay_any f a ca l1 W HR1.out).mono ?_
  rw [m1]
  rintro e w1 ⟨rfl,o1⟩
  have D1:=HC1.out.off o1 (fun h=>h)
  clear x0 x1 x2 x3 x4 x5 x6 x7 x8
  obtain ⟨x0,x1,x2,x3,x4,x5,x6,x7,x8⟩:=cel9 D1
  have r2:=HR2.out.off o1
  go_wp2_with fail
  refine (smay_any g b cb l2 w1 r2).mono ?_
  rw [m2]
  rintro e w2 ⟨rfl,o2⟩
  have O2:=o1.trans o2 (fun _ _ h=>h)
  have D2:=HC2.out.off O2 (fun h=>h)
  clear x0 x1 x2 x3 x4 x5 x6 x7 x8 D1
  obtain ⟨x0,x1,x2,x3,x4,x5,x6,x7,x8⟩:=cel9 D2
  have fz:=D2.free
  rw [show w.heap.size + 1 + 1=w.heap.size + 2 from rfl]
  generalize hq2:w.heap.size + 2=q2 at D2 x0 x1 x2 x3 x4 x5 x6 x7 x8 fz ⊢
  have hq:w.heap.size≤q2:=by omega
  clear hq2
  go_wp2_with fail
  have E2:=D2.clr9
  have OE:=(HO.out.trans O2 (fun _ _ h=>h)).clr9 (b:=q2) (.inr (by omega))
  refine bodyPost_ret (results_none9 rfl rfl E2) rfl ?_
  exact ⟨zer,none,0,[],rfl,hj.1.symm,by rw [hj.2]; rfl,Made.nil _ _,OE⟩
 have hj:joinV f g (cont l1) (cont l2)=maxV f g∧joinL f g (cont l1) (cont l2)=(mergeA (nc g) (nc f) (cont l1) (cont l2)).take 16:=by simp [joinV,joinL,m1,m2]
 have n1:l1.length≤16:=by have:=(may_iff.1 m1).few; rwa [cont_len] at this
 have n2:l2.length≤16:=by have:=(may_iff.1 m2).few; rwa [cont_len] at this
 have HJ:Hid _:=hj
 clear hj
 go_enter Tryz.func130,Tryz.ntmps130
 go_wp2_with fail
 rw [HW.out]
 refine (smay_any f a ca l1 W HR1.out).mono ?_
 rw [m1]
 rintro e w1 ⟨rfl,o1⟩
 have D1:=HC1.out.off o1 (fun h=>h)
 clear x0 x1 x2 x3 x4 x5 x6 x7 x8
 obtain ⟨x0,x1,x2,x3,x4,x5,x6,x7,x8⟩:=cel9 D1
 have r2:=HR2.out.off o1
 go_wp2_with fail
 refine (smay_any g b cb l2 w1 r2).mono ?_
 rw [m2]
 rintro e w2 ⟨rfl,o2⟩
 have O2:=o1.trans o2 (fun _ _ h=>h)
 have OW2:=HO.out.trans O2 (fun _ _ h=>h)
 have H0:Hid _:=HC0.out.off O2 (fun h=>h)
 have H1:Hid _:=HC1.out.off O2 (fun h=>h)
 have H2:Hid _:=HC2.out.off O2 (fun h=>h)
 have HHR1:Hid _:=HR1.out.off O2
 have HHR2:Hid _:=HR2.out.off O2
 clear HR1 HR2
 have HR1:Hid _:=HHR1.out
 have HR2:Hid _:=HHR2.out
 have sW:w.heap.size≤w2.heap.size:=OW2.size
 have HOW2:Hid _:=OW2
 clear x0 x1 x2 x3 x4 x5 x6 x7 x8 D1 O2 o1 o2 r2 HC0 HC1 HC2 HHR1 HHR2 HO HW h1 h2 OW2
 go_wp2_with fail
 generalize hq2:w.heap.size + 1 + 1=q2 at ⊢
 have HQ2:Hid (w.heap.size≤q2):=by show w.heap.size≤q2; omega
 rw [show w.heap.size + 2=q2 by omega] at H2
 generalize hq1:w.heap.size + 1=q1 at H1 ⊢
 generalize hq0:w.heap.size=q0 at H0 ⊢
 have HN0:Hid (¬ q0=q2):=by show ¬ q0=q2; omega
 have HN1:Hid (¬ q1=q2):=by show ¬ q1=q2; omega
 clear hq0 hq1 hq2
 refine wp_region_held_drew (S:=fun w'=>Off (fun _=>False) w2 w') (by kernel_rfl) ((Off.refl _ w2).drew) (fun hS=>?_)
 refine take_q 0 15 (.pointer (some ⟨q0,8,none⟩)) hS ?_
 simp only [Act.put,lsA,lsZ,lsS]
 refine take_r 1 16 (.slice a l1.length ca) rfl (Or.inl ⟨by rfl,fun w' hw'=>by obtain ⟨x0,x1,x2,x3,x4,x5,x6,x7,x8⟩:=cel9 (H0.out.off hw' (fun h=>h)); go_simp⟩) hS ?_
 simp only [Act.put,lsA,lsZ,lsS]
 refine take_q 2 17 (.pointer (some ⟨q1,8,none⟩)) hS ?_
 simp only [Act.put,lsA,lsZ,lsS]
 refine take_r 3 18 (.slice b l2.length cb) rfl (Or.inl ⟨by rfl,fun w' hw'=>by obtain ⟨x0,x1,x2,x3,x4,x5,x6,x7,x8⟩:=cel9 (H1.out.off hw' (fun h=>h)); go_simp⟩) hS ?_
 simp only [Act.put,lsA,lsZ,lsS]
 refine take_q 4 19 (.pointer (some ⟨q1,0,none⟩)) hS ?_
 simp only [Act.put,lsA,lsZ,lsS]
 refine take_r 5 20 (.agg #[.int .i64 (g 0),.int .i64 (g 1),.int .i64 (g 2),.int .i64 (g 3),.int .i64 (g 4),.int .i64 (g 5),.int .i64 (g 6),.int .i64 (g 7)]) rfl (Or.inl ⟨by rfl,fun w' hw'=>by obtain ⟨x0,x1,x2,x3,x4,x5,x6,x7,x8⟩:=cel9 (H1.out.off hw' (fun h=>h)); go_simp⟩) hS ?_
 simp only [Act.put,lsA,lsZ,lsS]
 refine take_q 7 22 (.pointer (some ⟨q0,0,none⟩)) hS ?_
 simp only [Act.put,lsA,lsZ,lsS]
 refine take_r 8 23 (.agg #[.int .i64 (f 0),.int .i64 (f 1),.int .i64 (f 2),.int .i64 (f 3),.int .i64 (f 4),.int .i64 (f 5),.int .i64 (f 6),.int .i64 (f 7)]) rfl (Or.inl ⟨by rfl,fun w' hw'=>by obtain ⟨x0,x1,x2,x3,x4,x5,x6,x7,x8⟩:=cel9 (H0.out.off hw' (fun h=>h)); go_simp⟩) hS ?_
 simp only [Act.put,lsA,lsZ,lsS]
 refine wpAnyH_ready (rs:=[6]) (by kernel_rfl) (by simp) ?_
 refine AllReadyH.cons rfl (fun K' hK'=>?_) AllReadyH.nil
 go_simp
 refine (newTo_any g _).mono ?_
 rintro e v1 ⟨rfl,CA,o1⟩
 have hS1:=hS.trans o1 (fun _ _ h=>h)
 refine hK'.out _ _ hS1 (fun hS=>?_)
 clear hK' K' hS1
 generalize w2.drew.heap.size=pA at CA ⊢
 refine wpAnyH_ready (rs:=[9]) (by kernel_rfl) (by simp) ?_
 refine AllReadyH.cons rfl (fun K' hK'=>?_) AllReadyH.nil
 go_simp
 refine (newTo_any f _).mono ?_
 rintro e v2 ⟨rfl,CB,o2⟩
 have hS2:=hS.trans o2 (fun _ _ h=>h)
 refine hK'.out _ _ hS2 (fun hS=>?_)
 clear hK' K' hS2
 replace CA:=CA.off o2 (fun h=>h)
 generalize v1.heap.size=pB at CB ⊢
 have hr1:=HR1.out.off hS
 have hr2:=HR2.out.off hS
 have sN:=hS.size
 clear o1 o2
 refine wpAnyH_ready (rs:=[10]) (by kernel_rfl) (by simp) ?_
 refine AllReadyH.cons rfl (fun K' hK'=>?_) AllReadyH.nil
 go_simp
 refine (merge_any g f pA pB a b ca cb l1 l2 _ hr1 hr2 CA CB (by omega)).mono ?_
 rintro e v3 ⟨a3,c3,l,rfl,own3,hv3,ha3,hl3,o3⟩
 have hS3:=hS.trans o3 (fun _ _ h=>h)
 refine hK'.out _ _ hS3 (fun hS=>?_)
 clear hK' K' hS3
 have md:=own3.made hv3 ha3
 have HMD:Hid _:=md
 have HQV:Hid (q2 < v2.heap.size∧w.heap.size≤v2.heap.size):=⟨Nat.lt_of_lt_of_le H2.out.lt sN,Nat.le_trans sW sN⟩
 have HL3:Hid _:=hl3
 have HS3:Hid _:=hS
 clear own3 hv3 ha3 hl3 o3 hr1 hr2 CA CB md
 refine take_q 11 5 (.slice a3 l.length c3) hS ?_
 simp only [Act.put,lsA,lsZ,lsS]
 refine wpAnyH_done (by kernel_rfl) ?_ _
 have G0:Hid _:=H0.out.off HS3.out (fun h=>h)
 have G1:Hid _:=H1.out.off HS3.out (fun h=>h)
 have HG2:Hid _:=H2.out.off HS3.out (fun h=>h)
 have OW3:=HOW2.out.trans HS3.out (fun _ _ h=>h)
 obtain ⟨m,hm⟩:∃ m,m=min l.length 16:=⟨_,rfl⟩
 have hmin:=min_any l.length m hm
 obtain ⟨ht,hrt⟩:=HMD.out.take m (by omega)
 obtain ⟨lt,hlt⟩:∃ lt,lt=l.take m:=⟨_,rfl⟩
 rw [← hlt] at ht hrt
 have HLT:Hid _:=hlt
 clear hlt
 have HMM:Hid _:=hm
 have HRT:Hid _:=hrt
 have HOW3:Hid _:=OW3
 clear hm hrt H0 H1 H2 HOW2 HS3 OW3 hS HR1 HR2 HMD
 go_wp2_with fail
 refine wp_region_held_drew (S:=fun w'=>Off (fun c=>c=q2) v3 w') (by kernel_rfl) ((Off.refl _ v3).drew) (fun hS=>?_)
 refine take_q 0 26 (.pointer (some ⟨q0,0,none⟩)) hS ?_
 simp only [Act.put,lsA,lsZ,lsS]
 refine take_r 1 27 (.agg #[.int .i64 (f 0),.int .i64 (f 1),.int .i64 (f 2),.int .i64 (f 3),.int .i64 (f 4),.int .i64 (f 5),.int .i64 (f 6),.int .i64 (f 7)]) rfl (Or.inl ⟨by rfl,fun w' hw'=>by obtain ⟨x0,x1,x2,x3,x4,x5,x6,x7,x8⟩:=cel9 (G0.out.off hw' HN0.out); go_simp⟩) hS ?_
 simp only [Act.put,lsA,lsZ,lsS]
 refine take_q 2 28 (.pointer (some ⟨q1,0,none⟩)) hS ?_
 simp only [Act.put,lsA,lsZ,lsS]
 refine take_r 3 29 (.agg #[.int .i64 (g 0),.int .i64 (g 1),.int .i64 (g 2),.int .i64 (g 3),.int .i64 (g 4),.int .i64 (g 5),.int .i64 (g 6),.int .i64 (g 7)]) rfl (Or.inl ⟨by rfl,fun w' hw'=>by obtain ⟨x0,x1,x2,x3,x4,x5,x6,x7,x8⟩:=cel9 (G1.out.off hw' HN1.out); go_simp⟩) hS ?_
 simp only [Act.put,lsA,lsZ,lsS]
 refine take_q 5 31 (.slice a3 l.length c3) hS ?_
 simp only [Act.put,lsA,lsZ,lsS]
 refine take_q 6 32 (.slice a3 l.length c3) hS ?_
 simp only [Act.put,lsA,lsZ,lsS]
 refine take_q 7 33 (.int .i64 (l.length:Int)) hS ?_
 simp only [Act.put,lsA,lsZ,lsS]
 refine take_q 8 34 (.int .i64 (m:Int)) hS ?_
 simp only [Act.put,lsA,lsZ,lsS]
 refine take_q 9 35 (.slice a3 lt.length c3) hS ?_
 simp only [Act.put,lsA,lsZ,lsS]
 refine wpAnyH_ready (rs:=[4]) (by kernel_rfl) (by simp) ?_
 refine AllReadyH.cons rfl (fun K' hK'=>?_) AllReadyH.nil
 go_simp
 refine (join_any f g _).mono ?_
 rintro e v4 ⟨h,rfl,hh,o4⟩
 have hS4:=hS.trans o4 (fun _ _ h=>h.elim)
 refine hK'.out _ _ hS4 (fun hS=>?_)
 clear hK' K' hS4
 have G2:=HG2.out.off ((Off.refl (fun _=>False) v3).drew.trans o4 (fun _ _ h=>h)) (fun h=>h)
 have O4:=(Off.refl (fun _=>False) v3).drew.trans o4 (fun _ _ h=>h)
 obtain ⟨x0,x1,x2,x3,x4,x5,x6,x7,x8⟩:=cel9 G2
 have fz:=G2.free
 have HHH:Hid _:=hh
 clear hh
 refine take_q 10 36 (.agg #[.int .i64 (h 0),.int .i64 (h 1),.int .i64 (h 2),.int .i64 (h 3),.int .i64 (h 4),.int .i64 (h 5),.int .i64 (h 6),.int .i64 (h 7),.slice a3 lt.length c3]) hS ?_
 simp only [Act.put,lsA,lsZ,lsS]
 refine wpAnyH_ready (rs:=[11]) (by kernel_rfl) (by simp) ?_
 refine AllReadyH.cons rfl (fun K' hK'=>?_) AllReadyH.nil
 go_simp
 have hS5:=hS.st9 (b:=q2) (.inl rfl) h (.slice a3 lt.length c3)
 refine hK'.out _ _ hS5 (fun hS=>?_)
 clear hK' K' hS5
 refine wpAnyH_done (by kernel_rfl) ?_ _
 go_wp2_with fail
 refine bodyPost_ret (results_sibs rfl rfl (G2.st9 h (.slice a3 lt.length c3))) rfl ?_
 have OZ:=HOW3.out.trans O4 (fun _ _ h=>h)
 have hlo:=HQ2.out
 refine ⟨maxV f g,a3,c3,lt,by rw [vec_ext (g:=maxV f g) HHH.out],HJ.out.1.symm,?_,?_,OZ.st9 (.inr hlo) h _⟩
 ·rw [HJ.out.2,← HL3.out,HLT.out]
  have hm:=HMM.out
  simp only [cont,List.map_take]
  rw [hm]
  rcases Nat.le_total l.length 16 with h9 | h9
  ·rw [Nat.min_eq_left h9,List.take_of_length_le (by simp),List.take_of_length_le (by simpa using h9)]
  ·rw [Nat.min_eq_right h9]
 ·refine Made.mono (N:=v2.heap.size) ?_ HQV.out.2
  refine (HRT.out.off O4).offN ((Off.refl (fun c=>c=q2) v4).st9 (.inl rfl) h _) (fun k hk e=>?_)
  have:=HQV.out.1
  omega
end Go.Proofs.YthjbnpaghiojlaaGreat
