/- Items of several texts. -/
import Derived.Test.YthjbnpaghiojlaaGreatKOrdQ
import Derived.Test.YthjbnpaghiojlaaGreatKTop
namespace Go.Proofs.YthjbnpaghiojlaaGreat
open Go.RowKit
theorem Tab.boxed {p b:Nat} {t:List E} {x:E} {w w5 w':World} {D:Nat→Prop} (h0:Tab p b t w) (o0:Off (fun c=>c=b) w w') (h5:Tab p b (putG E.key x t) w5) (o5:Off D w5 w') (hp:¬ D p) (hb:¬ D b) (hx:Row w' x.a x.cap x.l):Tab p b (putG E.key x t) w' :=
 ⟨h5.cel.off o5 hp,om_off h5.own o5 hb,h5.sor,fun e he=>by
  rcases (mem_putG E.key).1 he with rfl | ⟨he,-⟩
  ·exact hx
  ·exact (h0.row e he).offN o0 h0.noI,h5.len,h5.few⟩
set_option maxRecDepth 100000 in
set_option maxHeartbeats 2000000 in
theorem tjoin_any (p b:Nat) (t:List E) (k:ByteArray) (f:Nat→Int) (a:Option Addr) (ca:Nat) (l:List V) (w:World) (h:Tab p b t w) (hr:Row w a ca l) :
  Calls Tryz.prog 95 #[.pointer (some ⟨p,0,none⟩),.agg #[.string k,.int .i64 (f 0),.int .i64 (f 1),.int .i64 (f 2),.int .i64 (f 3),.int .i64 (f 4),.int .i64 (f 5),.int .i64 (f 6),.int .i64 (f 7),.slice a l.length ca]] w fun e w'=>∃ (g:Nat→Int) (a':Option Addr) (c':Nat) (l':List V) (sm:Bool) (er:Int) (t':List E),e=.returned (.tuple #[.agg #[.int .i64 (g 0),.int .i64 (g 1),.int .i64 (g 2),.int .i64 (g 3),.int .i64 (g 4),.int .i64 (g 5),.int .i64 (g 6),.int .i64 (g 7),.slice a' l'.length c'],.bool sm,.int .i64 er])∧joinR (absE t) k f (cont l)=⟨absE t',g,cont l',sm,er⟩∧Row w' a' c' l'∧Far w.heap.size a' l'∧Tab p b t' w'∧(∀ e ∈ t',e ∈ t∨Far w.heap.size e.a e.l)∧Off (fun c=>c=b) w w':=by
 have hq:=eql_ptr
 obtain ⟨W,hW⟩:∃ W,W=((w.alloc (.cells #[.string k,.int .i64 (f 0),.int .i64 (f 1),.int .i64 (f 2),.int .i64 (f 3),.int .i64 (f 4),.int .i64 (f 5),.int .i64 (f 6),.int .i64 (f 7),.slice a l.length ca] 68)).alloc (.cells #[.int .i64 (zer 0),.int .i64 (zer 1),.int .i64 (zer 2),.int .i64 (zer 3),.int .i64 (zer 4),.int .i64 (zer 5),.int .i64 (zer 6),.int .i64 (zer 7),.slice none 0 0] 47)):=⟨_,rfl⟩
 have O:Off (fun _=>False) w W:=by rw [hW]; exact ((Off.refl _ w).alloc _).alloc _
 have C0:Cel w.heap.size 68 #[.string k,.int .i64 (f 0),.int .i64 (f 1),.int .i64 (f 2),.int .i64 (f 3),.int .i64 (f 4),.int .i64 (f 5),.int .i64 (f 6),.int .i64 (f 7),.slice a l.length ca] W:=by rw [hW]; exact (Cel.new w _ _).alloc _
 have C1:Cel (w.heap.size + 1) 47 #[.int .i64 (zer 0),.int .i64 (zer 1),.int .i64 (zer 2),.int .i64 (zer 3),.int .i64 (zer 4),.int .i64 (zer 5),.int .i64 (zer 6),.int .i64 (zer 7),.slice none 0 0] W:=by rw [hW]; exact Cel.new1 w _ _ _
 have T0:=h.free O
 have R0:=hr.off O
 obtain ⟨x0,x1,x2,x3,x4,x5,x6,x7,x8,x9⟩:=cel10 C0
 have HT:Hid (Tab p b t w):=h
 have HTW:Hid _:=T0
 have HRW:Hid _:=R0
 have HA0:Hid _:=C0
 have HA1:Hid _:=C1
 have HO:Hid _:=O
 have HW:Hid _:=hW
 clear h hr T0 R0 C0 C1 O hW
 go_enter Tryz.func95,Tryz.ntmps95
 go_upto_region 1 with fail
 rw [show ((w.alloc (.cells #[.string k,.int .i64 (f 0),.int .i64 (f 1),.int .i64 (f 2),.int .i64 (f 3),.int .i64 (f 4),.int .i64 (f 5),.int .i64 (f 6),.int .i64 (f 7),.slice a l.length ca] 68)).alloc (.cells #[.int .i64 0,.int .i64 0,.int .i64 0,.int .i64 0,.int .i64 0,.int .i64 0,.int .i64 0,.int .i64 0,.slice none 0 0] 47))=W from HW.out.symm]
 go_wp2_with fail
 refine (smayentry_any k f a ca l _ HRW.out).mono ?_
 clear x0 x1 x2 x3 x4 x5 x6 x7 x8 x9
 cases hm:(keyB k && mayS f (cont l))
 ·rintro e V ⟨rfl,o1⟩
  have HD1:Hid _:=HA1.out.off o1 (fun h=>h)
  have HTV:Hid _:=HTW.out.free o1
  have HOV:Hid _:=HO.out.trans o1 (fun _ _ h=>h)
  clear o1
  obtain ⟨z0,z1,z2,z3,z4,z5,z6,z7,z8⟩:=cel9 HD1.out
  have fr:=HD1.out.free
  go_wp2_with fail
  refine bodyPost_ret (results_sibs3 rfl rfl rfl rfl (HD1.out.st9 zer (.slice none 0 0))) rfl ?_
  have OZ:=HOV.out.st9 (b:=w.heap.size + 1) (.inr (by omega)) zer (.slice none 0 0)
  exact ⟨zer,none,0,[],false,1,t,rfl,joinR_arg hm,Row.nil _ none 0 (by omega),Far.nil _,HT.out.free OZ,fun e he=>.inl he,OZ.mono (fun _ _ h=>h.elim)⟩
 ·rintro e w1 ⟨rfl,o1⟩
  have HM:Hid _:=hm
  have hkm:Hid (k.size≤maxLen):=by
   simp only [keyB,Bool.and_eq_true,decide_eq_true_eq] at hm
   show _≤_
   unfold maxLen
   omega
  have HK32:Hid (k.size≤32):=by
   simp only [keyB,Bool.and_eq_true,decide_eq_true_eq] at hm
   exact hm.1.2
  obtain ⟨u,hu⟩:∃ u,u=getE t k:=⟨_,rfl⟩
  obtain ⟨th,hth⟩:∃ th,th=(fndG E.key k t).isSome:=⟨_,rfl⟩
  have HU:Hid _:=hu
  have HTH:Hid _:=hth
  have HRU:Hid (Row w1 u.a u.cap u.l):=by rw [hu]; exact getE_row (HTW.out.free o1) k
  have HT1:Hid _:=HTW.out.free o1
  have HR1:Hid _:=HRW.out.off o1
  have HC0:Hid _:=HA0.out.off o1 (fun h=>h)
  have HC1:Hid _:=HA1.out.off o1 (fun h=>h)
  have HO1:Hid _:=HO.out.trans o1 (fun _ _ h=>h)
  clear o1 hm hu hth HTW HRW HA0 HA1 HO HW
  go_wp2_with fail
  refine wp_region_held_drew (S:=fun w'=>Off (fun _=>False) w1 w') (by kernel_rfl) ((Off.refl _ w1).drew) (fun hS=>?_)
  refine take_q 0 19 (.pointer (some ⟨p,0,none⟩)) hS ?_
  simp only [Act.put,lsA,lsZ,lsS]
  refine take_q 1 20 (.pointer (some ⟨p,0,none⟩)) hS ?_
  simp only [Act.put,lsA,lsZ,lsS]
  refine take_q 2 21 (.pointer (some ⟨p,0,none⟩)) hS ?_
  simp only [Act.put,lsA,lsZ,lsS]
  refine take_r 3 22 (.map (some b)) rfl (Or.inl ⟨by rfl,fun w' hw'=>by have e:=(HT1.out.free hw').cel.cell 0; simp only [List.getElem?_toArray,List.getElem?_cons_zero] at e; go_simp⟩) hS ?_
  simp only [Act.put,lsA,lsZ,lsS]
  refine take_q 4 23 (.pointer (some ⟨w.heap.size,0,none⟩)) hS ?_
  simp only [Act.put,lsA,lsZ,lsS]
  refine take_r 5 24 (.string k) rfl (Or.inl ⟨by rfl,fun w' hw'=>by obtain ⟨x0,x1,x2,x3,x4,x5,x6,x7,x8,x9⟩:=cel10 (HC0.out.off hw' (fun h=>h)); go_simp⟩) hS ?_
  simp only [Act.put,lsA,lsZ,lsS]
  refine take_r 6 25 (.tuple #[.agg #[.int .i64 (u.f 0),.int .i64 (u.f 1),.int .i64 (u.f 2),.int .i64 (u.f 3),.int .i64 (u.f 4),.int .i64 (u.f 5),.int .i64 (u.f 6),.int .i64 (u.f 7),.slice u.a u.l.length u.cap],.bool th]) rfl (Or.inl ⟨by rfl,fun w' hw'=>by have e:=(HT1.out.free hw').look hkm.out; rw [← HU.out,← HTH.out] at e; unfold E.val at e; go_simp⟩) hS ?_
  simp only [Act.put,lsA,lsZ,lsS]
  refine take_q 7 18 (.tuple #[.agg #[.int .i64 (u.f 0),.int .i64 (u.f 1),.int .i64 (u.f 2),.int .i64 (u.f 3),.int .i64 (u.f 4),.int .i64 (u.f 5),.int .i64 (u.f 6),.int .i64 (u.f 7),.slice u.a u.l.length u.cap],.bool th]) hS ?_
  simp only [Act.put,lsA,lsZ,lsS]
  refine take_q 8 26 (.agg #[.int .i64 (u.f 0),.int .i64 (u.f 1),.int .i64 (u.f 2),.int .i64 (u.f 3),.int .i64 (u.f 4),.int .i64 (u.f 5),.int .i64 (u.f 6),.int .i64 (u.f 7),.slice u.a u.l.length u.cap]) hS ?_
  simp only [Act.put,lsA,lsZ,lsS]
  refine take_q 9 27 (.bool th) hS ?_
  simp only [Act.put,lsA,lsZ,lsS]
  refine wpAnyH_ready (rs:=[10]) (by kernel_rfl) (by simp) ?_
  refine AllReadyH.cons rfl (fun K' hK'=>?_) AllReadyH.nil
  go_simp
  refine hK'.out _ _ (hS.alloc _) (fun hS=>?_)
  clear hK' K'
  have DQ:Cel w1.heap.size 47 #[.int .i64 (zer 0),.int .i64 (zer 1),.int .i64 (zer 2),.int .i64 (zer 3),.int .i64 (zer 4),.int .i64 (zer 5),.int .i64 (zer 6),.int .i64 (zer 7),.slice none 0 0] (w1.alloc (.cells #[.int .i64 0,.int .i64 0,.int .i64 0,.int .i64 0,.int .i64 0,.int .i64 0,.int .i64 0,.int .i64 0,.slice none 0 0] 47)).drew:=(Cel.new w1 _ _).drew
  generalize hV0:(w1.alloc (.cells #[.int .i64 0,.int .i64 0,.int .i64 0,.int .i64 0,.int .i64 0,.int .i64 0,.int .i64 0,.int .i64 0,.slice none 0 0] 47)).drew=V0 at DQ hS ⊢
  generalize hQ:w1.heap.size=q7 at DQ ⊢
  have HQ7:Hid (w1.heap.size≤q7):=by show _≤_; omega
  clear hV0 hQ
  obtain ⟨x0,x1,x2,x3,x4,x5,x6,x7,x8⟩:=cel9 DQ
  have fz:=DQ.free
  refine wpAnyH_ready (rs:=[11]) (by kernel_rfl) (by simp) ?_
  refine AllReadyH.cons rfl (fun K' hK'=>?_) AllReadyH.nil
  go_simp
  have hS5:=hS.st9 (b:=q7) (.inr HQ7.out) u.f (.slice u.a u.l.length u.cap)
  refine hK'.out _ _ hS5 (fun hS=>?_)
  clear hK' K' hS5
  have ZQ:=DQ.st9 u.f (.slice u.a u.l.length u.cap)
  clear DQ fz x0 x1 x2 x3 x4 x5 x6 x7 x8
  generalize hV:(((((((((V0.setCell ⟨q7,0,none⟩ (.int .i64 (u.f 0))).setCell ⟨q7,1,none⟩ (.int .i64 (u.f 1))).setCell ⟨q7,2,none⟩ (.int .i64 (u.f 2))).setCell ⟨q7,3,none⟩ (.int .i64 (u.f 3))).setCell ⟨q7,4,none⟩ (.int .i64 (u.f 4))).setCell ⟨q7,5,none⟩ (.int .i64 (u.f 5))).setCell ⟨q7,6,none⟩ (.int .i64 (u.f 6))).setCell ⟨q7,7,none⟩ (.int .i64 (u.f 7))).setCell ⟨q7,8,none⟩ (.slice u.a u.l.length u.cap))=V at ZQ hS ⊢
  clear hV
  refine take_q 12 8 (.bool th) hS ?_
  simp only [Act.put,lsA,lsZ,lsS]
  refine wpAnyH_done (by kernel_rfl) ?_ _
  have HZ:Hid _:=ZQ
  have HOV:Hid _:=HO1.out.trans hS (fun _ _ h=>h)
  have HTV:Hid _:=HT1.out.free hS
  have HRV:Hid _:=HR1.out.off hS
  have HUV:Hid _:=HRU.out.off hS
  have HD0:Hid _:=HC0.out.off hS (fun h=>h)
  have HD1:Hid _:=HC1.out.off hS (fun h=>h)
  have hVs:Hid (w.heap.size + 2≤V.heap.size):=by have h1:=HD1.out.lt; show _≤_; omega
  clear ZQ hS
  have hlen:=HTV.out.len_
  have c0:V.cell? ⟨p,0,none⟩=some (.map (some b)):=HTV.out.cel.cell 0
  have hfk:fndG K.key k (absE t)=(fndG E.key k t).map E.abs:=(abs_fnd k t).symm
  have hu:=HU.out
  unfold getE at hu
  have hth:=HTH.out
  cases hf:fndG E.key k t with
  | none =>
   rw [hf] at hth hfk hu
   obtain rfl:th=false:=hth
   have HUZ:Hid (u=zE k):=hu
   have HFK:Hid (fndG K.key k (absE t)=none):=hfk
   clear hu hfk hf
   by_cases hful:256≤t.length
   ·have e1:decide ((256:Int)≤(t.length:Int))=true:=decide_eq_true (by omega)
    have e2:decide (256≤t.length)=true:=decide_eq_true hful
    have HNF:Hid (256≤t.length):=hful
    clear hful
    obtain ⟨z0,z1,z2,z3,z4,z5,z6,z7,z8⟩:=cel9 HD1.out
    have fr:=HD1.out.free
    go_wp2_with fail
    refine bodyPost_ret (results_sibs3 rfl rfl rfl rfl (HD1.out.st9 zer (.slice none 0 0))) rfl ?_
    have OZ:=HOV.out.st9 (b:=w.heap.size + 1) (.inr (by omega)) zer (.slice none 0 0)
    exact ⟨zer,none,0,[],false,11,t,rfl,joinR_full HM.out HFK.out (by rw [absE_len]; exact HNF.out),Row.nil _ none 0 (by omega),Far.nil _,HT.out.free OZ,fun e he=>.inl he,OZ.mono (fun _ _ h=>h.elim)⟩
   ·have e1:decide ((256:Int)≤(t.length:Int))=false:=decide_eq_false (by omega)
    have e2:decide (256≤t.length)=false:=decide_eq_false hful
    have HPL:Hid (∀ x:E,x.key=k→(putG E.key x t).length≤256):=fun x _=>by
     have h1:=put_len HT.out.sor x
     omega
    have HNF:Hid (¬ 256≤t.length):=hful
    clear hful
    obtain ⟨x0,x1,x2,x3,x4,x5,x6,x7,x8⟩:=cel9 HZ.out
    obtain ⟨y0,y1,y2,y3,y4,y5,y6,y7,y8,y9⟩:=cel10 HD0.out
    go_wp2_with fail
    clear x0 x1 x2 x3 x4 x5 x6 x7 x8 y0 y1 y2 y3 y4 y5 y6 y7 y8 y9
    refine (sjoin_any u.f f u.a a u.cap ca u.l l _ HUV.out HRV.out).mono ?_
    rintro e w2 ⟨j,aj,cj,lj,rfl,hj,hlj,mj,o2⟩
    have HJ:Hid _:=hj
    have HLJ:Hid _:=hlj
    clear hj hlj
    go_upto_region 7 with fail
    have Cq9:=Cel.new w2 47 #[.int .i64 (j 0),.int .i64 (j 1),.int .i64 (j 2),.int .i64 (j 3),.int .i64 (j 4),.int .i64 (j 5),.int .i64 (j 6),.int .i64 (j 7),.slice aj lj.length cj]
    have OA:Off (fun _=>False) w2 (w2.alloc (.cells #[.int .i64 (j 0),.int .i64 (j 1),.int .i64 (j 2),.int .i64 (j 3),.int .i64 (j 4),.int .i64 (j 5),.int .i64 (j 6),.int .i64 (j 7),.slice aj lj.length cj] 47)):=(Off.refl _ w2).alloc _
    generalize hq:w2.heap.size=q9 at Cq9 ⊢
    generalize hv:w2.alloc (.cells #[.int .i64 (j 0),.int .i64 (j 1),.int .i64 (j 2),.int .i64 (j 3),.int .i64 (j 4),.int .i64 (j 5),.int .i64 (j 6),.int .i64 (j 7),.slice aj lj.length cj] 47)=V9 at Cq9 OA ⊢
    clear hq hv
    have O9:=o2.trans OA (fun _ _ h=>h)
    have HC9:Hid _:=Cq9
    have HF9:Hid _:=mj.far
    have HR9:Hid _:=mj.row.off OA
    have HT9:Hid _:=HTV.out.free O9
    have HU9:Hid _:=HUV.out.off O9
    have HE0:Hid _:=HD0.out.off O9 (fun h=>h)
    have HE1:Hid _:=HD1.out.off O9 (fun h=>h)
    have HZ9:Hid _:=HZ.out.off O9 (fun h=>h)
    have HO9:Hid _:=HOV.out.trans O9 (fun _ _ h=>h)
    have hj16:Hid (lj.length≤16):=by have h1:=@join_len16 u.f f (cont u.l) (cont l); rw [← HLJ.out,cont_len] at h1; exact h1
    clear O9 OA o2 mj Cq9
    obtain ⟨x0,x1,x2,x3,x4,x5,x6,x7,x8⟩:=cel9 HC9.out
    obtain ⟨y0,y1,y2,y3,y4,y5,y6,y7,y8,y9⟩:=cel10 HE0.out
    go_wp2_with fail
    clear x0 x1 x2 x3 x4 x5 x6 x7 x8 y0 y1 y2 y3 y4 y5 y6 y7 y8 y9
    refine (keep_any p b t ⟨k,j,aj,cj,lj⟩ _ HT9.out HR9.out HK32.out (HPL.out _ rfl)).mono ?_
    rintro e w3 ⟨rfl,tb,o3⟩
    have hN:=HT9.out.noI
    have qb1:¬ q9=b:=HT9.out.ne HC9.out
    have qb2:¬ q7=b:=HT9.out.ne HZ9.out
    have qb3:¬ w.heap.size + 1=b:=HT9.out.ne HE1.out
    have HC3:Hid _:=HC9.out.off o3 qb1
    have HZ3:Hid _:=HZ9.out.off o3 qb2
    have HE3:Hid _:=HE1.out.off o3 qb3
    have HR3:Hid _:=HR9.out.offN o3 hN
    have HU3:Hid _:=HU9.out.offN o3 hN
    have HTB:Hid _:=tb
    have HQB3:Hid _:=qb3
    have HO3:Hid (Off (fun c=>c=b) w w3):=(HO9.out.mono (fun _ _ h=>h.elim)).trans o3 (fun _ _ h=>h)
    clear hN qb1 qb2 qb3 tb o3
    obtain ⟨x0,x1,x2,x3,x4,x5,x6,x7,x8⟩:=cel9 HC3.out
    go_wp2_with fail
    clear x0 x1 x2 x3 x4 x5 x6 x7 x8
    refine (tcopy_any j aj cj lj _ HR3.out (by have:=hj16.out; omega)).mono ?_
    rintro e w4 ⟨ac,cc,lc,rfl,hcc,hrc,hfc,o4⟩
    have HCC:Hid _:=hcc
    have HRC:Hid _:=hrc
    have HFC:Hid _:=hfc
    have HE4:Hid _:=HE3.out.off o4 (fun h=>h)
    have HO4:Hid _:=HO3.out.trans o4 (fun _ _ h=>h.elim)
    have HT4:Hid _:=HTB.out.free o4
    have hs3:Hid (w.heap.size + 2≤w3.heap.size):=by have h1:=HE3.out.lt; show _≤_; omega
    have HR5:Hid _:=HR3.out.off o4
    clear hcc hrc hfc o4
    have HE5:Hid _:=HE4.out
    have HO5:Hid _:=HO4.out
    have HT5:Hid _:=HT4.out
    have HRC5:Hid _:=HRC.out
    obtain ⟨z0,z1,z2,z3,z4,z5,z6,z7,z8⟩:=cel9 HE5.out
    have fr:=HE5.out.free
    go_wp2_with fail
    refine bodyPost_ret (results_sibs3 rfl rfl rfl rfl (HE5.out.st9 j (.slice ac lc.length cc))) rfl ?_
    have OZ:=HO5.out.st9 (b:=w.heap.size + 1) (.inr (by omega)) j (.slice ac lc.length cc)
    have OB:=(Off.refl (fun x=>x=w.heap.size + 1) w4).st9 (.inl rfl) j (.slice ac lc.length cc)
    refine ⟨j,ac,cc,lc,false,0,putG E.key ⟨k,j,aj,cj,lj⟩ t,rfl,?_,HRC5.out.offF HFC.out OB (fun x hx e=>by have:=hs3.out; omega),HFC.out.mono (by have:=hs3.out; omega),Tab.boxed HT.out OZ HT5.out OB (fun e=>by have h1:=HT.out.cel.lt; omega) (fun e=>HQB3.out e.symm) (HR5.out.offF HF9.out OB (fun x hx e=>by have:=hVs.out; omega)),fun e he=>((mem_putG E.key).1 he).elim (fun h=>.inr (h ▸ HF9.out.mono (by have:=hVs.out; omega))) (fun h=>.inl h.1),OZ⟩
    rw [abs_put,HCC.out]
    show _=(⟨putG K.key ⟨k,j,cont lj⟩ (absE t),j,cont lj,false,0⟩:JR)
    rw [HLJ.out,HJ.out]
    have e:=joinR_new HM.out HFK.out (by rw [absE_len]; exact HNF.out)
    rw [HUZ.out]
    exact e
  | some x =>
   rw [hf] at hth hfk hu
   obtain rfl:th=true:=hth
   have HFK:Hid (fndG K.key k (absE t)=some u.abs):=by rw [hu]; exact hfk
   have HPL:Hid (∀ x:E,x.key=k→(putG E.key x t).length≤256):=fun y hy=>by
    rw [len_putG E.key HT.out.sor,hy,hf]
    exact HT.out.few
   clear hu hfk hf
   obtain ⟨x0,x1,x2,x3,x4,x5,x6,x7,x8⟩:=cel9 HZ.out
   obtain ⟨y0,y1,y2,y3,y4,y5,y6,y7,y8,y9⟩:=cel10 HD0.out
   go_wp2_with fail
   clear x0 x1 x2 x3 x4 x5 x6 x7 x8 y0 y1 y2 y3 y4 y5 y6 y7 y8 y9
   refine (sjoin_any u.f f u.a a u.cap ca u.l l _ HUV.out HRV.out).mono ?_
   rintro e w2 ⟨j,aj,cj,lj,rfl,hj,hlj,mj,o2⟩
   have HJ:Hid _:=hj
   have HLJ:Hid _:=hlj
   clear hj hlj
   go_upto_region 7 with fail
   have Cq9:=Cel.new w2 47 #[.int .i64 (j 0),.int .i64 (j 1),.int .i64 (j 2),.int .i64 (j 3),.int .i64 (j 4),.int .i64 (j 5),.int .i64 (j 6),.int .i64 (j 7),.slice aj lj.length cj]
   have OA:Off (fun _=>False) w2 (w2.alloc (.cells #[.int .i64 (j 0),.int .i64 (j 1),.int .i64 (j 2),.int .i64 (j 3),.int .i64 (j 4),.int .i64 (j 5),.int .i64 (j 6),.int .i64 (j 7),.slice aj lj.length cj] 47)):=(Off.refl _ w2).alloc _
   generalize hq:w2.heap.size=q9 at Cq9 ⊢
   generalize hv:w2.alloc (.cells #[.int .i64 (j 0),.int .i64 (j 1),.int .i64 (j 2),.int .i64 (j 3),.int .i64 (j 4),.int .i64 (j 5),.int .i64 (j 6),.int .i64 (j 7),.slice aj lj.length cj] 47)=V9 at Cq9 OA ⊢
   clear hq hv
   have O9:=o2.trans OA (fun _ _ h=>h)
   have HC9:Hid _:=Cq9
   have HF9:Hid _:=mj.far
   have HR9:Hid _:=mj.row.off OA
   have HT9:Hid _:=HTV.out.free O9
   have HU9:Hid _:=HUV.out.off O9
   have HE0:Hid _:=HD0.out.off O9 (fun h=>h)
   have HE1:Hid _:=HD1.out.off O9 (fun h=>h)
   have HZ9:Hid _:=HZ.out.off O9 (fun h=>h)
   have HO9:Hid _:=HOV.out.trans O9 (fun _ _ h=>h)
   have hj16:Hid (lj.length≤16):=by have h1:=@join_len16 u.f f (cont u.l) (cont l); rw [← HLJ.out,cont_len] at h1; exact h1
   clear O9 OA o2 mj Cq9
   obtain ⟨x0,x1,x2,x3,x4,x5,x6,x7,x8⟩:=cel9 HC9.out
   obtain ⟨y0,y1,y2,y3,y4,y5,y6,y7,y8,y9⟩:=cel10 HE0.out
   go_wp2_with fail
   clear x0 x1 x2 x3 x4 x5 x6 x7 x8 y0 y1 y2 y3 y4 y5 y6 y7 y8 y9
   refine (keep_any p b t ⟨k,j,aj,cj,lj⟩ _ HT9.out HR9.out HK32.out (HPL.out _ rfl)).mono ?_
   rintro e w3 ⟨rfl,tb,o3⟩
   have hN:=HT9.out.noI
   have qb1:¬ q9=b:=HT9.out.ne HC9.out
   have qb2:¬ q7=b:=HT9.out.ne HZ9.out
   have qb3:¬ w.heap.size + 1=b:=HT9.out.ne HE1.out
   have HC3:Hid _:=HC9.out.off o3 qb1
   have HZ3:Hid _:=HZ9.out.off o3 qb2
   have HE3:Hid _:=HE1.out.off o3 qb3
   have HR3:Hid _:=HR9.out.offN o3 hN
   have HU3:Hid _:=HU9.out.offN o3 hN
   have HTB:Hid _:=tb
   have HQB3:Hid _:=qb3
   have HO3:Hid (Off (fun c=>c=b) w w3):=(HO9.out.mono (fun _ _ h=>h.elim)).trans o3 (fun _ _ h=>h)
   clear hN qb1 qb2 qb3 tb o3
   obtain ⟨x0,x1,x2,x3,x4,x5,x6,x7,x8⟩:=cel9 HC3.out
   go_wp2_with fail
   clear x0 x1 x2 x3 x4 x5 x6 x7 x8
   refine (tcopy_any j aj cj lj _ HR3.out (by have:=hj16.out; omega)).mono ?_
   rintro e w4 ⟨ac,cc,lc,rfl,hcc,hrc,hfc,o4⟩
   have HCC:Hid _:=hcc
   have HRC:Hid _:=hrc
   have HFC:Hid _:=hfc
   have HE4:Hid _:=HE3.out.off o4 (fun h=>h)
   have HO4:Hid _:=HO3.out.trans o4 (fun _ _ h=>h.elim)
   have HT4:Hid _:=HTB.out.free o4
   have hs3:Hid (w.heap.size + 2≤w3.heap.size):=by have h1:=HE3.out.lt; show _≤_; omega
   have HC4:Hid _:=HC3.out.off o4 (fun h=>h)
   have HZ4:Hid _:=HZ3.out.off o4 (fun h=>h)
   have HR4:Hid _:=HR3.out.off o4
   have HU4:Hid _:=HU3.out.off o4
   clear hcc hrc hfc o4
   obtain ⟨x0,x1,x2,x3,x4,x5,x6,x7,x8⟩:=cel9 HC4.out
   obtain ⟨y0,y1,y2,y3,y4,y5,y6,y7,y8⟩:=cel9 HZ4.out
   go_wp2_with fail
   clear x0 x1 x2 x3 x4 x5 x6 x7 x8 y0 y1 y2 y3 y4 y5 y6 y7 y8
   refine (ssame_any u.f j u.a aj u.cap cj u.l lj _ HU4.out HR4.out).mono ?_
   rintro e w5 ⟨rfl,o5⟩
   have HE5:Hid _:=HE4.out.off o5 (fun h=>h)
   have HO5:Hid _:=HO4.out.trans o5 (fun _ _ h=>h.elim)
   have HT5:Hid _:=HT4.out.free o5
   have HRC5:Hid _:=HRC.out.off o5
   have HR5:Hid _:=HR4.out.off o5
   clear o5
   obtain ⟨z0,z1,z2,z3,z4,z5,z6,z7,z8⟩:=cel9 HE5.out
   have fr:=HE5.out.free
   go_wp2_with fail
   refine bodyPost_ret (results_sibs3 rfl rfl rfl rfl (HE5.out.st9 j (.slice ac lc.length cc))) rfl ?_
   have OZ:=HO5.out.st9 (b:=w.heap.size + 1) (.inr (by omega)) j (.slice ac lc.length cc)
   have OB:=(Off.refl (fun x=>x=w.heap.size + 1) w5).st9 (.inl rfl) j (.slice ac lc.length cc)
   refine ⟨j,ac,cc,lc,sameS u.f j (cont u.l) (cont lj),0,putG E.key ⟨k,j,aj,cj,lj⟩ t,rfl,?_,HRC5.out.offF HFC.out OB (fun x hx e=>by have:=hs3.out; omega),HFC.out.mono (by have:=hs3.out; omega),Tab.boxed HT.out OZ HT5.out OB (fun e=>by have h1:=HT.out.cel.lt; omega) (fun e=>HQB3.out e.symm) (HR5.out.offF HF9.out OB (fun x hx e=>by have:=hVs.out; omega)),fun e he=>((mem_putG E.key).1 he).elim (fun h=>.inr (h ▸ HF9.out.mono (by have:=hVs.out; omega))) (fun h=>.inl h.1),OZ⟩
   rw [abs_put,HCC.out]
   show _=(⟨putG K.key ⟨k,j,cont lj⟩ (absE t),j,cont lj,sameS u.f j (cont u.l) (cont lj),0⟩:JR)
   rw [HLJ.out,HJ.out]
   exact joinR_old HM.out HFK.out
end Go.Proofs.YthjbnpaghiojlaaGreat

namespace Go.Proofs.YthjbnpaghiojlaaGreat
open Go.RowKit
structure OkT (X:List K):Prop where
 may:∀ x ∈ X,MayP x.f x.l
 key:∀ x ∈ X,keyB x.key=true
theorem joinR_ways (X:List K) (k:ByteArray) (f:Nat→Int) (l:List A) :
  ((keyB k && mayS f l)=false∧joinR X k f l=⟨X,zer,[],false,1⟩) ∨
  (keyB k=true∧MayP f l∧fndG K.key k X=none∧256≤X.length∧joinR X k f l=⟨X,zer,[],false,11⟩) ∨
  (keyB k=true∧MayP f l∧fndG K.key k X=none∧¬ 256≤X.length∧joinR X k f l=⟨putG K.key ⟨k,joinV zer f [] l,joinL zer f [] l⟩ X,joinV zer f [] l,joinL zer f [] l,false,0⟩) ∨
  ∃ u,keyB k=true∧MayP f l∧fndG K.key k X=some u∧joinR X k f l=⟨putG K.key ⟨k,joinV u.f f u.l l,joinL u.f f u.l l⟩ X,joinV u.f f u.l l,joinL u.f f u.l l,sameS u.f (joinV u.f f u.l l) u.l (joinL u.f f u.l l),0⟩:=by
 cases hm:(keyB k && mayS f l)
 ·exact .inl ⟨rfl,joinR_arg hm⟩
 ·right
  have hk:keyB k=true∧MayP f l:=by
   rw [Bool.and_eq_true] at hm
   exact ⟨hm.1,may_iff.1 hm.2⟩
  cases hf:fndG K.key k X with
  | none =>
   by_cases hn:256≤X.length
   ·exact .inl ⟨hk.1,hk.2,rfl,hn,joinR_full hm hf hn⟩
   ·exact .inr (.inl ⟨hk.1,hk.2,rfl,hn,joinR_new hm hf hn⟩)
  | some u=>exact .inr (.inr ⟨u,hk.1,hk.2,rfl,joinR_old hm hf⟩)
theorem okT_few {t:List E} {X:List K} (h:OkT X) (e:absE t=X):∀ x ∈ t,x.l.length≤1000:=by
 intro x hx
 have:=(h.may x.abs (e ▸ List.mem_map.2 ⟨x,hx,rfl⟩)).few
 have e2:x.abs.l.length=x.l.length:=cont_len x.l
 omega
theorem reap_ok {f:Nat→Int} {l:List A} (h:MayP f l):MayP (reapV f l) (reapL f l):=by
 have hm:=may_yes h
 unfold reapV reapL
 rw [if_pos hm]
 split
 ·exact h
 ·exact ⟨h.seen,by simp,by simp,by simp⟩
end Go.Proofs.YthjbnpaghiojlaaGreat
