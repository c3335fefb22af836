/- Items of several texts. -/
import Derived.Test.YthjbnpaghiojlaaGreatKWRtext
import Derived.Test.YthjbnpaghiojlaaGreatKThy2
import Derived.Test.YthjbnpaghiojlaaGreatKSRead
import Derived.Test.YthjbnpaghiojlaaGreatKGMay
import Derived.Test.YthjbnpaghiojlaaGreatKSRe
import Derived.Test.YthjbnpaghiojlaaGreatKLrc
namespace Go.Proofs.YthjbnpaghiojlaaGreat
open Go.RowKit
theorem kmay_any (s:ByteArray) (w:World):Calls Tryz.prog 62 #[.string s] w fun e w'=>e=.returned (.bool (keyB s))∧w'=w:=by
 by_cases h1:1≤s.size
 ·have e1:decide ((1:Int)≤(s.size:Int))=true:=decide_eq_true (by omega)
  have e1':decide (1≤s.size)=true:=decide_eq_true h1
  by_cases h2:s.size≤32
  ·have e2:decide ((s.size:Int)≤32)=true:=decide_eq_true (by omega)
   have e2':decide (s.size≤32)=true:=decide_eq_true h2
   go_enter Tryz.func62,Tryz.ntmps62
   go_wp2_with fail
   go_ret
   simp [keyB,e1',e2']
  ·have e2:decide ((s.size:Int)≤32)=false:=decide_eq_false (by omega)
   have e2':decide (s.size≤32)=false:=decide_eq_false h2
   go_enter Tryz.func62,Tryz.ntmps62
   go_wp2_with fail
   go_ret
   simp [keyB,e1',e2']
 ·have e1:decide ((1:Int)≤(s.size:Int))=false:=decide_eq_false (by omega)
  have e1':decide (1≤s.size)=false:=decide_eq_false h1
  go_enter Tryz.func62,Tryz.ntmps62
  go_wp2_with fail
  go_ret
  simp [keyB,e1']
theorem rnode_any {D:Nat→Prop} {b:Nat} {s:RS} {w:World} (hR:Rdr 198 D b s w) :
  Calls Tryz.prog 92 #[.pointer (some ⟨b,0,none⟩)] w fun e w'=>e=.returned (.int .i64 (((countS 7 s).1:Nat):Int))∧Rdr 198 D b (countS 7 s).2 w'∧Off (fun c=>c=b) w w':=by
 have HR:Hid _:=hR
 clear hR
 go_enter Tryz.func92,Tryz.ntmps92
 go_wp2_with fail
 refine (rcount_any HR.out 7 (by decide) (by decide)).mono ?_
 rintro e w1 ⟨rfl,h1,h2⟩
 have H1:Hid (Rdr 198 D b (countS 7 s).2 w1):=h1
 have H2:Hid _:=h2
 clear h1 h2
 go_wp2_with fail
 go_ret
 exact ⟨rfl,H1.out,H2.out⟩
theorem rkey_any {D:Nat→Prop} {b:Nat} {s:RS} {w:World} (hR:Rdr 198 D b s w) :
  Calls Tryz.prog 93 #[.pointer (some ⟨b,0,none⟩)] w fun e w'=>e=.returned (.tuple #[.string (strOf (textS 32 s).1),.bool (keyB (strOf (textS 32 s).1))])∧Rdr 198 D b (textS 32 s).2 w'∧Off (fun c=>c=b) w w':=by
 have HR:Hid _:=hR
 clear hR
 go_enter Tryz.func93,Tryz.ntmps93
 go_wp2_with fail
 refine (rtext_any HR.out 32 (by decide) (by decide)).mono ?_
 rintro e w1 ⟨t,c,rfl,own,-,h1,h2⟩
 have hc:=conv_src own.src
 have H1:Hid (Rdr 198 D b (textS 32 s).2 w1):=h1
 have H2:Hid _:=h2
 clear own h1 h2
 obtain ⟨k,hk⟩:∃ k,k=strOf (textS 32 s).1:=⟨_,rfl⟩
 rw [show Int.toNat 32=32 from rfl] at *
 rw [← hk] at hc
 have HK:Hid _:=hk
 clear hk
 go_wp2_with fail
 refine (kmay_any k w1).mono ?_
 rintro e w2 ⟨rfl,hw⟩
 rw [hw]
 clear hw
 go_wp2_with fail
 go_ret2
 exact ⟨by rw [← HK.out]; rfl,H1.out,H2.out⟩
theorem Rdr.dlt {T:TypeId} {D:Nat→Prop} {b:Nat} {s:RS} {w:World} (h:Rdr T D b s w):∀ c,D c→c < w.heap.size:=h.lt
set_option maxRecDepth 100000 in
set_option maxHeartbeats 2000000 in
theorem parse1_any (t:Option Addr) (c:Nat) (bs:List Nat) (w:World) (hs:Src w t c bs) (hlt:∀ b ∈ bs,b < 256) (hl:bs.length≤60000) (s1:RS) (hn:numS (bs,0)=(1,s1)) :
  Calls Tryz.prog 41 #[.slice t bs.length c] w fun e w'=>∃ (kd:Nat) (node:Int) (x:E) (ok:Bool),e=.returned (.tuple #[(.agg #[.int .u64 (kd:Int),.int .i64 node,.string x.key,.int .i64 (x.f 0),.int .i64 (x.f 1),.int .i64 (x.f 2),.int .i64 (x.f 3),.int .i64 (x.f 4),.int .i64 (x.f 5),.int .i64 (x.f 6),.int .i64 (x.f 7),.slice x.a x.l.length x.cap]),.bool ok])∧ok=(prs bs).isSome∧(∀ r,prs bs=some r→r=⟨kd,node,x.abs⟩)∧Row w' x.a x.cap x.l∧Frh w.heap.size x.a x.l∧Off (fun _=>False) w w':=by
 obtain ⟨W,hW⟩:∃ W,W=(w.alloc (.cells #[.int .u64 0,.int .i64 0,.string ⟨#[]⟩,.int .i64 0,.int .i64 0,.int .i64 0,.int .i64 0,.int .i64 0,.int .i64 0,.int .i64 0,.int .i64 0,.slice none 0 0] 103)):=⟨_,rfl⟩
 have O:Off (fun _=>False) w W:=by rw [hW]; exact (Off.refl _ w).alloc _
 have C:Cel w.heap.size 103 #[.int .u64 0,.int .i64 0,.string ⟨#[]⟩,.int .i64 0,.int .i64 0,.int .i64 0,.int .i64 0,.int .i64 0,.int .i64 0,.int .i64 0,.int .i64 0,.slice none 0 0] W:=by rw [hW]; exact Cel.new w _ _
 have HS:Hid _:=hs.off O (fun _ _ _ h=>h)
 have HW:Hid _:=hW
 have HZ0:Hid _:=C
 have HO0:Hid _:=O
 have HN:Hid _:=hn
 clear hW C O hs hn
 go_enter Tryz.func41,Tryz.ntmps41
 go_upto_region 1 with fail
 rw [show (w.alloc (.cells #[.int .u64 0,.int .i64 0,.string ⟨#[]⟩,.int .i64 0,.int .i64 0,.int .i64 0,.int .i64 0,.int .i64 0,.int .i64 0,.int .i64 0,.int .i64 0,.slice none 0 0] 103))=W from HW.out.symm]
 go_wp2_with fail
 refine (newReader_any t c bs (by omega) hlt W HS.out).mono ?_
 rintro e w1 ⟨b,D,rfl,hb,hD,R1,o1⟩
 have HZ1:Hid _:=HZ0.out.off o1 (fun h=>h)
 have HO1:Hid (Off (fun c=>c=b∨D c) w w1):=(HO0.out.trans o1 (fun _ _ h=>h)).mono (fun _ _ h=>h.elim)
 have HB:Hid (w.heap.size < b):=Nat.lt_of_lt_of_le HZ0.out.lt hb
 have HD:Hid (∀ c,D c→w.heap.size < c):=fun c hc=>Nat.lt_of_lt_of_le HZ0.out.lt (hD c hc)
 have HR1:Hid _:=R1
 clear R1 o1 hb hD
 go_wp2_with fail
 refine (rnum_any HR1.out).mono ?_
 rintro e w2 ⟨rfl,R2,o2⟩
 rw [HN.out] at R2 ⊢
 have HZ2:Hid _:=HZ1.out.off o2 (fun h=>by have:=HB.out; omega)
 have HO2:Hid (Off (fun c=>c=b∨D c) w w2):=HO1.out.trans o2 (fun _ _ h=>.inl h)
 have HR2:Hid (Rdr 198 D b s1 w2):=R2
 clear R2 o2 HR1 HZ1 HO1 HS HW HO0
 go_upto_region 3 with fail
 have CQ:Cel w2.heap.size 103 #[.int .u64 1,.int .i64 0,.string ⟨#[]⟩,.int .i64 0,.int .i64 0,.int .i64 0,.int .i64 0,.int .i64 0,.int .i64 0,.int .i64 0,.int .i64 0,.slice none 0 0] (w2.alloc (.cells #[.int .u64 1,.int .i64 0,.string ⟨#[]⟩,.int .i64 0,.int .i64 0,.int .i64 0,.int .i64 0,.int .i64 0,.int .i64 0,.int .i64 0,.int .i64 0,.slice none 0 0] 103)):=Cel.new w2 _ _
 have OA:Off (fun _=>False) w2 (w2.alloc (.cells #[.int .u64 1,.int .i64 0,.string ⟨#[]⟩,.int .i64 0,.int .i64 0,.int .i64 0,.int .i64 0,.int .i64 0,.int .i64 0,.int .i64 0,.int .i64 0,.slice none 0 0] 103)):=(Off.refl _ w2).alloc _
 have hq2:=HR2.out.here
 have hd2:=HR2.out.dlt
 have hzq:=HZ2.out.lt
 generalize hv:w2.alloc (.cells #[.int .u64 1,.int .i64 0,.string ⟨#[]⟩,.int .i64 0,.int .i64 0,.int .i64 0,.int .i64 0,.int .i64 0,.int .i64 0,.int .i64 0,.int .i64 0,.slice none 0 0] 103)=V at CQ OA ⊢
 generalize hq:w2.heap.size=q at CQ hq2 hd2 hzq ⊢
 have HQ3:Hid _:=CQ
 have HZ3:Hid _:=HZ2.out.off OA (fun h=>h)
 have HR3:Hid _:=HR2.out.off OA (fun h=>h) (fun _ _ _ h=>h)
 have HO3:Hid (Off (fun c=>(c=b∨D c)∨c=q) w V):=(HO2.out.trans OA (fun _ _ h=>h.elim)).mono (fun _ _ h=>.inl h)
 have HBQ:Hid (b < q):=hq2
 have HDQ:Hid (∀ c,D c→c < q):=hd2
 have HZQ:Hid (w.heap.size < q):=hzq
 clear hq hv CQ OA hq2 hd2 hzq HR2 HZ2 HO2 HZ0
 obtain ⟨x0,x1,x2,x3,x4,x5,x6,x7,x8,x9,x10,x11⟩:=cel12 HQ3.out
 go_wp2_with fail
 clear x0 x1 x2 x3 x4 x5 x6 x7 x8 x9 x10 x11
 refine (readEntry_any HR3.out).mono ?_
 rintro e v1 ⟨key,h,a',c',l',rfl,hkey,hh,hl',row,frh,R1,o1⟩
 have HQ_v1:Hid _:=HQ3.out.off o1 (fun h=>by have:=HBQ.out; omega)
 have HZ_v1:Hid _:=HZ3.out.off o1 (fun h=>by have:=HB.out; omega)
 have HO_v1:Hid (Off (fun c=>(c=b∨D c)∨c=q) w v1):=HO3.out.trans o1 (fun _ _ h=>.inl (.inl h))
 have HR_v1:Hid _:=R1
 clear R1
 have HKEY:Hid _:=hkey
 have HHH:Hid _:=hh
 have HLL:Hid _:=hl'
 have HROW:Hid _:=row
 have HFRH:Hid (Frh (q + 1) a' l'):=⟨fun x hx=>by have h1:=frh.lo x hx; have h2:=HQ3.out.lt; omega,fun v hv x hx=>by have h1:=frh.val v hv x hx; have h2:=HQ3.out.lt; omega⟩
 clear hkey hh hl' row frh o1
 obtain ⟨x0,x1,x2,x3,x4,x5,x6,x7,x8,x9,x10,x11⟩:=cel12 HQ_v1.out
 have fq:=HQ_v1.out.free
 go_upto_region 15 with fail
 clear x0 x1 x2 x3 x4 x5 x6 x7 x8 x9 x10 x11 fq
 have HQS:=HQ_v1.out
 replace HQS:=HQS.set 2 (.string key)
 simp only [lsA,lsZ,lsS] at HQS
 replace HQS:=HQS.set 3 (.int .i64 (h 0))
 simp only [lsA,lsZ,lsS] at HQS
 replace HQS:=HQS.set 4 (.int .i64 (h 1))
 simp only [lsA,lsZ,lsS] at HQS
 replace HQS:=HQS.set 5 (.int .i64 (h 2))
 simp only [lsA,lsZ,lsS] at HQS
 replace HQS:=HQS.set 6 (.int .i64 (h 3))
 simp only [lsA,lsZ,lsS] at HQS
 replace HQS:=HQS.set 7 (.int .i64 (h 4))
 simp only [lsA,lsZ,lsS] at HQS
 replace HQS:=HQS.set 8 (.int .i64 (h 5))
 simp only [lsA,lsZ,lsS] at HQS
 replace HQS:=HQS.set 9 (.int .i64 (h 6))
 simp only [lsA,lsZ,lsS] at HQS
 replace HQS:=HQS.set 10 (.int .i64 (h 7))
 simp only [lsA,lsZ,lsS] at HQS
 replace HQS:=HQS.set 11 (.slice a' l'.length c')
 simp only [lsA,lsZ,lsS] at HQS
 have OS:Off (fun c=>c=q) v1 ((((((((((v1.setCell ⟨q,2,none⟩ (.string key)).setCell ⟨q,3,none⟩ (.int .i64 (h 0))).setCell ⟨q,4,none⟩ (.int .i64 (h 1))).setCell ⟨q,5,none⟩ (.int .i64 (h 2))).setCell ⟨q,6,none⟩ (.int .i64 (h 3))).setCell ⟨q,7,none⟩ (.int .i64 (h 4))).setCell ⟨q,8,none⟩ (.int .i64 (h 5))).setCell ⟨q,9,none⟩ (.int .i64 (h 6))).setCell ⟨q,10,none⟩ (.int .i64 (h 7))).setCell ⟨q,11,none⟩ (.slice a' l'.length c')):=(((((((((((Off.refl (fun c=>c=q) v1).setCell (.inl rfl) _).setCell (.inl rfl) _).setCell (.inl rfl) _).setCell (.inl rfl) _).setCell (.inl rfl) _).setCell (.inl rfl) _).setCell (.inl rfl) _).setCell (.inl rfl) _).setCell (.inl rfl) _).setCell (.inl rfl) _)
 generalize hv:((((((((((v1.setCell ⟨q,2,none⟩ (.string key)).setCell ⟨q,3,none⟩ (.int .i64 (h 0))).setCell ⟨q,4,none⟩ (.int .i64 (h 1))).setCell ⟨q,5,none⟩ (.int .i64 (h 2))).setCell ⟨q,6,none⟩ (.int .i64 (h 3))).setCell ⟨q,7,none⟩ (.int .i64 (h 4))).setCell ⟨q,8,none⟩ (.int .i64 (h 5))).setCell ⟨q,9,none⟩ (.int .i64 (h 6))).setCell ⟨q,10,none⟩ (.int .i64 (h 7))).setCell ⟨q,11,none⟩ (.slice a' l'.length c'))=v2 at HQS OS ⊢
 clear hv
 have HQQ:Hid _:=HQS
 have HZZ:Hid _:=HZ_v1.out.off OS (fun h=>by have:=HZQ.out; omega)
 have HOO:Hid (Off (fun c=>(c=b∨D c)∨c=q) w v2):=HO_v1.out.trans OS (fun _ _ h=>.inr h)
 have HRR:Hid _:=HR_v1.out.off OS (fun h=>by have:=HBQ.out; omega) (fun c _ hc h=>by have:=HDQ.out c hc; omega)
 have HRO:Hid (Row v2 a' c' l'):=HROW.out.offD OS (fun x _ hx e=>by have h1:=HFRH.out.lo x hx; omega) (fun v hv x _ hx e=>by have h1:=HFRH.out.val v hv x hx; omega)
 have HFRE:Hid (Frh (w.heap.size + 1) a' l'):=⟨fun x hx=>by have h1:=HFRH.out.lo x hx; have h3:=HZQ.out; omega,fun v hv x hx=>by have h1:=HFRH.out.val v hv x hx; have h3:=HZQ.out; omega⟩
 have HFR:Hid (Frh w.heap.size a' l'):=⟨fun x hx=>by have h1:=HFRH.out.lo x hx; have h3:=HZQ.out; omega,fun v hv x hx=>by have h1:=HFRH.out.val v hv x hx; have h3:=HZQ.out; omega⟩
 clear HQS OS HROW HFRH HQ_v1 HZ_v1 HO_v1 HR_v1
 cases hb0:reB nodeP s1
 ·have HB0:Hid _:=hb0
  clear hb0
  obtain ⟨z0,z1,z2,z3,z4,z5,z6,z7,z8,z9,z10,z11⟩:=cel12 HZZ.out
  have fr:=HZZ.out.free
  go_wp2_with fail
  refine bodyPost_ret (results_rec2 rfl rfl rfl HZZ.out.st12) rfl ?_
  have ep:prs bs=none:=by
   unfold prs
   rw [HN.out]
   simp only [if_true]
   rw [if_neg (fun h=>by rw [HB0.out] at h; cases h.1)]
  exact ⟨0,0,⟨⟨#[]⟩,zer,none,0,[]⟩,false,rfl,by rw [ep]; rfl,fun r hr=>(by rw [ep] at hr; cases hr),Row.nil _ none 0 (by omega),Frh.nil _,(HOO.out.st12 (.inr (Nat.le_refl _))).mono (fun i hi h=>h.elim (fun h=>h.elim (fun h=>by have:=HB.out; omega) (fun h=>by have:=HD.out i h; omega)) (fun h=>by have:=HZQ.out; omega))⟩
 ·have HB0:Hid _:=hb0
  clear hb0
  by_cases he:endS (reS s1)=0
  ·have e0:(((endS (reS s1):Nat):Int) != 0)=false:=by rw [he]; rfl
   have HE0:Hid _:=he
   clear he
   go_wp2_with fail
   refine (rend_any HRR.out).mono ?_
   rintro e v3 ⟨rfl,hw⟩
   rw [hw]
   clear hw v3
   obtain ⟨z0,z1,z2,z3,z4,z5,z6,z7,z8,z9,z10,z11⟩:=cel12 HZZ.out
   have fr:=HZZ.out.free
   obtain ⟨x0,x1,x2,x3,x4,x5,x6,x7,x8,x9,x10,x11⟩:=cel12 HQQ.out
   go_wp2_with fail
   refine bodyPost_ret (results_rec2 rfl rfl rfl HZZ.out.st12) rfl ?_
   have ep:prs bs=some ⟨1,0,(⟨key,nrm h,a',c',l'⟩:E).abs⟩:=by
    unfold prs
    rw [HN.out]
    simp only [if_true]
    rw [if_pos ⟨HB0.out,HE0.out⟩]
    rw [HKEY.out,HHH.out]
    unfold rdK E.abs
    simp only
    rw [HLL.out]
   exact ⟨1,0,⟨key,nrm h,a',c',l'⟩,true,rfl,by rw [ep]; rfl,fun r hr=>(by rw [ep] at hr; exact (Option.some.inj hr).symm),HRO.out.offD (Off.st12 (Off.refl (fun c=>c=w.heap.size) v2) (.inl rfl)) (fun x _ hx e=>by have h1:=HFRE.out.lo x hx; omega) (fun v hv x _ hx e=>by have h1:=HFRE.out.val v hv x hx; omega),HFR.out,(HOO.out.st12 (.inr (Nat.le_refl _))).mono (fun i hi h=>h.elim (fun h=>h.elim (fun h=>by have:=HB.out; omega) (fun h=>by have:=HD.out i h; omega)) (fun h=>by have:=HZQ.out; omega))⟩
  ·have e0:(((endS (reS s1):Nat):Int) != 0)=true:=by simpa using he
   have HE0:Hid _:=he
   clear he
   go_wp2_with fail
   refine (rend_any HRR.out).mono ?_
   rintro e v3 ⟨rfl,hw⟩
   rw [hw]
   clear hw v3
   obtain ⟨z0,z1,z2,z3,z4,z5,z6,z7,z8,z9,z10,z11⟩:=cel12 HZZ.out
   have fr:=HZZ.out.free
   go_wp2_with fail
   refine bodyPost_ret (results_rec2 rfl rfl rfl HZZ.out.st12) rfl ?_
   have ep:prs bs=none:=by
    unfold prs
    rw [HN.out]
    simp only [if_true]
    rw [if_neg (fun h=>HE0.out h.2)]
   exact ⟨0,0,⟨⟨#[]⟩,zer,none,0,[]⟩,false,rfl,by rw [ep]; rfl,fun r hr=>(by rw [ep] at hr; cases hr),Row.nil _ none 0 (by omega),Frh.nil _,(HOO.out.st12 (.inr (Nat.le_refl _))).mono (fun i hi h=>h.elim (fun h=>h.elim (fun h=>by have:=HB.out; omega) (fun h=>by have:=HD.out i h; omega)) (fun h=>by have:=HZQ.out; omega))⟩
set_option maxRecDepth 100000 in
set_option maxHeartbeats 2000000 in
theorem parse2_any (t:Option Addr) (c:Nat) (bs:List Nat) (w:World) (hs:Src w t c bs) (hlt:∀ b ∈ bs,b < 256) (hl:bs.length≤60000) (s1:RS) (hn:numS (bs,0)=(2,s1)) :
  Calls Tryz.prog 41 #[.slice t bs.length c] w fun e w'=>∃ (kd:Nat) (node:Int) (x:E) (ok:Bool),e=.returned (.tuple #[(.agg #[.int .u64 (kd:Int),.int .i64 node,.string x.key,.int .i64 (x.f 0),.int .i64 (x.f 1),.int .i64 (x.f 2),.int .i64 (x.f 3),.int .i64 (x.f 4),.int .i64 (x.f 5),.int .i64 (x.f 6),.int .i64 (x.f 7),.slice x.a x.l.length x.cap]),.bool ok])∧ok=(prs bs).isSome∧(∀ r,prs bs=some r→r=⟨kd,node,x.abs⟩)∧Row w' x.a x.cap x.l∧Frh w.heap.size x.a x.l∧Off (fun _=>False) w w':=by
 obtain ⟨W,hW⟩:∃ W,W=(w.alloc (.cells #[.int .u64 0,.int .i64 0,.string ⟨#[]⟩,.int .i64 0,.int .i64 0,.int .i64 0,.int .i64 0,.int .i64 0,.int .i64 0,.int .i64 0,.int .i64 0,.slice none 0 0] 103)):=⟨_,rfl⟩
 have O:Off (fun _=>False) w W:=by rw [hW]; exact (Off.refl _ w).alloc _
 have C:Cel w.heap.size 103 #[.int .u64 0,.int .i64 0,.string ⟨#[]⟩,.int .i64 0,.int .i64 0,.int .i64 0,.int .i64 0,.int .i64 0,.int .i64 0,.int .i64 0,.int .i64 0,.slice none 0 0] W:=by rw [hW]; exact Cel.new w _ _
 have HS:Hid _:=hs.off O (fun _ _ _ h=>h)
 have HW:Hid _:=hW
 have HZ0:Hid _:=C
 have HO0:Hid _:=O
 have HN:Hid _:=hn
 clear hW C O hs hn
 go_enter Tryz.func41,Tryz.ntmps41
 go_upto_region 1 with fail
 rw [show (w.alloc (.cells #[.int .u64 0,.int .i64 0,.string ⟨#[]⟩,.int .i64 0,.int .i64 0,.int .i64 0,.int .i64 0,.int .i64 0,.int .i64 0,.int .i64 0,.int .i64 0,.slice none 0 0] 103))=W from HW.out.symm]
 go_wp2_with fail
 refine (newReader_any t c bs (by omega) hlt W HS.out).mono ?_
 rintro e w1 ⟨b,D,rfl,hb,hD,R1,o1⟩
 have HZ1:Hid _:=HZ0.out.off o1 (fun h=>h)
 have HO1:Hid (Off (fun c=>c=b∨D c) w w1):=(HO0.out.trans o1 (fun _ _ h=>h)).mono (fun _ _ h=>h.elim)
 have HB:Hid (w.heap.size < b):=Nat.lt_of_lt_of_le HZ0.out.lt hb
 have HD:Hid (∀ c,D c→w.heap.size < c):=fun c hc=>Nat.lt_of_lt_of_le HZ0.out.lt (hD c hc)
 have HR1:Hid _:=R1
 clear R1 o1 hb hD
 go_wp2_with fail
 refine (rnum_any HR1.out).mono ?_
 rintro e w2 ⟨rfl,R2,o2⟩
 rw [HN.out] at R2 ⊢
 have HZ2:Hid _:=HZ1.out.off o2 (fun h=>by have:=HB.out; omega)
 have HO2:Hid (Off (fun c=>c=b∨D c) w w2):=HO1.out.trans o2 (fun _ _ h=>.inl h)
 have HR2:Hid (Rdr 198 D b s1 w2):=R2
 clear R2 o2 HR1 HZ1 HO1 HS HW HO0
 go_upto_region 3 with fail
 have CQ:Cel w2.heap.size 103 #[.int .u64 2,.int .i64 0,.string ⟨#[]⟩,.int .i64 0,.int .i64 0,.int .i64 0,.int .i64 0,.int .i64 0,.int .i64 0,.int .i64 0,.int .i64 0,.slice none 0 0] (w2.alloc (.cells #[.int .u64 2,.int .i64 0,.string ⟨#[]⟩,.int .i64 0,.int .i64 0,.int .i64 0,.int .i64 0,.int .i64 0,.int .i64 0,.int .i64 0,.int .i64 0,.slice none 0 0] 103)):=Cel.new w2 _ _
 have OA:Off (fun _=>False) w2 (w2.alloc (.cells #[.int .u64 2,.int .i64 0,.string ⟨#[]⟩,.int .i64 0,.int .i64 0,.int .i64 0,.int .i64 0,.int .i64 0,.int .i64 0,.int .i64 0,.int .i64 0,.slice none 0 0] 103)):=(Off.refl _ w2).alloc _
 have hq2:=HR2.out.here
 have hd2:=HR2.out.dlt
 have hzq:=HZ2.out.lt
 generalize hv:w2.alloc (.cells #[.int .u64 2,.int .i64 0,.string ⟨#[]⟩,.int .i64 0,.int .i64 0,.int .i64 0,.int .i64 0,.int .i64 0,.int .i64 0,.int .i64 0,.int .i64 0,.slice none 0 0] 103)=V at CQ OA ⊢
 generalize hq:w2.heap.size=q at CQ hq2 hd2 hzq ⊢
 have HQ3:Hid _:=CQ
 have HZ3:Hid _:=HZ2.out.off OA (fun h=>h)
 have HR3:Hid _:=HR2.out.off OA (fun h=>h) (fun _ _ _ h=>h)
 have HO3:Hid (Off (fun c=>(c=b∨D c)∨c=q) w V):=(HO2.out.trans OA (fun _ _ h=>h.elim)).mono (fun _ _ h=>.inl h)
 have HBQ:Hid (b < q):=hq2
 have HDQ:Hid (∀ c,D c→c < q):=hd2
 have HZQ:Hid (w.heap.size < q):=hzq
 clear hq hv CQ OA hq2 hd2 hzq HR2 HZ2 HO2 HZ0
 obtain ⟨x0,x1,x2,x3,x4,x5,x6,x7,x8,x9,x10,x11⟩:=cel12 HQ3.out
 go_wp2_with fail
 clear x0 x1 x2 x3 x4 x5 x6 x7 x8 x9 x10 x11
 refine (rnode_any HR3.out).mono ?_
 rintro e u1 ⟨rfl,R1,o1⟩
 have HQ_u1:Hid _:=HQ3.out.off o1 (fun h=>by have:=HBQ.out; omega)
 have HZ_u1:Hid _:=HZ3.out.off o1 (fun h=>by have:=HB.out; omega)
 have HO_u1:Hid (Off (fun c=>(c=b∨D c)∨c=q) w u1):=HO3.out.trans o1 (fun _ _ h=>.inl (.inl h))
 have HR_u1:Hid _:=R1
 clear R1
 clear o1
 obtain ⟨m,s2,hm⟩:∃ m s2,countS 7 s1=(m,s2):=⟨_,_,rfl⟩
 rw [hm] at HR_u1 ⊢
 have HM:Hid _:=hm
 clear hm
 obtain ⟨x0,x1,x2,x3,x4,x5,x6,x7,x8,x9,x10,x11⟩:=cel12 HQ_u1.out
 have fq:=HQ_u1.out.free
 go_upto_region 9 with fail
 clear x0 x1 x2 x3 x4 x5 x6 x7 x8 x9 x10 x11 fq
 have HQS:=HQ_u1.out
 replace HQS:=HQS.set 1 (.int .i64 ((m:Nat):Int))
 simp only [lsA,lsZ,lsS] at HQS
 have OS:Off (fun c=>c=q) u1 (u1.setCell ⟨q,1,none⟩ (.int .i64 ((m:Nat):Int))):=((Off.refl (fun c=>c=q) u1).setCell (.inl rfl) _)
 generalize hv:(u1.setCell ⟨q,1,none⟩ (.int .i64 ((m:Nat):Int)))=u2 at HQS OS ⊢
 clear hv
 have HQ5:Hid _:=HQS
 have HZ5:Hid _:=HZ_u1.out.off OS (fun h=>by have:=HZQ.out; omega)
 have HO5:Hid (Off (fun c=>(c=b∨D c)∨c=q) w u2):=HO_u1.out.trans OS (fun _ _ h=>.inr h)
 have HR5:Hid _:=HR_u1.out.off OS (fun h=>by have:=HBQ.out; omega) (fun c _ hc h=>by have:=HDQ.out c hc; omega)
 clear HQS OS HQ_u1 HZ_u1 HO_u1 HR_u1
 obtain ⟨x0,x1,x2,x3,x4,x5,x6,x7,x8,x9,x10,x11⟩:=cel12 HQ5.out
 go_wp2_with fail
 clear x0 x1 x2 x3 x4 x5 x6 x7 x8 x9 x10 x11
 refine (readEntry_any HR5.out).mono ?_
 rintro e v1 ⟨key,h,a',c',l',rfl,hkey,hh,hl',row,frh,R1,o1⟩
 have HQ_v1:Hid _:=HQ5.out.off o1 (fun h=>by have:=HBQ.out; omega)
 have HZ_v1:Hid _:=HZ5.out.off o1 (fun h=>by have:=HB.out; omega)
 have HO_v1:Hid (Off (fun c=>(c=b∨D c)∨c=q) w v1):=HO5.out.trans o1 (fun _ _ h=>.inl (.inl h))
 have HR_v1:Hid _:=R1
 clear R1
 have HKEY:Hid _:=hkey
 have HHH:Hid _:=hh
 have HLL:Hid _:=hl'
 have HROW:Hid _:=row
 have HFRH:Hid (Frh (q + 1) a' l'):=⟨fun x hx=>by have h1:=frh.lo x hx; have h2:=HQ5.out.lt; omega,fun v hv x hx=>by have h1:=frh.val v hv x hx; have h2:=HQ5.out.lt; omega⟩
 clear hkey hh hl' row frh o1
 obtain ⟨x0,x1,x2,x3,x4,x5,x6,x7,x8,x9,x10,x11⟩:=cel12 HQ_v1.out
 have fq:=HQ_v1.out.free
 go_upto_region 15 with fail
 clear x0 x1 x2 x3 x4 x5 x6 x7 x8 x9 x10 x11 fq
 have HQS:=HQ_v1.out
 replace HQS:=HQS.set 2 (.string key)
 simp only [lsA,lsZ,lsS] at HQS
 replace HQS:=HQS.set 3 (.int .i64 (h 0))
 simp only [lsA,lsZ,lsS] at HQS
 replace HQS:=HQS.set 4 (.int .i64 (h 1))
 simp only [lsA,lsZ,lsS] at HQS
 replace HQS:=HQS.set 5 (.int .i64 (h 2))
 simp only [lsA,lsZ,lsS] at HQS
 replace HQS:=HQS.set 6 (.int .i64 (h 3))
 simp only [lsA,lsZ,lsS] at HQS
 replace HQS:=HQS.set 7 (.int .i64 (h 4))
 simp only [lsA,lsZ,lsS] at HQS
 replace HQS:=HQS.set 8 (.int .i64 (h 5))
 simp only [lsA,lsZ,lsS] at HQS
 replace HQS:=HQS.set 9 (.int .i64 (h 6))
 simp only [lsA,lsZ,lsS] at HQS
 replace HQS:=HQS.set 10 (.int .i64 (h 7))
 simp only [lsA,lsZ,lsS] at HQS
 replace HQS:=HQS.set 11 (.slice a' l'.length c')
 simp only [lsA,lsZ,lsS] at HQS
 have OS:Off (fun c=>c=q) v1 ((((((((((v1.setCell ⟨q,2,none⟩ (.string key)).setCell ⟨q,3,none⟩ (.int .i64 (h 0))).setCell ⟨q,4,none⟩ (.int .i64 (h 1))).setCell ⟨q,5,none⟩ (.int .i64 (h 2))).setCell ⟨q,6,none⟩ (.int .i64 (h 3))).setCell ⟨q,7,none⟩ (.int .i64 (h 4))).setCell ⟨q,8,none⟩ (.int .i64 (h 5))).setCell ⟨q,9,none⟩ (.int .i64 (h 6))).setCell ⟨q,10,none⟩ (.int .i64 (h 7))).setCell ⟨q,11,none⟩ (.slice a' l'.length c')):=(((((((((((Off.refl (fun c=>c=q) v1).setCell (.inl rfl) _).setCell (.inl rfl) _).setCell (.inl rfl) _).setCell (.inl rfl) _).setCell (.inl rfl) _).setCell (.inl rfl) _).setCell (.inl rfl) _).setCell (.inl rfl) _).setCell (.inl rfl) _).setCell (.inl rfl) _)
 generalize hv:((((((((((v1.setCell ⟨q,2,none⟩ (.string key)).setCell ⟨q,3,none⟩ (.int .i64 (h 0))).setCell ⟨q,4,none⟩ (.int .i64 (h 1))).setCell ⟨q,5,none⟩ (.int .i64 (h 2))).setCell ⟨q,6,none⟩ (.int .i64 (h 3))).setCell ⟨q,7,none⟩ (.int .i64 (h 4))).setCell ⟨q,8,none⟩ (.int .i64 (h 5))).setCell ⟨q,9,none⟩ (.int .i64 (h 6))).setCell ⟨q,10,none⟩ (.int .i64 (h 7))).setCell ⟨q,11,none⟩ (.slice a' l'.length c'))=v2 at HQS OS ⊢
 clear hv
 have HQQ:Hid _:=HQS
 have HZZ:Hid _:=HZ_v1.out.off OS (fun h=>by have:=HZQ.out; omega)
 have HOO:Hid (Off (fun c=>(c=b∨D c)∨c=q) w v2):=HO_v1.out.trans OS (fun _ _ h=>.inr h)
 have HRR:Hid _:=HR_v1.out.off OS (fun h=>by have:=HBQ.out; omega) (fun c _ hc h=>by have:=HDQ.out c hc; omega)
 have HRO:Hid (Row v2 a' c' l'):=HROW.out.offD OS (fun x _ hx e=>by have h1:=HFRH.out.lo x hx; omega) (fun v hv x _ hx e=>by have h1:=HFRH.out.val v hv x hx; omega)
 have HFRE:Hid (Frh (w.heap.size + 1) a' l'):=⟨fun x hx=>by have h1:=HFRH.out.lo x hx; have h3:=HZQ.out; omega,fun v hv x hx=>by have h1:=HFRH.out.val v hv x hx; have h3:=HZQ.out; omega⟩
 have HFR:Hid (Frh w.heap.size a' l'):=⟨fun x hx=>by have h1:=HFRH.out.lo x hx; have h3:=HZQ.out; omega,fun v hv x hx=>by have h1:=HFRH.out.val v hv x hx; have h3:=HZQ.out; omega⟩
 clear HQS OS HROW HFRH HQ_v1 HZ_v1 HO_v1 HR_v1
 cases hb0:reB nodeP s2
 ·have HB0:Hid _:=hb0
  clear hb0
  obtain ⟨z0,z1,z2,z3,z4,z5,z6,z7,z8,z9,z10,z11⟩:=cel12 HZZ.out
  have fr:=HZZ.out.free
  go_wp2_with fail
  refine bodyPost_ret (results_rec2 rfl rfl rfl HZZ.out.st12) rfl ?_
  have ep:prs bs=none:=by
   unfold prs
   rw [HN.out]
   simp only [show ¬ (2:Nat)=1 by decide,if_false,if_true]
   rw [HM.out]
   simp only
   rw [if_neg (fun h=>by rw [HB0.out] at h; cases h.1)]
  exact ⟨0,0,⟨⟨#[]⟩,zer,none,0,[]⟩,false,rfl,by rw [ep]; rfl,fun r hr=>(by rw [ep] at hr; cases hr),Row.nil _ none 0 (by omega),Frh.nil _,(HOO.out.st12 (.inr (Nat.le_refl _))).mono (fun i hi h=>h.elim (fun h=>h.elim (fun h=>by have:=HB.out; omega) (fun h=>by have:=HD.out i h; omega)) (fun h=>by have:=HZQ.out; omega))⟩
 ·have HB0:Hid _:=hb0
  clear hb0
  by_cases he:endS (reS s2)=0
  ·have e0:(((endS (reS s2):Nat):Int) != 0)=false:=by rw [he]; rfl
   have HE0:Hid _:=he
   clear he
   go_wp2_with fail
   refine (rend_any HRR.out).mono ?_
   rintro e v3 ⟨rfl,hw⟩
   rw [hw]
   clear hw v3
   obtain ⟨z0,z1,z2,z3,z4,z5,z6,z7,z8,z9,z10,z11⟩:=cel12 HZZ.out
   have fr:=HZZ.out.free
   obtain ⟨x0,x1,x2,x3,x4,x5,x6,x7,x8,x9,x10,x11⟩:=cel12 HQQ.out
   go_wp2_with fail
   refine bodyPost_ret (results_rec2 rfl rfl rfl HZZ.out.st12) rfl ?_
   have ep:prs bs=some ⟨2,((m:Nat):Int),(⟨key,nrm h,a',c',l'⟩:E).abs⟩:=by
    unfold prs
    rw [HN.out]
    simp only [show ¬ (2:Nat)=1 by decide,if_false,if_true]
    rw [HM.out]
    simp only
    rw [if_pos ⟨HB0.out,HE0.out⟩]
    rw [HKEY.out,HHH.out]
    unfold rdK E.abs
    simp only
    rw [HLL.out]
   exact ⟨2,((m:Nat):Int),⟨key,nrm h,a',c',l'⟩,true,rfl,by rw [ep]; rfl,fun r hr=>(by rw [ep] at hr; exact (Option.some.inj hr).symm),HRO.out.offD (Off.st12 (Off.refl (fun c=>c=w.heap.size) v2) (.inl rfl)) (fun x _ hx e=>by have h1:=HFRE.out.lo x hx; omega) (fun v hv x _ hx e=>by have h1:=HFRE.out.val v hv x hx; omega),HFR.out,(HOO.out.st12 (.inr (Nat.le_refl _))).mono (fun i hi h=>h.elim (fun h=>h.elim (fun h=>by have:=HB.out; omega) (fun h=>by have:=HD.out i h; omega)) (fun h=>by have:=HZQ.out; omega))⟩
  ·have e0:(((endS (reS s2):Nat):Int) != 0)=true:=by simpa using he
   have HE0:Hid _:=he
   clear he
   go_wp2_with fail
   refine (rend_any HRR.out).mono ?_
   rintro e v3 ⟨rfl,hw⟩
   rw [hw]
   clear hw v3
   obtain ⟨z0,z1,z2,z3,z4,z5,z6,z7,z8,z9,z10,z11⟩:=cel12 HZZ.out
   have fr:=HZZ.out.free
   go_wp2_with fail
   refine bodyPost_ret (results_rec2 rfl rfl rfl HZZ.out.st12) rfl ?_
   have ep:prs bs=none:=by
    unfold prs
    rw [HN.out]
    simp only [show ¬ (2:Nat)=1 by decide,if_false,if_true]
    rw [HM.out]
    simp only
    rw [if_neg (fun h=>HE0.out h.2)]
   exact ⟨0,0,⟨⟨#[]⟩,zer,none,0,[]⟩,false,rfl,by rw [ep]; rfl,fun r hr=>(by rw [ep] at hr; cases hr),Row.nil _ none 0 (by omega),Frh.nil _,(HOO.out.st12 (.inr (Nat.le_refl _))).mono (fun i hi h=>h.elim (fun h=>h.elim (fun h=>by have:=HB.out; omega) (fun h=>by have:=HD.out i h; omega)) (fun h=>by have:=HZQ.out; omega))⟩
set_option maxRecDepth 100000 in
set_option maxHeartbeats 2000000 in
theorem parse3_any (t:Option Addr) (c:Nat) (bs:List Nat) (w:World) (hs:Src w t c bs) (hlt:∀ b ∈ bs,b < 256) (hl:bs.length≤60000) (s1:RS) (hn:numS (bs,0)=(3,s1)) :
  Calls Tryz.prog 41 #[.slice t bs.length c] w fun e w'=>∃ (kd:Nat) (node:Int) (x:E) (ok:Bool),e=.returned (.tuple #[(.agg #[.int .u64 (kd:Int),.int .i64 node,.string x.key,.int .i64 (x.f 0),.int .i64 (x.f 1),.int .i64 (x.f 2),.int .i64 (x.f 3),.int .i64 (x.f 4),.int .i64 (x.f 5),.int .i64 (x.f 6),.int .i64 (x.f 7),.slice x.a x.l.length x.cap]),.bool ok])∧ok=(prs bs).isSome∧(∀ r,prs bs=some r→r=⟨kd,node,x.abs⟩)∧Row w' x.a x.cap x.l∧Frh w.heap.size x.a x.l∧Off (fun _=>False) w w':=by
 obtain ⟨W,hW⟩:∃ W,W=(w.alloc (.cells #[.int .u64 0,.int .i64 0,.string ⟨#[]⟩,.int .i64 0,.int .i64 0,.int .i64 0,.int .i64 0,.int .i64 0,.int .i64 0,.int .i64 0,.int .i64 0,.slice none 0 0] 103)):=⟨_,rfl⟩
 have O:Off (fun _=>False) w W:=by rw [hW]; exact (Off.refl _ w).alloc _
 have C:Cel w.heap.size 103 #[.int .u64 0,.int .i64 0,.string ⟨#[]⟩,.int .i64 0,.int .i64 0,.int .i64 0,.int .i64 0,.int .i64 0,.int .i64 0,.int .i64 0,.int .i64 0,.slice none 0 0] W:=by rw [hW]; exact Cel.new w _ _
 have HS:Hid _:=hs.off O (fun _ _ _ h=>h)
 have HW:Hid _:=hW
 have HZ0:Hid _:=C
 have HO0:Hid _:=O
 have HN:Hid _:=hn
 clear hW C O hs hn
 go_enter Tryz.func41,Tryz.ntmps41
 go_upto_region 1 with fail
 rw [show (w.alloc (.cells #[.int .u64 0,.int .i64 0,.string ⟨#[]⟩,.int .i64 0,.int .i64 0,.int .i64 0,.int .i64 0,.int .i64 0,.int .i64 0,.int .i64 0,.int .i64 0,.slice none 0 0] 103))=W from HW.out.symm]
 go_wp2_with fail
 refine (newReader_any t c bs (by omega) hlt W HS.out).mono ?_
 rintro e w1 ⟨b,D,rfl,hb,hD,R1,o1⟩
 have HZ1:Hid _:=HZ0.out.off o1 (fun h=>h)
 have HO1:Hid (Off (fun c=>c=b∨D c) w w1):=(HO0.out.trans o1 (fun _ _ h=>h)).mono (fun _ _ h=>h.elim)
 have HB:Hid (w.heap.size < b):=Nat.lt_of_lt_of_le HZ0.out.lt hb
 have HD:Hid (∀ c,D c→w.heap.size < c):=fun c hc=>Nat.lt_of_lt_of_le HZ0.out.lt (hD c hc)
 have HR1:Hid _:=R1
 clear R1 o1 hb hD
 go_wp2_with fail
 refine (rnum_any HR1.out).mono ?_
 rintro e w2 ⟨rfl,R2,o2⟩
 rw [HN.out] at R2 ⊢
 have HZ2:Hid _:=HZ1.out.off o2 (fun h=>by have:=HB.out; omega)
 have HO2:Hid (Off (fun c=>c=b∨D c) w w2):=HO1.out.trans o2 (fun _ _ h=>.inl h)
 have HR2:Hid (Rdr 198 D b s1 w2):=R2
 clear R2 o2 HR1 HZ1 HO1 HS HW HO0
 go_upto_region 3 with fail
 have CQ:Cel w2.heap.size 103 #[.int .u64 3,.int .i64 0,.string ⟨#[]⟩,.int .i64 0,.int .i64 0,.int .i64 0,.int .i64 0,.int .i64 0,.int .i64 0,.int .i64 0,.int .i64 0,.slice none 0 0] (w2.alloc (.cells #[.int .u64 3,.int .i64 0,.string ⟨#[]⟩,.int .i64 0,.int .i64 0,.int .i64 0,.int .i64 0,.int .i64 0,.int .i64 0,.int .i64 0,.int .i64 0,.slice none 0 0] 103)):=Cel.new w2 _ _
 have OA:Off (fun _=>False) w2 (w2.alloc (.cells #[.int .u64 3,.int .i64 0,.string ⟨#[]⟩,.int .i64 0,.int .i64 0,.int .i64 0,.int .i64 0,.int .i64 0,.int .i64 0,.int .i64 0,.int .i64 0,.slice none 0 0] 103)):=(Off.refl _ w2).alloc _
 have hq2:=HR2.out.here
 have hd2:=HR2.out.dlt
 have hzq:=HZ2.out.lt
 generalize hv:w2.alloc (.cells #[.int .u64 3,.int .i64 0,.string ⟨#[]⟩,.int .i64 0,.int .i64 0,.int .i64 0,.int .i64 0,.int .i64 0,.int .i64 0,.int .i64 0,.int .i64 0,.slice none 0 0] 103)=V at CQ OA ⊢
 generalize hq:w2.heap.size=q at CQ hq2 hd2 hzq ⊢
 have HQ3:Hid _:=CQ
 have HZ3:Hid _:=HZ2.out.off OA (fun h=>h)
 have HR3:Hid _:=HR2.out.off OA (fun h=>h) (fun _ _ _ h=>h)
 have HO3:Hid (Off (fun c=>(c=b∨D c)∨c=q) w V):=(HO2.out.trans OA (fun _ _ h=>h.elim)).mono (fun _ _ h=>.inl h)
 have HBQ:Hid (b < q):=hq2
 have HDQ:Hid (∀ c,D c→c < q):=hd2
 have HZQ:Hid (w.heap.size < q):=hzq
 clear hq hv CQ OA hq2 hd2 hzq HR2 HZ2 HO2 HZ0
 obtain ⟨x0,x1,x2,x3,x4,x5,x6,x7,x8,x9,x10,x11⟩:=cel12 HQ3.out
 go_wp2_with fail
 clear x0 x1 x2 x3 x4 x5 x6 x7 x8 x9 x10 x11
 refine (rnode_any HR3.out).mono ?_
 rintro e u1 ⟨rfl,R1,o1⟩
 have HQ_u1:Hid _:=HQ3.out.off o1 (fun h=>by have:=HBQ.out; omega)
 have HZ_u1:Hid _:=HZ3.out.off o1 (fun h=>by have:=HB.out; omega)
 have HO_u1:Hid (Off (fun c=>(c=b∨D c)∨c=q) w u1):=HO3.out.trans o1 (fun _ _ h=>.inl (.inl h))
 have HR_u1:Hid _:=R1
 clear R1
 clear o1
 obtain ⟨m,s2,hm⟩:∃ m s2,countS 7 s1=(m,s2):=⟨_,_,rfl⟩
 rw [hm] at HR_u1 ⊢
 have HM:Hid _:=hm
 clear hm
 obtain ⟨x0,x1,x2,x3,x4,x5,x6,x7,x8,x9,x10,x11⟩:=cel12 HQ_u1.out
 have fq:=HQ_u1.out.free
 go_upto_region 12 with fail
 clear x0 x1 x2 x3 x4 x5 x6 x7 x8 x9 x10 x11 fq
 have HQS:=HQ_u1.out
 replace HQS:=HQS.set 1 (.int .i64 ((m:Nat):Int))
 simp only [lsA,lsZ,lsS] at HQS
 have OS:Off (fun c=>c=q) u1 (u1.setCell ⟨q,1,none⟩ (.int .i64 ((m:Nat):Int))):=((Off.refl (fun c=>c=q) u1).setCell (.inl rfl) _)
 generalize hv:(u1.setCell ⟨q,1,none⟩ (.int .i64 ((m:Nat):Int)))=u2 at HQS OS ⊢
 clear hv
 have HQ5:Hid _:=HQS
 have HZ5:Hid _:=HZ_u1.out.off OS (fun h=>by have:=HZQ.out; omega)
 have HO5:Hid (Off (fun c=>(c=b∨D c)∨c=q) w u2):=HO_u1.out.trans OS (fun _ _ h=>.inr h)
 have HR5:Hid _:=HR_u1.out.off OS (fun h=>by have:=HBQ.out; omega) (fun c _ hc h=>by have:=HDQ.out c hc; omega)
 clear HQS OS HQ_u1 HZ_u1 HO_u1 HR_u1
 obtain ⟨x0,x1,x2,x3,x4,x5,x6,x7,x8,x9,x10,x11⟩:=cel12 HQ5.out
 go_wp2_with fail
 clear x0 x1 x2 x3 x4 x5 x6 x7 x8 x9 x10 x11
 refine (rkey_any HR5.out).mono ?_
 rintro e v1 ⟨rfl,R1,o1⟩
 have HQ_v1:Hid _:=HQ5.out.off o1 (fun h=>by have:=HBQ.out; omega)
 have HZ_v1:Hid _:=HZ5.out.off o1 (fun h=>by have:=HB.out; omega)
 have HO_v1:Hid (Off (fun c=>(c=b∨D c)∨c=q) w v1):=HO5.out.trans o1 (fun _ _ h=>.inl (.inl h))
 have HR_v1:Hid _:=R1
 clear R1
 clear o1
 obtain ⟨tt,s3,ht⟩:∃ tt s3,textS 32 s2=(tt,s3):=⟨_,_,rfl⟩
 rw [ht] at HR_v1 ⊢
 have HTT:Hid _:=ht
 clear ht
 simp only at HR_v1 ⊢
 obtain ⟨kk,hkk⟩:∃ kk,kk=strOf tt:=⟨_,rfl⟩
 rw [← hkk]
 have HKK:Hid _:=hkk
 clear hkk
 obtain ⟨x0,x1,x2,x3,x4,x5,x6,x7,x8,x9,x10,x11⟩:=cel12 HQ_v1.out
 have fq:=HQ_v1.out.free
 go_upto_region 15 with fail
 clear x0 x1 x2 x3 x4 x5 x6 x7 x8 x9 x10 x11 fq
 have HQS:=HQ_v1.out
 replace HQS:=HQS.set 2 (.string kk)
 simp only [lsA,lsZ,lsS] at HQS
 have OS:Off (fun c=>c=q) v1 (v1.setCell ⟨q,2,none⟩ (.string kk)):=((Off.refl (fun c=>c=q) v1).setCell (.inl rfl) _)
 generalize hv:(v1.setCell ⟨q,2,none⟩ (.string kk))=v2 at HQS OS ⊢
 clear hv
 have HQQ:Hid _:=HQS
 have HZZ:Hid _:=HZ_v1.out.off OS (fun h=>by have:=HZQ.out; omega)
 have HOO:Hid (Off (fun c=>(c=b∨D c)∨c=q) w v2):=HO_v1.out.trans OS (fun _ _ h=>.inr h)
 have HRR:Hid _:=HR_v1.out.off OS (fun h=>by have:=HBQ.out; omega) (fun c _ hc h=>by have:=HDQ.out c hc; omega)
 clear HQS OS HQ_v1 HZ_v1 HO_v1 HR_v1
 cases hb0:keyB kk
 ·have HB0:Hid _:=hb0
  clear hb0
  obtain ⟨z0,z1,z2,z3,z4,z5,z6,z7,z8,z9,z10,z11⟩:=cel12 HZZ.out
  have fr:=HZZ.out.free
  go_wp2_with fail
  refine bodyPost_ret (results_rec2 rfl rfl rfl HZZ.out.st12) rfl ?_
  have ep:prs bs=none:=by
   unfold prs
   rw [HN.out]
   simp only [show ¬ (3:Nat)=1 by decide,show ¬ (3:Nat)=2 by decide,if_false,if_true]
   rw [HM.out]
   simp only
   rw [HTT.out]
   simp only
   rw [← HKK.out]
   rw [if_neg (fun h=>by rw [HB0.out] at h; cases h.1)]
  exact ⟨0,0,⟨⟨#[]⟩,zer,none,0,[]⟩,false,rfl,by rw [ep]; rfl,fun r hr=>(by rw [ep] at hr; cases hr),Row.nil _ none 0 (by omega),Frh.nil _,(HOO.out.st12 (.inr (Nat.le_refl _))).mono (fun i hi h=>h.elim (fun h=>h.elim (fun h=>by have:=HB.out; omega) (fun h=>by have:=HD.out i h; omega)) (fun h=>by have:=HZQ.out; omega))⟩
 ·have HB0:Hid _:=hb0
  clear hb0
  by_cases he:endS s3=0
  ·have e0:(((endS s3:Nat):Int) != 0)=false:=by rw [he]; rfl
   have HE0:Hid _:=he
   clear he
   go_wp2_with fail
   refine (rend_any HRR.out).mono ?_
   rintro e v3 ⟨rfl,hw⟩
   rw [hw]
   clear hw v3
   obtain ⟨z0,z1,z2,z3,z4,z5,z6,z7,z8,z9,z10,z11⟩:=cel12 HZZ.out
   have fr:=HZZ.out.free
   obtain ⟨x0,x1,x2,x3,x4,x5,x6,x7,x8,x9,x10,x11⟩:=cel12 HQQ.out
   go_wp2_with fail
   refine bodyPost_ret (results_rec2 rfl rfl rfl HZZ.out.st12) rfl ?_
   have ep:prs bs=some ⟨3,((m:Nat):Int),(⟨kk,zer,none,0,[]⟩:E).abs⟩:=by
    unfold prs
    rw [HN.out]
    simp only [show ¬ (3:Nat)=1 by decide,show ¬ (3:Nat)=2 by decide,if_false,if_true]
    rw [HM.out]
    simp only
    rw [HTT.out]
    simp only
    rw [← HKK.out]
    rw [if_pos ⟨HB0.out,HE0.out⟩]
    rw [show keyK tt=⟨kk,zer,[]⟩ by rw [HKK.out]; rfl]
    rfl
   exact ⟨3,((m:Nat):Int),⟨kk,zer,none,0,[]⟩,true,rfl,by rw [ep]; rfl,fun r hr=>(by rw [ep] at hr; exact (Option.some.inj hr).symm),Row.nil _ none 0 (by omega),Frh.nil _,(HOO.out.st12 (.inr (Nat.le_refl _))).mono (fun i hi h=>h.elim (fun h=>h.elim (fun h=>by have:=HB.out; omega) (fun h=>by have:=HD.out i h; omega)) (fun h=>by have:=HZQ.out; omega))⟩
  ·have e0:(((endS s3:Nat):Int) != 0)=true:=by simpa using he
   have HE0:Hid _:=he
   clear he
   go_wp2_with fail
   refine (rend_any HRR.out).mono ?_
   rintro e v3 ⟨rfl,hw⟩
   rw [hw]
   clear hw v3
   obtain ⟨z0,z1,z2,z3,z4,z5,z6,z7,z8,z9,z10,z11⟩:=cel12 HZZ.out
   have fr:=HZZ.out.free
   go_wp2_with fail
   refine bodyPost_ret (results_rec2 rfl rfl rfl HZZ.out.st12) rfl ?_
   have ep:prs bs=none:=by
    unfold prs
    rw [HN.out]
    simp only [show ¬ (3:Nat)=1 by decide,show ¬ (3:Nat)=2 by decide,if_false,if_true]
    rw [HM.out]
    simp only
    rw [HTT.out]
    simp only
    rw [← HKK.out]
    rw [if_neg (fun h=>HE0.out h.2)]
   exact ⟨0,0,⟨⟨#[]⟩,zer,none,0,[]⟩,false,rfl,by rw [ep]; rfl,fun r hr=>(by rw [ep] at hr; cases hr),Row.nil _ none 0 (by omega),Frh.nil _,(HOO.out.st12 (.inr (Nat.le_refl _))).mono (fun i hi h=>h.elim (fun h=>h.elim (fun h=>by have:=HB.out; omega) (fun h=>by have:=HD.out i h; omega)) (fun h=>by have:=HZQ.out; omega))⟩
set_option maxRecDepth 100000 in
set_option maxHeartbeats 2000000 in
theorem parse4_any (t:Option Addr) (c:Nat) (bs:List Nat) (w:World) (hs:Src w t c bs) (hlt:∀ b ∈ bs,b < 256) (hl:bs.length≤60000) (s1:RS) (hn:numS (bs,0)=(4,s1)) :
  Calls Tryz.prog 41 #[.slice t bs.length c] w fun e w'=>∃ (kd:Nat) (node:Int) (x:E) (ok:Bool),e=.returned (.tuple #[(.agg #[.int .u64 (kd:Int),.int .i64 node,.string x.key,.int .i64 (x.f 0),.int .i64 (x.f 1),.int .i64 (x.f 2),.int .i64 (x.f 3),.int .i64 (x.f 4),.int .i64 (x.f 5),.int .i64 (x.f 6),.int .i64 (x.f 7),.slice x.a x.l.length x.cap]),.bool ok])∧ok=(prs bs).isSome∧(∀ r,prs bs=some r→r=⟨kd,node,x.abs⟩)∧Row w' x.a x.cap x.l∧Frh w.heap.size x.a x.l∧Off (fun _=>False) w w':=by
 obtain ⟨W,hW⟩:∃ W,W=(w.alloc (.cells #[.int .u64 0,.int .i64 0,.string ⟨#[]⟩,.int .i64 0,.int .i64 0,.int .i64 0,.int .i64 0,.int .i64 0,.int .i64 0,.int .i64 0,.int .i64 0,.slice none 0 0] 103)):=⟨_,rfl⟩
 have O:Off (fun _=>False) w W:=by rw [hW]; exact (Off.refl _ w).alloc _
 have C:Cel w.heap.size 103 #[.int .u64 0,.int .i64 0,.string ⟨#[]⟩,.int .i64 0,.int .i64 0,.int .i64 0,.int .i64 0,.int .i64 0,.int .i64 0,.int .i64 0,.int .i64 0,.slice none 0 0] W:=by rw [hW]; exact Cel.new w _ _
 have HS:Hid _:=hs.off O (fun _ _ _ h=>h)
 have HW:Hid _:=hW
 have HZ0:Hid _:=C
 have HO0:Hid _:=O
 have HN:Hid _:=hn
 clear hW C O hs hn
 go_enter Tryz.func41,Tryz.ntmps41
 go_upto_region 1 with fail
 rw [show (w.alloc (.cells #[.int .u64 0,.int .i64 0,.string ⟨#[]⟩,.int .i64 0,.int .i64 0,.int .i64 0,.int .i64 0,.int .i64 0,.int .i64 0,.int .i64 0,.int .i64 0,.slice none 0 0] 103))=W from HW.out.symm]
 go_wp2_with fail
 refine (newReader_any t c bs (by omega) hlt W HS.out).mono ?_
 rintro e w1 ⟨b,D,rfl,hb,hD,R1,o1⟩
 have HZ1:Hid _:=HZ0.out.off o1 (fun h=>h)
 have HO1:Hid (Off (fun c=>c=b∨D c) w w1):=(HO0.out.trans o1 (fun _ _ h=>h)).mono (fun _ _ h=>h.elim)
 have HB:Hid (w.heap.size < b):=Nat.lt_of_lt_of_le HZ0.out.lt hb
 have HD:Hid (∀ c,D c→w.heap.size < c):=fun c hc=>Nat.lt_of_lt_of_le HZ0.out.lt (hD c hc)
 have HR1:Hid _:=R1
 clear R1 o1 hb hD
 go_wp2_with fail
 refine (rnum_any HR1.out).mono ?_
 rintro e w2 ⟨rfl,R2,o2⟩
 rw [HN.out] at R2 ⊢
 have HZ2:Hid _:=HZ1.out.off o2 (fun h=>by have:=HB.out; omega)
 have HO2:Hid (Off (fun c=>c=b∨D c) w w2):=HO1.out.trans o2 (fun _ _ h=>.inl h)
 have HR2:Hid (Rdr 198 D b s1 w2):=R2
 clear R2 o2 HR1 HZ1 HO1 HS HW HO0
 go_upto_region 3 with fail
 have CQ:Cel w2.heap.size 103 #[.int .u64 4,.int .i64 0,.string ⟨#[]⟩,.int .i64 0,.int .i64 0,.int .i64 0,.int .i64 0,.int .i64 0,.int .i64 0,.int .i64 0,.int .i64 0,.slice none 0 0] (w2.alloc (.cells #[.int .u64 4,.int .i64 0,.string ⟨#[]⟩,.int .i64 0,.int .i64 0,.int .i64 0,.int .i64 0,.int .i64 0,.int .i64 0,.int .i64 0,.int .i64 0,.slice none 0 0] 103)):=Cel.new w2 _ _
 have OA:Off (fun _=>False) w2 (w2.alloc (.cells #[.int .u64 4,.int .i64 0,.string ⟨#[]⟩,.int .i64 0,.int .i64 0,.int .i64 0,.int .i64 0,.int .i64 0,.int .i64 0,.int .i64 0,.int .i64 0,.slice none 0 0] 103)):=(Off.refl _ w2).alloc _
 have hq2:=HR2.out.here
 have hd2:=HR2.out.dlt
 have hzq:=HZ2.out.lt
 generalize hv:w2.alloc (.cells #[.int .u64 4,.int .i64 0,.string ⟨#[]⟩,.int .i64 0,.int .i64 0,.int .i64 0,.int .i64 0,.int .i64 0,.int .i64 0,.int .i64 0,.int .i64 0,.slice none 0 0] 103)=V at CQ OA ⊢
 generalize hq:w2.heap.size=q at CQ hq2 hd2 hzq ⊢
 have HQ3:Hid _:=CQ
 have HZ3:Hid _:=HZ2.out.off OA (fun h=>h)
 have HR3:Hid _:=HR2.out.off OA (fun h=>h) (fun _ _ _ h=>h)
 have HO3:Hid (Off (fun c=>(c=b∨D c)∨c=q) w V):=(HO2.out.trans OA (fun _ _ h=>h.elim)).mono (fun _ _ h=>.inl h)
 have HBQ:Hid (b < q):=hq2
 have HDQ:Hid (∀ c,D c→c < q):=hd2
 have HZQ:Hid (w.heap.size < q):=hzq
 clear hq hv CQ OA hq2 hd2 hzq HR2 HZ2 HO2 HZ0
 obtain ⟨x0,x1,x2,x3,x4,x5,x6,x7,x8,x9,x10,x11⟩:=cel12 HQ3.out
 go_wp2_with fail
 clear x0 x1 x2 x3 x4 x5 x6 x7 x8 x9 x10 x11
 refine (rkey_any HR3.out).mono ?_
 rintro e v1 ⟨rfl,R1,o1⟩
 have HQ_v1:Hid _:=HQ3.out.off o1 (fun h=>by have:=HBQ.out; omega)
 have HZ_v1:Hid _:=HZ3.out.off o1 (fun h=>by have:=HB.out; omega)
 have HO_v1:Hid (Off (fun c=>(c=b∨D c)∨c=q) w v1):=HO3.out.trans o1 (fun _ _ h=>.inl (.inl h))
 have HR_v1:Hid _:=R1
 clear R1
 clear o1
 obtain ⟨tt,s3,ht⟩:∃ tt s3,textS 32 s1=(tt,s3):=⟨_,_,rfl⟩
 rw [ht] at HR_v1 ⊢
 have HTT:Hid _:=ht
 clear ht
 simp only at HR_v1 ⊢
 obtain ⟨kk,hkk⟩:∃ kk,kk=strOf tt:=⟨_,rfl⟩
 rw [← hkk]
 have HKK:Hid _:=hkk
 clear hkk
 obtain ⟨x0,x1,x2,x3,x4,x5,x6,x7,x8,x9,x10,x11⟩:=cel12 HQ_v1.out
 have fq:=HQ_v1.out.free
 go_upto_region 15 with fail
 clear x0 x1 x2 x3 x4 x5 x6 x7 x8 x9 x10 x11 fq
 have HQS:=HQ_v1.out
 replace HQS:=HQS.set 2 (.string kk)
 simp only [lsA,lsZ,lsS] at HQS
 have OS:Off (fun c=>c=q) v1 (v1.setCell ⟨q,2,none⟩ (.string kk)):=((Off.refl (fun c=>c=q) v1).setCell (.inl rfl) _)
 generalize hv:(v1.setCell ⟨q,2,none⟩ (.string kk))=v2 at HQS OS ⊢
 clear hv
 have HQQ:Hid _:=HQS
 have HZZ:Hid _:=HZ_v1.out.off OS (fun h=>by have:=HZQ.out; omega)
 have HOO:Hid (Off (fun c=>(c=b∨D c)∨c=q) w v2):=HO_v1.out.trans OS (fun _ _ h=>.inr h)
 have HRR:Hid _:=HR_v1.out.off OS (fun h=>by have:=HBQ.out; omega) (fun c _ hc h=>by have:=HDQ.out c hc; omega)
 clear HQS OS HQ_v1 HZ_v1 HO_v1 HR_v1
 cases hb0:keyB kk
 ·have HB0:Hid _:=hb0
  clear hb0
  obtain ⟨z0,z1,z2,z3,z4,z5,z6,z7,z8,z9,z10,z11⟩:=cel12 HZZ.out
  have fr:=HZZ.out.free
  go_wp2_with fail
  refine bodyPost_ret (results_rec2 rfl rfl rfl HZZ.out.st12) rfl ?_
  have ep:prs bs=none:=by
   unfold prs
   rw [HN.out]
   simp only [show ¬ (4:Nat)=1 by decide,show ¬ (4:Nat)=2 by decide,show ¬ (4:Nat)=3 by decide,if_false,if_true]
   rw [HTT.out]
   simp only
   rw [← HKK.out]
   rw [if_neg (fun h=>by rw [HB0.out] at h; cases h.1)]
  exact ⟨0,0,⟨⟨#[]⟩,zer,none,0,[]⟩,false,rfl,by rw [ep]; rfl,fun r hr=>(by rw [ep] at hr; cases hr),Row.nil _ none 0 (by omega),Frh.nil _,(HOO.out.st12 (.inr (Nat.le_refl _))).mono (fun i hi h=>h.elim (fun h=>h.elim (fun h=>by have:=HB.out; omega) (fun h=>by have:=HD.out i h; omega)) (fun h=>by have:=HZQ.out; omega))⟩
 ·have HB0:Hid _:=hb0
  clear hb0
  by_cases he:endS s3=0
  ·have e0:(((endS s3:Nat):Int) != 0)=false:=by rw [he]; rfl
   have HE0:Hid _:=he
   clear he
   go_wp2_with fail
   refine (rend_any HRR.out).mono ?_
   rintro e v3 ⟨rfl,hw⟩
   rw [hw]
   clear hw v3
   obtain ⟨z0,z1,z2,z3,z4,z5,z6,z7,z8,z9,z10,z11⟩:=cel12 HZZ.out
   have fr:=HZZ.out.free
   obtain ⟨x0,x1,x2,x3,x4,x5,x6,x7,x8,x9,x10,x11⟩:=cel12 HQQ.out
   go_wp2_with fail
   refine bodyPost_ret (results_rec2 rfl rfl rfl HZZ.out.st12) rfl ?_
   have ep:prs bs=some ⟨4,0,(⟨kk,zer,none,0,[]⟩:E).abs⟩:=by
    unfold prs
    rw [HN.out]
    simp only [show ¬ (4:Nat)=1 by decide,show ¬ (4:Nat)=2 by decide,show ¬ (4:Nat)=3 by decide,if_false,if_true]
    rw [HTT.out]
    simp only
    rw [← HKK.out]
    rw [if_pos ⟨HB0.out,HE0.out⟩]
    rw [show keyK tt=⟨kk,zer,[]⟩ by rw [HKK.out]; rfl]
    rfl
   exact ⟨4,0,⟨kk,zer,none,0,[]⟩,true,rfl,by rw [ep]; rfl,fun r hr=>(by rw [ep] at hr; exact (Option.some.inj hr).symm),Row.nil _ none 0 (by omega),Frh.nil _,(HOO.out.st12 (.inr (Nat.le_refl _))).mono (fun i hi h=>h.elim (fun h=>h.elim (fun h=>by have:=HB.out; omega) (fun h=>by have:=HD.out i h; omega)) (fun h=>by have:=HZQ.out; omega))⟩
  ·have e0:(((endS s3:Nat):Int) != 0)=true:=by simpa using he
   have HE0:Hid _:=he
   clear he
   go_wp2_with fail
   refine (rend_any HRR.out).mono ?_
   rintro e v3 ⟨rfl,hw⟩
   rw [hw]
   clear hw v3
   obtain ⟨z0,z1,z2,z3,z4,z5,z6,z7,z8,z9,z10,z11⟩:=cel12 HZZ.out
   have fr:=HZZ.out.free
   go_wp2_with fail
   refine bodyPost_ret (results_rec2 rfl rfl rfl HZZ.out.st12) rfl ?_
   have ep:prs bs=none:=by
    unfold prs
    rw [HN.out]
    simp only [show ¬ (4:Nat)=1 by decide,show ¬ (4:Nat)=2 by decide,show ¬ (4:Nat)=3 by decide,if_false,if_true]
    rw [HTT.out]
    simp only
    rw [← HKK.out]
    rw [if_neg (fun h=>HE0.out h.2)]
   exact ⟨0,0,⟨⟨#[]⟩,zer,none,0,[]⟩,false,rfl,by rw [ep]; rfl,fun r hr=>(by rw [ep] at hr; cases hr),Row.nil _ none 0 (by omega),Frh.nil _,(HOO.out.st12 (.inr (Nat.le_refl _))).mono (fun i hi h=>h.elim (fun h=>h.elim (fun h=>by have:=HB.out; omega) (fun h=>by have:=HD.out i h; omega)) (fun h=>by have:=HZQ.out; omega))⟩
set_option maxRecDepth 100000 in
set_option maxHeartbeats 2000000 in
theorem parse0_any (t:Option Addr) (c:Nat) (bs:List Nat) (w:World) (hs:Src w t c bs) (hlt:∀ b ∈ bs,b < 256) (hl:bs.length≤60000) (n:Nat) (s1:RS) (hn:numS (bs,0)=(n,s1)) (h1:n ≠ 1) (h2:n ≠ 2) (h3:n ≠ 3) (h4:n ≠ 4) :
  Calls Tryz.prog 41 #[.slice t bs.length c] w fun e w'=>∃ (kd:Nat) (node:Int) (x:E) (ok:Bool),e=.returned (.tuple #[(.agg #[.int .u64 (kd:Int),.int .i64 node,.string x.key,.int .i64 (x.f 0),.int .i64 (x.f 1),.int .i64 (x.f 2),.int .i64 (x.f 3),.int .i64 (x.f 4),.int .i64 (x.f 5),.int .i64 (x.f 6),.int .i64 (x.f 7),.slice x.a x.l.length x.cap]),.bool ok])∧ok=(prs bs).isSome∧(∀ r,prs bs=some r→r=⟨kd,node,x.abs⟩)∧Row w' x.a x.cap x.l∧Frh w.heap.size x.a x.l∧Off (fun _=>False) w w':=by
 have e1:((n:Int) == 1)=false:=by rw [beq_eq_false_iff_ne]; omega
 have e2:((n:Int) == 2)=false:=by rw [beq_eq_false_iff_ne]; omega
 have e3:((n:Int) == 3)=false:=by rw [beq_eq_false_iff_ne]; omega
 have e4:((n:Int) == 4)=false:=by rw [beq_eq_false_iff_ne]; omega
 have HNE:Hid (n ≠ 1∧n ≠ 2∧n ≠ 3∧n ≠ 4):=⟨h1,h2,h3,h4⟩
 clear h1 h2 h3 h4
 obtain ⟨W,hW⟩:∃ W,W=(w.alloc (.cells #[.int .u64 0,.int .i64 0,.string ⟨#[]⟩,.int .i64 0,.int .i64 0,.int .i64 0,.int .i64 0,.int .i64 0,.int .i64 0,.int .i64 0,.int .i64 0,.slice none 0 0] 103)):=⟨_,rfl⟩
 have O:Off (fun _=>False) w W:=by rw [hW]; exact (Off.refl _ w).alloc _
 have C:Cel w.heap.size 103 #[.int .u64 0,.int .i64 0,.string ⟨#[]⟩,.int .i64 0,.int .i64 0,.int .i64 0,.int .i64 0,.int .i64 0,.int .i64 0,.int .i64 0,.int .i64 0,.slice none 0 0] W:=by rw [hW]; exact Cel.new w _ _
 have HS:Hid _:=hs.off O (fun _ _ _ h=>h)
 have HW:Hid _:=hW
 have HZ0:Hid _:=C
 have HO0:Hid _:=O
 have HN:Hid _:=hn
 clear hW C O hs hn
 go_enter Tryz.func41,Tryz.ntmps41
 go_upto_region 1 with fail
 rw [show (w.alloc (.cells #[.int .u64 0,.int .i64 0,.string ⟨#[]⟩,.int .i64 0,.int .i64 0,.int .i64 0,.int .i64 0,.int .i64 0,.int .i64 0,.int .i64 0,.int .i64 0,.slice none 0 0] 103))=W from HW.out.symm]
 go_wp2_with fail
 refine (newReader_any t c bs (by omega) hlt W HS.out).mono ?_
 rintro e w1 ⟨b,D,rfl,hb,hD,R1,o1⟩
 have HZ1:Hid _:=HZ0.out.off o1 (fun h=>h)
 have HO1:Hid (Off (fun c=>c=b∨D c) w w1):=(HO0.out.trans o1 (fun _ _ h=>h)).mono (fun _ _ h=>h.elim)
 have HB:Hid (w.heap.size < b):=Nat.lt_of_lt_of_le HZ0.out.lt hb
 have HD:Hid (∀ c,D c→w.heap.size < c):=fun c hc=>Nat.lt_of_lt_of_le HZ0.out.lt (hD c hc)
 have HR1:Hid _:=R1
 clear R1 o1 hb hD
 go_wp2_with fail
 refine (rnum_any HR1.out).mono ?_
 rintro e w2 ⟨rfl,R2,o2⟩
 rw [HN.out] at R2 ⊢
 have HZ2:Hid _:=HZ1.out.off o2 (fun h=>by have:=HB.out; omega)
 have HO2:Hid (Off (fun c=>c=b∨D c) w w2):=HO1.out.trans o2 (fun _ _ h=>.inl h)
 have HR2:Hid (Rdr 198 D b s1 w2):=R2
 clear R2 o2 HR1 HZ1 HO1 HS HW HO0
 go_upto_region 3 with fail
 have CQ:Cel w2.heap.size 103 #[.int .u64 (n:Int),.int .i64 0,.string ⟨#[]⟩,.int .i64 0,.int .i64 0,.int .i64 0,.int .i64 0,.int .i64 0,.int .i64 0,.int .i64 0,.int .i64 0,.slice none 0 0] (w2.alloc (.cells #[.int .u64 (n:Int),.int .i64 0,.string ⟨#[]⟩,.int .i64 0,.int .i64 0,.int .i64 0,.int .i64 0,.int .i64 0,.int .i64 0,.int .i64 0,.int .i64 0,.slice none 0 0] 103)):=Cel.new w2 _ _
 have OA:Off (fun _=>False) w2 (w2.alloc (.cells #[.int .u64 (n:Int),.int .i64 0,.string ⟨#[]⟩,.int .i64 0,.int .i64 0,.int .i64 0,.int .i64 0,.int .i64 0,.int .i64 0,.int .i64 0,.int .i64 0,.slice none 0 0] 103)):=(Off.refl _ w2).alloc _
 have hq2:=HR2.out.here
 have hd2:=HR2.out.dlt
 have hzq:=HZ2.out.lt
 generalize hv:w2.alloc (.cells #[.int .u64 (n:Int),.int .i64 0,.string ⟨#[]⟩,.int .i64 0,.int .i64 0,.int .i64 0,.int .i64 0,.int .i64 0,.int .i64 0,.int .i64 0,.int .i64 0,.slice none 0 0] 103)=V at CQ OA ⊢
 generalize hq:w2.heap.size=q at CQ hq2 hd2 hzq ⊢
 have HQ3:Hid _:=CQ
 have HZ3:Hid _:=HZ2.out.off OA (fun h=>h)
 have HR3:Hid _:=HR2.out.off OA (fun h=>h) (fun _ _ _ h=>h)
 have HO3:Hid (Off (fun c=>(c=b∨D c)∨c=q) w V):=(HO2.out.trans OA (fun _ _ h=>h.elim)).mono (fun _ _ h=>.inl h)
 have HBQ:Hid (b < q):=hq2
 have HDQ:Hid (∀ c,D c→c < q):=hd2
 have HZQ:Hid (w.heap.size < q):=hzq
 clear hq hv CQ OA hq2 hd2 hzq HR2 HZ2 HO2 HZ0
 have HZZ:Hid _:=HZ3.out
 have HOO:Hid _:=HO3.out
 obtain ⟨x0,x1,x2,x3,x4,x5,x6,x7,x8,x9,x10,x11⟩:=cel12 HQ3.out
 obtain ⟨z0,z1,z2,z3,z4,z5,z6,z7,z8,z9,z10,z11⟩:=cel12 HZZ.out
 have fr:=HZZ.out.free
 go_wp2_with fail
 refine bodyPost_ret (results_rec2 rfl rfl rfl HZZ.out.st12) rfl ?_
 have ep:prs bs=none:=by
  unfold prs
  rw [HN.out]
  simp only
  rw [if_neg HNE.out.1,if_neg HNE.out.2.1,if_neg HNE.out.2.2.1,if_neg HNE.out.2.2.2]
 exact ⟨0,0,⟨⟨#[]⟩,zer,none,0,[]⟩,false,rfl,by rw [ep]; rfl,fun r hr=>(by rw [ep] at hr; cases hr),Row.nil _ none 0 (by omega),Frh.nil _,(HOO.out.st12 (.inr (Nat.le_refl _))).mono (fun i hi h=>h.elim (fun h=>h.elim (fun h=>by have:=HB.out; omega) (fun h=>by have:=HD.out i h; omega)) (fun h=>by have:=HZQ.out; omega))⟩
theorem parse_any (t:Option Addr) (c:Nat) (bs:List Nat) (w:World) (hs:Src w t c bs) (hlt:∀ b ∈ bs,b < 256) (hl:bs.length≤60000) :
  Calls Tryz.prog 41 #[.slice t bs.length c] w fun e w'=>∃ (kd:Nat) (node:Int) (x:E) (ok:Bool),e=.returned (.tuple #[(.agg #[.int .u64 (kd:Int),.int .i64 node,.string x.key,.int .i64 (x.f 0),.int .i64 (x.f 1),.int .i64 (x.f 2),.int .i64 (x.f 3),.int .i64 (x.f 4),.int .i64 (x.f 5),.int .i64 (x.f 6),.int .i64 (x.f 7),.slice x.a x.l.length x.cap]),.bool ok])∧ok=(prs bs).isSome∧(∀ r,prs bs=some r→r=⟨kd,node,x.abs⟩)∧Row w' x.a x.cap x.l∧Frh w.heap.size x.a x.l∧Off (fun _=>False) w w':=by
 obtain ⟨n,s1,hn⟩:∃ n s1,numS (bs,0)=(n,s1):=⟨_,_,rfl⟩
 by_cases h1:n=1
 ·subst h1; exact parse1_any t c bs w hs hlt hl s1 hn
 by_cases h2:n=2
 ·subst h2; exact parse2_any t c bs w hs hlt hl s1 hn
 by_cases h3:n=3
 ·subst h3; exact parse3_any t c bs w hs hlt hl s1 hn
 by_cases h4:n=4
 ·subst h4; exact parse4_any t c bs w hs hlt hl s1 hn
 exact parse0_any t c bs w hs hlt hl n s1 hn h1 h2 h3 h4
theorem count7 {s:RS}:(countS 7 s).1≤7:=by
 unfold countS
 split
 ·simp
 ·omega
theorem rdK_ok {s:RS} (hb:reB nodeP s=true) (hx:∀ x ∈ (rdK s).l,Rng x):OkK (rdK s):=by
 have h0:=hb
 unfold reB at h0
 simp only [Bool.and_eq_true] at h0
 obtain ⟨y1,y2,y3⟩:=re_yes hb
 obtain ⟨-,h1,h2⟩:=h0
 rw [y1] at h1
 rw [y2,y3] at h2
 have hm:MayP (nrm (reF nodeP s)) (reL nodeP s):=may_cov (fun j hj=>by unfold nrm; rw [if_pos hj]) (may_iff.1 h2)
 generalize hk:reKey nodeP s=k at *
 generalize hl:reL nodeP s=l at *
 have e:rdK s=⟨k,nrm (reF nodeP s),l⟩:=by unfold rdK; rw [hk,hl]
 rw [e] at hx ⊢
 exact ⟨h1,hm,nrm_ok _,hx⟩
theorem prs_ok {bs:List Nat} {r:RD} (h:prs bs=some r) (hr:∀ x ∈ r.k.l,Rng x):OkR r:=by
 have key:∀ s:RS,reB nodeP s=true→(∀ x ∈ (rdK s).l,Rng x)→OkK (rdK s):=fun s hb hx=>rdK_ok hb hx
 have nod:∀ s:RS,nodeOk (((countS 7 s).1:Nat):Int)=true:=fun s=>by
  have:=@count7 s
  simp only [nodeOk,Bool.and_eq_true,decide_eq_true_eq]
  omega
 unfold prs at h
 split at h
 ·split at h
  ·rename_i e
   simp only [Option.some.injEq] at h
   subst h
   exact ⟨.inl ⟨rfl,rfl,key _ e.1 hr⟩⟩
  ·cases h
 ·split at h
  ·split at h
   ·rename_i e
    simp only [Option.some.injEq] at h
    subst h
    exact ⟨.inr (.inl ⟨rfl,nod _,key _ e.1 hr⟩)⟩
   ·cases h
  ·split at h
   ·split at h
    ·rename_i e
     simp only [Option.some.injEq] at h
     subst h
     exact ⟨.inr (.inr (.inl ⟨rfl,nod _,e.1,rfl,rfl⟩))⟩
    ·cases h
   ·split at h
    ·split at h
     ·rename_i e
      simp only [Option.some.injEq] at h
      subst h
      exact ⟨.inr (.inr (.inr ⟨rfl,rfl,e.1,rfl,rfl⟩))⟩
     ·cases h
    ·cases h
end Go.Proofs.YthjbnpaghiojlaaGreat
