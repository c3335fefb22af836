/- Items of several texts. -/
import Derived.Test.YthjbnpaghiojlaaGreatKKee
import Derived.Test.YthjbnpaghiojlaaGreatKHm
namespace Go.Proofs.YthjbnpaghiojlaaGreat
open Go.RowKit
theorem Cel.st10H {b:Nat} {t:TypeId} {s0 s1 s2 s3 s4 s5 s6 s7 s8 s9:Value} {w:World} (h:Cel b t #[s0,s1,s2,s3,s4,s5,s6,s7,s8,s9] w) (x:E):Cel b t #[.string x.key,.int .i64 (x.f 0),.int .i64 (x.f 1),.int .i64 (x.f 2),.int .i64 (x.f 3),.int .i64 (x.f 4),.int .i64 (x.f 5),.int .i64 (x.f 6),.int .i64 (x.f 7),.slice x.a x.l.length x.cap] ((((((((((w.setCell ⟨b,0,none⟩ (.string x.key)).setCell ⟨b,1,none⟩ (.int .i64 (x.f 0))).setCell ⟨b,2,none⟩ (.int .i64 (x.f 1))).setCell ⟨b,3,none⟩ (.int .i64 (x.f 2))).setCell ⟨b,4,none⟩ (.int .i64 (x.f 3))).setCell ⟨b,5,none⟩ (.int .i64 (x.f 4))).setCell ⟨b,6,none⟩ (.int .i64 (x.f 5))).setCell ⟨b,7,none⟩ (.int .i64 (x.f 6))).setCell ⟨b,8,none⟩ (.int .i64 (x.f 7))).setCell ⟨b,9,none⟩ (.slice x.a x.l.length x.cap)):=by
 replace h:=h.set 0 (.string x.key)
 simp only [List.setIfInBounds_toArray,List.set_cons_zero] at h
 replace h:=h.set 1 (.int .i64 (x.f 0))
 simp only [lsA,lsZ,lsS] at h
 replace h:=h.set 2 (.int .i64 (x.f 1))
 simp only [lsA,lsZ,lsS] at h
 replace h:=h.set 3 (.int .i64 (x.f 2))
 simp only [lsA,lsZ,lsS] at h
 replace h:=h.set 4 (.int .i64 (x.f 3))
 simp only [lsA,lsZ,lsS] at h
 replace h:=h.set 5 (.int .i64 (x.f 4))
 simp only [lsA,lsZ,lsS] at h
 replace h:=h.set 6 (.int .i64 (x.f 5))
 simp only [lsA,lsZ,lsS] at h
 replace h:=h.set 7 (.int .i64 (x.f 6))
 simp only [lsA,lsZ,lsS] at h
 replace h:=h.set 8 (.int .i64 (x.f 7))
 simp only [lsA,lsZ,lsS] at h
 replace h:=h.set 9 (.slice x.a x.l.length x.cap)
 simp only [lsA,lsZ,lsS] at h
 exact h
theorem Off.st10H {D:Nat→Prop} {a w:World} {b:Nat} (h:Off D a w) (hb:D b∨a.heap.size≤b) (x:E):Off D a ((((((((((w.setCell ⟨b,0,none⟩ (.string x.key)).setCell ⟨b,1,none⟩ (.int .i64 (x.f 0))).setCell ⟨b,2,none⟩ (.int .i64 (x.f 1))).setCell ⟨b,3,none⟩ (.int .i64 (x.f 2))).setCell ⟨b,4,none⟩ (.int .i64 (x.f 3))).setCell ⟨b,5,none⟩ (.int .i64 (x.f 4))).setCell ⟨b,6,none⟩ (.int .i64 (x.f 5))).setCell ⟨b,7,none⟩ (.int .i64 (x.f 6))).setCell ⟨b,8,none⟩ (.int .i64 (x.f 7))).setCell ⟨b,9,none⟩ (.slice x.a x.l.length x.cap)):=((((((((((h.setCell hb _).setCell hb _).setCell hb _).setCell hb _).setCell hb _).setCell hb _).setCell hb _).setCell hb _).setCell hb _).setCell hb _)
theorem Cel.st11 {b:Nat} {t:TypeId} {s0 s1 s2 s3 s4 s5 s6 s7 s8 s9 s10:Value} {w:World} (h:Cel b t #[s0,s1,s2,s3,s4,s5,s6,s7,s8,s9,s10] w) (x:H):Cel b t #[.int .i64 x.node,.string x.e.key,.int .i64 (x.e.f 0),.int .i64 (x.e.f 1),.int .i64 (x.e.f 2),.int .i64 (x.e.f 3),.int .i64 (x.e.f 4),.int .i64 (x.e.f 5),.int .i64 (x.e.f 6),.int .i64 (x.e.f 7),.slice x.e.a x.e.l.length x.e.cap] (((((((((((w.setCell ⟨b,0,none⟩ (.int .i64 x.node)).setCell ⟨b,1,none⟩ (.string x.e.key)).setCell ⟨b,2,none⟩ (.int .i64 (x.e.f 0))).setCell ⟨b,3,none⟩ (.int .i64 (x.e.f 1))).setCell ⟨b,4,none⟩ (.int .i64 (x.e.f 2))).setCell ⟨b,5,none⟩ (.int .i64 (x.e.f 3))).setCell ⟨b,6,none⟩ (.int .i64 (x.e.f 4))).setCell ⟨b,7,none⟩ (.int .i64 (x.e.f 5))).setCell ⟨b,8,none⟩ (.int .i64 (x.e.f 6))).setCell ⟨b,9,none⟩ (.int .i64 (x.e.f 7))).setCell ⟨b,10,none⟩ (.slice x.e.a x.e.l.length x.e.cap)):=by
 replace h:=h.set 0 (.int .i64 x.node)
 simp only [List.setIfInBounds_toArray,List.set_cons_zero] at h
 replace h:=h.set 1 (.string x.e.key)
 simp only [lsA,lsZ,lsS] at h
 replace h:=h.set 2 (.int .i64 (x.e.f 0))
 simp only [lsA,lsZ,lsS] at h
 replace h:=h.set 3 (.int .i64 (x.e.f 1))
 simp only [lsA,lsZ,lsS] at h
 replace h:=h.set 4 (.int .i64 (x.e.f 2))
 simp only [lsA,lsZ,lsS] at h
 replace h:=h.set 5 (.int .i64 (x.e.f 3))
 simp only [lsA,lsZ,lsS] at h
 replace h:=h.set 6 (.int .i64 (x.e.f 4))
 simp only [lsA,lsZ,lsS] at h
 replace h:=h.set 7 (.int .i64 (x.e.f 5))
 simp only [lsA,lsZ,lsS] at h
 replace h:=h.set 8 (.int .i64 (x.e.f 6))
 simp only [lsA,lsZ,lsS] at h
 replace h:=h.set 9 (.int .i64 (x.e.f 7))
 simp only [lsA,lsZ,lsS] at h
 replace h:=h.set 10 (.slice x.e.a x.e.l.length x.e.cap)
 simp only [lsA,lsZ,lsS] at h
 exact h
theorem Off.st11 {D:Nat→Prop} {a w:World} {b:Nat} (h:Off D a w) (hb:D b∨a.heap.size≤b) (x:H):Off D a (((((((((((w.setCell ⟨b,0,none⟩ (.int .i64 x.node)).setCell ⟨b,1,none⟩ (.string x.e.key)).setCell ⟨b,2,none⟩ (.int .i64 (x.e.f 0))).setCell ⟨b,3,none⟩ (.int .i64 (x.e.f 1))).setCell ⟨b,4,none⟩ (.int .i64 (x.e.f 2))).setCell ⟨b,5,none⟩ (.int .i64 (x.e.f 3))).setCell ⟨b,6,none⟩ (.int .i64 (x.e.f 4))).setCell ⟨b,7,none⟩ (.int .i64 (x.e.f 5))).setCell ⟨b,8,none⟩ (.int .i64 (x.e.f 6))).setCell ⟨b,9,none⟩ (.int .i64 (x.e.f 7))).setCell ⟨b,10,none⟩ (.slice x.e.a x.e.l.length x.e.cap)):=(((((((((((h.setCell hb _).setCell hb _).setCell hb _).setCell hb _).setCell hb _).setCell hb _).setCell hb _).setCell hb _).setCell hb _).setCell hb _).setCell hb _)
theorem results_entryH {fn:Func} {p:Tmp} (h:fn.results=#[.cell p 68]) {tmps:Array Value} {w:World} {b:Nat} {x:E} (hp:tmps.getD p undef=.pointer (some ⟨b,0,none⟩)) (hc:Cel b 68 #[.string x.key,.int .i64 (x.f 0),.int .i64 (x.f 1),.int .i64 (x.f 2),.int .i64 (x.f 3),.int .i64 (x.f 4),.int .i64 (x.f 5),.int .i64 (x.f 6),.int .i64 (x.f 7),.slice x.a x.l.length x.cap] w) :
  (results fn tmps).run Tryz.prog w=.ok (.agg #[.string x.key,.int .i64 (x.f 0),.int .i64 (x.f 1),.int .i64 (x.f 2),.int .i64 (x.f 3),.int .i64 (x.f 4),.int .i64 (x.f 5),.int .i64 (x.f 6),.int .i64 (x.f 7),.slice x.a x.l.length x.cap]) w:=by
 obtain ⟨d,hd⟩:∃ d,Tryz.prog.underlying 68=some (.struct d):=⟨_,Tryz.underlying68⟩
 exact results_cell_row h tmps w b 68 _ (0,0) (.struct d) hp hc.is hd rfl (by kernel_rfl)
theorem results_hint {fn:Func} {p:Tmp} (h:fn.results=#[.cell p 75]) {tmps:Array Value} {w:World} {b:Nat} {x:H} (hp:tmps.getD p undef=.pointer (some ⟨b,0,none⟩)) (hc:Cel b 75 #[.int .i64 x.node,.string x.e.key,.int .i64 (x.e.f 0),.int .i64 (x.e.f 1),.int .i64 (x.e.f 2),.int .i64 (x.e.f 3),.int .i64 (x.e.f 4),.int .i64 (x.e.f 5),.int .i64 (x.e.f 6),.int .i64 (x.e.f 7),.slice x.e.a x.e.l.length x.e.cap] w) :
  (results fn tmps).run Tryz.prog w=.ok (.agg #[.int .i64 x.node,.string x.e.key,.int .i64 (x.e.f 0),.int .i64 (x.e.f 1),.int .i64 (x.e.f 2),.int .i64 (x.e.f 3),.int .i64 (x.e.f 4),.int .i64 (x.e.f 5),.int .i64 (x.e.f 6),.int .i64 (x.e.f 7),.slice x.e.a x.e.l.length x.e.cap]) w:=by
 obtain ⟨d,hd⟩:∃ d,Tryz.prog.underlying 75=some (.struct d):=⟨_,Tryz.underlying75⟩
 exact results_cell_row h tmps w b 75 _ (0,0) (.struct d) hp hc.is hd rfl (by kernel_rfl)
set_option maxRecDepth 100000 in
set_option maxHeartbeats 1000000 in
theorem centry_any (key:ByteArray) (f:Nat→Int) (a:Option Addr) (cap:Nat) (l:List V) (w:World) (hr:Row w a cap l) (hl:l.length≤1000) :
  Calls Tryz.prog 190 #[.agg #[.string key,.int .i64 (f 0),.int .i64 (f 1),.int .i64 (f 2),.int .i64 (f 3),.int .i64 (f 4),.int .i64 (f 5),.int .i64 (f 6),.int .i64 (f 7),.slice a l.length cap]] w fun e w'=>∃ (a':Option Addr) (c':Nat) (k:List V),e=.returned (.agg #[.string key,.int .i64 (f 0),.int .i64 (f 1),.int .i64 (f 2),.int .i64 (f 3),.int .i64 (f 4),.int .i64 (f 5),.int .i64 (f 6),.int .i64 (f 7),.slice a' k.length c'])∧cont k=cont l∧Row w' a' c' k∧Ter (fun x=>w.heap.size≤x) a' k∧Off (fun _=>False) w w':=by
 obtain ⟨W,hW⟩:∃ W,W=((w.alloc (.cells #[.string key,.int .i64 (f 0),.int .i64 (f 1),.int .i64 (f 2),.int .i64 (f 3),.int .i64 (f 4),.int .i64 (f 5),.int .i64 (f 6),.int .i64 (f 7),.slice a l.length cap] 68)).alloc (.cells #[.string ⟨#[]⟩,.int .i64 0,.int .i64 0,.int .i64 0,.int .i64 0,.int .i64 0,.int .i64 0,.int .i64 0,.int .i64 0,.slice none 0 0] 68)):=⟨_,rfl⟩
 have O:Off (fun _=>False) w W:=by rw [hW]; exact ((Off.refl _ w).alloc _).alloc _
 have C0:Cel w.heap.size 68 #[.string key,.int .i64 (f 0),.int .i64 (f 1),.int .i64 (f 2),.int .i64 (f 3),.int .i64 (f 4),.int .i64 (f 5),.int .i64 (f 6),.int .i64 (f 7),.slice a l.length cap] W:=by rw [hW]; exact (Cel.new w _ _).alloc _
 have C1:Cel (w.heap.size + 1) 68 #[.string ⟨#[]⟩,.int .i64 0,.int .i64 0,.int .i64 0,.int .i64 0,.int .i64 0,.int .i64 0,.int .i64 0,.int .i64 0,.slice none 0 0] W:=by rw [hW]; exact Cel.new1 w _ _ _
 have c8:W.cell? ⟨w.heap.size,9,none⟩=some (.slice a l.length cap):=C0.cell 9
 have HC0:Hid _:=C0
 have HC1:Hid _:=C1
 have HR:Hid _:=hr.off O
 have HO:Hid _:=O
 have HW:Hid _:=hW
 clear hr O C0 C1 hW
 go_enter Tryz.func190,Tryz.ntmps190
 go_upto_region 1 with fail
 rw [show ((w.alloc (.cells #[.string key,.int .i64 (f 0),.int .i64 (f 1),.int .i64 (f 2),.int .i64 (f 3),.int .i64 (f 4),.int .i64 (f 5),.int .i64 (f 6),.int .i64 (f 7),.slice a l.length cap] 68)).alloc (.cells #[.string ⟨#[]⟩,.int .i64 0,.int .i64 0,.int .i64 0,.int .i64 0,.int .i64 0,.int .i64 0,.int .i64 0,.int .i64 0,.slice none 0 0] 68))=W from HW.out.symm]
 go_wp2_with fail
 refine (vclone_any a cap l hl W HR.out).mono ?_
 rintro e w1 ⟨t,c,rfl,own,hnew,o1⟩
 have D0:=HC0.out.off o1 (fun h=>h)
 have D1:=HC1.out.off o1 (fun h=>h)
 have f0:=D0.free
 have d8:w1.cell? ⟨w.heap.size,9,none⟩=some (.slice a l.length cap):=D0.cell 9
 obtain ⟨W1,hW1⟩:∃ W1,W1=w1.setCell ⟨w.heap.size,9,none⟩ (.slice t l.length c):=⟨_,rfl⟩
 have hne:∀ k,blk t=some k→k ≠ w.heap.size∧k ≠ w.heap.size + 1:=fun k hk=>by
  have h1:=hnew k hk
  have h2:=HC1.out.lt
  constructor <;> omega
 have E0:Cel w.heap.size 68 #[.string key,.int .i64 (f 0),.int .i64 (f 1),.int .i64 (f 2),.int .i64 (f 3),.int .i64 (f 4),.int .i64 (f 5),.int .i64 (f 6),.int .i64 (f 7),.slice t l.length c] W1:=by
  rw [hW1]
  have:=D0.set 9 (.slice t l.length c)
  simpa using this
 have E1:Cel (w.heap.size + 1) 68 #[.string ⟨#[]⟩,.int .i64 0,.int .i64 0,.int .i64 0,.int .i64 0,.int .i64 0,.int .i64 0,.int .i64 0,.int .i64 0,.slice none 0 0] W1:=by rw [hW1]; exact D1.other (by simp) _
 have OW:Off (fun _=>False) w W1:=by rw [hW1]; exact (HO.out.trans o1 (fun _ _ h=>h)).setCell (.inr (Nat.le_refl _)) _
 have own1:OwnV W1 t c l:=by
  rw [hW1]
  exact own.off (D:=fun k=>k=w.heap.size) ((Off.refl (fun k=>k=w.heap.size) w1).setCell (.inl rfl) _) (fun k hk=>(hne k hk).1)
 have row1:Row W1 t c l:=by
  refine own1.toRow (fun v hv=>?_)
  have:=((HR.out.off o1).ok v hv)
  rw [hW1]
  exact ⟨this.src.setN (fun k n e=>by rw [D0.cell 9] at e; simp at e) _,this.lt,this.n0,this.n1,this.m0,this.m1,this.len⟩
 have k8:W1.cell? ⟨w.heap.size,9,none⟩=some (.slice t l.length c):=E0.cell 9
 have hnew2:∀ k,blk t=some k→w.heap.size≤k:=fun k hk=>Nat.le_trans HO.out.size (hnew k hk)
 have HE0:Hid _:=E0
 have HE1:Hid _:=E1
 have HOW:Hid _:=OW
 have HOWN:Hid _:=own1
 have HROW:Hid _:=row1
 have HNE:Hid _:=hne
 have HNW:Hid _:=hnew2
 have HW1:Hid _:=hW1
 clear D0 D1 E0 E1 OW own1 row1 hne hnew hnew2 own o1 hW1 c8 HC0 HC1 HR HO HW
 have c8:(w1.setCell ⟨w.heap.size,9,none⟩ (.slice t l.length c)).cell? ⟨w.heap.size,9,none⟩=some (.slice t l.length c):=by rw [← HW1.out]; exact k8
 go_upto_region 2 with fail
 rw [← HW1.out]
 clear c8 f0 d8
 go_wp2_with fail
 go_loopw [14] (fun y wr=>∃ (n:Nat) (k:List V),y=.int .i64 (n:Int)∧n≤l.length∧k.length=l.length∧cont k=cont l∧(∀ i v,i < n→k[i]?=some v→∀ x,blk v.ad=some x→w.heap.size + 2≤x)∧Row wr t c k∧Cel w.heap.size 68 #[.string key,.int .i64 (f 0),.int .i64 (f 1),.int .i64 (f 2),.int .i64 (f 3),.int .i64 (f 4),.int .i64 (f 5),.int .i64 (f 6),.int .i64 (f 7),.slice t l.length c] wr∧Cel (w.heap.size + 1) 68 #[.string ⟨#[]⟩,.int .i64 0,.int .i64 0,.int .i64 0,.int .i64 0,.int .i64 0,.int .i64 0,.int .i64 0,.int .i64 0,.slice none 0 0] wr∧(∀ v ∈ l,∃ g cur,t=some ⟨g,0,none⟩∧Cel g 87 cur wr)∧Off (fun _=>False) w wr) (fun y _=>(l.length - intOf y).toNat)
 case atStart =>
  refine ⟨0,l,rfl,by omega,rfl,rfl,fun i v hi=>by omega,HROW.out,HE0.out,HE1.out,fun v hv=>?_,HOW.out⟩
  rcases HOWN.out.row.2 with ⟨-,h0⟩ | ⟨g,c',cur,hvv,-,hh,-⟩
  ·rw [List.eq_nil_of_length_eq_zero h0] at hv
   simp at hv
  ·simp only [Value.slice.injEq] at hvv
   exact ⟨g,cur,hvv.1,⟨hh⟩⟩
 case round =>
  clear HE0 HE1 HOW HOWN HROW HW1 k8
  obtain ⟨n,k,rfl,hn,hkl,hck,hbb,rw1,cb,cr,hgg,O⟩:=hrel
  have HBB:Hid _:=hbb
  have CB:Hid _:=cb
  have CR:Hid _:=cr
  have HK:Hid (cont k=cont l):=hck
  have HL:Hid (k.length=l.length):=hkl
  have HRW:Hid _:=rw1
  have HGG:Hid _:=hgg
  have HO:Hid _:=O
  clear cb cr hck hkl rw1 hgg O hbb
  by_cases hlt:n < l.length
  ·have e1:decide ((n:Int) < (l.length:Int))=true:=decide_eq_true (by omega)
   have e2:decide (n < l.length)=true:=decide_eq_true hlt
   obtain ⟨v,hv⟩:∃ v,k[n]?=some v:=⟨_,List.getElem?_eq_getElem (by rw [HL.out]; exact hlt)⟩
   obtain ⟨g,cur,rfl,hg⟩:=HGG.out _ (List.getElem_mem hlt)
   have hgq:=HNE.out g rfl
   have HGQ:Hid (¬ w.heap.size=g):=fun e=>hgq.1 e.symm
   have hok:=(HRW.out.off ((Off.refl _ wr).drew)).ok v (List.mem_of_getElem? hv)
   have HR9:Hid _:=HRW.out.off ((Off.refl _ wr).drew)
   have c2:wr.drew.cell? ⟨g,n * 4 + 2,none⟩=some (.slice v.ad v.data.length v.cap):=(HR9.out.at0 hv).c2
   have HG:Hid _:=hg
   have HGN:Hid _:=HNW.out g rfl
   clear hg hgq
   go_wp2_with fail
   refine wp_region_held_drew (S:=fun w'=>Off (fun c=>c=g) wr w') (by kernel_rfl) ((Off.refl _ wr).drew) (fun hS=>?_)
   refine take_q 0 17 (.pointer (some ⟨w.heap.size,1,none⟩)) hS ?_
   simp only [Act.put,lsA,lsZ,lsS]
   refine take_q 1 18 (.pointer (some ⟨w.heap.size,9,none⟩)) hS ?_
   simp only [Act.put,lsA,lsZ,lsS]
   refine take_r 2 19 (.slice (some ⟨g,0,none⟩) l.length c) rfl (Or.inl ⟨by rfl,fun w' hw'=>by obtain ⟨x0,x1,x2,x3,x4,x5,x6,x7,x8,x9⟩:=cel10 (CB.out.off hw' HGQ.out); go_simp⟩) hS ?_
   simp only [Act.put,lsA,lsZ,lsS]
   refine take_q 3 20 (.int .i64 (n:Int)) hS ?_
   simp only [Act.put,lsA,lsZ,lsS]
   refine take_q 4 21 (.pointer (some ⟨w.heap.size,1,none⟩)) hS ?_
   simp only [Act.put,lsA,lsZ,lsS]
   refine take_q 5 22 (.pointer (some ⟨w.heap.size,9,none⟩)) hS ?_
   simp only [Act.put,lsA,lsZ,lsS]
   refine take_r 6 23 (.slice (some ⟨g,0,none⟩) l.length c) rfl (Or.inl ⟨by rfl,fun w' hw'=>by obtain ⟨x0,x1,x2,x3,x4,x5,x6,x7,x8,x9⟩:=cel10 (CB.out.off hw' HGQ.out); go_simp⟩) hS ?_
   simp only [Act.put,lsA,lsZ,lsS]
   refine take_q 7 24 (.int .i64 (n:Int)) hS ?_
   simp only [Act.put,lsA,lsZ,lsS]
   refine take_r 8 25 (.pointer (some ⟨g,n * 4,none⟩)) rfl (Or.inl ⟨by rfl,fun w' hw'=>exec_idx10 rfl (idx_row hlt c g w')⟩) hS ?_
   simp only [Act.put,lsA,lsZ,lsS]
   refine take_q 9 26 (.pointer (some ⟨g,n * 4 + 2,none⟩)) hS ?_
   simp only [Act.put,lsA,lsZ,lsS]
   refine wpAnyH_ready (rs:=[10]) (by kernel_rfl) (by simp) ?_
   refine AllReadyH.cons rfl (fun K' hK'=>?_) AllReadyH.nil
   go_simp
   refine hK'.out _ _ hS (fun hS=>?_)
   clear hK' K'
   refine wpAnyH_ready (rs:=[11]) (by kernel_rfl) (by simp) ?_
   refine AllReadyH.cons rfl (fun K' hK'=>?_) AllReadyH.nil
   go_simp
   refine (bclone_any v.ad v.cap v.data (by have:=hok.len; omega) _ hok.src).mono ?_
   rintro e w9 ⟨t,c1,rfl,own,hnw,o9⟩
   have hS9:Off (fun c=>c=g) wr w9:=hS.trans o9 (fun _ _ h=>h.elim)
   refine hK'.out _ _ hS9 (fun hS=>?_)
   clear hK' K' hS9
   refine take_r 12 29 (.pointer (some ⟨g,n * 4,none⟩)) rfl (Or.inl ⟨by rfl,fun w' hw'=>exec_idx10 rfl (idx_row hlt c g w')⟩) hS ?_
   simp only [Act.put,lsA,lsZ,lsS]
   refine take_q 13 30 (.pointer (some ⟨g,n * 4 + 2,none⟩)) hS ?_
   simp only [Act.put,lsA,lsZ,lsS]
   have R9:=HR9.out.off o9
   obtain ⟨cur9,hg9⟩:∃ cur,Cel g 87 cur w9:=⟨_,HG.out.off (((Off.refl _ wr).drew).trans o9 (fun _ _ h=>h)) (fun h=>h)⟩
   have f9:=hg9.free
   have hc2:w9.cell? ⟨g,n * 4 + 2,none⟩=some (.slice v.ad v.data.length v.cap):=(R9.at0 hv).c2
   have R10:=R9.setData hv own.src
   have HNW9:Hid (∀ x,blk t=some x→w.heap.size + 2≤x):=fun x hx=>by have h1:=hnw x hx; have h2:=CR.out.lt; have h3:wr.drew.heap.size=wr.heap.size:=rfl; omega
   clear hnw
   have HOW:Hid _:=own
   have HR10:Hid _:=R10
   have HG9:Hid _:=hg9
   have HO9:Hid _:=o9
   clear own R9 R10 hg9 o9
   refine wpAnyH_ready (rs:=[14]) (by kernel_rfl) (by simp) ?_
   refine AllReadyH.cons rfl (fun K' hK'=>?_) AllReadyH.nil
   go_simp
   refine hK'.out _ _ (hS.setCell (p:=⟨g,n * 4 + 2,none⟩) (.inl rfl) _) (fun hS=>?_)
   clear hK' K'
   refine wpAnyH_done (by kernel_rfl) ?_ _
   go_wp2_with fail
   go_roundw
   case rel =>
    have o12:Off (fun c=>c=g) wr (w9.setCell ⟨g,n * 4 + 2,none⟩ (.slice t v.data.length c1)):=hS
    refine ⟨n + 1,k.set n (⟨v.node,v.num,t,c1,v.data,v.dead⟩:V),by go_num,by omega,by rw [List.length_set]; exact HL.out,by rw [cont_set hv]; exact HK.out,set_far hv HBB.out HNW9.out,HR10.out,CB.out.off o12 HGQ.out,CR.out.off o12 (fun e=>(HNE.out g rfl).2 e.symm),fun u hu=>⟨g,_,rfl,HG9.out.set _ _⟩,HO.out.trans o12 (fun i hi h=>?_)⟩
    have:=HGN.out
    omega
   case measure=>simp [intOf]; omega
  ·obtain rfl:n=l.length:=by omega
   have e1:decide ((l.length:Int) < (l.length:Int))=false:=decide_eq_false (by omega)
   have e2:decide (l.length < l.length)=false:=decide_eq_false (by omega)
   obtain ⟨x0,x1,x2,x3,x4,x5,x6,x7,x8,x9⟩:=cel10 CB.out
   obtain ⟨z0,z1,z2,z3,z4,z5,z6,z7,z8,z9⟩:=cel10 CR.out
   have fr:=CR.out.free
   go_wp2_with fail
   refine bodyPost_ret (results_entryH (x:=⟨key,f,t,c,k⟩) rfl rfl (by have e:=CR.out.st10H (⟨key,f,t,c,k⟩:E); rw [HL.out] at e; rw [HL.out]; exact e)) rfl ?_
   refine ⟨t,c,k,rfl,HK.out,?_,⟨fun _=>HNW.out,fun v hv _ x hx=>by
    obtain ⟨i,hi⟩:=List.getElem?_of_mem hv
    have hil:i < l.length:=by
     obtain ⟨h,-⟩:=List.getElem?_eq_some_iff.1 hi
     rw [HL.out] at h
     exact h
    have:=HBB.out i v hil hi x hx
    omega⟩,by have e:=HO.out.st10H (b:=w.heap.size + 1) (.inr (by omega)) (⟨key,f,t,c,k⟩:E); rw [HL.out] at e; exact e⟩
   exact HRW.out.offD (D:=fun x=>x=w.heap.size + 1) (by have e:=(Off.refl (fun x=>x=w.heap.size + 1) wr).st10H (b:=w.heap.size + 1) (.inl rfl) (⟨key,f,t,c,k⟩:E); rw [HL.out] at e; exact e) (fun x _ hx=>(HNE.out x hx).2) (fun v hv x _ hx=>by
    obtain ⟨i,hi⟩:=List.getElem?_of_mem hv
    have hil:i < l.length:=by
     obtain ⟨h,-⟩:=List.getElem?_eq_some_iff.1 hi
     rw [HL.out] at h
     exact h
    have:=HBB.out i v hil hi x hx
    omega)
set_option maxRecDepth 100000 in
set_option maxHeartbeats 1000000 in
theorem chint_any (x:H) (w:World) (hr:Row w x.e.a x.e.cap x.e.l) (hl:x.e.l.length≤1000) :
  Calls Tryz.prog 143 #[(.agg #[.int .i64 x.node,.string x.e.key,.int .i64 (x.e.f 0),.int .i64 (x.e.f 1),.int .i64 (x.e.f 2),.int .i64 (x.e.f 3),.int .i64 (x.e.f 4),.int .i64 (x.e.f 5),.int .i64 (x.e.f 6),.int .i64 (x.e.f 7),.slice x.e.a x.e.l.length x.e.cap])] w fun e w'=>∃ y:H,e=.returned (.agg #[.int .i64 y.node,.string y.e.key,.int .i64 (y.e.f 0),.int .i64 (y.e.f 1),.int .i64 (y.e.f 2),.int .i64 (y.e.f 3),.int .i64 (y.e.f 4),.int .i64 (y.e.f 5),.int .i64 (y.e.f 6),.int .i64 (y.e.f 7),.slice y.e.a y.e.l.length y.e.cap])∧y.abs=x.abs∧Row w' y.e.a y.e.cap y.e.l∧Ter (fun c=>w.heap.size≤c) y.e.a y.e.l∧Off (fun _=>False) w w':=by
 obtain ⟨W,hW⟩:∃ W,W=((w.alloc (.cells #[.int .i64 x.node,.string x.e.key,.int .i64 (x.e.f 0),.int .i64 (x.e.f 1),.int .i64 (x.e.f 2),.int .i64 (x.e.f 3),.int .i64 (x.e.f 4),.int .i64 (x.e.f 5),.int .i64 (x.e.f 6),.int .i64 (x.e.f 7),.slice x.e.a x.e.l.length x.e.cap] 75)).alloc (.cells #[.int .i64 0,.string ⟨#[]⟩,.int .i64 0,.int .i64 0,.int .i64 0,.int .i64 0,.int .i64 0,.int .i64 0,.int .i64 0,.int .i64 0,.slice none 0 0] 75)):=⟨_,rfl⟩
 have O:Off (fun _=>False) w W:=by rw [hW]; exact ((Off.refl _ w).alloc _).alloc _
 have C0:Cel w.heap.size 75 #[.int .i64 x.node,.string x.e.key,.int .i64 (x.e.f 0),.int .i64 (x.e.f 1),.int .i64 (x.e.f 2),.int .i64 (x.e.f 3),.int .i64 (x.e.f 4),.int .i64 (x.e.f 5),.int .i64 (x.e.f 6),.int .i64 (x.e.f 7),.slice x.e.a x.e.l.length x.e.cap] W:=by rw [hW]; exact (Cel.new w _ _).alloc _
 have C1:Cel (w.heap.size + 1) 75 #[.int .i64 0,.string ⟨#[]⟩,.int .i64 0,.int .i64 0,.int .i64 0,.int .i64 0,.int .i64 0,.int .i64 0,.int .i64 0,.int .i64 0,.slice none 0 0] W:=by rw [hW]; exact Cel.new1 w _ _ _
 obtain ⟨x0,x1,x2,x3,x4,x5,x6,x7,x8,x9,x10⟩:=cel11 C0
 have HC0:Hid _:=C0
 have HC1:Hid _:=C1
 have HR:Hid _:=hr.off O
 have HO:Hid _:=O
 have HW:Hid _:=hW
 clear hr O C0 C1 hW
 go_enter Tryz.func143,Tryz.ntmps143
 go_upto_region 1 with fail
 rw [show ((w.alloc (.cells #[.int .i64 x.node,.string x.e.key,.int .i64 (x.e.f 0),.int .i64 (x.e.f 1),.int .i64 (x.e.f 2),.int .i64 (x.e.f 3),.int .i64 (x.e.f 4),.int .i64 (x.e.f 5),.int .i64 (x.e.f 6),.int .i64 (x.e.f 7),.slice x.e.a x.e.l.length x.e.cap] 75)).alloc (.cells #[.int .i64 0,.string ⟨#[]⟩,.int .i64 0,.int .i64 0,.int .i64 0,.int .i64 0,.int .i64 0,.int .i64 0,.int .i64 0,.int .i64 0,.slice none 0 0] 75))=W from HW.out.symm]
 go_wp2_with fail
 refine (centry_any x.e.key x.e.f x.e.a x.e.cap x.e.l W HR.out hl).mono ?_
 rintro e w1 ⟨a',c',k,rfl,hk,rk,tk,o1⟩
 obtain ⟨y,hy⟩:∃ y:H,y=⟨x.node,⟨x.e.key,x.e.f,a',c',k⟩⟩:=⟨_,rfl⟩
 have D0:=HC0.out.off o1 (fun h=>h)
 have D1:=HC1.out.off o1 (fun h=>h)
 have E0:Cel w.heap.size 75 #[.int .i64 y.node,.string y.e.key,.int .i64 (y.e.f 0),.int .i64 (y.e.f 1),.int .i64 (y.e.f 2),.int .i64 (y.e.f 3),.int .i64 (y.e.f 4),.int .i64 (y.e.f 5),.int .i64 (y.e.f 6),.int .i64 (y.e.f 7),.slice y.e.a y.e.l.length y.e.cap] ((((((((((w1.setCell ⟨w.heap.size,1,none⟩ (.string x.e.key)).setCell ⟨w.heap.size,2,none⟩ (.int .i64 (x.e.f 0))).setCell ⟨w.heap.size,3,none⟩ (.int .i64 (x.e.f 1))).setCell ⟨w.heap.size,4,none⟩ (.int .i64 (x.e.f 2))).setCell ⟨w.heap.size,5,none⟩ (.int .i64 (x.e.f 3))).setCell ⟨w.heap.size,6,none⟩ (.int .i64 (x.e.f 4))).setCell ⟨w.heap.size,7,none⟩ (.int .i64 (x.e.f 5))).setCell ⟨w.heap.size,8,none⟩ (.int .i64 (x.e.f 6))).setCell ⟨w.heap.size,9,none⟩ (.int .i64 (x.e.f 7))).setCell ⟨w.heap.size,10,none⟩ (.slice a' k.length c')):=by
  rw [hy]
  have h:=D0
  replace h:=h.set 1 (.string x.e.key)
  simp only [lsA,lsZ,lsS] at h
  replace h:=h.set 2 (.int .i64 (x.e.f 0))
  simp only [lsA,lsZ,lsS] at h
  replace h:=h.set 3 (.int .i64 (x.e.f 1))
  simp only [lsA,lsZ,lsS] at h
  replace h:=h.set 4 (.int .i64 (x.e.f 2))
  simp only [lsA,lsZ,lsS] at h
  replace h:=h.set 5 (.int .i64 (x.e.f 3))
  simp only [lsA,lsZ,lsS] at h
  replace h:=h.set 6 (.int .i64 (x.e.f 4))
  simp only [lsA,lsZ,lsS] at h
  replace h:=h.set 7 (.int .i64 (x.e.f 5))
  simp only [lsA,lsZ,lsS] at h
  replace h:=h.set 8 (.int .i64 (x.e.f 6))
  simp only [lsA,lsZ,lsS] at h
  replace h:=h.set 9 (.int .i64 (x.e.f 7))
  simp only [lsA,lsZ,lsS] at h
  replace h:=h.set 10 (.slice a' k.length c')
  simp only [lsA,lsZ,lsS] at h
  exact h
 have E1:Cel (w.heap.size + 1) 75 #[.int .i64 0,.string ⟨#[]⟩,.int .i64 0,.int .i64 0,.int .i64 0,.int .i64 0,.int .i64 0,.int .i64 0,.int .i64 0,.int .i64 0,.slice none 0 0] ((((((((((w1.setCell ⟨w.heap.size,1,none⟩ (.string x.e.key)).setCell ⟨w.heap.size,2,none⟩ (.int .i64 (x.e.f 0))).setCell ⟨w.heap.size,3,none⟩ (.int .i64 (x.e.f 1))).setCell ⟨w.heap.size,4,none⟩ (.int .i64 (x.e.f 2))).setCell ⟨w.heap.size,5,none⟩ (.int .i64 (x.e.f 3))).setCell ⟨w.heap.size,6,none⟩ (.int .i64 (x.e.f 4))).setCell ⟨w.heap.size,7,none⟩ (.int .i64 (x.e.f 5))).setCell ⟨w.heap.size,8,none⟩ (.int .i64 (x.e.f 6))).setCell ⟨w.heap.size,9,none⟩ (.int .i64 (x.e.f 7))).setCell ⟨w.heap.size,10,none⟩ (.slice a' k.length c')):=by
  have hb:w.heap.size + 1 ≠ w.heap.size:=by omega
  exact ((((((((((D1.other hb _).other hb _).other hb _).other hb _).other hb _).other hb _).other hb _).other hb _).other hb _).other hb _)
 have OW:Off (fun c=>c=w.heap.size) w1 ((((((((((w1.setCell ⟨w.heap.size,1,none⟩ (.string x.e.key)).setCell ⟨w.heap.size,2,none⟩ (.int .i64 (x.e.f 0))).setCell ⟨w.heap.size,3,none⟩ (.int .i64 (x.e.f 1))).setCell ⟨w.heap.size,4,none⟩ (.int .i64 (x.e.f 2))).setCell ⟨w.heap.size,5,none⟩ (.int .i64 (x.e.f 3))).setCell ⟨w.heap.size,6,none⟩ (.int .i64 (x.e.f 4))).setCell ⟨w.heap.size,7,none⟩ (.int .i64 (x.e.f 5))).setCell ⟨w.heap.size,8,none⟩ (.int .i64 (x.e.f 6))).setCell ⟨w.heap.size,9,none⟩ (.int .i64 (x.e.f 7))).setCell ⟨w.heap.size,10,none⟩ (.slice a' k.length c')):=by
  have hb:(w.heap.size=w.heap.size)∨w1.heap.size≤w.heap.size:=.inl rfl
  exact (((((((((((Off.refl (fun c=>c=w.heap.size) w1).setCell hb _).setCell hb _).setCell hb _).setCell hb _).setCell hb _).setCell hb _).setCell hb _).setCell hb _).setCell hb _).setCell hb _)
 have f0:=D0.free
 obtain ⟨y0,y1,y2,y3,y4,y5,y6,y7,y8,y9,y10⟩:=cel11 D0
 go_upto_region 2 with fail
 clear y0 y1 y2 y3 y4 y5 y6 y7 y8 y9 y10 f0 x0 x1 x2 x3 x4 x5 x6 x7 x8 x9 x10
 generalize hv:((((((((((w1.setCell ⟨w.heap.size,1,none⟩ (.string x.e.key)).setCell ⟨w.heap.size,2,none⟩ (.int .i64 (x.e.f 0))).setCell ⟨w.heap.size,3,none⟩ (.int .i64 (x.e.f 1))).setCell ⟨w.heap.size,4,none⟩ (.int .i64 (x.e.f 2))).setCell ⟨w.heap.size,5,none⟩ (.int .i64 (x.e.f 3))).setCell ⟨w.heap.size,6,none⟩ (.int .i64 (x.e.f 4))).setCell ⟨w.heap.size,7,none⟩ (.int .i64 (x.e.f 5))).setCell ⟨w.heap.size,8,none⟩ (.int .i64 (x.e.f 6))).setCell ⟨w.heap.size,9,none⟩ (.int .i64 (x.e.f 7))).setCell ⟨w.heap.size,10,none⟩ (.slice a' k.length c'))=V at E0 E1 OW ⊢
 obtain ⟨x0,x1,x2,x3,x4,x5,x6,x7,x8,x9,x10⟩:=cel11 E0
 obtain ⟨z0,z1,z2,z3,z4,z5,z6,z7,z8,z9,z10⟩:=cel11 E1
 have fr:=E1.free
 have HY:Hid _:=hy
 have HE1:Hid _:=E1
 have HOV:Hid (Off (fun _=>False) w V):=(HO.out.trans o1 (fun _ _ h=>h)).trans OW (fun i hi e=>by omega)
 have HTK:Hid _:=tk
 have HN:Hid (w.heap.size + 2≤W.heap.size):=by have:=HC1.out.lt; show _≤_; omega
 have HRK:Hid _:=rk.offT tk OW (fun c hc hd e=>by have:=HN.out; omega)
 have HCK:Hid _:=hk
 clear hv hy E0 E1 OW D0 D1 rk tk hk o1
 go_wp2_with fail
 refine bodyPost_ret (results_hint (x:=y) rfl rfl (HE1.out.st11 y)) rfl ?_
 have OZ:=(Off.refl (fun c=>c=w.heap.size + 1) V).st11 (b:=w.heap.size + 1) (.inl rfl) y
 have hN:=HN.out
 refine ⟨y,rfl,?_,?_,?_,HOV.out.trans OZ (fun i hi e=>by omega)⟩
 ·rw [HY.out]
  show (⟨x.node,⟨x.e.key,x.e.f,cont k⟩⟩:HK)=_
  rw [HCK.out]
  rfl
 ·have:=HRK.out.offT HTK.out OZ (fun c hc hd e=>by omega)
  rw [HY.out] at this ⊢
  exact this
 ·rw [HY.out]
  exact HTK.out.mono (fun c hc=>by omega)
end Go.Proofs.YthjbnpaghiojlaaGreat
