/- Items of several texts. -/
import Derived.Deep.Cut
import Derived.Test.YthjbnpaghiojlaaGreatKJns
import Derived.Test.YthjbnpaghiojlaaGreatKEnt
import Derived.Test.YthjbnpaghiojlaaGreatKLrc
import Derived.Test.YthjbnpaghiojlaaGreatKHpt
import Derived.Test.YthjbnpaghiojlaaGreatKHdr
import Derived.Test.YthjbnpaghiojlaaGreatKHfo
namespace Go.Proofs.YthjbnpaghiojlaaGreat
open Go.RowKit
theorem eql_txt {r s:ByteArray} (h:r=s):(r.toList == s.toList)=true:=by rw [tx_eql,h]; exact decide_eq_true rfl
theorem neq_txt {r s:ByteArray} (h:r ≠ s):(r.toList == s.toList)=false:=by rw [tx_eql]; exact decide_eq_false (fun e=>h (tx_inj e))
theorem kf1_any (x:E) (key:ByteArray) (q:Nat) (w:World) (hq:Cel q 9 #[.string key] w) :
  Calls Tryz.prog 133 #[(.agg #[.string x.key,.int .i64 (x.f 0),.int .i64 (x.f 1),.int .i64 (x.f 2),.int .i64 (x.f 3),.int .i64 (x.f 4),.int .i64 (x.f 5),.int .i64 (x.f 6),.int .i64 (x.f 7),.slice x.a x.l.length x.cap]),.pointer (some ⟨q,0,none⟩)] w fun e w'=>e=.returned (.bool (decide (x.key=key)))∧Off (fun _=>False) w w':=by
 obtain ⟨W,hW⟩:∃ W,W=w.alloc (.cells #[.string x.key,.int .i64 (x.f 0),.int .i64 (x.f 1),.int .i64 (x.f 2),.int .i64 (x.f 3),.int .i64 (x.f 4),.int .i64 (x.f 5),.int .i64 (x.f 6),.int .i64 (x.f 7),.slice x.a x.l.length x.cap] 68):=⟨_,rfl⟩
 have O:Off (fun _=>False) w W:=by rw [hW]; exact (Off.refl _ w).alloc _
 have C0:Cel w.heap.size 68 #[.string x.key,.int .i64 (x.f 0),.int .i64 (x.f 1),.int .i64 (x.f 2),.int .i64 (x.f 3),.int .i64 (x.f 4),.int .i64 (x.f 5),.int .i64 (x.f 6),.int .i64 (x.f 7),.slice x.a x.l.length x.cap] W:=by rw [hW]; exact Cel.new w _ _
 have c0:W.cell? ⟨w.heap.size,0,none⟩=some (.string x.key):=C0.cell 0
 have q0:W.cell? ⟨q,0,none⟩=some (.string key):=(hq.off O (fun h=>h)).cell 0
 have HW:Hid _:=hW
 have HO:Hid _:=O
 clear hW O C0 hq
 by_cases h:x.key=key
 ·have d1:=eql_txt h
  have d2:decide (x.key=key)=true:=decide_eq_true h
  rw [d2]
  clear h d2
  go_enter Tryz.func133,Tryz.ntmps133
  go_upto_region 1 with fail
  rw [show w.alloc (.cells #[.string x.key,.int .i64 (x.f 0),.int .i64 (x.f 1),.int .i64 (x.f 2),.int .i64 (x.f 3),.int .i64 (x.f 4),.int .i64 (x.f 5),.int .i64 (x.f 6),.int .i64 (x.f 7),.slice x.a x.l.length x.cap] 68)=W from HW.out.symm]
  go_wp2_with fail
  go_ret
  exact ⟨rfl,HO.out⟩
 ·have d1:=neq_txt h
  have d2:decide (x.key=key)=false:=decide_eq_false h
  rw [d2]
  clear h d2
  go_enter Tryz.func133,Tryz.ntmps133
  go_upto_region 1 with fail
  rw [show w.alloc (.cells #[.string x.key,.int .i64 (x.f 0),.int .i64 (x.f 1),.int .i64 (x.f 2),.int .i64 (x.f 3),.int .i64 (x.f 4),.int .i64 (x.f 5),.int .i64 (x.f 6),.int .i64 (x.f 7),.slice x.a x.l.length x.cap] 68)=W from HW.out.symm]
  go_wp2_with fail
  go_ret
  exact ⟨rfl,HO.out⟩
structure Idx (ys:List E) (key:ByteArray) (i:Int):Prop where
 is:(i=-1∧∀ y ∈ ys,y.key ≠ key)∨∃ n y,i=((n:Nat):Int)∧ys[n]?=some y∧y.key=key∧∀ j z,j < n→ys[j]?=some z→z.key ≠ key
set_option maxRecDepth 100000 in
set_option maxHeartbeats 1000000 in
theorem eidx_any (a:Option Addr) (cap:Nat) (ys:List E) (key:ByteArray) (q:Nat) (w:World) (h:Ent w a cap ys) (hq:Cel q 9 #[.string key] w) :
  Calls Tryz.prog 132 #[.slice a ys.length cap,.func (.func 133) #[] #[.pointer (some ⟨q,0,none⟩)]] w fun e w'=>∃ i:Int,e=.returned (.int .i64 i)∧Idx ys key i∧Off (fun _=>False) w w':=by
 have hb:=h.bound
 have hb2:=h.len
 have HR:Hid _:=h
 have HQ:Hid _:=hq
 clear h hq
 go_enter Tryz.func132,Tryz.ntmps132
 go_wp2_with fail
 go_loopw [8] (fun y wr=>∃ n:Nat,y=.int .i64 (n:Int)∧n≤ys.length∧(∀ i v,i < n→ys[i]?=some v→v.key ≠ key)∧Off (fun _=>False) w wr) (fun y _=>(ys.length - intOf y).toNat)
 case atStart=>exact ⟨0,rfl,by omega,fun i v hi=>by omega,Off.refl _ w⟩
 case round =>
  obtain ⟨n,rfl,hn,hg,O⟩:=hrel
  have HG:Hid _:=hg
  clear hg
  by_cases hlt:n < ys.length
  ·have e1:decide ((n:Int) < (ys.length:Int))=true:=decide_eq_true (by omega)
   have e2:decide (n < ys.length)=true:=decide_eq_true hlt
   obtain ⟨v,hv⟩:∃ v,ys[n]?=some v:=⟨_,List.getElem?_eq_getElem hlt⟩
   obtain ⟨b,off,rfl,k⟩:=HR.out.at_ n v hv
   have kk:∀ j u,(ecs v)[j]?=some u→wr.cell? ⟨b,off + n * 10 + j,none⟩=some u:=fun j u hj=>by
    have h1:=k j u hj
    rw [← h1]
    exact World.cell?_of_block (a:=⟨b,off + n * 10 + j,none⟩) (O.block b (cell_lt h1) (fun h=>h))
   have k0:=kk 0 _ rfl
   have k1:=kk 1 _ rfl
   have k2:=kk 2 _ rfl
   have k3:=kk 3 _ rfl
   have k4:=kk 4 _ rfl
   have k5:=kk 5 _ rfl
   have k6:=kk 6 _ rfl
   have k7:=kk 7 _ rfl
   have k8:=kk 8 _ rfl
   have k9:=kk 9 _ rfl
   rw [Nat.add_zero] at k0
   have HV:Hid _:=hv
   have HO:Hid _:=O
   clear hv O k kk
   go_wp2_with fail
   refine (kf1_any v key q _ (HQ.out.off HO.out (fun h=>h))).mono ?_
   rintro e w2 ⟨rfl,o2⟩
   clear k0 k1 k2 k3 k4 k5 k6 k7 k8 k9
   cases hd:decide (v.key=key)
   ·have hne:=of_decide_eq_false hd
    have HNE:Hid _:=hne
    clear hne
    go_wp2_with fail
    go_roundw
    case rel =>
     refine ⟨n + 1,by go_num,by omega,fun i u hi hu=>?_,HO.out.trans o2 (fun _ _ h=>h)⟩
     rcases Nat.lt_or_ge i n with h | h
     ·exact HG.out i u h hu
     ·obtain rfl:i=n:=by omega
      rw [HV.out] at hu
      cases hu
      exact HNE.out
    case measure=>simp [intOf]; omega
   ·have he:=of_decide_eq_true hd
    have HEQ:Hid _:=he
    clear he
    go_wp2_with fail
    go_ret
    exact ⟨(n:Int),rfl,⟨.inr ⟨n,v,rfl,HV.out,HEQ.out,HG.out⟩⟩,HO.out.trans o2 (fun _ _ h=>h)⟩
  ·obtain rfl:n=ys.length:=by omega
   have e1:decide ((ys.length:Int) < (ys.length:Int))=false:=decide_eq_false (by omega)
   have e2:decide (ys.length < ys.length)=false:=decide_eq_false (by omega)
   go_wp2_with fail
   go_ret
   refine ⟨-1,rfl,⟨.inl ⟨rfl,fun y hy=>?_⟩⟩,O⟩
   obtain ⟨i,hi⟩:=List.getElem?_of_mem hy
   obtain ⟨h,-⟩:=List.getElem?_eq_some_iff.1 hi
   exact HG.out i y h hi
def getH (Y:List HK) (node:Int) (key:ByteArray):K:=((fndGH HK.nk (node,key) Y).map HK.k).getD ⟨key,zer,[]⟩
theorem for_mem {Y:List HK} {node:Int} {k:K}:k ∈ forK Y node↔∃ h ∈ Y,h.node=node∧h.k=k:=by
 unfold forK
 rw [List.mem_map]
 constructor
 ·rintro ⟨h,hm,rfl⟩
  rw [List.mem_filter,decide_eq_true_iff] at hm
  exact ⟨h,hm.1,hm.2,rfl⟩
 ·rintro ⟨h,hm,hn,rfl⟩
  exact ⟨h,List.mem_filter.2 ⟨hm,decide_eq_true hn⟩,rfl⟩
theorem idx_found {Y:List HK} (hs:SorH HK.nk Y) {node:Int} {ys:List E} (he:absE ys=forK Y node) {key:ByteArray} {n:Nat} {y:E} (hy:ys[n]?=some y) (hk:y.key=key):fndGH HK.nk (node,key) Y=some ⟨node,y.abs⟩:=by
 have hm:y.abs ∈ forK Y node:=by rw [← he]; exact List.mem_map.2 ⟨y,List.mem_of_getElem? hy,rfl⟩
 obtain ⟨h,hm,hn,hh⟩:=for_mem.1 hm
 obtain ⟨hnode,hkk⟩:=h
 simp only at hn hh
 subst hn hh
 refine (fnd_someH HK.nk hs).2 ⟨hm,?_⟩
 show (hnode,y.key)=(hnode,key)
 rw [hk]
theorem idx_none {Y:List HK} {node:Int} {ys:List E} (he:absE ys=forK Y node) {key:ByteArray} (h:∀ y ∈ ys,y.key ≠ key):fndGH HK.nk (node,key) Y=none:=by
 refine (fnd_noneH HK.nk).2 fun z hz e=>?_
 have hzn:z.node=node:=congrArg Prod.fst e
 have hzk:z.k.key=key:=congrArg Prod.snd e
 have hm:z.k ∈ absE ys:=by rw [he]; exact for_mem.2 ⟨z,hz,hzn,rfl⟩
 obtain ⟨y,hy,hyk⟩:=List.mem_map.1 hm
 exact h y hy (by rw [← hzk,← hyk]; rfl)
structure Cor (S:Nat→Prop) (p:Nat) (lg:Value) (s:PS) (w:World):Prop where
 here:S p
 lt:∀ c,S c→c < w.heap.size
 ok:OkP s
 is:∃ (tp tb hp:Nat) (T H:Nat→Prop) (t:List E) (xs:List Go.Proofs.YthjbnpaghiojlaaGreat.H),Cel p 101 #[lg,.pointer (some ⟨tp,0,none⟩),.pointer (some ⟨hp,0,none⟩)] w∧Tab tp tb t w∧absE t=s.1∧HSt H hp xs w∧absH xs=s.2∧T tp∧T tb∧(∀ e ∈ t,Ter T e.a e.l)∧(∀ c,T c→S c∧¬ H c∧c ≠ p)∧(∀ c,H c→S c∧c ≠ p)
theorem Tab.offT {p b:Nat} {t:List E} {w w':World} {T D:Nat→Prop} (h:Tab p b t w) (o:Off D w w') (hp:T p) (hb:T b) (ht:∀ e ∈ t,Ter T e.a e.l) (hD:∀ c,c < w.heap.size→T c→¬ D c):Tab p b t w' :=
 ⟨h.cel.off o (hD p h.cel.lt hp),om_off h.own o (hD b h.ltb hb),h.sor,fun e he=>(h.row e he).offT (ht e he) o hD,h.len,h.few⟩
theorem Cor.off {S D:Nat→Prop} {p:Nat} {lg:Value} {s:PS} {w w':World} (h:Cor S p lg s w) (o:Off D w w') (hD:∀ c,c < w.heap.size→S c→¬ D c):Cor S p lg s w':=by
 obtain ⟨tp,tb,hp,T,H,t,xs,c0,tab,ht,hst,hh,t1,t2,t3,t4,t5⟩:=h.is
 exact ⟨h.here,fun c hc=>Nat.lt_of_lt_of_le (h.lt c hc) o.size,h.ok,tp,tb,hp,T,H,t,xs,c0.off o (hD p c0.lt h.here),tab.offT o t1 t2 t3 (fun c hc hT=>hD c hc (t4 c hT).1),ht,hst.off o (fun c hc hH=>hD c hc (t5 c hH).1),hh,t1,t2,t3,t4,t5⟩
theorem Cor.free {S:Nat→Prop} {p:Nat} {lg:Value} {s:PS} {w w':World} (h:Cor S p lg s w) (o:Off (fun _=>False) w w'):Cor S p lg s w':=h.off o (fun _ _ _ h=>h)
theorem Far.ter {N:Nat} {a:Option Addr} {l:List V} (h:Far N a l):Ter (fun c=>N≤c) a l:=⟨fun _=>h.row,fun v hv _=>h.val v hv⟩
theorem eql_sto (a:Option Addr) (W:World):(binOp .eql 28 (.pointer a) (.pointer none)).run Tryz.prog W=.ok (.bool a.isNone) W:=by
 cases a <;> kernel_rfl
set_option maxRecDepth 100000 in
set_option maxHeartbeats 2000000 in
theorem keptFor_any {S:Nat→Prop} {p:Nat} {lg:Value} {s:PS} {w:World} (h:Cor S p lg s w) (node:Int) (key:ByteArray) :
  Calls Tryz.prog 71 #[.pointer (some ⟨p,0,none⟩),.int .i64 node,.string key] w fun e w'=>∃ (f:Nat→Int) (a:Option Addr) (c:Nat) (l:List V),e=.returned (.tuple #[.agg #[.int .i64 (f 0),.int .i64 (f 1),.int .i64 (f 2),.int .i64 (f 3),.int .i64 (f 4),.int .i64 (f 5),.int .i64 (f 6),.int .i64 (f 7),.slice a l.length c],.bool (fndGH HK.nk (node,key) s.2).isSome])∧f=(getH s.2 node key).f∧cont l=(getH s.2 node key).l∧Row w' a c l∧Ter (fun x=>w.heap.size≤x) a l∧Off (fun _=>False) w w':=by
 have hmf:∀ (fn:Fn) (first cap:Array Value) (w:World),(Instr.makeFunc fn first cap).run Tryz.prog w=.ok (.func fn first cap) w:=fun _ _ _ _=>rfl
 obtain ⟨tp,tb,hp,T,H,t,xs,c0,-,-,hst,hh,-,-,-,-,-⟩:=h.is
 obtain ⟨W,hW⟩:∃ W,W=((w.alloc (.cells #[.string key] 9)).alloc (.cells #[.int .i64 (zer 0),.int .i64 (zer 1),.int .i64 (zer 2),.int .i64 (zer 3),.int .i64 (zer 4),.int .i64 (zer 5),.int .i64 (zer 6),.int .i64 (zer 7),.slice none 0 0] 47)):=⟨_,rfl⟩
 have O:Off (fun _=>False) w W:=by rw [hW]; exact ((Off.refl _ w).alloc _).alloc _
 have C0:Cel w.heap.size 9 #[.string key] W:=by rw [hW]; exact (Cel.new w _ _).alloc _
 have C1:Cel (w.heap.size + 1) 47 #[.int .i64 (zer 0),.int .i64 (zer 1),.int .i64 (zer 2),.int .i64 (zer 3),.int .i64 (zer 4),.int .i64 (zer 5),.int .i64 (zer 6),.int .i64 (zer 7),.slice none 0 0] W:=by rw [hW]; exact Cel.new1 w _ _ _
 have P0:=c0.off O (fun h=>h)
 have p2:W.cell? ⟨p,2,none⟩=some (.pointer (some ⟨hp,0,none⟩)):=P0.cell 2
 have HS:Hid _:=hst.free O
 have HH:Hid (absH xs=s.2):=hh
 have HK0:Hid _:=C0
 have HC1:Hid _:=C1
 have HO:Hid _:=O
 have HW:Hid _:=hW
 have HSO:Hid (SorH HK.nk s.2):=h.ok.set.sor
 clear h hW O C0 C1 P0 c0 hst hh
 go_enter Tryz.func71,Tryz.ntmps71
 go_upto_region 1 with fail
 rw [show ((w.alloc (.cells #[.string key] 9)).alloc (.cells #[.int .i64 0,.int .i64 0,.int .i64 0,.int .i64 0,.int .i64 0,.int .i64 0,.int .i64 0,.int .i64 0,.slice none 0 0] 47))=W from HW.out.symm]
 go_wp2_with fail
 refine (hfor_any H hp xs node _ HS.out).mono ?_
 rintro e w1 ⟨a,c,ys,rfl,hy,own,rws,ters,fra,o1⟩
 rw [HH.out] at hy
 have HY:Hid _:=hy
 have HE:Hid _:=own.ent
 have HRW:Hid _:=rws
 have HTR:Hid (∀ y ∈ ys,Ter (fun c=>w.heap.size + 2≤c) y.a y.l):=fun y hy=>(ters y hy).mono (fun x hx=>by have h1:=HC1.out.lt; omega)
 have HQ1:Hid _:=HK0.out.off o1 (fun h=>h)
 have HZ1:Hid _:=HC1.out.off o1 (fun h=>h)
 have HO1:Hid _:=HO.out.trans o1 (fun _ _ h=>h)
 clear hy own rws ters fra o1 p2 HK0
 go_wp2_with fail
 refine (eidx_any a c ys key w.heap.size _ HE.out HQ1.out).mono ?_
 rintro e w2 ⟨i,rfl,hi,o2⟩
 have HZ2:Hid _:=HZ1.out.off o2 (fun h=>h)
 have HO2:Hid _:=HO1.out.trans o2 (fun _ _ h=>h)
 rcases hi.is with ⟨hi,hno⟩ | ⟨n,y,hi,hy,hk,-⟩
 ·rw [hi]
  have HNO:Hid _:=idx_none HY.out hno
  clear hi hno o2
  obtain ⟨z0,z1,z2,z3,z4,z5,z6,z7,z8⟩:=cel9 HZ2.out
  have fr:=HZ2.out.free
  go_wp2_with fail
  refine bodyPost_ret (results_sibs2 rfl rfl rfl (HZ2.out.st9 zer (.slice none 0 0))) rfl ?_
  refine ⟨zer,none,0,[],?_,?_,?_,Row.nil _ _ _ (by omega),Ter.nil _ _,(HO2.out.mono (fun _ _ h=>h)).st9 (.inr (by omega)) zer (.slice none 0 0)⟩
  ·rw [HNO.out]
   rfl
  ·unfold getH
   rw [HNO.out]
   rfl
  ·unfold getH
   rw [HNO.out]
   rfl
 ·rw [hi]
  have hlt:n < ys.length:=by
   obtain ⟨h,-⟩:=List.getElem?_eq_some_iff.1 hy
   exact h
  have HF:Hid _:=idx_found HSO.out HY.out hy hk
  obtain ⟨b,off,rfl,k⟩:=HE.out.at_ n y hy
  have kk:∀ j u,(ecs y)[j]?=some u→w2.cell? ⟨b,off + n * 10 + j,none⟩=some u:=fun j u hj=>by
   have h1:=k j u hj
   rw [← h1]
   exact World.cell?_of_block (a:=⟨b,off + n * 10 + j,none⟩) (o2.block b (cell_lt h1) (fun h=>h))
  have k1:=kk 1 _ rfl
  have k2:=kk 2 _ rfl
  have k3:=kk 3 _ rfl
  have k4:=kk 4 _ rfl
  have k5:=kk 5 _ rfl
  have k6:=kk 6 _ rfl
  have k7:=kk 7 _ rfl
  have k8:=kk 8 _ rfl
  have k9:=kk 9 _ rfl
  have HM:Hid (y ∈ ys):=List.mem_of_getElem? hy
  have HR2:Hid _:=(HRW.out y HM.out).off o2
  have dn:decide (((n:Nat):Int) < 0)=false:=by simp
  have hb:=HE.out.bound
  have hl:=HE.out.len
  clear hi hy hk k kk o2
  obtain ⟨z0,z1,z2,z3,z4,z5,z6,z7,z8⟩:=cel9 HZ2.out
  have fr:=HZ2.out.free
  go_wp2_with fail
  refine bodyPost_ret (results_sibs2 rfl rfl rfl (HZ2.out.st9 y.f (.slice y.a y.l.length y.cap))) rfl ?_
  refine ⟨y.f,y.a,y.cap,y.l,?_,?_,?_,?_,(HTR.out y HM.out).mono (fun x hx=>by omega),HO2.out.st9 (.inr (by omega)) y.f (.slice y.a y.l.length y.cap)⟩
  ·rw [HF.out]
   rfl
  ·unfold getH
   rw [HF.out]
   rfl
  ·unfold getH
   rw [HF.out]
   rfl
  ·exact HR2.out.offT (HTR.out y HM.out) ((Off.refl (fun x=>x=w.heap.size + 1) w2).st9 (.inl rfl) y.f (.slice y.a y.l.length y.cap)) (fun x _ hx e=>by omega)
theorem full_any {S:Nat→Prop} {p:Nat} {lg:Value} {s:PS} {w:World} (h:Cor S p lg s w) :
  Calls Tryz.prog 65 #[.pointer (some ⟨p,0,none⟩)] w fun e w'=>e=.returned (.bool (decide (256≤s.1.length)))∧w'=w:=by
 obtain ⟨tp,tb,hp,T,H,t,xs,c0,tab,ht,-⟩:=h.is
 have p1:w.cell? ⟨p,1,none⟩=some (.pointer (some ⟨tp,0,none⟩)):=c0.cell 1
 have hl:s.1.length=t.length:=by rw [← ht,absE_len]
 rw [hl]
 have HT:Hid _:=tab
 clear h c0 tab ht hl
 go_enter Tryz.func65,Tryz.ntmps65
 go_wp2_with fail
 refine (tlen_any tp tb t _ HT.out).mono ?_
 rintro e w1 ⟨rfl,hw⟩
 rw [hw]
 clear hw
 by_cases hf:256≤t.length
 ·have e1:decide ((256:Int)≤(t.length:Int))=true:=decide_eq_true (by omega)
  have e2:decide (256≤t.length)=true:=decide_eq_true hf
  go_wp2_with fail
  go_ret
  exact ⟨by rw [e2]; rfl,rfl⟩
 ·have e1:decide ((256:Int)≤(t.length:Int))=false:=decide_eq_false (by omega)
  have e2:decide (256≤t.length)=false:=decide_eq_false hf
  go_wp2_with fail
  go_ret
  exact ⟨by rw [e2]; rfl,rfl⟩
end Go.Proofs.YthjbnpaghiojlaaGreat

namespace Go.Proofs.YthjbnpaghiojlaaGreat
open Go.RowKit
structure Did (S:Nat→Prop) (p:Nat) (lg:Value) (s:PS) (r:RD) (w w':World):Prop where
 get:∀ s',doR s r=some s'→∃ S',Cor S' p lg s' w'∧∀ c,S' c→S c∨w.heap.size≤c
theorem del_none {Y:List HK} {k:NK} (h:fndGH HK.nk k Y=none):delG HK.nk k Y=Y:=by
 unfold delG
 refine List.filter_eq_self.2 fun y hy=>?_
 rw [Bool.not_eq_true',smk_noH]
 exact (fnd_noneH HK.nk).1 h y hy
theorem drp_own {Y:List HK} (h:OkS Y) (node:Int) (key:ByteArray):drpT Y (node,key) (getH Y node key).f (getH Y node key).l=delG HK.nk (node,key) Y:=by
 unfold drpT drpB getH
 cases e:fndGH HK.nk (node,key) Y with
 | none =>
  simp only
  rw [if_neg (by simp),del_none e]
 | some u =>
  simp only [Option.map_some,Option.getD_some]
  rw [if_pos (ord_refl (h.may (fnd_memH HK.nk e).1))]
set_option maxRecDepth 100000 in
set_option maxHeartbeats 2000000 in
theorem do1_any {S:Nat→Prop} {p:Nat} {lg:Value} {s:PS} (x:E) {w:World} (h:Cor S p lg s w) (hr:Row w x.a x.cap x.l) (hk:OkR ⟨1,0,x.abs⟩) :
  Calls Tryz.prog 42 #[.pointer (some ⟨p,0,none⟩),(.agg #[.int .u64 1,.int .i64 0,.string x.key,.int .i64 (x.f 0),.int .i64 (x.f 1),.int .i64 (x.f 2),.int .i64 (x.f 3),.int .i64 (x.f 4),.int .i64 (x.f 5),.int .i64 (x.f 6),.int .i64 (x.f 7),.slice x.a x.l.length x.cap])] w fun e w'=>e=.returned (.bool (doR s ⟨1,0,x.abs⟩).isSome)∧Did S p lg s ⟨1,0,x.abs⟩ w w'∧Off S w w':=by
 have HCOR:Hid (Cor S p lg s w):=h
 obtain ⟨tp,tb,hp,T,H,t,xs,c0,tab,ht,hst,hh,t1,t2,t3,t4,t5⟩:=h.is
 obtain ⟨W,hW⟩:∃ W,W=(w.alloc (.cells #[.int .u64 1,.int .i64 0,.string x.key,.int .i64 (x.f 0),.int .i64 (x.f 1),.int .i64 (x.f 2),.int .i64 (x.f 3),.int .i64 (x.f 4),.int .i64 (x.f 5),.int .i64 (x.f 6),.int .i64 (x.f 7),.slice x.a x.l.length x.cap] 103)):=⟨_,rfl⟩
 have O:Off (fun _=>False) w W:=by rw [hW]; exact (Off.refl _ w).alloc _
 have C:Cel w.heap.size 103 #[.int .u64 1,.int .i64 0,.string x.key,.int .i64 (x.f 0),.int .i64 (x.f 1),.int .i64 (x.f 2),.int .i64 (x.f 3),.int .i64 (x.f 4),.int .i64 (x.f 5),.int .i64 (x.f 6),.int .i64 (x.f 7),.slice x.a x.l.length x.cap] W:=by rw [hW]; exact Cel.new w _ _
 obtain ⟨x0,x1,x2,x3,x4,x5,x6,x7,x8,x9,x10,x11⟩:=cel12 C
 have HW:Hid _:=hW
 have HO:Hid _:=O
 have HC:Hid _:=C
 have HP:Hid _:=c0.off O (fun h=>h)
 have HTAB:Hid _:=tab.free O
 have HST:Hid _:=hst.free O
 have HR:Hid _:=hr.off O
 have HT:Hid (absE t=s.1):=ht
 have HH:Hid (absH xs=s.2):=hh
 have HT0:Hid (T tp∧T tb):=⟨t1,t2⟩
 have HT3:Hid _:=t3
 have HT4:Hid _:=t4
 have HT5:Hid _:=t5
 have HKR:Hid _:=hk
 have HTB:Hid (tb < w.heap.size):=h.lt tb (t4 tb t2).1
 clear h hW O C c0 tab hst hr ht hh t1 t2 t3 t4 t5 hk
 go_enter Tryz.func42,Tryz.ntmps42
 go_upto_region 1 with fail
 rw [show (w.alloc (.cells #[.int .u64 1,.int .i64 0,.string x.key,.int .i64 (x.f 0),.int .i64 (x.f 1),.int .i64 (x.f 2),.int .i64 (x.f 3),.int .i64 (x.f 4),.int .i64 (x.f 5),.int .i64 (x.f 6),.int .i64 (x.f 7),.slice x.a x.l.length x.cap] 103))=W from HW.out.symm]
 go_wp2_with fail
 have HNP:Hid (¬ (fun c=>c=tb) p):=fun e=>by have h1:=(HT4.out tb HT0.out.2).2.2; have h2:p=tb:=e; exact h1 h2.symm
 have HNC:Hid (¬ (fun c=>c=tb) w.heap.size):=fun e=>by have h1:w.heap.size=tb:=e; have:=HTB.out; omega
 clear x0 x1 x2 x3 x4 x5 x6 x7 x8 x9 x10 x11
 refine wp_region_held_drew (S:=fun w'=>Off (fun c=>c=tb) W w') (by kernel_rfl) ((Off.refl _ W).drew) (fun hS=>?_)
 refine take_q 0 13 (.pointer (some ⟨p,0,none⟩)) hS ?_
 simp only [Act.put,lsA,lsZ,lsS]
 refine take_q 1 14 (.pointer (some ⟨p,0,none⟩)) hS ?_
 simp only [Act.put,lsA,lsZ,lsS]
 refine take_q 2 15 (.pointer (some ⟨p,1,none⟩)) hS ?_
 simp only [Act.put,lsA,lsZ,lsS]
 refine take_r 3 16 (.pointer (some ⟨tp,0,none⟩)) rfl (Or.inl ⟨by rfl,fun w' hw'=>by have e:=(HP.out.off hw' HNP.out).cell 1; simp only [List.getElem?_toArray,List.getElem?_cons_zero,List.getElem?_cons_succ] at e; go_simp⟩) hS ?_
 simp only [Act.put,lsA,lsZ,lsS]
 refine take_q 4 17 (.pointer (some ⟨w.heap.size,2,none⟩)) hS ?_
 simp only [Act.put,lsA,lsZ,lsS]
 refine take_r 5 18 ((.agg #[.string x.key,.int .i64 (x.f 0),.int .i64 (x.f 1),.int .i64 (x.f 2),.int .i64 (x.f 3),.int .i64 (x.f 4),.int .i64 (x.f 5),.int .i64 (x.f 6),.int .i64 (x.f 7),.slice x.a x.l.length x.cap])) rfl (Or.inl ⟨by rfl,fun w' hw'=>by obtain ⟨x0,x1,x2,x3,x4,x5,x6,x7,x8,x9,x10,x11⟩:=cel12 (HC.out.off hw' HNC.out); go_simp⟩) hS ?_
 simp only [Act.put,lsA,lsZ,lsS]
 refine wpAnyH_ready (rs:=[6]) (by kernel_rfl) (by simp) ?_
 refine AllReadyH.cons rfl (fun K' hK'=>?_) AllReadyH.nil
 go_simp
 have hTd:=HTAB.out.free ((Off.refl (fun _=>False) W).drew)
 refine (tjoin_any tp tb t x.key x.f x.a x.cap x.l _ hTd (HR.out.off ((Off.refl (fun _=>False) W).drew))).mono ?_
 rintro e w1 ⟨g,a',c',l',sm,er,t',rfl,hj,-,-,tab',hin,o1⟩
 refine hK'.out _ _ (((Off.refl (fun c=>c=tb) W).drew).trans o1 (fun _ _ h=>h)) (fun hS=>?_)
 clear hK' K'
 have HJ:Hid _:=hj
 have HTB':Hid _:=tab'
 have HIN:Hid (∀ e ∈ t',e ∈ t∨Far w.heap.size e.a e.l):=fun e he=>(hin e he).imp id (fun h=>h.mono HO.out.size)
 have HS:Hid _:=hS
 clear hj tab' hin o1 hTd
 refine take_q 7 12 (.tuple #[.agg #[(.int .i64 (g 0)),(.int .i64 (g 1)),(.int .i64 (g 2)),(.int .i64 (g 3)),(.int .i64 (g 4)),(.int .i64 (g 5)),(.int .i64 (g 6)),(.int .i64 (g 7)),(.slice a' l'.length c')],.bool sm,.int .i64 er]) hS ?_
 simp only [Act.put,lsA,lsZ,lsS]
 refine take_q 8 20 (.agg #[(.int .i64 (g 0)),(.int .i64 (g 1)),(.int .i64 (g 2)),(.int .i64 (g 3)),(.int .i64 (g 4)),(.int .i64 (g 5)),(.int .i64 (g 6)),(.int .i64 (g 7)),(.slice a' l'.length c')]) hS ?_
 simp only [Act.put,lsA,lsZ,lsS]
 refine take_q 9 21 (.bool sm) hS ?_
 simp only [Act.put,lsA,lsZ,lsS]
 refine take_q 10 22 (.int .i64 er) hS ?_
 simp only [Act.put,lsA,lsZ,lsS]
 refine take_q 11 5 (.int .i64 er) hS ?_
 simp only [Act.put,lsA,lsZ,lsS]
 refine wpAnyH_done (by kernel_rfl) ?_ _
 clear hS
 go_wp2_with fail
 go_ret
 have hd:doR s ⟨1,0,x.abs⟩=if er=0 then some (absE t',s.2) else none:=by
  unfold doR
  simp only [if_true]
  rw [← HT.out,show joinR (absE t) x.abs.key x.abs.f x.abs.l=_ from HJ.out]
 have hoW:Off (fun c=>c=tb) w w1:=(HO.out.mono (fun _ _ h=>h.elim)).trans HS.out (fun _ _ h=>h)
 have hsz:=hoW.size
 refine ⟨?_,⟨fun s' hs'=>?_⟩,hoW.mono (fun i _ e=>by rw [show i=tb from e]; exact (HT4.out tb HT0.out.2).1)⟩
 ·rw [hd]
  by_cases he:er=0
  ·rw [he]; rfl
  ·rw [if_neg he,show (er == 0)=false from beq_eq_false_iff_ne.2 he]; rfl
 ·have hok:=HCOR.out.ok.doR HKR.out hs'
  rw [hd] at hs'
  split at hs'
  ·simp only [Option.some.injEq] at hs'
   subst hs'
   refine ⟨fun c=>S c∨(w.heap.size≤c∧c < w1.heap.size),⟨.inl HCOR.out.here,?_,hok,tp,tb,hp,fun c=>T c∨(w.heap.size≤c∧c < w1.heap.size),H,t',xs,HP.out.off HS.out HNP.out,HTB'.out,rfl,HST.out.off HS.out ?_,HH.out,.inl HT0.out.1,.inl HT0.out.2,?_,?_,?_⟩,fun c hc=>hc.imp id (fun h=>h.1)⟩
   ·rintro c (hc | hc)
    ·exact Nat.lt_of_lt_of_le (HCOR.out.lt c hc) hsz
    ·exact hc.2
   ·intro c _ hH e
    exact (HT4.out tb HT0.out.2).2.1 (by rw [← show c=tb from e]; exact hH)
   ·intro e he
    rcases HIN.out e he with h | h
    ·exact (HT3.out e h).mono (fun x hx=>.inl hx)
    ·exact (h.ter.and (HTB'.out.row e he).below).mono (fun x hx=>.inr hx)
   ·rintro c (hc | hc)
    ·exact ⟨.inl (HT4.out c hc).1,(HT4.out c hc).2⟩
    ·refine ⟨.inr hc,fun hH=>?_,fun e=>?_⟩
     ·have h1:=HCOR.out.lt c (HT5.out c hH).1; omega
     ·have h1:=HCOR.out.lt p HCOR.out.here; omega
   ·intro c hc
    exact ⟨.inl (HT5.out c hc).1,(HT5.out c hc).2⟩
  ·cases hs'
set_option maxRecDepth 100000 in
set_option maxHeartbeats 2000000 in
theorem do2_any {S:Nat→Prop} {p:Nat} {lg:Value} {s:PS} (node:Int) (x:E) {w:World} (h:Cor S p lg s w) (hr:Row w x.a x.cap x.l) (hk:OkR ⟨2,node,x.abs⟩) :
  Calls Tryz.prog 42 #[.pointer (some ⟨p,0,none⟩),(.agg #[.int .u64 2,.int .i64 node,.string x.key,.int .i64 (x.f 0),.int .i64 (x.f 1),.int .i64 (x.f 2),.int .i64 (x.f 3),.int .i64 (x.f 4),.int .i64 (x.f 5),.int .i64 (x.f 6),.int .i64 (x.f 7),.slice x.a x.l.length x.cap])] w fun e w'=>e=.returned (.bool (doR s ⟨2,node,x.abs⟩).isSome)∧Did S p lg s ⟨2,node,x.abs⟩ w w'∧Off S w w':=by
 have HCOR:Hid (Cor S p lg s w):=h
 obtain ⟨tp,tb,hp,T,H,t,xs,c0,tab,ht,hst,hh,t1,t2,t3,t4,t5⟩:=h.is
 obtain ⟨W,hW⟩:∃ W,W=(w.alloc (.cells #[.int .u64 2,.int .i64 node,.string x.key,.int .i64 (x.f 0),.int .i64 (x.f 1),.int .i64 (x.f 2),.int .i64 (x.f 3),.int .i64 (x.f 4),.int .i64 (x.f 5),.int .i64 (x.f 6),.int .i64 (x.f 7),.slice x.a x.l.length x.cap] 103)):=⟨_,rfl⟩
 have O:Off (fun _=>False) w W:=by rw [hW]; exact (Off.refl _ w).alloc _
 have C:Cel w.heap.size 103 #[.int .u64 2,.int .i64 node,.string x.key,.int .i64 (x.f 0),.int .i64 (x.f 1),.int .i64 (x.f 2),.int .i64 (x.f 3),.int .i64 (x.f 4),.int .i64 (x.f 5),.int .i64 (x.f 6),.int .i64 (x.f 7),.slice x.a x.l.length x.cap] W:=by rw [hW]; exact Cel.new w _ _
 obtain ⟨x0,x1,x2,x3,x4,x5,x6,x7,x8,x9,x10,x11⟩:=cel12 C
 have HW:Hid _:=hW
 have HO:Hid _:=O
 have HC:Hid _:=C
 have HP:Hid _:=c0.off O (fun h=>h)
 have HTAB:Hid _:=tab.free O
 have HST:Hid _:=hst.free O
 have HR:Hid _:=hr.off O
 have HT:Hid (absE t=s.1):=ht
 have HH:Hid (absH xs=s.2):=hh
 have HT0:Hid (T tp∧T tb):=⟨t1,t2⟩
 have HT3:Hid _:=t3
 have HT4:Hid _:=t4
 have HT5:Hid _:=t5
 have HKR:Hid _:=hk
 have HTB:Hid (tb < w.heap.size):=h.lt tb (t4 tb t2).1
 clear h hW O C c0 tab hst hr ht hh t1 t2 t3 t4 t5 hk
 go_enter Tryz.func42,Tryz.ntmps42
 go_upto_region 1 with fail
 rw [show (w.alloc (.cells #[.int .u64 2,.int .i64 node,.string x.key,.int .i64 (x.f 0),.int .i64 (x.f 1),.int .i64 (x.f 2),.int .i64 (x.f 3),.int .i64 (x.f 4),.int .i64 (x.f 5),.int .i64 (x.f 6),.int .i64 (x.f 7),.slice x.a x.l.length x.cap] 103))=W from HW.out.symm]
 go_wp2_with fail
 have HNP:Hid (¬ (H) p):=fun e=>(HT5.out p e).2 rfl
 have HNC:Hid (¬ (H) w.heap.size):=fun e=>by have h1:=HCOR.out.lt _ (HT5.out _ e).1; omega
 clear x0 x1 x2 x3 x4 x5 x6 x7 x8 x9 x10 x11
 refine wp_region_held_drew (S:=fun w'=>Off (H) W w') (by kernel_rfl) ((Off.refl _ W).drew) (fun hS=>?_)
 refine take_q 0 26 (.pointer (some ⟨p,0,none⟩)) hS ?_
 simp only [Act.put,lsA,lsZ,lsS]
 refine take_q 1 27 (.pointer (some ⟨p,0,none⟩)) hS ?_
 simp only [Act.put,lsA,lsZ,lsS]
 refine take_q 2 28 (.pointer (some ⟨p,2,none⟩)) hS ?_
 simp only [Act.put,lsA,lsZ,lsS]
 refine take_r 3 29 (.pointer (some ⟨hp,0,none⟩)) rfl (Or.inl ⟨by rfl,fun w' hw'=>by have e:=(HP.out.off hw' HNP.out).cell 2; simp only [List.getElem?_toArray,List.getElem?_cons_zero,List.getElem?_cons_succ] at e; go_simp⟩) hS ?_
 simp only [Act.put,lsA,lsZ,lsS]
 refine take_q 4 30 (.pointer (some ⟨w.heap.size,1,none⟩)) hS ?_
 simp only [Act.put,lsA,lsZ,lsS]
 refine take_r 5 31 (.int .i64 node) rfl (Or.inl ⟨by rfl,fun w' hw'=>by obtain ⟨x0,x1,x2,x3,x4,x5,x6,x7,x8,x9,x10,x11⟩:=cel12 (HC.out.off hw' HNC.out); go_simp⟩) hS ?_
 simp only [Act.put,lsA,lsZ,lsS]
 refine take_q 6 32 (.pointer (some ⟨w.heap.size,2,none⟩)) hS ?_
 simp only [Act.put,lsA,lsZ,lsS]
 refine take_r 7 33 ((.agg #[.string x.key,.int .i64 (x.f 0),.int .i64 (x.f 1),.int .i64 (x.f 2),.int .i64 (x.f 3),.int .i64 (x.f 4),.int .i64 (x.f 5),.int .i64 (x.f 6),.int .i64 (x.f 7),.slice x.a x.l.length x.cap])) rfl (Or.inl ⟨by rfl,fun w' hw'=>by obtain ⟨x0,x1,x2,x3,x4,x5,x6,x7,x8,x9,x10,x11⟩:=cel12 (HC.out.off hw' HNC.out); go_simp⟩) hS ?_
 simp only [Act.put,lsA,lsZ,lsS]
 refine take_q 8 34 ((.agg #[.int .i64 node,.string x.key,.int .i64 (x.f 0),.int .i64 (x.f 1),.int .i64 (x.f 2),.int .i64 (x.f 3),.int .i64 (x.f 4),.int .i64 (x.f 5),.int .i64 (x.f 6),.int .i64 (x.f 7),.slice x.a x.l.length x.cap])) hS ?_
 simp only [Act.put,lsA,lsZ,lsS]
 refine wpAnyH_ready (rs:=[9]) (by kernel_rfl) (by simp) ?_
 refine AllReadyH.cons rfl (fun K' hK'=>?_) AllReadyH.nil
 go_simp
 have hNr:Nrm x.f:=by
  rcases HKR.out.is with ⟨h,-⟩ | ⟨-,-,h⟩ | ⟨h,-⟩ | ⟨h,-⟩
  ·cases h
  ·exact h.nrm
  ·cases h
  ·cases h
 refine (hput_any H hp xs (⟨node,x⟩:Go.Proofs.YthjbnpaghiojlaaGreat.H) _ (HST.out.free ((Off.refl (fun _=>False) W).drew)) (HR.out.off ((Off.refl (fun _=>False) W).drew)) hNr).mono ?_
 rintro e w1 ⟨rfl,D',xs',hst',hx',o1,hsub⟩
 refine hK'.out _ _ (((Off.refl H W).drew).trans o1 (fun _ _ h=>h)) (fun hS=>?_)
 clear hK' K' hNr
 obtain ⟨ch,er,xx,hpr⟩:∃ ch er xx,hpR (absH xs) (⟨node,x⟩:Go.Proofs.YthjbnpaghiojlaaGreat.H).abs=⟨xx,ch,er⟩:=⟨_,_,_,rfl⟩
 rw [hpr] at hx'
 simp only [hpr]
 have HJ:Hid _:=hpr
 have HST':Hid _:=hst'
 have HX':Hid (absH xs'=xx):=hx'
 have HSUB:Hid (∀ c,D' c→H c∨w.heap.size≤c):=fun c hc=>(hsub c hc).imp id (fun h=>Nat.le_trans HO.out.size h)
 have HS:Hid _:=hS
 clear hpr hst' hx' hsub o1
 refine take_q 10 25 (.tuple #[.bool ch,.int .i64 er]) hS ?_
 simp only [Act.put,lsA,lsZ,lsS]
 refine take_q 11 36 (.bool ch) hS ?_
 simp only [Act.put,lsA,lsZ,lsS]
 refine take_q 12 37 (.int .i64 er) hS ?_
 simp only [Act.put,lsA,lsZ,lsS]
 refine take_q 13 5 (.int .i64 er) hS ?_
 simp only [Act.put,lsA,lsZ,lsS]
 refine wpAnyH_done (by kernel_rfl) ?_ _
 clear hS
 go_wp2_with fail
 go_ret
 have hd:doR s ⟨2,node,x.abs⟩=if er=0 then some (s.1,xx) else none:=by
  unfold doR
  simp only [show ¬ (2:Nat)=1 by decide,if_false,if_true]
  rw [← HH.out,show hpR (absH xs) ⟨node,x.abs⟩=_ from HJ.out]
 have hoW:Off H w w1:=(HO.out.mono (fun _ _ h=>h.elim)).trans HS.out (fun _ _ h=>h)
 have hsz:=hoW.size
 refine ⟨?_,⟨fun s' hs'=>?_⟩,hoW.mono (fun i _ e=>(HT5.out i e).1)⟩
 ·rw [hd]
  by_cases he:er=0
  ·rw [he]; rfl
  ·rw [if_neg he,show (er == 0)=false from beq_eq_false_iff_ne.2 he]; rfl
 ·have hok:=HCOR.out.ok.doR HKR.out hs'
  rw [hd] at hs'
  split at hs'
  ·simp only [Option.some.injEq] at hs'
   subst hs'
   refine ⟨fun c=>S c∨(w.heap.size≤c∧c < w1.heap.size),⟨.inl HCOR.out.here,?_,hok,tp,tb,hp,T,D',t,xs',HP.out.off HS.out HNP.out,HTAB.out.offT HS.out HT0.out.1 HT0.out.2 HT3.out (fun c _ hc hH=>(HT4.out c hc).2.1 hH),HT.out,HST'.out,HX'.out,HT0.out.1,HT0.out.2,HT3.out,?_,?_⟩,fun c hc=>hc.imp id (fun h=>h.1)⟩
   ·rintro c (hc | hc)
    ·exact Nat.lt_of_lt_of_le (HCOR.out.lt c hc) hsz
    ·exact hc.2
   ·intro c hc
    refine ⟨.inl (HT4.out c hc).1,fun hD=>?_,(HT4.out c hc).2.2⟩
    rcases HSUB.out c hD with h | h
    ·exact (HT4.out c hc).2.1 h
    ·have h1:=HCOR.out.lt c (HT4.out c hc).1; omega
   ·intro c hc
    rcases HSUB.out c hc with h | h
    ·exact ⟨.inl (HT5.out c h).1,(HT5.out c h).2⟩
    ·exact ⟨.inr ⟨h,HST'.out.dlt c hc⟩,fun e=>by have h1:=HCOR.out.lt p HCOR.out.here; omega⟩
  ·cases hs'
set_option maxRecDepth 100000 in
set_option maxHeartbeats 2000000 in
theorem do3_any {S:Nat→Prop} {p:Nat} {lg:Value} {s:PS} (node:Int) (x:E) {w:World} (h:Cor S p lg s w) (hr:Row w x.a x.cap x.l) (hk:OkR ⟨3,node,x.abs⟩) :
  Calls Tryz.prog 42 #[.pointer (some ⟨p,0,none⟩),(.agg #[.int .u64 3,.int .i64 node,.string x.key,.int .i64 (x.f 0),.int .i64 (x.f 1),.int .i64 (x.f 2),.int .i64 (x.f 3),.int .i64 (x.f 4),.int .i64 (x.f 5),.int .i64 (x.f 6),.int .i64 (x.f 7),.slice x.a x.l.length x.cap])] w fun e w'=>e=.returned (.bool (doR s ⟨3,node,x.abs⟩).isSome)∧Did S p lg s ⟨3,node,x.abs⟩ w w'∧Off S w w':=by
 have HCOR:Hid (Cor S p lg s w):=h
 obtain ⟨tp,tb,hp,T,H,t,xs,c0,tab,ht,hst,hh,t1,t2,t3,t4,t5⟩:=h.is
 obtain ⟨W,hW⟩:∃ W,W=(w.alloc (.cells #[.int .u64 3,.int .i64 node,.string x.key,.int .i64 (x.f 0),.int .i64 (x.f 1),.int .i64 (x.f 2),.int .i64 (x.f 3),.int .i64 (x.f 4),.int .i64 (x.f 5),.int .i64 (x.f 6),.int .i64 (x.f 7),.slice x.a x.l.length x.cap] 103)):=⟨_,rfl⟩
 have O:Off (fun _=>False) w W:=by rw [hW]; exact (Off.refl _ w).alloc _
 have C:Cel w.heap.size 103 #[.int .u64 3,.int .i64 node,.string x.key,.int .i64 (x.f 0),.int .i64 (x.f 1),.int .i64 (x.f 2),.int .i64 (x.f 3),.int .i64 (x.f 4),.int .i64 (x.f 5),.int .i64 (x.f 6),.int .i64 (x.f 7),.slice x.a x.l.length x.cap] W:=by rw [hW]; exact Cel.new w _ _
 obtain ⟨x0,x1,x2,x3,x4,x5,x6,x7,x8,x9,x10,x11⟩:=cel12 C
 have HW:Hid _:=hW
 have HO:Hid _:=O
 have HC:Hid _:=C
 have HP:Hid _:=c0.off O (fun h=>h)
 have HTAB:Hid _:=tab.free O
 have HST:Hid _:=hst.free O
 have HR:Hid _:=hr.off O
 have HT:Hid (absE t=s.1):=ht
 have HH:Hid (absH xs=s.2):=hh
 have HT0:Hid (T tp∧T tb):=⟨t1,t2⟩
 have HT3:Hid _:=t3
 have HT4:Hid _:=t4
 have HT5:Hid _:=t5
 have HKR:Hid _:=hk
 have HTB:Hid (tb < w.heap.size):=h.lt tb (t4 tb t2).1
 clear h hW O C c0 tab hst hr ht hh t1 t2 t3 t4 t5 hk
 go_enter Tryz.func42,Tryz.ntmps42
 go_upto_region 1 with fail
 rw [show (w.alloc (.cells #[.int .u64 3,.int .i64 node,.string x.key,.int .i64 (x.f 0),.int .i64 (x.f 1),.int .i64 (x.f 2),.int .i64 (x.f 3),.int .i64 (x.f 4),.int .i64 (x.f 5),.int .i64 (x.f 6),.int .i64 (x.f 7),.slice x.a x.l.length x.cap] 103))=W from HW.out.symm]
 go_wp2_with fail
 have HCW:Hid (Cor S p lg s W):=HCOR.out.free HO.out
 clear x0 x1 x2 x3 x4 x5 x6 x7 x8 x9 x10 x11
 refine (keptFor_any HCW.out node x.key).mono ?_
 rintro e w1 ⟨f,a,c,l,rfl,hf,hl,row,ter,o1⟩
 have HF:Hid _:=hf
 have HL:Hid _:=hl
 clear hf hl
 generalize (fndGH HK.nk (node,x.key) s.2).isSome=th
 go_upto_region 9 with fail
 have CQ:=Cel.new w1 47 #[.int .i64 (f 0),.int .i64 (f 1),.int .i64 (f 2),.int .i64 (f 3),.int .i64 (f 4),.int .i64 (f 5),.int .i64 (f 6),.int .i64 (f 7),.slice a l.length c]
 have OA:Off (fun _=>False) w1 (w1.alloc (.cells #[.int .i64 (f 0),.int .i64 (f 1),.int .i64 (f 2),.int .i64 (f 3),.int .i64 (f 4),.int .i64 (f 5),.int .i64 (f 6),.int .i64 (f 7),.slice a l.length c] 47)):=(Off.refl _ w1).alloc _
 generalize hq:w1.heap.size=q at CQ ⊢
 generalize hv:w1.alloc (.cells #[.int .i64 (f 0),.int .i64 (f 1),.int .i64 (f 2),.int .i64 (f 3),.int .i64 (f 4),.int .i64 (f 5),.int .i64 (f 6),.int .i64 (f 7),.slice a l.length c] 47)=V at CQ OA ⊢
 have OV:Off (fun _=>False) W V:=o1.trans OA (fun _ _ h=>h)
 have HQL:Hid (w.heap.size < q):=by have h1:=HC.out.lt; have h2:=o1.size; show _ < _; omega
 have HQ:Hid _:=CQ
 have HOV:Hid (Off (fun _=>False) w V):=HO.out.trans OV (fun _ _ h=>h)
 replace HC:Hid (Cel w.heap.size 103 #[.int .u64 3,.int .i64 node,.string x.key,.int .i64 (x.f 0),.int .i64 (x.f 1),.int .i64 (x.f 2),.int .i64 (x.f 3),.int .i64 (x.f 4),.int .i64 (x.f 5),.int .i64 (x.f 6),.int .i64 (x.f 7),.slice x.a x.l.length x.cap] V):=HC.out.off OV (fun h=>h)
 replace HP:Hid (Cel p 101 #[lg,.pointer (some ⟨tp,0,none⟩),.pointer (some ⟨hp,0,none⟩)] V):=HP.out.off OV (fun h=>h)
 have HSV:Hid _:=HST.out.free OV
 have HTV:Hid _:=HTAB.out.free OV
 have HRV:Hid _:=row.off OA
 clear hq hv CQ OA o1 OV row ter
 have HNP:Hid (¬ (H) p):=fun e=>(HT5.out p e).2 rfl
 have HNC:Hid (¬ (H) w.heap.size):=fun e=>by have h1:=HCOR.out.lt _ (HT5.out _ e).1; omega
 have HNQ:Hid (¬ (H) q):=fun e=>by have h1:=HCOR.out.lt _ (HT5.out _ e).1; have:=HQL.out; omega
 refine wp_region_held_drew (S:=fun w'=>Off (H) V w') (by kernel_rfl) ((Off.refl _ V).drew) (fun hS=>?_)
 refine take_q 0 50 (.pointer (some ⟨p,0,none⟩)) hS ?_
 simp only [Act.put,lsA,lsZ,lsS]
 refine take_q 1 51 (.pointer (some ⟨p,0,none⟩)) hS ?_
 simp only [Act.put,lsA,lsZ,lsS]
 refine take_q 2 52 (.pointer (some ⟨p,2,none⟩)) hS ?_
 simp only [Act.put,lsA,lsZ,lsS]
 refine take_r 3 53 (.pointer (some ⟨hp,0,none⟩)) rfl (Or.inl ⟨by rfl,fun w' hw'=>by have e:=(HP.out.off hw' HNP.out).cell 2; simp only [List.getElem?_toArray,List.getElem?_cons_zero,List.getElem?_cons_succ] at e; go_simp⟩) hS ?_
 simp only [Act.put,lsA,lsZ,lsS]
 refine take_q 4 54 (.pointer (some ⟨w.heap.size,1,none⟩)) hS ?_
 simp only [Act.put,lsA,lsZ,lsS]
 refine take_r 5 55 (.int .i64 node) rfl (Or.inl ⟨by rfl,fun w' hw'=>by obtain ⟨x0,x1,x2,x3,x4,x5,x6,x7,x8,x9,x10,x11⟩:=cel12 (HC.out.off hw' HNC.out); go_simp⟩) hS ?_
 simp only [Act.put,lsA,lsZ,lsS]
 refine take_q 6 56 (.pointer (some ⟨w.heap.size,2,none⟩)) hS ?_
 simp only [Act.put,lsA,lsZ,lsS]
 refine take_q 7 57 (.pointer (some ⟨w.heap.size,2,none⟩)) hS ?_
 simp only [Act.put,lsA,lsZ,lsS]
 refine take_r 8 58 (.string x.key) rfl (Or.inl ⟨by rfl,fun w' hw'=>by obtain ⟨x0,x1,x2,x3,x4,x5,x6,x7,x8,x9,x10,x11⟩:=cel12 (HC.out.off hw' HNC.out); go_simp⟩) hS ?_
 simp only [Act.put,lsA,lsZ,lsS]
 refine take_r 9 59 (.agg #[.int .i64 (f 0),.int .i64 (f 1),.int .i64 (f 2),.int .i64 (f 3),.int .i64 (f 4),.int .i64 (f 5),.int .i64 (f 6),.int .i64 (f 7),.slice a l.length c]) rfl (Or.inl ⟨by rfl,fun w' hw'=>by obtain ⟨y0,y1,y2,y3,y4,y5,y6,y7,y8⟩:=cel9 (HQ.out.off hw' HNQ.out); go_simp⟩) hS ?_
 simp only [Act.put,lsA,lsZ,lsS]
 refine wpAnyH_ready (rs:=[10]) (by kernel_rfl) (by simp) ?_
 refine AllReadyH.cons rfl (fun K' hK'=>?_) AllReadyH.nil
 go_simp
 refine (hdrop_any H hp xs node x.key f a c l _ (HSV.out.free ((Off.refl (fun _=>False) V).drew)) (HRV.out.off ((Off.refl (fun _=>False) V).drew))).mono ?_
 rintro e w2 ⟨rfl,xs',hst',hx',o2⟩
 refine hK'.out _ _ (((Off.refl H V).drew).trans o2 (fun _ _ h=>h)) (fun hS=>?_)
 clear hK' K'
 have HST':Hid _:=hst'
 have HX':Hid (absH xs'=delG HK.nk (node,x.key) s.2):=by
  show _=_
  rw [hx',HH.out,HF.out,HL.out]
  exact drp_own HCOR.out.ok.set node x.key
 have HS:Hid _:=hS
 clear hst' hx' o2
 refine wpAnyH_done (by kernel_rfl) ?_ _
 clear hS
 go_wp2_with fail
 go_ret
 have hd:doR s ⟨3,node,x.abs⟩=some (s.1,delG HK.nk (node,x.key) s.2):=by
  unfold doR
  simp only [show ¬ (3:Nat)=1 by decide,show ¬ (3:Nat)=2 by decide,if_false,if_true]
  rfl
 have hoW:Off H w w2:=(HOV.out.mono (fun _ _ h=>h.elim)).trans HS.out (fun _ _ h=>h)
 have hsz:=hoW.size
 refine ⟨by rw [hd]; rfl,⟨fun s' hs'=>?_⟩,hoW.mono (fun i _ e=>(HT5.out i e).1)⟩
 have hok:=HCOR.out.ok.doR HKR.out hs'
 rw [hd] at hs'
 simp only [Option.some.injEq] at hs'
 subst hs'
 exact ⟨S,⟨HCOR.out.here,fun c hc=>Nat.lt_of_lt_of_le (HCOR.out.lt c hc) hsz,hok,tp,tb,hp,T,H,t,xs',HP.out.off HS.out HNP.out,HTV.out.offT HS.out HT0.out.1 HT0.out.2 HT3.out (fun c _ hc hH=>(HT4.out c hc).2.1 hH),HT.out,HST'.out,HX'.out,HT0.out.1,HT0.out.2,HT3.out,HT4.out,HT5.out⟩,fun c hc=>.inl hc⟩
set_option maxRecDepth 100000 in
set_option maxHeartbeats 2000000 in
theorem do4_any {S:Nat→Prop} {p:Nat} {lg:Value} {s:PS} (x:E) {w:World} (h:Cor S p lg s w) (hr:Row w x.a x.cap x.l) (hk:OkR ⟨4,0,x.abs⟩) :
  Calls Tryz.prog 42 #[.pointer (some ⟨p,0,none⟩),(.agg #[.int .u64 4,.int .i64 0,.string x.key,.int .i64 (x.f 0),.int .i64 (x.f 1),.int .i64 (x.f 2),.int .i64 (x.f 3),.int .i64 (x.f 4),.int .i64 (x.f 5),.int .i64 (x.f 6),.int .i64 (x.f 7),.slice x.a x.l.length x.cap])] w fun e w'=>e=.returned (.bool (doR s ⟨4,0,x.abs⟩).isSome)∧Did S p lg s ⟨4,0,x.abs⟩ w w'∧Off S w w':=by
 have HCOR:Hid (Cor S p lg s w):=h
 obtain ⟨tp,tb,hp,T,H,t,xs,c0,tab,ht,hst,hh,t1,t2,t3,t4,t5⟩:=h.is
 obtain ⟨W,hW⟩:∃ W,W=(w.alloc (.cells #[.int .u64 4,.int .i64 0,.string x.key,.int .i64 (x.f 0),.int .i64 (x.f 1),.int .i64 (x.f 2),.int .i64 (x.f 3),.int .i64 (x.f 4),.int .i64 (x.f 5),.int .i64 (x.f 6),.int .i64 (x.f 7),.slice x.a x.l.length x.cap] 103)):=⟨_,rfl⟩
 have O:Off (fun _=>False) w W:=by rw [hW]; exact (Off.refl _ w).alloc _
 have C:Cel w.heap.size 103 #[.int .u64 4,.int .i64 0,.string x.key,.int .i64 (x.f 0),.int .i64 (x.f 1),.int .i64 (x.f 2),.int .i64 (x.f 3),.int .i64 (x.f 4),.int .i64 (x.f 5),.int .i64 (x.f 6),.int .i64 (x.f 7),.slice x.a x.l.length x.cap] W:=by rw [hW]; exact Cel.new w _ _
 obtain ⟨x0,x1,x2,x3,x4,x5,x6,x7,x8,x9,x10,x11⟩:=cel12 C
 have HW:Hid _:=hW
 have HO:Hid _:=O
 have HC:Hid _:=C
 have HP:Hid _:=c0.off O (fun h=>h)
 have HTAB:Hid _:=tab.free O
 have HST:Hid _:=hst.free O
 have HR:Hid _:=hr.off O
 have HT:Hid (absE t=s.1):=ht
 have HH:Hid (absH xs=s.2):=hh
 have HT0:Hid (T tp∧T tb):=⟨t1,t2⟩
 have HT3:Hid _:=t3
 have HT4:Hid _:=t4
 have HT5:Hid _:=t5
 have HKR:Hid _:=hk
 have HTB:Hid (tb < w.heap.size):=h.lt tb (t4 tb t2).1
 clear h hW O C c0 tab hst hr ht hh t1 t2 t3 t4 t5 hk
 go_enter Tryz.func42,Tryz.ntmps42
 go_upto_region 1 with fail
 rw [show (w.alloc (.cells #[.int .u64 4,.int .i64 0,.string x.key,.int .i64 (x.f 0),.int .i64 (x.f 1),.int .i64 (x.f 2),.int .i64 (x.f 3),.int .i64 (x.f 4),.int .i64 (x.f 5),.int .i64 (x.f 6),.int .i64 (x.f 7),.slice x.a x.l.length x.cap] 103))=W from HW.out.symm]
 go_wp2_with fail
 have HNP:Hid (¬ (fun c=>c=tb) p):=fun e=>by have h1:=(HT4.out tb HT0.out.2).2.2; have h2:p=tb:=e; exact h1 h2.symm
 have HNC:Hid (¬ (fun c=>c=tb) w.heap.size):=fun e=>by have h1:w.heap.size=tb:=e; have:=HTB.out; omega
 clear x0 x1 x2 x3 x4 x5 x6 x7 x8 x9 x10 x11
 refine wp_region_held_drew (S:=fun w'=>Off (fun c=>c=tb) W w') (by kernel_rfl) ((Off.refl _ W).drew) (fun hS=>?_)
 refine take_q 0 63 (.pointer (some ⟨p,0,none⟩)) hS ?_
 simp only [Act.put,lsA,lsZ,lsS]
 refine take_q 1 64 (.pointer (some ⟨p,0,none⟩)) hS ?_
 simp only [Act.put,lsA,lsZ,lsS]
 refine take_q 2 65 (.pointer (some ⟨p,1,none⟩)) hS ?_
 simp only [Act.put,lsA,lsZ,lsS]
 refine take_r 3 66 (.pointer (some ⟨tp,0,none⟩)) rfl (Or.inl ⟨by rfl,fun w' hw'=>by have e:=(HP.out.off hw' HNP.out).cell 1; simp only [List.getElem?_toArray,List.getElem?_cons_zero,List.getElem?_cons_succ] at e; go_simp⟩) hS ?_
 simp only [Act.put,lsA,lsZ,lsS]
 refine take_q 4 67 (.pointer (some ⟨w.heap.size,2,none⟩)) hS ?_
 simp only [Act.put,lsA,lsZ,lsS]
 refine take_q 5 68 (.pointer (some ⟨w.heap.size,2,none⟩)) hS ?_
 simp only [Act.put,lsA,lsZ,lsS]
 refine take_r 6 69 (.string x.key) rfl (Or.inl ⟨by rfl,fun w' hw'=>by obtain ⟨x0,x1,x2,x3,x4,x5,x6,x7,x8,x9,x10,x11⟩:=cel12 (HC.out.off hw' HNC.out); go_simp⟩) hS ?_
 simp only [Act.put,lsA,lsZ,lsS]
 refine wpAnyH_ready (rs:=[7]) (by kernel_rfl) (by simp) ?_
 refine AllReadyH.cons rfl (fun K' hK'=>?_) AllReadyH.nil
 go_simp
 have hks:x.key.size≤maxLen:=by
  rcases HKR.out.is with ⟨h,-⟩ | ⟨h,-⟩ | ⟨h,-⟩ | ⟨-,-,h,-⟩
  ·cases h
  ·cases h
  ·cases h
  ·have h1:x.key.size≤32:=(key_size h).2; unfold maxLen; omega
 refine (treap_any tp tb t x.key hks _ (HTAB.out.free ((Off.refl (fun _=>False) W).drew))).mono ?_
 rintro e w1 ⟨rfl,t',tab',ht',hin,o1⟩
 refine hK'.out _ _ (((Off.refl (fun c=>c=tb) W).drew).trans o1 (fun _ _ h=>h)) (fun hS=>?_)
 clear hK' K' hks
 have HJ:Hid (absE t'=reapT s.1 x.key):=by show _=_; rw [ht',HT.out]
 have HTB':Hid _:=tab'
 have HIN:Hid (∀ e ∈ t',e ∈ t∨Far w.heap.size e.a e.l):=fun e he=>(hin e he).imp id (fun h=>h.mono HO.out.size)
 have HS:Hid _:=hS
 clear ht' tab' hin o1
 refine wpAnyH_done (by kernel_rfl) ?_ _
 clear hS
 go_wp2_with fail
 go_ret
 have hd:doR s ⟨4,0,x.abs⟩=some (reapT s.1 x.key,s.2):=by
  unfold doR
  simp only [show ¬ (4:Nat)=1 by decide,show ¬ (4:Nat)=2 by decide,show ¬ (4:Nat)=3 by decide,if_false]
  rfl
 have hoW:Off (fun c=>c=tb) w w1:=(HO.out.mono (fun _ _ h=>h.elim)).trans HS.out (fun _ _ h=>h)
 have hsz:=hoW.size
 refine ⟨by rw [hd]; rfl,⟨fun s' hs'=>?_⟩,hoW.mono (fun i _ e=>by rw [show i=tb from e]; exact (HT4.out tb HT0.out.2).1)⟩
 have hok:=HCOR.out.ok.doR HKR.out hs'
 rw [hd] at hs'
 simp only [Option.some.injEq] at hs'
 subst hs'
 refine ⟨fun c=>S c∨(w.heap.size≤c∧c < w1.heap.size),⟨.inl HCOR.out.here,?_,hok,tp,tb,hp,fun c=>T c∨(w.heap.size≤c∧c < w1.heap.size),H,t',xs,HP.out.off HS.out HNP.out,HTB'.out,HJ.out,HST.out.off HS.out ?_,HH.out,.inl HT0.out.1,.inl HT0.out.2,?_,?_,?_⟩,fun c hc=>hc.imp id (fun h=>h.1)⟩
 ·rintro c (hc | hc)
  ·exact Nat.lt_of_lt_of_le (HCOR.out.lt c hc) hsz
  ·exact hc.2
 ·intro c _ hH e
  exact (HT4.out tb HT0.out.2).2.1 (by rw [← show c=tb from e]; exact hH)
 ·intro e he
  rcases HIN.out e he with h | h
  ·exact (HT3.out e h).mono (fun x hx=>.inl hx)
  ·exact (h.ter.and (HTB'.out.row e he).below).mono (fun x hx=>.inr hx)
 ·rintro c (hc | hc)
  ·exact ⟨.inl (HT4.out c hc).1,(HT4.out c hc).2⟩
  ·refine ⟨.inr hc,fun hH=>?_,fun e=>?_⟩
   ·have h1:=HCOR.out.lt c (HT5.out c hH).1; omega
   ·have h1:=HCOR.out.lt p HCOR.out.here; omega
 ·intro c hc
  exact ⟨.inl (HT5.out c hc).1,(HT5.out c hc).2⟩
theorem do_any {S:Nat→Prop} {p:Nat} {lg:Value} {s:PS} (kd:Nat) (node:Int) (x:E) {w:World} (h:Cor S p lg s w) (hr:Row w x.a x.cap x.l) (hk:OkR ⟨kd,node,x.abs⟩) :
  Calls Tryz.prog 42 #[.pointer (some ⟨p,0,none⟩),(.agg #[.int .u64 (kd:Int),.int .i64 node,.string x.key,.int .i64 (x.f 0),.int .i64 (x.f 1),.int .i64 (x.f 2),.int .i64 (x.f 3),.int .i64 (x.f 4),.int .i64 (x.f 5),.int .i64 (x.f 6),.int .i64 (x.f 7),.slice x.a x.l.length x.cap])] w fun e w'=>e=.returned (.bool (doR s ⟨kd,node,x.abs⟩).isSome)∧Did S p lg s ⟨kd,node,x.abs⟩ w w'∧Off S w w':=by
 rcases hk.is with ⟨h1,h2,-⟩ | ⟨h1,-,-⟩ | ⟨h1,-⟩ | ⟨h1,h2,-⟩ <;> simp only at h1 <;> subst h1
 ·simp only at h2
  subst h2
  exact do1_any x h hr hk
 ·exact do2_any node x h hr hk
 ·exact do3_any node x h hr hk
 ·simp only at h2
  subst h2
  exact do4_any x h hr hk
end Go.Proofs.YthjbnpaghiojlaaGreat
