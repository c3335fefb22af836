/- Items of several texts. -/
import Derived.Deep.MidRow
import Derived.Deep.WholeRow
import Derived.Test.YthjbnpaghiojlaaGreatKArg5
import Derived.Test.YthjbnpaghiojlaaGreatKHfo
import Derived.Test.YthjbnpaghiojlaaGreatKLjo
namespace Go.Proofs.YthjbnpaghiojlaaGreat
open Go.RowKit
theorem eql_dsk (a:Option Addr) (W:World):(binOp .eql 26 (.pointer a) (.pointer none)).run Tryz.prog W=.ok (.bool a.isNone) W:=by
 cases a <;> kernel_rfl
set_option maxRecDepth 100000 in
theorem copyOf_disk {D:Nat→Prop} {b most:Nat} {bs:List Nat} {sn:Nat} {w:World} (h:Dsk D b most bs sn w) :
  Calls Tryz.prog 38 #[.pointer (some ⟨b,0,none⟩)] w fun e w'=>∃ c D',e=.returned (.pointer (some ⟨c,0,none⟩))∧Dsk D' c most bs bs.length w'∧(∀ x,D' x→w.heap.size≤x)∧Off (fun _=>False) w w':=by
 have hq:=eql_dsk
 have hf:=h.fit
 have hb:=h.bound
 have HD:Hid _:=h
 clear h
 go_enter Tryz.func38,Tryz.ntmps38
 go_wp2_with fail
 refine (dmost_any HD.out).mono ?_
 rintro e w0 ⟨rfl,hw⟩
 rw [hw]
 clear hw w0
 go_wp2_with fail
 refine (dnew_any (most:Int) w).mono ?_
 rintro e w1 ⟨c,rfl,hc,K,o1⟩
 have hro:roomOf (most:Int)=most:=by unfold roomOf; omega
 rw [hro] at K
 have HK:Hid _:=K
 have HO1:Hid _:=o1
 have HD1:Hid _:=HD.out.free o1
 have HCC:Hid (∀ x,(fun x=>x=c) x→w.heap.size≤x):=fun x hx=>by rw [show x=c from hx]; exact hc
 clear K o1 hro hc
 go_wp2_with fail
 refine (dbytes_any HD1.out).mono ?_
 rintro e w2 ⟨t,cc,rfl,own,-,o2⟩
 have HA:Hid _:=dreplace_any (HK.out.free o2) t cc bs own.src (by omega)
 have e1:repE most bs=0:=by rw [repE,if_pos hf]
 have e2:repL most [] bs=bs:=by rw [repL,if_pos hf]
 have e3:repS most 0 bs=bs.length:=by rw [repS,if_pos hf]
 rw [e1,e2,e3] at HA
 have HO2:Hid _:=HO1.out.trans o2 (fun _ _ h=>h)
 clear own o2 e1 e2 e3
 go_wp2_with fail
 refine Calls.mono HA.out ?_
 rintro e w3 ⟨rfl,D',K3,o3,d3⟩
 have HK3:Hid _:=K3
 have HO3:Hid (Off (fun _=>False) w w3):=((HO2.out.mono (fun _ _ h=>h.elim)).trans o3 (fun _ _ h=>h)).mono (fun i hi e=>by have:=HCC.out i e; omega)
 have HD3:Hid (∀ x,D' x→w.heap.size≤x):=fun x hx=>(d3 x hx).elim (HCC.out x) (fun h=>Nat.le_trans HO2.out.size h)
 clear K3 o3 d3 HA
 go_wp2_with fail
 go_ret
 exact ⟨c,D',rfl,HK3.out,HD3.out,HO3.out⟩
theorem Cor.lay {S:Nat→Prop} {p:Nat} {lg:Value} {s:PS} {w:World} (h:Cor S p lg s w) (lg':Value):Cor S p lg' s (w.setCell ⟨p,0,none⟩ lg'):=by
 obtain ⟨tp,tb,hp,T,H,t,xs,c0,tab,ht,hst,hh,t1,t2,t3,t4,t5⟩:=h.is
 have o:Off (fun c=>c=p) w (w.setCell ⟨p,0,none⟩ lg'):=(Off.refl (fun c=>c=p) w).setCell (.inl rfl) _
 have c1:=c0.set 0 lg'
 simp only [List.setIfInBounds_toArray,List.set_cons_zero] at c1
 exact ⟨h.here,fun c hc=>Nat.lt_of_lt_of_le (h.lt c hc) o.size,h.ok,tp,tb,hp,T,H,t,xs,c1,tab.offT o t1 t2 t3 (fun c _ hT e=>(t4 c hT).2.2 e),ht,hst.off o (fun c _ hH e=>(t5 c hH).2 e),hh,t1,t2,t3,t4,t5⟩
theorem run_step {s0 s s':PS} {rs:List (List Nat)} {n:Nat} {r:List Nat} (h:runR s0 (rs.take n)=some s) (hr:rs[n]?=some r) (k:stepR s r=some s'):runR s0 (rs.take (n + 1))=some s':=by
 rw [List.take_add_one,hr]
 exact runR_snoc h k
theorem run_stop {s0 s:PS} {rs:List (List Nat)} {n:Nat} {r:List Nat} (h:runR s0 (rs.take n)=some s) (hr:rs[n]?=some r) (k:stepR s r=none):runR s0 rs=none:=by
 have e:rs=rs.take n ++ r :: rs.drop (n + 1):=by
  obtain ⟨h1,h2⟩:=List.getElem?_eq_some_iff.1 hr
  have h3:=List.take_append_drop n rs
  rw [List.drop_eq_getElem_cons h1,h2] at h3
  exact h3.symm
 rw [e,runR_append,h]
 simp only [Option.bind_some,runR,k,Option.bind_none]
structure OpnY (D:Nat→Prop) (b most:Nat) (rs:List (List Nat)) (s:PS) (p:Nat) (w w':World):Prop where
 ex:∃ (lb:Nat) (D' S':Nat→Prop),Hol D' S' p lb b most rs s w'∧Off D w w'∧(∀ c,D' c→D c∨w.heap.size≤c)∧(∀ c,S' c→w.heap.size≤c)
structure Opn (D:Nat→Prop) (b most:Nat) (rs:List (List Nat)) (q:Option Addr) (er:Int) (w w':World):Prop where
 is:(∃ (s:PS) (p:Nat),runR ([],[]) rs=some s∧q=some ⟨p,0,none⟩∧er=0∧OpnY D b most rs s p w w')∨(runR ([],[]) rs=none∧q=none∧er=3∧Off (fun _=>False) w w')
theorem tk_nil:tkE []=2:=by rfl
set_option maxRecDepth 100000 in
set_option maxHeartbeats 2000000 in
theorem lopen_any {D:Nat→Prop} {b most:Nat} {rs:List (List Nat)} {xs:List Nat} {sn:Nat} {w:World} (h:Dsk D b most (frs rs ++ xs) sn w) (hx:tkE xs=2) (hxl:∀ x ∈ xs,x < 256) (hsn:xs=[]→sn=(frs rs).length) (hrec:∀ r ∈ rs,Rec r) :
  Calls Tryz.prog 12 #[.pointer (some ⟨b,0,none⟩)] w fun e w'=>∃ (q:Option Addr) (er:Int),e=.returned (.tuple #[.pointer q,.int .i64 er])∧Opn D b most rs q er w w':=by
 have HDK:Hid _:=h
 have HSN:Hid _:=hsn
 have HREC:Hid _:=hrec
 have HLT:Hid (∀ x ∈ frs rs ++ xs,x < 256):=fun x hx=>by
  rcases List.mem_append.1 hx with hx | hx
  ·exact frs_lt hrec x hx
  ·exact hxl x hx
 have HAL:Hid _:=al_tail hrec hx
 have HFEW:Hid (rs.length≤131072):=by
  have h1:=h.fit
  have h2:=h.bound
  have h3:=frs_many rs
  rw [List.length_append] at h1
  show _≤_
  omega
 have hfew:=HFEW.out
 clear h hsn hrec hx hxl
 go_enter Tryz.func12,Tryz.ntmps12
 go_wp2_with fail
 refine (copyOf_disk HDK.out).mono ?_
 rintro e w0 ⟨dc,D0,rfl,k0,n0,o0⟩
 have HK0:Hid _:=k0
 have HN0:Hid _:=n0
 have HO0:Hid _:=o0
 clear k0 n0 o0
 go_wp2_with fail
 refine (wopen_ok HK0.out HLT.out HAL.out).mono ?_
 rintro e w1 ⟨lb0,t,c,bl,rfl,hbl,D1,tol,-,ch⟩
 obtain ⟨o1,-⟩:=ch.new HO0.out HN0.out
 have HBL:Hid _:=hbl
 have HOWN:Hid _:=tol.own
 have HEA:Hid (∀ x ∈ bl,OwnR w1 x.ad x.cap x.data):=fun x hx=>(tol.each x hx).1
 have HO1:Hid _:=o1
 have HLEN:Hid (bl.length=rs.length):=by show _=_; rw [← hbl,List.length_map]
 clear hbl tol ch o1
 go_wp2_with fail
 refine (tnew_any w1).mono ?_
 rintro e w2 ⟨tp,tb,rfl,tab,htp,htb,o2⟩
 have HTAB:Hid _:=tab
 have HTP:Hid (w1.heap.size≤tp∧w1.heap.size≤tb):=⟨htp,htb⟩
 have HO2:Hid _:=o2
 clear tab htp htb o2
 go_wp2_with fail
 refine (hnew_any w2).mono ?_
 rintro e w3 ⟨hp,rfl,hst,hhp,o3⟩
 have HST:Hid _:=hst
 have HHP:Hid _:=hhp
 have HT3:Hid _:=HTAB.out.free o3
 have HO3:Hid _:=HO2.out.trans o3 (fun _ _ h=>h)
 have HTB2:Hid (tp < w2.heap.size∧tb < w2.heap.size):=⟨HTAB.out.cel.lt,HTAB.out.ltb⟩
 clear hst hhp o3 HTAB
 go_upto_region 5 with fail
 have CP:=Cel.new w3 101 #[.pointer none,.pointer (some ⟨tp,0,none⟩),.pointer (some ⟨hp,0,none⟩)]
 have OP:Off (fun _=>False) w3 (w3.alloc (.cells #[.pointer none,.pointer (some ⟨tp,0,none⟩),.pointer (some ⟨hp,0,none⟩)] 101)):=(Off.refl _ w3).alloc _
 have HSZ3:Hid (w1.heap.size≤w2.heap.size∧w2.heap.size≤w3.heap.size):=⟨HO2.out.size,by have h1:=HHP.out; have h2:=HST.out.lt; omega⟩
 have HCOR:Hid (∃ S,Cor S w3.heap.size (.pointer none) ([],[]) (w3.alloc (.cells #[.pointer none,.pointer (some ⟨tp,0,none⟩),.pointer (some ⟨hp,0,none⟩)] 101))∧∀ c,S c→w1.heap.size≤c):=by
  have hz:=HSZ3.out
  have h1:=HTP.out
  have h2:=HHP.out
  have h3:=HTB2.out
  have h4:=HST.out.lt
  refine ⟨fun c=>c=tp∨c=tb∨c=hp∨c=w3.heap.size,⟨.inr (.inr (.inr rfl)),?_,OkP.nil,tp,tb,hp,fun c=>c=tp∨c=tb,fun c=>c=hp,[],[],CP,HT3.out.free OP,rfl,HST.out.free OP,rfl,.inl rfl,.inr rfl,fun e he=>by simp at he,?_,?_⟩,?_⟩
  ·intro c hc
   have hs:=OP.size
   have hl:=CP.lt
   rcases hc with rfl | rfl | rfl | rfl <;> omega
  ·intro c hc
   rcases hc with rfl | rfl
   ·exact ⟨.inl rfl,fun e=>by have e:c=hp:=e; omega,by omega⟩
   ·exact ⟨.inr (.inl rfl),fun e=>by have e:c=hp:=e; omega,by omega⟩
  ·intro c hc
   have hc:c=hp:=hc
   exact ⟨.inr (.inr (.inl hc)),by omega⟩
  ·intro c hc
   rcases hc with rfl | rfl | rfl | rfl <;> omega
 have HOP:Hid (Off (fun _=>False) w1 (w3.alloc (.cells #[.pointer none,.pointer (some ⟨tp,0,none⟩),.pointer (some ⟨hp,0,none⟩)] 101))):=HO3.out.trans OP (fun _ _ h=>h)
 generalize hv:w3.alloc (.cells #[.pointer none,.pointer (some ⟨tp,0,none⟩),.pointer (some ⟨hp,0,none⟩)] 101)=V at CP OP HCOR HOP ⊢
 generalize hpp:w3.heap.size=p at CP HCOR ⊢
 clear hv hpp CP OP HT3 HST HO3 HO2 HTB2 HSZ3 HHP HTP
 go_wp2_with fail
 have hbl:=HLEN.out
 have hbl2:bl.length≤131072:=by omega
 clear hbl
 go_loopw [28] (fun y wr=>∃ (n:Nat) (s:PS) (S:Nat→Prop),y=.int .i64 (n:Int)∧n≤bl.length∧runR ([],[]) (rs.take n)=some s∧Cor S p (.pointer none) s wr∧(∀ c,S c→w1.heap.size≤c)∧Off (fun _=>False) w1 wr) (fun y _=>(bl.length - intOf y).toNat)
 case atStart =>
  obtain ⟨S,k1,k2⟩:=HCOR.out
  exact ⟨0,([],[]),S,rfl,by omega,rfl,k1,k2,HOP.out⟩
 case round =>
  clear HCOR HOP
  obtain ⟨n,s,S,rfl,hn,hrun,cor,hS,O⟩:=hrel
  have HRUN:Hid _:=hrun
  have HCOR:Hid _:=cor
  have HS:Hid _:=hS
  have HO:Hid _:=O
  have HOF:Hid (Off (fun _=>False) w wr):=HO1.out.trans O (fun _ _ h=>h)
  clear hrun cor hS O
  by_cases hlt:n < bl.length
  ·have e1:decide ((n:Int) < (bl.length:Int))=true:=decide_eq_true (by omega)
   have e2:decide (n < bl.length)=true:=decide_eq_true hlt
   obtain ⟨xb,hxb⟩:∃ xb,bl[n]?=some xb:=⟨_,List.getElem?_eq_getElem hlt⟩
   have HRN:Hid (rs[n]?=some xb.data):=by show _=_; rw [← HBL.out,List.getElem?_map,hxb]; rfl
   obtain ⟨gb,rfl,k⟩:=(HOWN.out.off HO.out (fun _ _ _ h=>h)).at_ bcs_len hxb
   have k0:=k 0 _ rfl
   rw [Nat.mul_one,Nat.add_zero] at k0
   have HXM:Hid (xb ∈ bl):=List.mem_of_getElem? hxb
   have HRC:Hid (Rec xb.data):=HREC.out xb.data (List.mem_of_getElem? HRN.out)
   have HSX:Hid (Src wr xb.ad xb.cap xb.data):=((HEA.out xb HXM.out).off HO.out (fun _ _ _ h=>h)).src
   have hxl:xb.data.length≤60000:=HRC.out.len
   clear hxb k
   go_wp2_with fail
   clear k0
   refine (parse_any xb.ad xb.cap xb.data wr HSX.out HRC.out.lt hxl).mono ?_
   rintro e w4 ⟨kd,node,x,ok,rfl,hok,hprs,row,frh,o4⟩
   have HOK:Hid _:=hok
   have HPR:Hid _:=hprs
   clear hok hprs
   go_upto_region 9 with fail
   have CQ:=Cel.new w4 103 #[.int .u64 (kd:Int),.int .i64 node,.string x.key,.int .i64 (x.f 0),.int .i64 (x.f 1),.int .i64 (x.f 2),.int .i64 (x.f 3),.int .i64 (x.f 4),.int .i64 (x.f 5),.int .i64 (x.f 6),.int .i64 (x.f 7),.slice x.a x.l.length x.cap]
   have OQ:Off (fun _=>False) w4 (w4.alloc (.cells #[.int .u64 (kd:Int),.int .i64 node,.string x.key,.int .i64 (x.f 0),.int .i64 (x.f 1),.int .i64 (x.f 2),.int .i64 (x.f 3),.int .i64 (x.f 4),.int .i64 (x.f 5),.int .i64 (x.f 6),.int .i64 (x.f 7),.slice x.a x.l.length x.cap] 103)):=(Off.refl _ w4).alloc _
   generalize hv:w4.alloc (.cells #[.int .u64 (kd:Int),.int .i64 node,.string x.key,.int .i64 (x.f 0),.int .i64 (x.f 1),.int .i64 (x.f 2),.int .i64 (x.f 3),.int .i64 (x.f 4),.int .i64 (x.f 5),.int .i64 (x.f 6),.int .i64 (x.f 7),.slice x.a x.l.length x.cap] 103)=V4 at CQ OQ ⊢
   generalize hqq:w4.heap.size=q4 at CQ ⊢
   have OV:Off (fun _=>False) wr V4:=o4.trans OQ (fun _ _ h=>h)
   have HCQ:Hid _:=CQ
   have HRV:Hid _:=row.off OQ
   have HCV:Hid _:=HCOR.out.free OV
   have HOV:Hid _:=HO.out.trans OV (fun _ _ h=>h)
   have HOFV:Hid _:=HOF.out.trans OV (fun _ _ h=>h)
   clear hv hqq CQ OQ OV o4 row frh
   cases hp0:prs xb.data with
   | none =>
    have hok0:ok=false:=by rw [HOK.out,hp0]; rfl
    have HNO:Hid (runR ([],[]) rs=none):=run_stop HRUN.out HRN.out (by unfold stepR; rw [hp0]; rfl)
    rw [hok0]
    clear hok0 hp0 HOF
    have HOF:Hid _:=HOFV.out
    go_wp2_with fail
    go_ret2
    exact ⟨none,3,rfl,⟨.inr ⟨HNO.out,rfl,rfl,HOF.out⟩⟩⟩
   | some r =>
    have hok0:ok=true:=by rw [HOK.out,hp0]; rfl
    have hrr:=HPR.out r hp0
    have HRR:Hid (OkR ⟨kd,node,x.abs⟩):=by rw [← hrr]; exact prs_ok hp0 (by rw [hrr]; exact HRV.out.rng)
    have HP0:Hid (prs xb.data=some ⟨kd,node,x.abs⟩):=by rw [← hrr]; exact hp0
    rw [hok0]
    clear hok0 hp0 hrr HOF
    obtain ⟨u0,u1,u2,u3,u4,u5,u6,u7,u8,u9,u10,u11⟩:=cel12 HCQ.out
    go_wp2_with fail
    clear u0 u1 u2 u3 u4 u5 u6 u7 u8 u9 u10 u11
    refine (do_any kd node x HCV.out HRV.out HRR.out).mono ?_
    rintro e w5 ⟨rfl,did,o5⟩
    have HDID:Hid _:=did
    have HO5:Hid (Off (fun _=>False) w1 w5):=((HOV.out.mono (fun _ _ h=>h.elim)).trans o5 (fun _ _ h=>h)).mono (fun i hi e=>by have:=HS.out i e; omega)
    have HV5:Hid (V4.heap.size≤w5.heap.size):=o5.size
    clear did o5
    cases hd0:doR s ⟨kd,node,x.abs⟩ with
    | none =>
     have HNO:Hid (runR ([],[]) rs=none):=run_stop HRUN.out HRN.out (by unfold stepR; rw [HP0.out]; exact hd0)
     have HOF:Hid (Off (fun _=>False) w w5):=HO1.out.trans HO5.out (fun _ _ h=>h)
     simp only [Option.isSome_none]
     clear hd0
     go_wp2_with fail
     go_ret2
     exact ⟨none,3,rfl,⟨.inr ⟨HNO.out,rfl,rfl,HOF.out⟩⟩⟩
    | some s' =>
     obtain ⟨S',k1,k2⟩:=HDID.out.get s' hd0
     have HR1:Hid (runR ([],[]) (rs.take (n + 1))=some s'):=run_step HRUN.out HRN.out (by unfold stepR; rw [HP0.out]; exact hd0)
     have HK1:Hid _:=k1
     have HK2:Hid (∀ c,S' c→w1.heap.size≤c):=fun c hc=>(k2 c hc).elim (HS.out c) (fun h=>Nat.le_trans HOV.out.size h)
     simp only [Option.isSome_some]
     clear hd0 k1 k2 HDID
     go_wp2_with fail
     go_roundw
     case rel=>exact ⟨n + 1,s',S',by go_num,by omega,HR1.out,HK1.out,HK2.out,HO5.out⟩
     case measure=>simp [intOf]; omega
  ·obtain rfl:n=bl.length:=by omega
   have e1:decide ((bl.length:Int) < (bl.length:Int))=false:=decide_eq_false (by omega)
   have e2:decide (bl.length < bl.length)=false:=decide_eq_false (by omega)
   have HRR:Hid (runR ([],[]) rs=some s):=by
    have h1:=HRUN.out
    rw [HLEN.out,List.take_length] at h1
    exact h1
   have HDW:Hid _:=HDK.out.free HOF.out
   clear HRUN
   go_wp2_with fail
   refine (wopen_ok HDW.out HLT.out HAL.out).mono ?_
   rintro e w6 ⟨lb,t6,c6,bl6,rfl,hb6,D6,-,lg,ch⟩
   have hl6:bl6.length=rs.length:=by rw [← hb6,List.length_map]
   have HLG:Hid (Lg D6 lb b most (frs rs) (frs rs).length rs.length (frs rs).length w6):=by
    have h1:(if (frs rs).length < (frs rs ++ xs).length then (frs rs).length else sn)=(frs rs).length:=by
     split
     ·rfl
     ·rename_i hh
      rw [List.length_append] at hh
      exact HSN.out (List.eq_nil_of_length_eq_zero (by omega))
    rw [List.take_left,h1,hl6] at lg
    exact lg
   have HCH:Hid _:=ch
   have HND:Hid (∀ c,S c→¬ D c):=fun c hc hD=>by have h1:=HS.out c hc; have h2:=HDK.out.lt c hD; have h3:=HO1.out.size; omega
   have HC6:Hid _:=HCOR.out.off ch.off (fun c _ hc=>HND.out c hc)
   have HN6:Hid (∀ c,S c→¬ D6 c):=fun c hc hD=>by
    rcases ch.sub c hD with h | h
    ·exact HND.out c hc h
    ·have:=HCOR.out.lt c hc; omega
   obtain ⟨tp6,tb6,hp6,T6,H6,tt6,xs6,c0,-⟩:=HC6.out.is
   have q0:w6.cell? ⟨p,0,none⟩=some (.pointer none):=c0.cell 0
   have fq:=c0.free 0
   clear lg ch hb6 hl6 c0
   go_wp2_with fail
   go_ret2
   have hp6:S p:=HC6.out.here
   have o7:Off (fun c=>c=p) w6 (w6.setCell ⟨p,0,none⟩ (.pointer (some ⟨lb,0,none⟩))):=(Off.refl (fun c=>c=p) w6).setCell (.inl rfl) _
   have hpw:w.heap.size≤p:=Nat.le_trans HO1.out.size (HS.out p hp6)
   refine ⟨some ⟨p,0,none⟩,0,rfl,⟨.inl ⟨s,p,HRR.out,rfl,rfl,⟨lb,D6,S,⟨HC6.out.lay _,⟨HLG.out.off o7 (fun c hc e=>HN6.out p hp6 (by rw [← show c=p from e]; exact hc)),HREC.out⟩,HN6.out,⟨HC6.out.ok,HRR.out,HREC.out⟩⟩,?_,fun c hc=>?_,fun c hc=>Nat.le_trans HO1.out.size (HS.out c hc)⟩⟩⟩⟩
   ·exact (((HOF.out.mono (fun _ _ h=>h.elim)).trans HCH.out.off (fun _ _ h=>h)).trans (o7.mono (E:=fun c=>w.heap.size≤c) (fun i _ e=>by rw [show i=p from e]; exact hpw)) (fun i hi e=>by omega))
   ·rcases HCH.out.sub c hc with h | h
    ·exact .inl h
    ·exact .inr (Nat.le_trans HOF.out.size h)
end Go.Proofs.YthjbnpaghiojlaaGreat

namespace Go.Proofs.YthjbnpaghiojlaaGreat
open Go.RowKit
theorem wpList_exec {P:Program} {ops:Array Oper} {rest:List Oper} {o:Oper} {a:Act} {w w':World} {Q:Exit→Act→World→Prop} {v:Value} (d:Nat) (hgd:o.guard=none) (hd:o.dst=some d) (h:(execOp a.eval o).run P w=.ok (.value v) w')
  (hk:wpList P ops Q rest (a.put (some d) v) w'):wpList P ops Q (o :: rest) a w :=
 wpList_plain hgd fun K hK=>by
  unfold Oper.wp
  rw [h,Oper.upon_value,hd]
  exact hK _ _ hk
theorem wpList_skip {P:Program} {ops:Array Oper} {rest:List Oper} {o:Oper} {a:Act} {w w':World} {Q:Exit→Act→World→Prop} (hgd:o.guard=none) (hd:o.dst=none) (h:(execOp a.eval o).run P w=.ok .skip w')
  (hk:wpList P ops Q rest a w'):wpList P ops Q (o :: rest) a w :=
 wpList_plain hgd fun K hK=>by
  unfold Oper.wp
  rw [h,Oper.upon_skip,hd]
  exact hK _ _ hk
theorem exec_load {P:Program} {ρ:Operand→Value} {o:Oper} {t:TypeId} {x:Operand} {v:Value} {w:World} (ho:o.op=.load t x) (h:(Instr.loadAt t (ρ x)).run P w=.ok v w):Sem.run P (execOp ρ o) w=.ok (.value v) w:=by
 have e:execOp ρ o=(do pure (.value (← Instr.loadAt t (ρ x)))):=by unfold execOp; rw [ho]
 rw [e,Sem.run_bind,h]
 rfl
theorem exec_store {P:Program} {ρ:Operand→Value} {o:Oper} {t:TypeId} {x y:Operand} {w w':World} (ho:o.op=.store t x y) (h:(Instr.storeAt t (ρ x) (ρ y)).run P w=.ok () w'):Sem.run P (execOp ρ o) w=.ok .skip w':=by
 have e:execOp ρ o=(do Instr.storeAt t (ρ x) (ρ y); pure .skip):=by unfold execOp; rw [ho]
 rw [e,Sem.run_bind,h]
 rfl
theorem exec_alloc {P:Program} {ρ:Operand→Value} {o:Oper} {t:TypeId} {v:Value} {w w':World} (ho:o.op=.alloc t) (h:(Instr.alloc t true (.tuple #[])).run P w=.ok v w'):Sem.run P (execOp ρ o) w=.ok (.value v) w':=by
 have e:execOp ρ o=(do pure (.value (← Instr.alloc t true (.tuple #[])))):=by unfold execOp; rw [ho]
 rw [e,Sem.run_bind,h]
 rfl
end Go.Proofs.YthjbnpaghiojlaaGreat

namespace Go.Proofs.YthjbnpaghiojlaaGreat
open Go.RowKit
structure C where
 d:Int
 node:Int
 key:ByteArray
 g:Nat→Int
 da:Option Addr
 dc:Nat
 data:List Nat
 dead:Bool
 f:Nat→Int
 a:Option Addr
 cap:Nat
 l:List V
def ccs (x:C):List Value:=[.int .i64 x.d,.int .i64 x.node,.string x.key,.int .i64 (x.g 0),.int .i64 (x.g 1),.int .i64 (x.g 2),.int .i64 (x.g 3),.int .i64 (x.g 4),.int .i64 (x.g 5),.int .i64 (x.g 6),.int .i64 (x.g 7),.slice x.da x.data.length x.dc,.bool x.dead,.int .i64 (x.f 0),.int .i64 (x.f 1),.int .i64 (x.f 2),.int .i64 (x.f 3),.int .i64 (x.f 4),.int .i64 (x.f 5),.int .i64 (x.f 6),.int .i64 (x.f 7),.slice x.a x.l.length x.cap]
theorem ccs_len (x:C):(ccs x).length=22:=rfl
structure COk (x:C):Prop where
 no:-9223372036854775808≤x.node∧x.node≤9223372036854775807
 key:x.key.size≤9223372036854775807
 lt:∀ y ∈ x.data,y < 256
 len:x.data.length≤140737488351232
 g:Nrm x.g
 f:Nrm x.f
structure Cas (w:World) (a:Option Addr) (cap:Nat) (cs:List C):Prop where
 len:cs.length≤cap
 bound:cap≤9223372036854775807
 at_:∀ i x,cs[i]?=some x→∃ b off,a=some ⟨b,off,none⟩∧(∀ j u,(ccs x)[j]?=some u→w.cell? ⟨b,off + i * 22 + j,none⟩=some u)∧Row w x.a x.cap x.l∧Src w x.da x.dc x.data
 ok:∀ x ∈ cs,COk x
theorem Cas.off {w w':World} {a:Option Addr} {cap:Nat} {cs:List C} (h:Cas w a cap cs) (o:Off (fun _=>False) w w'):Cas w' a cap cs :=
 ⟨h.len,h.bound,fun i e hi=>by
  obtain ⟨b,off,ea,h1,h2,h3⟩:=h.at_ i e hi
  refine ⟨b,off,ea,fun j u hj=>?_,h2.off o,h3.off o (fun _ _ _ h=>h)⟩
  have k:=h1 j u hj
  rw [← k]
  exact World.cell?_of_block (a:=⟨b,off + i * 22 + j,none⟩) (o.block b (cell_lt k) (fun h=>h)),h.ok⟩
theorem Cas.nil (w:World) (a:Option Addr) (cap:Nat) (h:cap≤9223372036854775807):Cas w a cap []:=⟨by simp,h,fun i e hi=>by simp at hi,fun x hx=>by simp at hx⟩
theorem cel22 {b:Nat} {t:TypeId} {s0 s1 s2 s3 s4 s5 s6 s7 s8 s9 s10 s11 s12 s13 s14 s15 s16 s17 s18 s19 s20 s21:Value} {w:World} (h:Cel b t #[s0,s1,s2,s3,s4,s5,s6,s7,s8,s9,s10,s11,s12,s13,s14,s15,s16,s17,s18,s19,s20,s21] w):w.cell? ⟨b,0,none⟩=some s0∧w.cell? ⟨b,1,none⟩=some s1∧w.cell? ⟨b,2,none⟩=some s2∧w.cell? ⟨b,3,none⟩=some s3∧w.cell? ⟨b,4,none⟩=some s4∧w.cell? ⟨b,5,none⟩=some s5∧w.cell? ⟨b,6,none⟩=some s6∧w.cell? ⟨b,7,none⟩=some s7∧w.cell? ⟨b,8,none⟩=some s8∧w.cell? ⟨b,9,none⟩=some s9∧w.cell? ⟨b,10,none⟩=some s10∧w.cell? ⟨b,11,none⟩=some s11∧w.cell? ⟨b,12,none⟩=some s12∧w.cell? ⟨b,13,none⟩=some s13∧w.cell? ⟨b,14,none⟩=some s14∧w.cell? ⟨b,15,none⟩=some s15∧w.cell? ⟨b,16,none⟩=some s16∧w.cell? ⟨b,17,none⟩=some s17∧w.cell? ⟨b,18,none⟩=some s18∧w.cell? ⟨b,19,none⟩=some s19∧w.cell? ⟨b,20,none⟩=some s20∧w.cell? ⟨b,21,none⟩=some s21 :=
 ⟨h.cell 0,h.cell 1,h.cell 2,h.cell 3,h.cell 4,h.cell 5,h.cell 6,h.cell 7,h.cell 8,h.cell 9,h.cell 10,h.cell 11,h.cell 12,h.cell 13,h.cell 14,h.cell 15,h.cell 16,h.cell 17,h.cell 18,h.cell 19,h.cell 20,h.cell 21⟩
theorem idx_calls {m n:Nat} (h:n < m) (c g o:Nat) (W:World):(Instr.indexAt 22 (.slice (some ⟨g,o,none⟩) m c) (.int .i64 (n:Int))).run Tryz.prog W=.ok (.pointer (some ⟨g,o + n * 22,none⟩)) W:=by
 go_simp
theorem allocC (w:World):(Instr.alloc 49 true (.tuple #[])).run Tryz.prog w=.ok (.pointer (some ⟨w.heap.size,0,none⟩)) (w.alloc (.cells #[.int .i64 0,.int .i64 0,.string ⟨#[]⟩,.int .i64 0,.int .i64 0,.int .i64 0,.int .i64 0,.int .i64 0,.int .i64 0,.int .i64 0,.int .i64 0,.slice none 0 0,.bool false,.int .i64 0,.int .i64 0,.int .i64 0,.int .i64 0,.int .i64 0,.int .i64 0,.int .i64 0,.int .i64 0,.slice none 0 0] 49)):=by
 go_simp
theorem ccs_one (x:C):(ccs x).toArray.all (·.oneCell')=true:=by simp [ccs,Value.oneCell']
theorem storeC (w:World) (x:C):(Instr.storeAt 49 (.pointer (some ⟨w.heap.size,0,none⟩)) (.agg (ccs x).toArray)).run Tryz.prog (w.alloc (.cells #[.int .i64 0,.int .i64 0,.string ⟨#[]⟩,.int .i64 0,.int .i64 0,.int .i64 0,.int .i64 0,.int .i64 0,.int .i64 0,.int .i64 0,.int .i64 0,.slice none 0 0,.bool false,.int .i64 0,.int .i64 0,.int .i64 0,.int .i64 0,.int .i64 0,.int .i64 0,.int .i64 0,.int .i64 0,.slice none 0 0] 49))=.ok () (w.alloc (.cells (ccs x).toArray 49)) :=
 run_storeAt_new w 49 _ _ (by kernel_rfl) rfl (ccs_one x)
structure Lgt (cs:List C):Prop where
 few:cs.length≤60
 each:∀ c ∈ cs,c.l.length≤20∧c.key.size≤100∧c.data.length≤400
set_option maxRecDepth 100000 in
set_option maxHeartbeats 2000000 in
theorem light_any (a:Option Addr) (cap:Nat) (cs:List C) (w:World) (h:Cas w a cap cs):Calls Tryz.prog 9 #[.slice a cs.length cap] w fun e w'=>∃ b:Bool,e=.returned (.bool b)∧(b=true→Lgt cs)∧Off (fun _=>False) w w':=by
 have HE:Hid _:=h
 have hbb:cs.length≤9223372036854775807:=Nat.le_trans h.len h.bound
 clear h
 go_enter Tryz.func9,Tryz.ntmps9
 go_wp2_with fail
 go_loopw [7] (fun y wr=>∃ n:Nat,y=.int .i64 (n:Int)∧n≤cs.length∧(∀ i x,i < n→cs[i]?=some x→i < 60∧x.l.length≤20∧x.key.size≤100∧x.data.length≤400)∧Off (fun _=>False) w wr) (fun y _=>(cs.length - intOf y).toNat)
 case atStart=>exact ⟨0,rfl,by omega,fun i x hi=>by omega,Off.refl _ w⟩
 case round =>
  obtain ⟨n,rfl,hn,hg,O⟩:=hrel
  have HG:Hid _:=hg
  have HO:Hid _:=O
  have hE:=HE.out.off O
  clear hg O
  by_cases hlt:n < cs.length
  ·have e1:decide ((n:Int) < (cs.length:Int))=true:=decide_eq_true (by omega)
   have e2:decide (n < cs.length)=true:=decide_eq_true hlt
   obtain ⟨x,hx⟩:∃ x,cs[n]?=some x:=⟨_,List.getElem?_eq_getElem hlt⟩
   obtain ⟨bx,ox,rfl,kx,rx,sx⟩:=hE.at_ n x hx
   have hkb:x.key.size≤9223372036854775807:=(HE.out.ok x (List.mem_of_getElem? hx)).key
   have hdb:x.data.length≤140737488351232:=(HE.out.ok x (List.mem_of_getElem? hx)).len
   have hlb:x.l.length≤9223372036854775807:=Nat.le_trans rx.len rx.bound
   clear rx sx
   clear hE
   go_upto_region 3 with fail
   refine wp_region_list ?_
   refine wpList_exec (v:=.int .i64 (n:Int)) 9 rfl rfl (rfl) ?_
   simp only [Act.put,lsA,lsZ,lsS]
   refine wpList_exec 10 rfl rfl (exec_idx10 rfl (idx_calls hlt _ _ _ _)) ?_
   simp only [Act.put,lsA,lsZ,lsS]
   refine wpList_exec 11 rfl rfl (exec_load rfl (run_loadAt_mid wr bx (ox + n * 22) 49 (ccs x) _ kx Tryz.underlying49 rfl (by kernel_rfl))) ?_
   simp only [Act.put,lsA,lsZ,lsS]
   refine wpList_exec 4 rfl rfl (exec_alloc rfl (allocC wr)) ?_
   simp only [Act.put,lsA,lsZ,lsS]
   refine wpList_exec (v:=.int .i64 (n:Int)) 3 rfl rfl (rfl) ?_
   simp only [Act.put,lsA,lsZ,lsS]
   refine wpList_skip rfl rfl (exec_store rfl (storeC wr x)) ?_
   have Cq4:=Cel.new wr 49 (ccs x).toArray
   have OA:Off (fun _=>False) wr (wr.alloc (.cells (ccs x).toArray 49)):=(Off.refl _ wr).alloc _
   generalize hq:wr.heap.size=q4 at Cq4 ⊢
   generalize hv:wr.alloc (.cells (ccs x).toArray 49)=V4 at Cq4 OA ⊢
   clear hq hv kx
   have c21:V4.cell? ⟨q4,21,none⟩=some (.slice x.a x.l.length x.cap):=Cq4.cell 21
   have c2:V4.cell? ⟨q4,2,none⟩=some (.string x.key):=Cq4.cell 2
   have c11:V4.cell? ⟨q4,11,none⟩=some (.slice x.da x.data.length x.dc):=Cq4.cell 11
   have HOA:Hid _:=HO.out.trans OA (fun _ _ h=>h)
   clear OA Cq4
   by_cases h0:60≤n
   ·have d0:decide ((60:Int)≤(n:Int))=true:=decide_eq_true (by omega)
    have d0':decide (60≤n)=true:=decide_eq_true h0
    go_wp2_with fail
    go_ret
    exact ⟨false,rfl,(fun h=>by cases h),HOA.out⟩
   ·have d0:decide ((60:Int)≤(n:Int))=false:=decide_eq_false (by omega)
    have d0':decide (60≤n)=false:=decide_eq_false h0
    by_cases h1:x.l.length≤20
    ·have d1:decide ((20:Int) < (x.l.length:Int))=false:=decide_eq_false (by omega)
     have d1':decide (20 < x.l.length)=false:=decide_eq_false (by omega)
     by_cases h2:x.key.size≤100
     ·have d2:decide ((100:Int) < (x.key.size:Int))=false:=decide_eq_false (by omega)
      have d2':decide (100 < x.key.size)=false:=decide_eq_false (by omega)
      by_cases h3:x.data.length≤400
      ·have d3:decide ((400:Int) < (x.data.length:Int))=false:=decide_eq_false (by omega)
       have d3':decide (400 < x.data.length)=false:=decide_eq_false (by omega)
       have HX:Hid _:=hx
       clear hx
       go_wp2_with fail
       go_roundw
       case rel =>
        refine ⟨n + 1,by go_num,by omega,fun i y hi hy=>?_,HOA.out⟩
        rcases Nat.lt_or_ge i n with h | h
        ·exact HG.out i y h hy
        ·obtain rfl:i=n:=by omega
         rw [HX.out] at hy
         cases hy
         exact ⟨by omega,h1,h2,h3⟩
       case measure=>simp [intOf]; omega
      ·have d3:decide ((400:Int) < (x.data.length:Int))=true:=decide_eq_true (by omega)
       have d3':decide (400 < x.data.length)=true:=decide_eq_true (by omega)
       go_wp2_with fail
       go_ret
       exact ⟨false,rfl,(fun h=>by cases h),HOA.out⟩
     ·have d2:decide ((100:Int) < (x.key.size:Int))=true:=decide_eq_true (by omega)
      have d2':decide (100 < x.key.size)=true:=decide_eq_true (by omega)
      go_wp2_with fail
      go_ret
      exact ⟨false,rfl,(fun h=>by cases h),HOA.out⟩
    ·have d1:decide ((20:Int) < (x.l.length:Int))=true:=decide_eq_true (by omega)
     have d1':decide (20 < x.l.length)=true:=decide_eq_true (by omega)
     go_wp2_with fail
     go_ret
     exact ⟨false,rfl,(fun h=>by cases h),HOA.out⟩
  ·obtain rfl:n=cs.length:=by omega
   have e1:decide ((cs.length:Int) < (cs.length:Int))=false:=decide_eq_false (by omega)
   have e2:decide (cs.length < cs.length)=false:=decide_eq_false (by omega)
   clear hE
   go_wp2_with fail
   go_ret
   refine ⟨true,rfl,fun _=>⟨?_,fun c hc=>?_⟩,HO.out⟩
   ·rcases Nat.lt_or_ge 0 cs.length with h | h
    ·obtain ⟨x,hx⟩:∃ x,cs[cs.length - 1]?=some x:=⟨_,List.getElem?_eq_getElem (by omega)⟩
     have:=(HG.out (cs.length - 1) x (by omega) hx).1
     omega
    ·omega
   ·obtain ⟨i,hi⟩:=List.getElem?_of_mem hc
    obtain ⟨h,-⟩:=List.getElem?_eq_some_iff.1 hi
    exact (HG.out i c h hi).2
end Go.Proofs.YthjbnpaghiojlaaGreat

namespace Go.Proofs.YthjbnpaghiojlaaGreat
open Go.ChangeShapes Go.WideShapes Go.ChangeAt Go.RowKit
theorem cellsCa:Tryz.prog.cellsOf 49=22:=by kernel_rfl
theorem cells9:Tryz.prog.cellsOf 9=1:=by kernel_rfl
theorem fieldsCall:∃ f0 f1 f2 f3 f4 f5 f6:Field,Tryz.prog.underlying 49=some (.struct #[f0,f1,f2,f3,f4,f5,f6])∧(f0.offset=0∧f0.type=3)∧(f1.offset=1∧f1.type=3)∧(f2.offset=2∧f2.type=9)∧(f3.offset=3∧f3.type=43)∧(f4.offset=11∧f4.type=44)∧(f5.offset=12∧f5.type=4)∧(f6.offset=13∧f6.type=47) :=
 ⟨_,_,_,_,_,_,_,Tryz.underlying49,⟨rfl,rfl⟩,⟨rfl,rfl⟩,⟨rfl,rfl⟩,⟨rfl,rfl⟩,⟨rfl,rfl⟩,⟨rfl,rfl⟩,⟨rfl,rfl⟩⟩
theorem list7 {α:Type} (l:List α) (h:l.length=7):∃ y0 y1 y2 y3 y4 y5 y6,l=[y0,y1,y2,y3,y4,y5,y6]:=by
 match l,h with
 | [y0,y1,y2,y3,y4,y5,y6],_=>exact ⟨y0,y1,y2,y3,y4,y5,y6,rfl⟩
theorem list22 {α:Type} (l:List α) (h:l.length=22):∃ y0 y1 y2 y3 y4 y5 y6 y7 y8 y9 y10 y11 y12 y13 y14 y15 y16 y17 y18 y19 y20 y21,l=[y0,y1,y2,y3,y4,y5,y6,y7,y8,y9,y10,y11,y12,y13,y14,y15,y16,y17,y18,y19,y20,y21]:=by
 match l,h with
 | [y0,y1,y2,y3,y4,y5,y6,y7,y8,y9,y10,y11,y12,y13,y14,y15,y16,y17,y18,y19,y20,y21],_=>exact ⟨y0,y1,y2,y3,y4,y5,y6,y7,y8,y9,y10,y11,y12,y13,y14,y15,y16,y17,y18,y19,y20,y21,rfl⟩
section
variable {HH:Type} {enc:TypeId × Value→HH}
set_option maxRecDepth 100000 in
theorem sibs_cells {W:World} {fuel:Nat} {c0 c1 c2 c3 c4 c5 c6 c7 c8:Value} {d:DataW HH} {pl:List MemPlace}
  (hf:DataW.trod enc Tryz.prog W 0 (fun _=>true) true fuel 47 [c0,c1,c2,c3,c4,c5,c6,c7,c8]=some (d,pl)) (hz:∀ n ∈ d.weights Tryz.prog 47,n≤reachBytes) :
  ∃ (f:Nat→Int) (a:Option Addr) (cap:Nat) (l:List V),[c0,c1,c2,c3,c4,c5,c6,c7,c8]=(#[.int .i64 (f 0),.int .i64 (f 1),.int .i64 (f 2),.int .i64 (f 3),.int .i64 (f 4),.int .i64 (f 5),.int .i64 (f 6),.int .i64 (f 7),.slice a l.length cap]:Array Value).toList∧Row W a cap l∧Nrm f:=by
 obtain ⟨f0,f1,hu,⟨o0,t0⟩,⟨o1,t1⟩⟩:=fieldsSibs
 obtain ⟨xs,m,-,hxy,hvl,hxl,hfl⟩:=DataW.trod_struct hu hf
 obtain ⟨x0,x1,rfl⟩:=list2 xs (by simpa using hxl)
 have g0:=hfl 0 f0 rfl
 have g1:=hfl 1 f1 rfl
 rw [o0,t0,cellsV] at g0
 rw [o1,t1,cellsL] at g1
 simp at g0 g1
 obtain ⟨f,e,hr⟩:=vec_cells g0
 simp only [List.cons.injEq,and_true] at e
 obtain ⟨rfl,rfl,rfl,rfl,rfl,rfl,rfl,rfl⟩:=e
 obtain ⟨a,len,cap,rfl⟩:∃ a len cap,c8=.slice a len cap:=by
  rcases Go.Deep.open_slice Tryz.underlying45 g1 with ⟨hcs,-⟩ | ⟨x,l,c,m,n,D,Pl,hcs,-⟩
  ·simp at hcs; exact ⟨_,_,_,hcs⟩
  ·simp at hcs; exact ⟨_,_,_,hcs⟩
 simp only [Prod.mk.injEq] at hxy
 obtain ⟨rfl,-⟩:=hxy
 obtain ⟨l,rfl,hrow⟩:=row_of g1 (fun n hn=>hz n (by
  simp only [DataW.weights,hu]
  exact DataW.weights_mem_each (j:=1) (t:=45) (d:=x1.1) (by simp [t1]) rfl _ hn))
 exact ⟨nrm f,a,cap,l,rfl,hrow,nrm_ok f⟩
set_option maxRecDepth 100000 in
theorem bytes_cells {w:World} {fuel:Nat} {v:Value} {d:DataW HH} {pl:List MemPlace} (hf:DataW.trod enc Tryz.prog w 0 (fun _=>true) true fuel 44 [v]=some (d,pl)) (hz:∀ n ∈ d.weights Tryz.prog 44,n≤reachBytes) :
  ∃ (t:Option Addr) (c:Nat) (bs:List Nat),v=.slice t bs.length c∧(∀ b ∈ bs,b < 256)∧Src w t c bs∧bs.length≤140737488351232:=by
 obtain ⟨tt,len,tc,zs,rfl,hr,hbound⟩:∃ tt len tc zs,v=.slice tt len tc∧IsRow .u8 w tt len tc zs∧len≤140737488351232:=by
  rcases open_ints Tryz.underlying44 Tryz.underlying5 (by kernel_rfl) hf with ⟨hcs,-⟩ | ⟨x,l,c,zs,hcs,_,hl,hm,hzz,hx,hcell,hwz⟩
  ·simp at hcs
   exact ⟨none,0,0,[],hcs,.inl ⟨rfl,rfl,rfl,rfl⟩,by omega⟩
  ·simp at hcs
   simp only [if_true] at hzz
   refine ⟨_,_,_,zs,hcs,.inr ⟨_,rfl,hl,hm,hzz,hcell,hwz⟩,?_⟩
   have hmem:(zs.length * Tryz.prog.bytesOf 5) ∈ DataW.weights Tryz.prog 44 d:=by
    simp only [Prod.mk.injEq] at hx
    rw [hx.1]
    simp only [DataW.weights,Tryz.underlying44,List.mem_cons]
    left
    simp only [lits,List.length_map,List.length_take,List.length_drop]
    congr 1
    omega
   have:=hz _ hmem
   rw [bytesB] at this
   simp only [reachBytes] at this
   omega
 obtain ⟨bs,rfl,hbs,hsrc⟩:=isRow_src hr
 exact ⟨tt,tc,bs,rfl,hbs,hsrc,hbound⟩
set_option maxRecDepth 100000 in
theorem call_cells {W:World} {fuel:Nat} {vs:List Value} {d:DataW HH} {pl:List MemPlace}
  (hf:DataW.trod enc Tryz.prog W 0 (fun _=>true) true fuel 49 vs=some (d,pl)) (hz:∀ n ∈ d.weights Tryz.prog 49,n≤reachBytes) :
  ∃ c:C,vs=ccs c∧Row W c.a c.cap c.l∧Src W c.da c.dc c.data∧COk c:=by
 obtain ⟨f0,f1,f2,f3,f4,f5,f6,hu,⟨o0,t0⟩,⟨o1,t1⟩,⟨o2,t2⟩,⟨o3,t3⟩,⟨o4,t4⟩,⟨o5,t5⟩,⟨o6,t6⟩⟩:=fieldsCall
 obtain ⟨xs,m,-,hxy,hvl,hxl,hfl⟩:=DataW.trod_struct hu hf
 rw [cellsCa] at hvl
 obtain ⟨y0,y1,y2,y3,y4,y5,y6,y7,y8,y9,y10,y11,y12,y13,y14,y15,y16,y17,y18,y19,y20,y21,rfl⟩:=list22 vs hvl
 obtain ⟨x0,x1,x2,x3,x4,x5,x6,rfl⟩:=list7 xs (by simpa using hxl)
 have g0:=hfl 0 f0 rfl
 have g1:=hfl 1 f1 rfl
 have g2:=hfl 2 f2 rfl
 have g3:=hfl 3 f3 rfl
 have g4:=hfl 4 f4 rfl
 have g5:=hfl 5 f5 rfl
 have g6:=hfl 6 f6 rfl
 rw [o0,t0,cells3] at g0
 rw [o1,t1,cells3] at g1
 rw [o2,t2,cells9] at g2
 rw [o3,t3,cellsV] at g3
 rw [o4,t4,cellsB] at g4
 rw [o5,t5,cells4] at g5
 rw [o6,t6,cellsS] at g6
 simp at g0 g1 g2 g3 g4 g5 g6
 obtain ⟨n,hn⟩:∃ n:Int,y0=.int .i64 n:=by
  obtain ⟨n,hn,-⟩:=DataW.trod_int Tryz.underlying3 g0
  simp at hn
  exact ⟨n,hn⟩
 subst hn
 obtain ⟨nd,hnd,q1⟩:∃ n:Int,y1=.int .i64 n∧(-9223372036854775808≤n∧n≤9223372036854775807):=by
  obtain ⟨n,hn,-,q⟩:=DataW.trod_int Tryz.underlying3 g1
  simp at hn
  exact ⟨n,hn,wfI q⟩
 subst hnd
 obtain ⟨s,hs,-,hsz⟩:=DataW.trod_string Tryz.underlying9 g2
 simp at hs
 subst hs
 obtain ⟨g,e3,-⟩:=vec_cells g3
 simp only [List.cons.injEq,and_true] at e3
 obtain ⟨rfl,rfl,rfl,rfl,rfl,rfl,rfl,rfl⟩:=e3
 obtain ⟨y5,e5,-⟩:=DataW.trod_bool Tryz.underlying4 g5
 simp at e5
 subst e5
 simp only [Prod.mk.injEq] at hxy
 obtain ⟨rfl,-⟩:=hxy
 obtain ⟨da,dc,data,rfl,hlt,hsrc,hdl⟩:=bytes_cells g4 (fun n hn=>hz n (by
  simp only [DataW.weights,hu]
  exact DataW.weights_mem_each (j:=4) (t:=44) (d:=x4.1) (by simp [t4]) rfl _ hn))
 obtain ⟨f,a,cap,l,e6,hrow,hnr⟩:=sibs_cells g6 (fun n hn=>hz n (by
  simp only [DataW.weights,hu]
  exact DataW.weights_mem_each (j:=6) (t:=47) (d:=x6.1) (by simp [t6]) rfl _ hn))
 simp only [List.cons.injEq,and_true] at e6
 obtain ⟨rfl,rfl,rfl,rfl,rfl,rfl,rfl,rfl,rfl⟩:=e6
 exact ⟨⟨n,nd,s,nrm g,da,dc,data,y5,f,a,cap,l⟩,rfl,hrow,hsrc,⟨q1,hsz,hlt,hdl,nrm_ok g,hnr⟩⟩
theorem argC {w:World} {fuel:Nat} {a:Option Addr} {len cap:Nat} {d:DataW HH} {pl:List MemPlace} (h:DataW.trod enc Tryz.prog w 0 (fun _=>true) true fuel 22 [.slice a len cap]=some (d,pl)) (hz:∀ n ∈ d.weights Tryz.prog 22,n≤reachBytes) :
  ∃ es:List C,es.length=len∧Cas w a cap es:=by
 rcases Go.Deep.open_slice Tryz.underlying22 h with ⟨hcs,-⟩ | ⟨x,l,c,m,n,D,Pl,hcs,-,hl,hm,hmm,hx,hel⟩
 ·simp at hcs
  obtain ⟨rfl,rfl,rfl⟩:=hcs
  exact ⟨[],rfl,Cas.nil w none 0 (by omega)⟩
 ·simp at hcs
  obtain ⟨rfl,rfl,rfl⟩:=hcs
  simp only [if_true] at hmm
  unfold maxLen at hm
  simp only [Prod.mk.injEq] at hx
  obtain ⟨rfl,-⟩:=hx
  have each:∀ i,i < len→∃ e:C,∃ b off,x.add (i * 22)=⟨b,off,none⟩∧(∀ j u,(ccs e)[j]?=some u→w.cell? ⟨b,off + j,none⟩=some u)∧COk e∧Row w e.a e.cap e.l∧Src w e.da e.dc e.data:=by
   intro i hi
   obtain ⟨vs,hv,ht⟩:=hel i (by omega)
   rw [cellsCa] at hv
   obtain ⟨-,hvl,hcell⟩:=World.cells?_some hv
   obtain ⟨e,rfl,hr1,hr2,hn1⟩:=call_cells ht (fun n hn=>hz n (by
     simp only [DataW.weights,Tryz.underlying22,List.mem_cons,List.mem_append]
     exact .inr (.inl (weights_all (List.mem_map.2 ⟨i,List.mem_range.2 hi,rfl⟩) n hn))))
   have hc:∀ k v,(ccs e)[k]?=some v→w.cell? ((x.add (i * 22)).add k)=some v:=fun k v hk=>by
    have:k < 22:=by
     obtain ⟨h,-⟩:=List.getElem?_eq_some_iff.1 hk
     rwa [ccs_len] at h
    rw [hcell k this]
    exact hk
   generalize x.add (i * 22)=y at hc ⊢
   obtain ⟨b,off,spot⟩:=y
   have k0:=hc 0 _ rfl
   have hspot:spot=none:=by simpa [Addr.add] using World.cell?_spot k0
   subst hspot
   exact ⟨e,b,off,rfl,fun j u hj=>by have:=hc j u hj; rwa [add_lit] at this,hn1,hr1,hr2⟩
  haveI:Inhabited C:=⟨⟨0,0,⟨#[]⟩,zer,none,0,[],false,zer,none,0,[]⟩⟩
  obtain ⟨vs,hv⟩:=Go.Deep.choose_lt each
  refine ⟨(List.range len).map vs,by simp,⟨by simp; omega,by omega,fun i u hi=>?_,fun e he=>?_⟩⟩
  ·have hlt:i < len:=by
    obtain ⟨h,-⟩:=List.getElem?_eq_some_iff.1 hi
    simpa using h
   simp [hlt] at hi
   subst hi
   obtain ⟨b0,off0,e0,-⟩:=hv 0 (by omega)
   obtain ⟨b,off,e,hk,-,hok⟩:=hv i hlt
   simp only [Nat.zero_mul] at e0
   obtain ⟨bx,ox,sx⟩:=x
   have e0':(⟨bx,ox,sx⟩:Addr)=⟨b0,off0,none⟩:=by simpa [Addr.add] using e0
   simp only [Addr.mk.injEq] at e0'
   obtain ⟨rfl,rfl,rfl⟩:=e0'
   rw [add_lit] at e
   simp only [Addr.mk.injEq,and_true] at e
   obtain ⟨rfl,rfl⟩:=e
   exact ⟨bx,ox,rfl,hk,hok⟩
  ·simp only [List.mem_map,List.mem_range] at he
   obtain ⟨i,hi,rfl⟩:=he
   obtain ⟨_,_,_,_,h,_⟩:=hv i hi
   exact h
end
end Go.Proofs.YthjbnpaghiojlaaGreat
