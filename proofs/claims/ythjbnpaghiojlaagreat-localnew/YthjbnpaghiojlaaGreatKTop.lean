/- Items of several texts. -/
import Derived.Deep.Cut
import Derived.Deep.RegionHeld
import Derived.Test.YthjbnpaghiojlaaGreatKTbJ
namespace Go.Proofs.YthjbnpaghiojlaaGreat
open Go.RowKit
theorem tlen_any (p b:Nat) (t:List E) (w:World) (h:Tab p b t w):Calls Tryz.prog 127 #[.pointer (some ⟨p,0,none⟩)] w fun e w'=>e=.returned (.int .i64 (t.length:Int))∧w'=w:=by
 have hq:=eql_ptr
 have hl:=h.len_
 have c0:w.cell? ⟨p,0,none⟩=some (.map (some b)):=h.cel.cell 0
 clear h
 go_enter Tryz.func127,Tryz.ntmps127
 go_wp2_with fail
 go_ret
 exact ⟨rfl,rfl⟩
set_option maxRecDepth 100000 in
set_option maxHeartbeats 1000000 in
theorem tget_any (p b:Nat) (t:List E) (k:ByteArray) (hk:k.size≤maxLen) (w:World) (h:Tab p b t w) (h16:(getE t k).l.length≤1000):Calls Tryz.prog 63 #[.pointer (some ⟨p,0,none⟩),.string k] w fun e w'=>∃ (a':Option Addr) (c':Nat) (l':List V),e=.returned (.tuple #[.agg #[.int .i64 ((getE t k).f 0),.int .i64 ((getE t k).f 1),.int .i64 ((getE t k).f 2),.int .i64 ((getE t k).f 3),.int .i64 ((getE t k).f 4),.int .i64 ((getE t k).f 5),.int .i64 ((getE t k).f 6),.int .i64 ((getE t k).f 7),.slice a' l'.length c'],.bool (fndG E.key k t).isSome])∧cont l'=cont (getE t k).l∧Row w' a' c' l'∧Far w.heap.size a' l'∧Off (fun _=>False) w w':=by
 have hq:=eql_ptr
 have hru:=getE_row h k
 obtain ⟨W,hW⟩:∃ W,W=w.alloc (.cells #[.int .i64 (zer 0),.int .i64 (zer 1),.int .i64 (zer 2),.int .i64 (zer 3),.int .i64 (zer 4),.int .i64 (zer 5),.int .i64 (zer 6),.int .i64 (zer 7),.slice none 0 0] 47):=⟨_,rfl⟩
 have O:Off (fun _=>False) w W:=by rw [hW]; exact (Off.refl _ w).alloc _
 have C:Cel w.heap.size 47 #[.int .i64 (zer 0),.int .i64 (zer 1),.int .i64 (zer 2),.int .i64 (zer 3),.int .i64 (zer 4),.int .i64 (zer 5),.int .i64 (zer 6),.int .i64 (zer 7),.slice none 0 0] W:=by rw [hW]; exact Cel.new w _ _
 have T0:=h.free O
 have hlk:=T0.look hk
 have c0:W.cell? ⟨p,0,none⟩=some (.map (some b)):=T0.cel.cell 0
 have hrW:=hru.off O
 unfold E.val at hlk
 generalize (fndG E.key k t).isSome=th at hlk ⊢
 generalize getE t k=u at hlk hrW h16 ⊢
 have HO:Hid _:=O
 have HC:Hid _:=C
 have HR:Hid _:=hrW
 have HW:Hid _:=hW
 clear h hru T0 O C hrW hW
 go_enter Tryz.func63,Tryz.ntmps63
 go_upto_region 1 with fail
 rw [show (w.alloc (.cells #[.int .i64 0,.int .i64 0,.int .i64 0,.int .i64 0,.int .i64 0,.int .i64 0,.int .i64 0,.int .i64 0,.slice none 0 0] 47))=W from HW.out.symm]
 go_upto_region 4 with fail
 have Cq6:=Cel.new W 47 #[.int .i64 (u.f 0),.int .i64 (u.f 1),.int .i64 (u.f 2),.int .i64 (u.f 3),.int .i64 (u.f 4),.int .i64 (u.f 5),.int .i64 (u.f 6),.int .i64 (u.f 7),.slice u.a u.l.length u.cap]
 have OA:Off (fun _=>False) W (W.alloc (.cells #[.int .i64 (u.f 0),.int .i64 (u.f 1),.int .i64 (u.f 2),.int .i64 (u.f 3),.int .i64 (u.f 4),.int .i64 (u.f 5),.int .i64 (u.f 6),.int .i64 (u.f 7),.slice u.a u.l.length u.cap] 47)):=(Off.refl _ W).alloc _
 generalize hq:W.heap.size=q6 at Cq6 ⊢
 generalize hv:W.alloc (.cells #[.int .i64 (u.f 0),.int .i64 (u.f 1),.int .i64 (u.f 2),.int .i64 (u.f 3),.int .i64 (u.f 4),.int .i64 (u.f 5),.int .i64 (u.f 6),.int .i64 (u.f 7),.slice u.a u.l.length u.cap] 47)=V6 at Cq6 OA ⊢
 have hq6:Hid (W.heap.size≤q6):=by show _≤_; omega
 clear hq hv hlk c0
 obtain ⟨x0,x1,x2,x3,x4,x5,x6,x7,x8⟩:=cel9 Cq6
 have HC6:Hid _:=HC.out.off OA (fun h=>h)
 have HR6:Hid _:=HR.out.off OA
 have HO6:Hid _:=HO.out.trans OA (fun _ _ h=>h)
 clear OA Cq6
 go_wp2_with fail
 refine (tcopy_any u.f u.a u.cap u.l _ HR6.out h16).mono ?_
 rintro e w1 ⟨a',c',l',rfl,hc,hr,hf,o1⟩
 have D:=HC6.out.off o1 (fun h=>h)
 obtain ⟨z0,z1,z2,z3,z4,z5,z6,z7,z8⟩:=cel9 D
 have fr:=D.free
 have HD:Hid _:=D
 have HCC:Hid _:=hc
 have HRR:Hid _:=hr
 have HF:Hid _:=hf
 have HO1:Hid _:=HO6.out.trans o1 (fun _ _ h=>h)
 have hN:Hid (w.heap.size + 1≤V6.heap.size):=by have h1:=HC6.out.lt; show _≤_; omega
 clear D hc hr hf o1 x0 x1 x2 x3 x4 x5 x6 x7 x8
 go_wp2_with fail
 refine bodyPost_ret (results_sibs2 rfl rfl rfl (HD.out.st9 u.f (.slice a' l'.length c'))) rfl ?_
 refine ⟨a',c',l',rfl,HCC.out,?_,HF.out.mono (by have:=hN.out; omega),HO1.out.st9 (.inr (Nat.le_refl _)) u.f (.slice a' l'.length c')⟩
 exact HRR.out.offF HF.out ((Off.refl (fun x=>x=w.heap.size) w1).st9 (.inl rfl) u.f (.slice a' l'.length c')) (fun x hx e=>by have:=hN.out; omega)
set_option maxRecDepth 100000 in
set_option maxHeartbeats 1000000 in
theorem treap_any (p b:Nat) (t:List E) (k:ByteArray) (hk:k.size≤maxLen) (w:World) (h:Tab p b t w):Calls Tryz.prog 98 #[.pointer (some ⟨p,0,none⟩),.string k] w fun e w'=>e=.returned (.bool (reapB (absE t) k))∧∃ t',Tab p b t' w'∧absE t'=reapT (absE t) k∧(∀ e ∈ t',e ∈ t∨Far w.heap.size e.a e.l)∧Off (fun c=>c=b) w w':=by
 have hq:=eql_ptr
 have hru:=getE_row h k
 have hlk:=h.look1 hk
 have c0:w.cell? ⟨p,0,none⟩=some (.map (some b)):=h.cel.cell 0
 have hfnd:fndG K.key k (absE t)=(fndG E.key k t).map E.abs:=(abs_fnd k t).symm
 obtain ⟨u,hu⟩:∃ u,u=getE t k:=⟨_,rfl⟩
 rw [← hu] at hru hlk
 unfold E.val at hlk
 have HU:Hid _:=hu
 have HF:Hid _:=hfnd
 have HR:Hid _:=hru
 have HT:Hid _:=h
 have hpb:=h.ltb
 have HPB:Hid _:=hpb
 clear hu hru h hfnd hpb
 go_enter Tryz.func98,Tryz.ntmps98
 go_upto_region 4 with fail
 have Cq5:=Cel.new w 47 #[.int .i64 (u.f 0),.int .i64 (u.f 1),.int .i64 (u.f 2),.int .i64 (u.f 3),.int .i64 (u.f 4),.int .i64 (u.f 5),.int .i64 (u.f 6),.int .i64 (u.f 7),.slice u.a u.l.length u.cap]
 have OA:Off (fun _=>False) w (w.alloc (.cells #[.int .i64 (u.f 0),.int .i64 (u.f 1),.int .i64 (u.f 2),.int .i64 (u.f 3),.int .i64 (u.f 4),.int .i64 (u.f 5),.int .i64 (u.f 6),.int .i64 (u.f 7),.slice u.a u.l.length u.cap] 47)):=(Off.refl _ w).alloc _
 generalize hq:w.heap.size=q5 at Cq5 ⊢
 generalize hv:w.alloc (.cells #[.int .i64 (u.f 0),.int .i64 (u.f 1),.int .i64 (u.f 2),.int .i64 (u.f 3),.int .i64 (u.f 4),.int .i64 (u.f 5),.int .i64 (u.f 6),.int .i64 (u.f 7),.slice u.a u.l.length u.cap] 47)=V5 at Cq5 OA ⊢
 have hqb:Hid (w.heap.size≤q5):=by show _≤_; omega
 clear hq hv hlk c0
 obtain ⟨x0,x1,x2,x3,x4,x5,x6,x7,x8⟩:=cel9 Cq5
 have HC5:Hid _:=Cq5
 have HO5:Hid _:=OA
 have HR5:Hid _:=HR.out.off OA
 clear OA Cq5
 go_wp2_with fail
 refine (sreap_any u.f u.a u.cap u.l _ HR5.out).mono ?_
 rintro e w1 ⟨g,ag,cg,lg,rfl,hg,hlg,mg,o1⟩
 have HG:Hid _:=hg
 have HLG:Hid _:=hlg
 clear hg hlg
 go_upto_region 5 with fail
 have Cq6:=Cel.new w1 47 #[.int .i64 (g 0),.int .i64 (g 1),.int .i64 (g 2),.int .i64 (g 3),.int .i64 (g 4),.int .i64 (g 5),.int .i64 (g 6),.int .i64 (g 7),.slice ag lg.length cg]
 have OA:Off (fun _=>False) w1 (w1.alloc (.cells #[.int .i64 (g 0),.int .i64 (g 1),.int .i64 (g 2),.int .i64 (g 3),.int .i64 (g 4),.int .i64 (g 5),.int .i64 (g 6),.int .i64 (g 7),.slice ag lg.length cg] 47)):=(Off.refl _ w1).alloc _
 generalize hq:w1.heap.size=q6 at Cq6 ⊢
 generalize hv:w1.alloc (.cells #[.int .i64 (g 0),.int .i64 (g 1),.int .i64 (g 2),.int .i64 (g 3),.int .i64 (g 4),.int .i64 (g 5),.int .i64 (g 6),.int .i64 (g 7),.slice ag lg.length cg] 47)=V6 at Cq6 OA ⊢
 have O6:=HO5.out.trans (o1.trans OA (fun _ _ h=>h)) (fun _ _ h=>h)
 clear hq hv x0 x1 x2 x3 x4 x5 x6 x7 x8
 obtain ⟨x0,x1,x2,x3,x4,x5,x6,x7,x8⟩:=cel9 Cq6
 obtain ⟨y0,y1,y2,y3,y4,y5,y6,y7,y8⟩:=cel9 (HC5.out.off (o1.trans OA (fun _ _ h=>h)) (fun h=>h))
 have HRG:Hid _:=mg.row.off OA
 have HFG:Hid _:=mg.far.mono HO5.out.size
 have HRU:Hid _:=HR5.out.off (o1.trans OA (fun _ _ h=>h))
 have HC6:Hid _:=Cq6
 have HO6:Hid _:=O6
 clear mg OA o1 Cq6 O6
 go_wp2_with fail
 refine (ssame_any u.f g u.a ag u.cap cg u.l lg _ HRU.out HRG.out).mono ?_
 rw [HG.out,HLG.out]
 cases hs:sameS u.f (reapV u.f (cont u.l)) (cont u.l) (reapL u.f (cont u.l))
 ·rintro e w2 ⟨rfl,o2⟩
  obtain ⟨x,hx⟩:∃ x,fndG E.key k t=some x:=by
   cases e:fndG E.key k t with
   | some x=>exact ⟨x,rfl⟩
   | none =>
    have e2:u=zE k:=by rw [HU.out]; unfold getE; rw [e]; rfl
    rw [e2] at hs
    have hs0:sameS zer (reapV zer []) [] (reapL zer [])=false:=hs
    rw [reap_zero] at hs0
    cases hs0
  have hux:u=x:=by rw [HU.out]; unfold getE; rw [hx]; rfl
  obtain ⟨hxm,hxk⟩:=fnd_mem E.key hx
  have hlen:(putG E.key ⟨k,g,ag,cg,lg⟩ t).length≤256:=by
   rw [len_putG E.key HT.out.sor]
   have e3:(fndG E.key k t).isSome=true:=by rw [hx]; rfl
   rw [if_pos e3]
   exact HT.out.few
  have hk32:k.size≤32:=hxk ▸ HT.out.len x hxm
  obtain ⟨z0,z1,z2,z3,z4,z5,z6,z7,z8⟩:=cel9 (HC6.out.off o2 (fun h=>h))
  have HX:Hid _:=hx
  have HUX:Hid _:=hux
  have HS:Hid _:=hs
  have HL:Hid _:=hlen
  have HK:Hid _:=hk32
  have HT2:Hid _:=HT.out.free (HO6.out.trans o2 (fun _ _ h=>h))
  have HR2:Hid _:=HRG.out.off o2
  have HO2:Hid _:=HO6.out.trans o2 (fun _ _ h=>h)
  clear hx hux hs hlen hk32 hxm hxk o2 x0 x1 x2 x3 x4 x5 x6 x7 x8 y0 y1 y2 y3 y4 y5 y6 y7 y8
  go_wp2_with fail
  refine (keep_any p b t ⟨k,g,ag,cg,lg⟩ _ HT2.out HR2.out HK.out HL.out).mono ?_
  rintro e w3 ⟨rfl,tb,o3⟩
  go_wp2_with fail
  go_ret
  have ef:fndG K.key k (absE t)=some u.abs:=by rw [HF.out,HX.out,HUX.out]; rfl
  refine ⟨?_,_,tb,?_,fun e he=>((mem_putG E.key).1 he).elim (fun h=>.inr (h ▸ HFG.out)) (fun h=>.inl h.1),(HO2.out.mono (fun _ _ h=>h.elim)).trans o3 (fun _ _ h=>h)⟩
  ·unfold reapB
   rw [ef]
   show _=Ending.returned (Value.bool (!sameS u.f (reapV u.f (cont u.l)) (cont u.l) (reapL u.f (cont u.l))))
   rw [HS.out]
   rfl
  ·rw [abs_put]
   unfold reapT
   rw [ef]
   show _=if sameS u.f (reapV u.f (cont u.l)) (cont u.l) (reapL u.f (cont u.l))=true then _ else _
   rw [HS.out,if_neg (by simp)]
   show putG K.key ⟨k,g,cont lg⟩ _=_
   rw [HG.out,HLG.out]
   rfl
 ·rintro e w2 ⟨rfl,o2⟩
  go_wp2_with fail
  go_ret
  refine ⟨?_,t,HT.out.free (HO6.out.trans o2 (fun _ _ h=>h)),?_,fun e he=>.inl he,(HO6.out.trans o2 (fun _ _ h=>h)).mono (fun _ _ h=>h.elim)⟩
  ·unfold reapB
   rw [HF.out]
   cases e:fndG E.key k t with
   | none=>rfl
   | some x =>
    have hux:u=x:=by rw [HU.out]; unfold getE; rw [e]; rfl
    rw [hux] at hs
    show _=Ending.returned (Value.bool (!sameS x.f (reapV x.f (cont x.l)) (cont x.l) (reapL x.f (cont x.l))))
    rw [hs]
    rfl
  ·unfold reapT
   rw [HF.out]
   cases e:fndG E.key k t with
   | none=>rfl
   | some x =>
    have hux:u=x:=by rw [HU.out]; unfold getE; rw [e]; rfl
    rw [hux] at hs
    show _=if sameS x.f (reapV x.f (cont x.l)) (cont x.l) (reapL x.f (cont x.l))=true then _ else _
    rw [hs,if_pos rfl]
end Go.Proofs.YthjbnpaghiojlaaGreat
