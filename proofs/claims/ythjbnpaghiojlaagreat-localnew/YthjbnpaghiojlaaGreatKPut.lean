/- Items of several texts. -/
import Derived.Deep.Cut
import Derived.Test.YthjbnpaghiojlaaGreatKJoi
namespace Go.Proofs.YthjbnpaghiojlaaGreat
open Go.RowKit
theorem next_ext {f g:Nat→Int} (h:∀ j,j < 8→f j=g j) (n:Int):nextV f n=nextV g n:=by
 unfold nextV
 by_cases hn:nodeB n=false
 ·simp [hn]
 ·have:n.toNat < 8:=by
   simp [nodeB] at hn
   omega
  rw [h _ this]
theorem with_ext {f g:Nat→Int} (h:∀ j,j < 8→f j=g j) (n N:Int):∀ j,j < 8→withV f n N j=withV g n N j:=by
 intro j hj
 unfold withV
 by_cases hn:nodeB n=true
 ·have:n.toNat < 8:=by
   simp [nodeB] at hn
   omega
  simp only [hn,if_true,upd]
  rw [h _ this,h j hj]
 ·simp [hn,h j hj]
theorem nc_ext {f g:Nat→Int} (h:∀ j,j < 8→f j=g j):nc f=nc g:=by
 funext x
 unfold nc coversB
 by_cases hn:0≤x.node∧x.node < 8
 ·rw [h _ (by omega)]
 ·have e:∀ P:Prop,¬ (0≤x.node∧x.node < 8∧P):=fun P hp=>hn ⟨hp.1,hp.2.1⟩
  simp [e]
theorem results_err9 {fn:Func} {p u:Tmp} (h:fn.results=#[.cell p 47,.tmp u]) {tmps:Array Value} {w:World} {b:Nat} (hp:tmps.getD p undef=.pointer (some ⟨b,0,none⟩)) {v:Value} (hu:tmps.getD u undef=v) (hc:Cel b 47 #[.int .i64 0,.int .i64 0,.int .i64 0,.int .i64 0,.int .i64 0,.int .i64 0,.int .i64 0,.int .i64 0,.slice none 0 0] w) :
  (results fn tmps).run Tryz.prog w=.ok (.tuple #[.agg #[.int .i64 0,.int .i64 0,.int .i64 0,.int .i64 0,.int .i64 0,.int .i64 0,.int .i64 0,.int .i64 0,.slice none 0 0],v]) w:=by
 rw [results_cell_tmp h]
 have ha:(asAddr (.pointer (some ⟨b,0,none⟩))).run Tryz.prog w=.ok ⟨b,0,none⟩ w:=rfl
 rw [hp,hu,ha]
 obtain ⟨d,hd⟩:∃ d,Tryz.prog.underlying 47=some (.struct d):=⟨_,Tryz.underlying47⟩
 have hv:=run_loadVar_row (P:=Tryz.prog) w b 47 47 _ (0,0) (.struct d) hc.is hd rfl (by kernel_rfl)
 simp only [Result.andThen,hv]
theorem results_sibs2 {fn:Func} {p u:Tmp} (h:fn.results=#[.cell p 47,.tmp u]) {tmps:Array Value} {w:World} {b:Nat} {f:Nat→Int} {s:Value} (hp:tmps.getD p undef=.pointer (some ⟨b,0,none⟩)) {v:Value} (hu:tmps.getD u undef=v) (hc:Cel b 47 #[.int .i64 (f 0),.int .i64 (f 1),.int .i64 (f 2),.int .i64 (f 3),.int .i64 (f 4),.int .i64 (f 5),.int .i64 (f 6),.int .i64 (f 7),s] w) :
  (results fn tmps).run Tryz.prog w=.ok (.tuple #[.agg #[.int .i64 (f 0),.int .i64 (f 1),.int .i64 (f 2),.int .i64 (f 3),.int .i64 (f 4),.int .i64 (f 5),.int .i64 (f 6),.int .i64 (f 7),s],v]) w:=by
 rw [results_cell_tmp h]
 have ha:(asAddr (.pointer (some ⟨b,0,none⟩))).run Tryz.prog w=.ok ⟨b,0,none⟩ w:=rfl
 rw [hp,hu,ha]
 obtain ⟨d,hd⟩:∃ d,Tryz.prog.underlying 47=some (.struct d):=⟨_,Tryz.underlying47⟩
 have hv:=run_loadVar_row (P:=Tryz.prog) w b 47 47 _ (0,0) (.struct d) hc.is hd rfl (by kernel_rfl)
 simp only [Result.andThen,hv]
def putN (f g:Nat→Int) (node:Int) (data:List Nat) (dead:Bool):A:=⟨(nextV (maxV f g) node).1,(nextV (maxV f g) node).2.1,data,dead⟩
def putR (f g:Nat→Int) (l:List A) (node:Int) (data:List Nat) (dead:Bool):List A:=mergeA (nc g) (nc (maxV f g)) l [putN f g node data dead]
def putE (f g:Nat→Int) (l:List A) (node:Int) (data:List Nat) (dead:Bool):Int :=
 if mayS f l=false then 1 else if mayB g=false then 1 else if okData data.length dead=false then 1 else
 if (nextV (maxV f g) node).2.2 ≠ 0 then (nextV (maxV f g) node).2.2 else if 16 < (putR f g l node data dead).length then 11 else 0
def putV (f g:Nat→Int) (l:List A) (node:Int) (data:List Nat) (dead:Bool):Nat→Int :=
 if putE f g l node data dead=0 then withV (maxV f g) (nextV (maxV f g) node).1 (nextV (maxV f g) node).2.1 else zer
def putL (f g:Nat→Int) (l:List A) (node:Int) (data:List Nat) (dead:Bool):List A :=
 if putE f g l node data dead=0 then putR f g l node data dead else []
theorem put_no {f g:Nat→Int} {l:List A} {node:Int} {data:List Nat} {dead:Bool} {e:Int} (h:putE f g l node data dead=e) (he:e ≠ 0):e=putE f g l node data dead∧zer=putV f g l node data dead∧cont []=putL f g l node data dead:=by
 subst h
 simp [putV,putL,he,cont]
theorem next_err (f:Nat→Int) (n:Int):(nextV f n).2.2=0∨(nextV f n).2.2=1∨(nextV f n).2.2=11:=by
 unfold nextV
 split
 ·simp
 ·split <;> simp
theorem next_range {f:Nat→Int} {n nn NN ne:Int} (hf:∀ j,j < 8→0≤f j) (hn:-9223372036854775808≤n∧n≤9223372036854775807) (h:nextV f n=(nn,NN,ne)):-9223372036854775808≤nn∧nn≤9223372036854775807∧-9223372036854775808≤NN∧NN≤9223372036854775807:=by
 unfold nextV at h
 split at h
 ·simp only [Prod.mk.injEq] at h
  omega
 ·rename_i hb
  split at h
  ·simp only [Prod.mk.injEq] at h
   omega
  ·simp only [Prod.mk.injEq] at h
   have:n.toNat < 8:=by
    simp [nodeB] at hb
    omega
   have:=hf _ this
   omega
theorem cel2 {b:Nat} {t:TypeId} {x y:Value} {w:World} (h:Cel b t #[x,y] w):w.cell? ⟨b,0,none⟩=some x∧w.cell? ⟨b,1,none⟩=some y:=⟨h.cell 0,h.cell 1⟩
theorem row_one {b:Nat} {v:V} {w:World} (h:Cel b 87 #[.int .i64 v.node,.int .i64 v.num,.slice v.ad v.data.length v.cap,.bool v.dead] w) (hv:VOk w v):Row w (some ⟨b,0,none⟩) 1 [v]:=by
 refine ⟨by simp,by omega,fun i u hi=>?_⟩
 match i,hi with
 | 0,hi =>
  simp at hi
  subst hi
  obtain ⟨x0,x1,x2,x3⟩:=cel4 h
  exact ⟨b,0,rfl,⟨x0,x1,x2,x3⟩,hv⟩
set_option maxRecDepth 100000 in
set_option maxHeartbeats 2000000 in
theorem sput_any (f g:Nat→Int) (a:Option Addr) (ca:Nat) (l:List V) (node:Int) (hno:-9223372036854775808≤node∧node≤9223372036854775807) (da:Option Addr) (dc:Nat) (data:List Nat) (dead:Bool) (w:World) (h1:Row w a ca l) (hd:Src w da dc data) (hlt:∀ x ∈ data,x < 256) (hdl:data.length≤140737488351232) :
  Calls Tryz.prog 64 #[.agg #[.int .i64 (f 0),.int .i64 (f 1),.int .i64 (f 2),.int .i64 (f 3),.int .i64 (f 4),.int .i64 (f 5),.int .i64 (f 6),.int .i64 (f 7),.slice a l.length ca],.agg #[.int .i64 (g 0),.int .i64 (g 1),.int .i64 (g 2),.int .i64 (g 3),.int .i64 (g 4),.int .i64 (g 5),.int .i64 (g 6),.int .i64 (g 7)],.int .i64 node,.slice da data.length dc,.bool dead] w fun e w'=>∃ (h:Nat→Int) (a':Option Addr) (c':Nat) (l':List V) (er:Int),e=.returned (.tuple #[.agg #[.int .i64 (h 0),.int .i64 (h 1),.int .i64 (h 2),.int .i64 (h 3),.int .i64 (h 4),.int .i64 (h 5),.int .i64 (h 6),.int .i64 (h 7),.slice a' l'.length c'],.int .i64 er])∧er=putE f g (cont l) node data dead∧h=putV f g (cont l) node data dead∧cont l'=putL f g (cont l) node data dead∧Made w.heap.size w' a' c' l'∧Off (fun _=>False) w w':=by
 have hnot:=not_any
 obtain ⟨W,hW⟩:∃ W,W=(((w.alloc (.cells #[.int .i64 (f 0),.int .i64 (f 1),.int .i64 (f 2),.int .i64 (f 3),.int .i64 (f 4),.int .i64 (f 5),.int .i64 (f 6),.int .i64 (f 7),.slice a l.length ca] 47)).alloc (.cells #[.int .i64 (g 0),.int .i64 (g 1),.int .i64 (g 2),.int .i64 (g 3),.int .i64 (g 4),.int .i64 (g 5),.int .i64 (g 6),.int .i64 (g 7)] 43)).alloc (.cells #[.int .i64 (zer 0),.int .i64 (zer 1),.int .i64 (zer 2),.int .i64 (zer 3),.int .i64 (zer 4),.int .i64 (zer 5),.int .i64 (zer 6),.int .i64 (zer 7),.slice none 0 0] 47)):=⟨_,rfl⟩
 have O:Off (fun _=>False) w W:=by rw [hW]; exact (((Off.refl _ w).alloc _).alloc _).alloc _
 have C0:Cel w.heap.size 47 #[.int .i64 (f 0),.int .i64 (f 1),.int .i64 (f 2),.int .i64 (f 3),.int .i64 (f 4),.int .i64 (f 5),.int .i64 (f 6),.int .i64 (f 7),.slice a l.length ca] W:=by rw [hW]; exact ((Cel.new w _ _).alloc _).alloc _
 have C1:Cel (w.heap.size + 1) 43 #[.int .i64 (g 0),.int .i64 (g 1),.int .i64 (g 2),.int .i64 (g 3),.int .i64 (g 4),.int .i64 (g 5),.int .i64 (g 6),.int .i64 (g 7)] W:=by rw [hW]; exact (Cel.new1 w _ _ _).alloc _
 have C2:Cel (w.heap.size + 2) 47 #[.int .i64 (zer 0),.int .i64 (zer 1),.int .i64 (zer 2),.int .i64 (zer 3),.int .i64 (zer 4),.int .i64 (zer 5),.int .i64 (zer 6),.int .i64 (zer 7),.slice none 0 0] W:=by rw [hW]; exact Cel.new2 w _ _ _ _
 have HW:Hid ((((w.alloc (.cells #[.int .i64 (f 0),.int .i64 (f 1),.int .i64 (f 2),.int .i64 (f 3),.int .i64 (f 4),.int .i64 (f 5),.int .i64 (f 6),.int .i64 (f 7),.slice a l.length ca] 47)).alloc (.cells #[.int .i64 (g 0),.int .i64 (g 1),.int .i64 (g 2),.int .i64 (g 3),.int .i64 (g 4),.int .i64 (g 5),.int .i64 (g 6),.int .i64 (g 7)] 43)).alloc (.cells #[.int .i64 0,.int .i64 0,.int .i64 0,.int .i64 0,.int .i64 0,.int .i64 0,.int .i64 0,.int .i64 0,.slice none 0 0] 47))=W):=hW.symm
 have R1:=h1.off O
 have H0:Hid _:=C0
 have H1:Hid _:=C1
 have H2:Hid _:=C2
 have HO:Hid _:=O
 have HR:Hid _:=R1
 have HDS:Hid _:=hd.off O (fun _ _ _ h=>h)
 have HDL:Hid _:=hlt
 clear hW C0 C1 C2 O R1 h1 hd hlt
 cases m1:mayS f (cont l)
 ·have HP:Hid _:=put_no (e:=1) (show putE f g (cont l) node data dead=1 by simp [putE,m1]) (by decide)
  go_enter Tryz.func64,Tryz.ntmps64
  go_wp2_with fail
  rw [HW.out]
  generalize hq2:w.heap.size + 1 + 1=q2 at ⊢
  rw [show w.heap.size + 2=q2 by omega] at H2
  generalize hq1:w.heap.size + 1=q1 at H1 ⊢
  generalize hq0:w.heap.size=q0 at H0 ⊢
  have HQ:Hid (w.heap.size≤q2):=by show w.heap.size≤q2; omega
  clear hq0 hq1 hq2
  refine (smay_any f a ca l W HR.out).mono ?_
  rw [m1]
  rintro e w1 ⟨rfl,o1⟩
  have D2:=H2.out.off o1 (fun h=>h)
  obtain ⟨x0,x1,x2,x3,x4,x5,x6,x7,x8⟩:=cel9 D2
  have fz:=D2.free
  go_wp2_with fail
  have E2:=D2.clr9
  have OE:=(HO.out.trans o1 (fun _ _ h=>h)).clr9 (b:=q2) (.inr HQ.out)
  refine bodyPost_ret (results_err9 rfl rfl rfl E2) rfl ?_
  exact ⟨zer,none,0,[],1,rfl,HP.out.1,HP.out.2.1,HP.out.2.2,Made.nil _ _,OE⟩
 cases m2:mayB g
 ·have HP:Hid _:=put_no (e:=1) (show putE f g (cont l) node data dead=1 by simp [putE,m1,m2]) (by decide)
  go_enter Tryz.func64,Tryz.ntmps64
  go_wp2_with fail
  rw [HW.out]
  generalize hq2:w.heap.size + 1 + 1=q2 at ⊢
  rw [show w.heap.size + 2=q2 by omega] at H2
  generalize hq1:w.heap.size + 1=q1 at H1 ⊢
  generalize hq0:w.heap.size=q0 at H0 ⊢
  have HQ:Hid (w.heap.size≤q2):=by show w.heap.size≤q2; omega
  clear hq0 hq1 hq2
  refine (smay_any f a ca l W HR.out).mono ?_
  rw [m1]
  rintro e w1 ⟨rfl,o1⟩
  obtain ⟨x0,x1,x2,x3,x4,x5,x6,x7⟩:=cel8 (H1.out.off o1 (fun h=>h))
  go_wp2_with fail
  refine (may_any g _).mono ?_
  rw [m2]
  rintro e w2 ⟨rfl,o2⟩
  replace o2:=o1.trans o2 (fun _ _ h=>h)
  clear x0 x1 x2 x3 x4 x5 x6 x7 o1
  have D2:=H2.out.off o2 (fun h=>h)
  obtain ⟨x0,x1,x2,x3,x4,x5,x6,x7,x8⟩:=cel9 D2
  have fz:=D2.free
  go_wp2_with fail
  have E2:=D2.clr9
  have OE:=(HO.out.trans o2 (fun _ _ h=>h)).clr9 (b:=q2) (.inr HQ.out)
  refine bodyPost_ret (results_err9 rfl rfl rfl E2) rfl ?_
  exact ⟨zer,none,0,[],1,rfl,HP.out.1,HP.out.2.1,HP.out.2.2,Made.nil _ _,OE⟩
 cases m3:okData data.length dead
 ·have HP:Hid _:=put_no (e:=1) (show putE f g (cont l) node data dead=1 by simp [putE,m1,m2,m3]) (by decide)
  go_enter Tryz.func64,Tryz.ntmps64
  go_wp2_with fail
  rw [HW.out]
  generalize hq2:w.heap.size + 1 + 1=q2 at ⊢
  rw [show w.heap.size + 2=q2 by omega] at H2
  generalize hq1:w.heap.size + 1=q1 at H1 ⊢
  generalize hq0:w.heap.size=q0 at H0 ⊢
  have HQ:Hid (w.heap.size≤q2):=by show w.heap.size≤q2; omega
  clear hq0 hq1 hq2
  refine (smay_any f a ca l W HR.out).mono ?_
  rw [m1]
  rintro e w1 ⟨rfl,o1⟩
  obtain ⟨x0,x1,x2,x3,x4,x5,x6,x7⟩:=cel8 (H1.out.off o1 (fun h=>h))
  go_wp2_with fail
  refine (may_any g _).mono ?_
  rw [m2]
  rintro e w2 ⟨rfl,o2⟩
  replace o2:=o1.trans o2 (fun _ _ h=>h)
  clear x0 x1 x2 x3 x4 x5 x6 x7 o1
  go_wp2_with fail
  refine (mayData_any _ _ _ _ _).mono ?_
  rw [m3]
  rintro e w3 ⟨rfl,hw⟩
  rw [hw]
  clear hw w3
  have D2:=H2.out.off o2 (fun h=>h)
  obtain ⟨x0,x1,x2,x3,x4,x5,x6,x7,x8⟩:=cel9 D2
  have fz:=D2.free
  go_wp2_with fail
  have E2:=D2.clr9
  have OE:=(HO.out.trans o2 (fun _ _ h=>h)).clr9 (b:=q2) (.inr HQ.out)
  refine bodyPost_ret (results_err9 rfl rfl rfl E2) rfl ?_
  exact ⟨zer,none,0,[],1,rfl,HP.out.1,HP.out.2.1,HP.out.2.2,Made.nil _ _,OE⟩
 have HSN:Hid _:=(may_iff.1 m1).seen
 obtain ⟨nn,NN,ne,en⟩:∃ nn NN ne,nextV (maxV f g) node=(nn,NN,ne):=⟨_,_,_,rfl⟩
 have hne:=next_err (maxV f g) node
 rw [en] at hne
 simp only at hne
 have hrg:(-9223372036854775808≤nn∧nn≤9223372036854775807∧-9223372036854775808≤NN∧NN≤9223372036854775807):=next_range (fun j hj=>by have:=HSN.out j hj; simp only [maxV]; omega) hno en
 have HRG:Hid _:=hrg
 clear hrg
 by_cases h0:ne=0
 ·subst h0
  clear hne
  have hadd:∀ W',(Src W' da dc data)→VOk W' (⟨nn,NN,da,dc,data,dead⟩:V):=fun W' hs=>⟨hs,HDL.out,HRG.out.1,HRG.out.2.1,HRG.out.2.2.1,HRG.out.2.2.2,hdl⟩
  have HADD:Hid _:=hadd
  clear hadd
  go_enter Tryz.func64,Tryz.ntmps64
  go_wp2_with fail
  rw [HW.out]
  generalize hq2:w.heap.size + 1 + 1=q2 at ⊢
  rw [show w.heap.size + 2=q2 by omega] at H2
  generalize hq1:w.heap.size + 1=q1 at H1 ⊢
  generalize hq0:w.heap.size=q0 at H0 ⊢
  have HQ:Hid (w.heap.size≤q2):=by show w.heap.size≤q2; omega
  clear hq0 hq1 hq2
  refine (smay_any f a ca l W HR.out).mono ?_
  rw [m1]
  rintro e w1 ⟨rfl,o1⟩
  obtain ⟨x0,x1,x2,x3,x4,x5,x6,x7⟩:=cel8 (H1.out.off o1 (fun h=>h))
  go_wp2_with fail
  refine (may_any g _).mono ?_
  rw [m2]
  rintro e w2 ⟨rfl,o2⟩
  replace o2:=o1.trans o2 (fun _ _ h=>h)
  clear x0 x1 x2 x3 x4 x5 x6 x7 o1
  go_wp2_with fail
  refine (mayData_any _ _ _ _ _).mono ?_
  rw [m3]
  rintro e w3 ⟨rfl,hw⟩
  rw [hw]
  clear hw w3
  obtain ⟨x0,x1,x2,x3,x4,x5,x6,x7,x8⟩:=cel9 (H0.out.off o2 (fun h=>h))
  obtain ⟨y0,y1,y2,y3,y4,y5,y6,y7⟩:=cel8 (H1.out.off o2 (fun h=>h))
  go_wp2_with fail
  refine (join_any f g _).mono ?_
  rintro e w4 ⟨h,rfl,hh,o4⟩
  replace o4:=o2.trans o4 (fun _ _ h=>h)
  have HHE:Hid _:=hh
  clear hh o2 x0 x1 x2 x3 x4 x5 x6 x7 x8 y0 y1 y2 y3 y4 y5 y6 y7
  have C3:=Cel.new w4 43 #[.int .i64 (h 0),.int .i64 (h 1),.int .i64 (h 2),.int .i64 (h 3),.int .i64 (h 4),.int .i64 (h 5),.int .i64 (h 6),.int .i64 (h 7)]
  have O4:=o4.alloc (.cells #[.int .i64 (h 0),.int .i64 (h 1),.int .i64 (h 2),.int .i64 (h 3),.int .i64 (h 4),.int .i64 (h 5),.int .i64 (h 6),.int .i64 (h 7)] 43)
  go_wp2_with fail
  generalize hq3:w4.heap.size=q3 at C3 ⊢
  have HQ3:Hid _:=hq3
  clear hq3
  have hnx:nextV h node=nextV (maxV f g) node:=next_ext HHE.out node
  refine (next_any h (fun j hj=>by have h1:=HHE.out j hj; have h2:=HSN.out j hj; rw [h1]; omega) node _).mono ?_
  rw [hnx]
  rintro e w5 ⟨rfl,o5⟩
  replace C3:=C3.off o5 (fun h=>h)
  replace O4:=O4.trans o5 (fun _ _ h=>h)
  clear o5 hnx o4
  rw [en]
  simp only
  go_upto_region 5 with fail
  have C4:=Cel.new w5 85 #[.int .i64 nn,.int .i64 NN]
  have O5:=O4.alloc (.cells #[.int .i64 nn,.int .i64 NN] 85)
  have C3':=C3.alloc (.cells #[.int .i64 nn,.int .i64 NN] 85)
  generalize hq4:w5.heap.size=q4 at C4 ⊢
  generalize hw6:w5.alloc (.cells #[.int .i64 nn,.int .i64 NN] 85)=w6 at C4 O5 C3' ⊢
  clear hw6 C3 O4 hq4
  obtain ⟨z0,z1⟩:=cel2 C4
  go_upto_region 8 with fail
  generalize hq5:w6.heap.size=q5 at ⊢
  have C5:=Cel.new w6 87 #[.int .i64 nn,.int .i64 NN,.slice da data.length dc,.bool dead]
  rw [hq5] at C5
  have O6:=O5.alloc (.cells #[.int .i64 nn,.int .i64 NN,.slice da data.length dc,.bool dead] 87)
  have H3:Hid _:=C3'.alloc (.cells #[.int .i64 nn,.int .i64 NN,.slice da data.length dc,.bool dead] 87)
  have H4:Hid _:=C4.alloc (.cells #[.int .i64 nn,.int .i64 NN,.slice da data.length dc,.bool dead] 87)
  generalize hw7:w6.alloc (.cells #[.int .i64 nn,.int .i64 NN,.slice da data.length dc,.bool dead] 87)=w7 at C5 O6 H3 H4 ⊢
  have RA:Row w7 (some ⟨q5,0,none⟩) 1 [(⟨nn,NN,da,dc,data,dead⟩:V)]:=row_one C5 (HADD.out w7 (HDS.out.off O6 (fun _ _ _ h=>h)))
  have HRA:Hid _:=RA
  have HR7:Hid _:=HR.out.off O6
  have H07:Hid _:=H0.out.off O6 (fun h=>h)
  have H17:Hid _:=H1.out.off O6 (fun h=>h)
  have H27:Hid _:=H2.out.off O6 (fun h=>h)
  have HO6:Hid _:=HO.out.trans O6 (fun _ _ h=>h)
  clear C5 O6 O5 C3' C4 hq5 hw7 RA z0 z1 H0 H1 H2 HR HW
  refine wp_region_held_drew (S:=fun w'=>Off (fun _=>False) w7 w') (by kernel_rfl) ((Off.refl _ w7).drew) (fun hS=>?_)
  refine take_q 0 51 (.pointer (some ⟨q0,8,none⟩)) hS ?_
  simp only [Act.put,lsA,lsZ,lsS]
  refine take_r 1 52 (.slice a l.length ca) rfl (Or.inl ⟨by rfl,fun w' hw'=>by obtain ⟨x0,x1,x2,x3,x4,x5,x6,x7,x8⟩:=cel9 (H07.out.off hw' (fun h=>h)); go_simp⟩) hS ?_
  simp only [Act.put,lsA,lsZ,lsS]
  refine take_q 2 53 (.slice (some ⟨q5,0,none⟩) 1 1) hS ?_
  simp only [Act.put,lsA,lsZ,lsS]
  refine take_r 3 54 (.agg #[.int .i64 (g 0),.int .i64 (g 1),.int .i64 (g 2),.int .i64 (g 3),.int .i64 (g 4),.int .i64 (g 5),.int .i64 (g 6),.int .i64 (g 7)]) rfl (Or.inl ⟨by rfl,fun w' hw'=>by obtain ⟨x0,x1,x2,x3,x4,x5,x6,x7⟩:=cel8 (H17.out.off hw' (fun h=>h)); go_simp⟩) hS ?_
  simp only [Act.put,lsA,lsZ,lsS]
  refine take_r 5 56 (.agg #[.int .i64 (h 0),.int .i64 (h 1),.int .i64 (h 2),.int .i64 (h 3),.int .i64 (h 4),.int .i64 (h 5),.int .i64 (h 6),.int .i64 (h 7)]) rfl (Or.inl ⟨by rfl,fun w' hw'=>by obtain ⟨x0,x1,x2,x3,x4,x5,x6,x7⟩:=cel8 (H3.out.off hw' (fun h=>h)); go_simp⟩) hS ?_
  simp only [Act.put,lsA,lsZ,lsS]
  refine wpAnyH_ready (rs:=[4]) (by kernel_rfl) (by simp) ?_
  refine AllReadyH.cons rfl (fun K' hK'=>?_) AllReadyH.nil
  go_simp
  refine (newTo_any g _).mono ?_
  rintro e v1 ⟨rfl,CA,o1⟩
  have hS1:=hS.trans o1 (fun _ _ h=>h)
  refine hK'.out _ _ hS1 (fun hS=>?_)
  clear hK' K' hS1
  generalize w7.drew.heap.size=pA at CA ⊢
  refine wpAnyH_ready (rs:=[6]) (by kernel_rfl) (by simp) ?_
  refine AllReadyH.cons rfl (fun K' hK'=>?_) AllReadyH.nil
  go_simp
  refine (newTo_any h _).mono ?_
  rintro e v2 ⟨rfl,CB,o2⟩
  have hS2:=hS.trans o2 (fun _ _ h=>h)
  refine hK'.out _ _ hS2 (fun hS=>?_)
  clear hK' K' hS2
  replace CA:=CA.off o2 (fun h=>h)
  generalize v1.heap.size=pB at CB ⊢
  have hr1:=HR7.out.off hS
  have hr2:=HRA.out.off hS
  have sN:=hS.size
  have n1:l.length≤16:=by have:=(may_iff.1 m1).few; rwa [cont_len] at this
  clear o1 o2
  refine wpAnyH_ready (rs:=[7]) (by kernel_rfl) (by simp) ?_
  refine AllReadyH.cons rfl (fun K' hK'=>?_) AllReadyH.nil
  go_simp
  refine (merge_any g h pA pB a (some ⟨q5,0,none⟩) ca 1 l [(⟨nn,NN,da,dc,data,dead⟩:V)] _ hr1 hr2 CA CB (by simp; omega)).mono ?_
  rintro e v3 ⟨a3,c3,l',rfl,own3,hv3,ha3,hl3,o3⟩
  have hS3:=hS.trans o3 (fun _ _ h=>h)
  refine hK'.out _ _ hS3 (fun hS=>?_)
  clear hK' K' hS3
  have md:=own3.made hv3 ha3
  have HMD:Hid _:=md
  have HQV:Hid (q2 < v2.heap.size∧w.heap.size≤v2.heap.size):=⟨Nat.lt_of_lt_of_le H27.out.lt sN,Nat.le_trans HO6.out.size sN⟩
  have HLL:Hid (cont l'=putR f g (cont l) node data dead):=by
   show cont l'=putR f g (cont l) node data dead
   rw [hl3,putR,putN,en,nc_ext (g:=maxV f g) HHE.out]
   rfl
  have HS3:Hid _:=hS
  clear own3 hv3 ha3 hl3 o3 hr1 hr2 CA CB md hS
  refine take_at (i:=8) 16 (v:=.slice a3 l'.length c3) rfl rfl (by kernel_rfl) (by kernel_rfl) (by kernel_rfl) (fun _ _ _ h=>h) (Or.inl ⟨by rfl,fun w' hw'=>by go_simp⟩) HS3.out ?_
  simp only [Act.put,lsA,lsZ,lsS]
  refine wpAnyH_done (by kernel_rfl) ?_ _
  have hlen:(putR f g (cont l) node data dead).length=l'.length:=by rw [← HLL.out,cont_len]
  by_cases h16:16 < l'.length
  ·have e1:decide ((16:Int) < (l'.length:Int))=true:=decide_eq_true (by omega)
   have e2:decide (16 < l'.length)=true:=decide_eq_true h16
   have HP:Hid _:=put_no (e:=11) (show putE f g (cont l) node data dead=11 by simp [putE,m1,m2,m3,en,hlen,h16]) (by decide)
   clear hlen
   have D2:=H27.out.off HS3.out (fun h=>h)
   obtain ⟨x0,x1,x2,x3,x4,x5,x6,x7,x8⟩:=cel9 D2
   have fz:=D2.free
   go_wp2_with fail
   have E2:=D2.clr9
   have OE:=(HO6.out.trans HS3.out (fun _ _ h=>h)).clr9 (b:=q2) (.inr HQ.out)
   refine bodyPost_ret (results_err9 rfl rfl rfl E2) rfl ?_
   exact ⟨zer,none,0,[],11,rfl,HP.out.1,HP.out.2.1,HP.out.2.2,Made.nil _ _,OE⟩
  ·have e1:decide ((16:Int) < (l'.length:Int))=false:=decide_eq_false (by omega)
   have e2:decide (16 < l'.length)=false:=decide_eq_false h16
   have hP:putE f g (cont l) node data dead=0:=by simp [putE,m1,m2,m3,en,hlen,h16]
   have HPE:Hid _:=hP
   clear hlen hP
   obtain ⟨x0,x1,x2,x3,x4,x5,x6,x7⟩:=cel8 (H3.out.off HS3.out (fun h=>h))
   obtain ⟨z0,z1⟩:=cel2 (H4.out.off HS3.out (fun h=>h))
   go_wp2_with fail
   refine (with_any h nn NN _).mono ?_
   rintro e w9 ⟨rfl,o9⟩
   have O9:=HS3.out.trans o9 (fun _ _ h=>h)
   have M9:=HMD.out.off o9
   have D2:=H27.out.off O9 (fun h=>h)
   clear x0 x1 x2 x3 x4 x5 x6 x7 z0 z1
   obtain ⟨x0,x1,x2,x3,x4,x5,x6,x7,x8⟩:=cel9 D2
   have fz:=D2.free
   obtain ⟨wv,hwv⟩:∃ wv,wv=withV h nn NN:=⟨_,rfl⟩
   rw [← hwv]
   have HWV:Hid _:=hwv
   have HM9:Hid _:=M9
   have HO9:Hid _:=HO6.out.trans O9 (fun _ _ h=>h)
   clear hwv M9 O9 o9
   go_wp2_with fail
   have E2:=D2.st9 wv (.slice a3 l'.length c3)
   have OE:=HO9.out.st9 (b:=q2) (.inr HQ.out) wv (.slice a3 l'.length c3)
   refine bodyPost_ret (results_sibs2 rfl rfl rfl E2) rfl ?_
   have hx:∀ j,j < 8→wv j=putV f g (cont l) node data dead j:=by
    intro j hj
    rw [HWV.out]
    simp only [putV,HPE.out,if_true,en]
    exact with_ext HHE.out nn NN j hj
   refine ⟨putV f g (cont l) node data dead,a3,c3,l',0,by rw [vec_ext hx]; rfl,HPE.out.symm,rfl,?_,?_,OE⟩
   ·rw [HLL.out]
    simp [putL,HPE.out]
   ·refine Made.mono (N:=v2.heap.size) ?_ HQV.out.2
    refine HM9.out.offN ((Off.refl (fun c=>c=q2) w9).st9 (.inl rfl) wv _) (fun k hk e=>?_)
    have:=HQV.out.1
    omega
 ·have h0':(ne != 0)=true:=by simpa using h0
  have HP:Hid _:=put_no (e:=ne) (show putE f g (cont l) node data dead=ne by simp [putE,m1,m2,m3,en,h0]) h0
  clear hne h0
  go_enter Tryz.func64,Tryz.ntmps64
  go_wp2_with fail
  rw [HW.out]
  generalize hq2:w.heap.size + 1 + 1=q2 at ⊢
  rw [show w.heap.size + 2=q2 by omega] at H2
  generalize hq1:w.heap.size + 1=q1 at H1 ⊢
  generalize hq0:w.heap.size=q0 at H0 ⊢
  have HQ:Hid (w.heap.size≤q2):=by show w.heap.size≤q2; omega
  clear hq0 hq1 hq2
  refine (smay_any f a ca l W HR.out).mono ?_
  rw [m1]
  rintro e w1 ⟨rfl,o1⟩
  obtain ⟨x0,x1,x2,x3,x4,x5,x6,x7⟩:=cel8 (H1.out.off o1 (fun h=>h))
  go_wp2_with fail
  refine (may_any g _).mono ?_
  rw [m2]
  rintro e w2 ⟨rfl,o2⟩
  replace o2:=o1.trans o2 (fun _ _ h=>h)
  clear x0 x1 x2 x3 x4 x5 x6 x7 o1
  go_wp2_with fail
  refine (mayData_any _ _ _ _ _).mono ?_
  rw [m3]
  rintro e w3 ⟨rfl,hw⟩
  rw [hw]
  clear hw w3
  obtain ⟨x0,x1,x2,x3,x4,x5,x6,x7,x8⟩:=cel9 (H0.out.off o2 (fun h=>h))
  obtain ⟨y0,y1,y2,y3,y4,y5,y6,y7⟩:=cel8 (H1.out.off o2 (fun h=>h))
  go_wp2_with fail
  refine (join_any f g _).mono ?_
  rintro e w4 ⟨h,rfl,hh,o4⟩
  replace o4:=o2.trans o4 (fun _ _ h=>h)
  have HHE:Hid _:=hh
  clear hh o2 x0 x1 x2 x3 x4 x5 x6 x7 x8 y0 y1 y2 y3 y4 y5 y6 y7
  have C3:=Cel.new w4 43 #[.int .i64 (h 0),.int .i64 (h 1),.int .i64 (h 2),.int .i64 (h 3),.int .i64 (h 4),.int .i64 (h 5),.int .i64 (h 6),.int .i64 (h 7)]
  have O4:=o4.alloc (.cells #[.int .i64 (h 0),.int .i64 (h 1),.int .i64 (h 2),.int .i64 (h 3),.int .i64 (h 4),.int .i64 (h 5),.int .i64 (h 6),.int .i64 (h 7)] 43)
  go_wp2_with fail
  generalize hq3:w4.heap.size=q3 at C3 ⊢
  have HQ3:Hid _:=hq3
  clear hq3
  have hnx:nextV h node=nextV (maxV f g) node:=next_ext HHE.out node
  refine (next_any h (fun j hj=>by have h1:=HHE.out j hj; have h2:=HSN.out j hj; rw [h1]; omega) node _).mono ?_
  rw [hnx]
  rintro e w5 ⟨rfl,o5⟩
  replace C3:=C3.off o5 (fun h=>h)
  replace O4:=O4.trans o5 (fun _ _ h=>h)
  clear o5 hnx o4
  rw [en]
  simp only
  go_upto_region 5 with fail
  have C4:=Cel.new w5 85 #[.int .i64 nn,.int .i64 NN]
  have O5:=O4.alloc (.cells #[.int .i64 nn,.int .i64 NN] 85)
  have C3':=C3.alloc (.cells #[.int .i64 nn,.int .i64 NN] 85)
  generalize hq4:w5.heap.size=q4 at C4 ⊢
  generalize hw6:w5.alloc (.cells #[.int .i64 nn,.int .i64 NN] 85)=w6 at C4 O5 C3' ⊢
  clear hw6 C3 O4 hq4
  have D2:=H2.out.off O5 (fun h=>h)
  obtain ⟨x0,x1,x2,x3,x4,x5,x6,x7,x8⟩:=cel9 D2
  have fz:=D2.free
  go_wp2_with fail
  have E2:=D2.clr9
  have OE:=(HO.out.trans O5 (fun _ _ h=>h)).clr9 (b:=q2) (.inr HQ.out)
  refine bodyPost_ret (results_err9 rfl rfl rfl E2) rfl ?_
  exact ⟨zer,none,0,[],ne,rfl,HP.out.1,HP.out.2.1,HP.out.2.2,Made.nil _ _,OE⟩
end Go.Proofs.YthjbnpaghiojlaaGreat
