/- Items of several texts. -/
import Derived.Test.YthjbnpaghiojlaaGreatKLeq5
namespace Go.Proofs.YthjbnpaghiojlaaGreat
open Go.RowKit
def anyV (l:List V):Bool:=l.any fun v=>!v.dead
def anyA (l:List A):Bool:=l.any fun x=>!x.dead
theorem any_cont (l:List V):anyA (cont l)=anyV l:=by simp [anyA,anyV,cont,List.any_map,Function.comp_def,V.abs]
set_option maxRecDepth 100000 in
theorem indexFunc_any (a:Option Addr) (cap:Nat) (l:List V) (w:World) (h:Row w a cap l) :
  Calls Tryz.prog 192 #[.slice a l.length cap,.func (.func 137) #[] #[]] w fun e w'=>∃ i:Int,e=.returned (.int .i64 i)∧(0≤i↔anyV l=true)∧Off (fun _=>False) w w':=by
 have hb:=h.bound
 have hb2:=h.len
 have HR:Hid _:=h
 clear h
 go_enter Tryz.func192,Tryz.ntmps192
 go_wp2_with fail
 go_loopw [8] (fun y wr=>∃ n:Nat,y=.int .i64 (n:Int)∧n≤l.length∧(∀ i v,i < n→l[i]?=some v→v.dead=true)∧Off (fun _=>False) w wr) (fun y _=>(l.length - intOf y).toNat)
 case atStart=>exact ⟨0,rfl,by omega,fun i v hi=>by omega,Off.refl _ w⟩
 case round =>
  obtain ⟨n,rfl,hn,hg,O⟩:=hrel
  have HG:Hid _:=hg
  clear hg
  by_cases hlt:n < l.length
  ·have e1:decide ((n:Int) < (l.length:Int))=true:=decide_eq_true (by omega)
   have e2:decide (n < l.length)=true:=decide_eq_true hlt
   obtain ⟨v,hv⟩:∃ v,l[n]?=some v:=⟨_,List.getElem?_eq_getElem hlt⟩
   obtain ⟨b,off,rfl,k,hvo⟩:=(HR.out.off O).at_ n v hv
   obtain ⟨k0,k1,k2,k3⟩:=k
   have HV:Hid _:=hv
   have HO:Hid _:=O
   clear hv O hvo
   go_wp2_with fail
   refine (isLive_any v _).mono ?_
   rintro e w2 ⟨rfl,o2⟩
   clear k0 k1 k2 k3
   cases hd:v.dead
   ·go_wp2_with fail
    go_ret
    refine ⟨(n:Int),rfl,⟨fun _=>?_,fun _=>by omega⟩,HO.out.trans o2 (fun _ _ h=>h)⟩
    simp only [anyV,List.any_eq_true]
    exact ⟨v,List.mem_of_getElem? HV.out,by simp [hd]⟩
   ·go_wp2_with fail
    go_roundw
    case rel =>
     refine ⟨n + 1,by go_num,by omega,fun i u hi hu=>?_,HO.out.trans o2 (fun _ _ h=>h)⟩
     rcases Nat.lt_or_ge i n with h | h
     ·exact HG.out i u h hu
     ·obtain rfl:i=n:=by omega
      rw [HV.out] at hu
      cases hu
      exact hd
    case measure=>simp [intOf]; omega
  ·obtain rfl:n=l.length:=by omega
   have e1:decide ((l.length:Int) < (l.length:Int))=false:=decide_eq_false (by omega)
   have e2:decide (l.length < l.length)=false:=decide_eq_false (by omega)
   go_wp2_with fail
   go_ret
   refine ⟨-1,rfl,⟨fun h=>by omega,fun h=>?_⟩,O⟩
   simp only [anyV,List.any_eq_true] at h
   obtain ⟨v,hv,hd⟩:=h
   obtain ⟨i,hi⟩:=List.getElem?_of_mem hv
   have hlt:i < l.length:=by
    obtain ⟨h,-⟩:=List.getElem?_eq_some_iff.1 hi
    exact h
   rw [HG.out i v hlt hi] at hd
   simp at hd
theorem containsFunc_any (a:Option Addr) (cap:Nat) (l:List V) (w:World) (h:Row w a cap l) :
  Calls Tryz.prog 136 #[.slice a l.length cap,.func (.func 137) #[] #[]] w fun e w'=>e=.returned (.bool (anyV l))∧Off (fun _=>False) w w':=by
 go_enter Tryz.func136,Tryz.ntmps136
 go_wp2_with fail
 refine (indexFunc_any a cap l w h).mono ?_
 rintro e w1 ⟨i,rfl,hi,o1⟩
 have hd:decide (0≤i)=anyV l:=by
  rw [Bool.eq_iff_iff,decide_eq_true_iff]
  exact hi
 have HD:Hid _:=hd
 clear hi hd
 go_wp2_with fail
 go_ret
 exact ⟨by rw [← HD.out]; rfl,o1⟩
def vcl (v:V):List Value:=[.int .i64 v.node,.int .i64 v.num,.slice v.ad v.data.length v.cap,.bool v.dead]
theorem vcl_len (v:V):(vcl v).length=4:=rfl
theorem vcl_one (v:V):∀ u ∈ vcl v,u.oneCell'=true:=by simp [vcl,Value.oneCell']
theorem vcl_flat (l:List V):l.flatMap vcl=vcs l:=by
 induction l with
 | nil=>rfl
 | cons v l ih=>simp [vcs,vcl,ih]
theorem OwnG.ownV {w:World} {a:Option Addr} {cap:Nat} {l:List V} (h:OwnG 87 4 vcl w a cap l):OwnV w a cap l:=⟨by have:=h.row; rwa [vcl_flat] at this⟩
set_option maxRecDepth 100000 in
set_option maxHeartbeats 1000000 in
theorem copyAll_any (a:Option Addr) (cap:Nat) (l:List V) (w:World) (h:Row w a cap l) (hl:l.length≤1000) :
  Calls Tryz.prog 138 #[.slice a l.length cap] w fun e w'=>∃ (t:Option Addr) (c:Nat) (k:List V),e=.returned (.slice t k.length c)∧cont k=cont l∧Made w.heap.size w' t c k∧Off (fun _=>False) w w':=by
 have hb:=h.bound
 have HRW:Hid _:=h
 clear h
 go_enter Tryz.func138,Tryz.ntmps138
 go_wp2_with fail
 go_loopw [3,8] (fun x y wr=>∃ (n:Nat) (t:Option Addr) (c:Nat) (k:List V),y=.int .i64 (n:Int)∧x=.slice t k.length c∧n≤l.length∧k.length=n∧OwnG 87 4 vcl wr t c k∧(∀ i,blk t=some i→w.heap.size≤i)∧(∀ v ∈ k,VOk wr v∧OwnR wr v.ad v.cap v.data∧∀ i,blk v.ad=some i→w.heap.size≤i∧blk t ≠ some i)∧cont k=cont (l.take n)∧Off (fun _=>False) w wr) (fun _ y _=>(l.length - intOf y).toNat)
 case atStart=>exact ⟨0,none,0,[],rfl,rfl,by omega,rfl,OwnG.nil _ _ _ _,fun i hi=>by simp [blk] at hi,by simp,by simp,Off.refl _ w⟩
 case round =>
  obtain ⟨n,t,c,k,rfl,rfl,hn,hkn,own,hlo,hbl,hdat,O⟩:=hrel
  have hr1:=HRW.out.off O
  have HOWN:Hid _:=own
  have HLO:Hid _:=hlo
  have HBL:Hid _:=hbl
  have HDA:Hid _:=hdat
  have HKN:Hid _:=hkn
  clear own hlo hbl hdat hkn
  by_cases hlt:n < l.length
  ·have e1:decide ((n:Int) < (l.length:Int))=true:=decide_eq_true (by omega)
   have e2:decide (n < l.length)=true:=decide_eq_true hlt
   obtain ⟨v,hv⟩:∃ v,l[n]?=some v:=⟨_,List.getElem?_eq_getElem hlt⟩
   obtain ⟨b,off,rfl,kk,hvo⟩:=hr1.at_ n v hv
   obtain ⟨k0,k1,k2,k3⟩:=kk
   have O1:Off (fun _=>False) wr (wr.alloc (.cells #[.int .i64 v.node,.int .i64 v.num,.slice v.ad v.data.length v.cap,.bool v.dead] 87)):=(Off.refl _ wr).alloc _
   have vo1:=hvo.off O1 (fun _ _ _ h=>h)
   have HV:Hid _:=hv
   have HO:Hid _:=O
   have HO1:Hid _:=O1
   clear hv hvo hr1 O O1
   go_wp2_with fail
   refine (copyOf_any v _ vo1).mono ?_
   rintro e w3 ⟨u,rfl,hu,uo,uk,un,o3⟩
   have O3:=HO1.out.trans o3 (fun _ _ h=>h)
   have hun:∀ i,blk u.ad=some i→wr.heap.size≤i∧i < w3.heap.size:=fun i hi=>⟨by have:=un i hi; have:=HO1.out.size; omega,uo.lt i hi⟩
   have HUN:Hid _:=hun
   have HUO:Hid _:=uo
   have HUK:Hid _:=uk
   have HHU:Hid _:=hu
   have HO3:Hid _:=O3
   clear k0 k1 k2 k3 vo1 uo uk un hu o3 O3 hun HO1
   have OA:Off (fun _=>False) w3 (w3.alloc (.cells #[.int .i64 u.node,.int .i64 u.num,.slice u.ad u.data.length u.cap,.bool u.dead] 87)):=(Off.refl _ w3).alloc _
   have O4:=HO3.out.trans OA (fun _ _ h=>h)
   have own4:=HOWN.out.off O4 (fun _ _ _ h=>h)
   have cn:=Cel.new w3 87 #[.int .i64 u.node,.int .i64 u.num,.slice u.ad u.data.length u.cap,.bool u.dead]
   have hcn:∀ j x,(vcl u)[j]?=some x→(w3.alloc (.cells #[.int .i64 u.node,.int .i64 u.num,.slice u.ad u.data.length u.cap,.bool u.dead] 87)).cell? ⟨w3.heap.size,j,none⟩=some x:=fun j x hj=>by
    rw [cn.cell j]
    simpa [vcl] using hj
   have HO4:Hid _:=O4
   have HOA:Hid _:=OA
   have hk1:k.length≤1000000:=by have:=HKN.out; omega
   clear O4 OA cn
   go_wp2_with (at_builtin; refine wpList_appG rfl (.tmp 12) (.tmp 15) Tryz.underlying45 Tryz.infoV rfl (by decide) (by decide) vcl_len vcl_one rfl t c k rfl own4 w3.heap.size 1 u rfl hcn hk1 ?_; intro t' c' w' ys hys own' off' at')
   have HYS:Hid _:=hys.out
   have hyl:ys.length=k.length + 1:=by rw [hys.out]; simp
   have HYL:Hid _:=hyl
   clear hys hyl hk1
   have HOW':Hid _:=own'
   have HOF':Hid _:=off'
   clear own' off' own4 hcn
   go_wp2_with fail
   go_roundw
   case rel =>
    have hyl:=HYL.out
    have hkn:=HKN.out
    have s3:=HO3.out.size
    have s4:=HO4.out.size
    simp only [World.size_alloc] at s4 at'
    have so:=HO.out.size
    have tf:∀ i,blk t'=some i→w.heap.size≤i:=fun i hi=>by
     rcases at' with h9 | h9
     ·exact HLO.out i (h9 ▸ hi)
     ·rw [h9] at hi; simp at hi; omega
    have old:∀ x ∈ k,∀ i,blk x.ad=some i→blk t' ≠ some i:=fun x hx i hi e=>by
     rcases at' with h9 | h9
     ·exact ((HBL.out x hx).2.2 i hi).2 (h9 ▸ e)
     ·rw [h9] at e
      simp at e
      have:=(HBL.out x hx).2.1.lt i hi
      omega
    have hnt:∀ i,blk u.ad=some i→blk t ≠ some i:=fun i hi e=>by
     have h1:=(HUN.out i hi).1
     have h2:=HOWN.out.lt i e
     omega
    refine ⟨n + 1,t',c',ys,by go_num,rfl,by omega,by omega,HOW'.out,tf,fun x hx=>?_,?_,(HO.out.trans HO4.out (fun _ _ h=>h)).trans HOF'.out (fun i hi e=>by have:=HLO.out i e; omega)⟩
    ·rw [HYS.out,List.mem_append,List.mem_singleton] at hx
     rcases hx with hx | rfl
     ·exact ⟨((HBL.out x hx).1.off HO4.out (fun _ _ _ h=>h)).off HOF'.out (fun c _ hc e=>((HBL.out x hx).2.2 c hc).2 e),((HBL.out x hx).2.1.off HO4.out (fun _ _ _ h=>h)).off HOF'.out (fun c _ hc e=>((HBL.out x hx).2.2 c hc).2 e),fun i hi=>⟨((HBL.out x hx).2.2 i hi).1,old x hx i hi⟩⟩
     ·refine ⟨(HUK.out.off HOA.out (fun _ _ _ h=>h)).off HOF'.out (fun c _ hc e=>hnt c hc e),(HUO.out.off HOA.out (fun _ _ _ h=>h)).off HOF'.out (fun c _ hc e=>hnt c hc e),fun i hi=>⟨?_,fun e=>?_⟩⟩
      ·have:=(HUN.out i hi).1
       omega
      ·rcases at' with h9 | h9
       ·exact hnt i hi (h9 ▸ e)
       ·rw [h9] at e
        simp at e
        have:=(HUN.out i hi).2
        omega
    ·have ht:l.take (n + 1)=l.take n ++ [v]:=by rw [List.take_add_one,HV.out]; rfl
     rw [HYS.out,ht,cont_append,cont_append,HDA.out]
     simp [cont,HHU.out]
   case measure=>simp [intOf]; omega
  ·obtain rfl:n=l.length:=by omega
   have e1:decide ((l.length:Int) < (l.length:Int))=false:=decide_eq_false (by omega)
   have e2:decide (l.length < l.length)=false:=decide_eq_false (by omega)
   go_wp2_with fail
   go_ret
   refine ⟨t,c,k,rfl,by rw [HDA.out,List.take_length],HOWN.out.ownV.made HBL.out HLO.out,O⟩
def reapV (f:Nat→Int) (l:List A):Nat→Int:=if mayS f l=true then f else zer
def reapL (f:Nat→Int) (l:List A):List A:=if mayS f l=true∧anyA l=true then l else []
set_option maxRecDepth 100000 in
set_option maxHeartbeats 1000000 in
theorem sreap_any (f:Nat→Int) (a:Option Addr) (cap:Nat) (l:List V) (w:World) (hr:Row w a cap l) :
  Calls Tryz.prog 74 #[.agg #[.int .i64 (f 0),.int .i64 (f 1),.int .i64 (f 2),.int .i64 (f 3),.int .i64 (f 4),.int .i64 (f 5),.int .i64 (f 6),.int .i64 (f 7),.slice a l.length cap]] w fun e w'=>∃ (h:Nat→Int) (t:Option Addr) (c:Nat) (k:List V),e=.returned (.agg #[.int .i64 (h 0),.int .i64 (h 1),.int .i64 (h 2),.int .i64 (h 3),.int .i64 (h 4),.int .i64 (h 5),.int .i64 (h 6),.int .i64 (h 7),.slice t k.length c])∧h=reapV f (cont l)∧cont k=reapL f (cont l)∧Made w.heap.size w' t c k∧Off (fun _=>False) w w':=by
 have hnot:=not_any
 obtain ⟨W,hW⟩:∃ W,W=((w.alloc (.cells #[.int .i64 (f 0),.int .i64 (f 1),.int .i64 (f 2),.int .i64 (f 3),.int .i64 (f 4),.int .i64 (f 5),.int .i64 (f 6),.int .i64 (f 7),.slice a l.length cap] 47)).alloc (.cells #[.int .i64 (zer 0),.int .i64 (zer 1),.int .i64 (zer 2),.int .i64 (zer 3),.int .i64 (zer 4),.int .i64 (zer 5),.int .i64 (zer 6),.int .i64 (zer 7),.slice none 0 0] 47)):=⟨_,rfl⟩
 have O:Off (fun _=>False) w W:=by rw [hW]; exact ((Off.refl _ w).alloc _).alloc _
 have C0:Cel w.heap.size 47 #[.int .i64 (f 0),.int .i64 (f 1),.int .i64 (f 2),.int .i64 (f 3),.int .i64 (f 4),.int .i64 (f 5),.int .i64 (f 6),.int .i64 (f 7),.slice a l.length cap] W:=by rw [hW]; exact (Cel.new w _ _).alloc _
 have C1:Cel (w.heap.size + 1) 47 #[.int .i64 (zer 0),.int .i64 (zer 1),.int .i64 (zer 2),.int .i64 (zer 3),.int .i64 (zer 4),.int .i64 (zer 5),.int .i64 (zer 6),.int .i64 (zer 7),.slice none 0 0] W:=by rw [hW]; exact Cel.new1 w _ _ _
 have HW:Hid (((w.alloc (.cells #[.int .i64 (f 0),.int .i64 (f 1),.int .i64 (f 2),.int .i64 (f 3),.int .i64 (f 4),.int .i64 (f 5),.int .i64 (f 6),.int .i64 (f 7),.slice a l.length cap] 47)).alloc (.cells #[.int .i64 0,.int .i64 0,.int .i64 0,.int .i64 0,.int .i64 0,.int .i64 0,.int .i64 0,.int .i64 0,.slice none 0 0] 47))=W):=hW.symm
 have H0:Hid _:=C0
 have H1:Hid _:=C1
 have HO:Hid _:=O
 have HR:Hid _:=hr.off O
 clear hW C0 C1 O hr
 cases hm:mayS f (cont l)
 ·have hj:zer=reapV f (cont l)∧cont []=reapL f (cont l):=by
   have ec:cont ([]:List V)=[]:=rfl
   simp [reapV,reapL,hm,ec]
  go_enter Tryz.func74,Tryz.ntmps74
  go_wp2_with fail
  rw [HW.out]
  generalize hq1:w.heap.size + 1=q1 at H1 ⊢
  generalize hq0:w.heap.size=q0 at H0 ⊢
  have HQ:Hid (w.heap.size≤q1∧q0 ≠ q1):=by show w.heap.size≤q1∧q0 ≠ q1; omega
  clear hq0 hq1
  refine (smay_any f a cap l W HR.out).mono ?_
  rw [hm]
  rintro e w1 ⟨rfl,o1⟩
  have D1:=H1.out.off o1 (fun h=>h)
  obtain ⟨x0,x1,x2,x3,x4,x5,x6,x7,x8⟩:=cel9 D1
  have fz:=D1.free
  have HJ:Hid _:=hj
  clear hj
  go_wp2_with fail
  have E1:=D1.clr9
  have OE:=(HO.out.trans o1 (fun _ _ h=>h)).clr9 (b:=q1) (.inr HQ.out.1)
  refine bodyPost_ret (results_none9 rfl rfl E1) rfl ?_
  exact ⟨zer,none,0,[],rfl,HJ.out.1,HJ.out.2,Made.nil _ _,OE⟩
 have hn:l.length≤16:=by have:=(may_iff.1 hm).few; rwa [cont_len] at this
 cases hany:anyV l
 ·have hj:f=reapV f (cont l)∧cont []=reapL f (cont l):=by
   have ec:cont ([]:List V)=[]:=rfl
   simp [reapV,reapL,hm,any_cont,hany,ec]
  have HJ:Hid _:=hj
  clear hj
  go_enter Tryz.func74,Tryz.ntmps74
  go_wp2_with fail
  rw [HW.out]
  generalize hq1:w.heap.size + 1=q1 at H1 ⊢
  generalize hq0:w.heap.size=q0 at H0 ⊢
  have HQ:Hid (w.heap.size≤q1∧q0 ≠ q1):=by show w.heap.size≤q1∧q0 ≠ q1; omega
  clear hq0 hq1
  refine (smay_any f a cap l W HR.out).mono ?_
  rw [hm]
  rintro e w1 ⟨rfl,o1⟩
  obtain ⟨x0,x1,x2,x3,x4,x5,x6,x7,x8⟩:=cel9 (H0.out.off o1 (fun h=>h))
  have r1:=HR.out.off o1
  go_wp2_with fail
  refine (containsFunc_any a cap l _ r1).mono ?_
  rw [hany]
  rintro e w2 ⟨rfl,o2⟩
  replace o2:=o1.trans o2 (fun _ _ h=>h)
  clear x0 x1 x2 x3 x4 x5 x6 x7 x8 r1 o1
  have D1:=H1.out.off o2 (fun h=>h)
  obtain ⟨x0,x1,x2,x3,x4,x5,x6,x7,x8⟩:=cel9 D1
  obtain ⟨y0,y1,y2,y3,y4,y5,y6,y7,y8⟩:=cel9 (H0.out.off o2 (fun h=>h))
  have fz:=D1.free
  go_wp2_with fail
  have E1:=D1.st9 f (.slice none 0 0)
  have OE:=(HO.out.trans o2 (fun _ _ h=>h)).st9 (b:=q1) (.inr HQ.out.1) f (.slice none 0 0)
  refine bodyPost_ret (results_sibs rfl rfl E1) rfl ?_
  exact ⟨f,none,0,[],rfl,HJ.out.1,HJ.out.2,Made.nil _ _,OE⟩
 ·have hj:f=reapV f (cont l)∧cont l=reapL f (cont l):=by simp [reapV,reapL,hm,any_cont,hany]
  have HJ:Hid _:=hj
  clear hj
  go_enter Tryz.func74,Tryz.ntmps74
  go_wp2_with fail
  rw [HW.out]
  generalize hq1:w.heap.size + 1=q1 at H1 ⊢
  generalize hq0:w.heap.size=q0 at H0 ⊢
  have HQ:Hid (w.heap.size≤q1∧q0 ≠ q1):=by show w.heap.size≤q1∧q0 ≠ q1; omega
  clear hq0 hq1
  refine (smay_any f a cap l W HR.out).mono ?_
  rw [hm]
  rintro e w1 ⟨rfl,o1⟩
  obtain ⟨x0,x1,x2,x3,x4,x5,x6,x7,x8⟩:=cel9 (H0.out.off o1 (fun h=>h))
  have r1:=HR.out.off o1
  go_wp2_with fail
  refine (containsFunc_any a cap l _ r1).mono ?_
  rw [hany]
  rintro e w2 ⟨rfl,o2⟩
  replace o2:=o1.trans o2 (fun _ _ h=>h)
  clear x0 x1 x2 x3 x4 x5 x6 x7 x8 r1 o1
  have G0:Hid _:=H0.out.off o2 (fun h=>h)
  have HG1:Hid _:=(H1.out.off o2 (fun h=>h)).drew
  have HN0:Hid (¬ q0=q1):=HQ.out.2
  have rl:=(HR.out.off o2).off ((Off.refl (fun _=>False) w2).drew)
  have O2:=HO.out.trans o2 (fun _ _ h=>h)
  have HO2:Hid _:=O2
  have HQ2:Hid (q1 < w2.drew.heap.size∧w.heap.size≤w2.drew.heap.size):=⟨HG1.out.lt,O2.size⟩
  clear O2 o2
  go_wp2_with fail
  refine wp_region_held_drew (S:=fun w'=>Off (fun c=>c=q1) w2 w') (by kernel_rfl) ((Off.refl _ w2).drew) (fun hS=>?_)
  refine take_q 0 14 (.pointer (some ⟨q0,0,none⟩)) hS ?_
  simp only [Act.put,lsA,lsZ,lsS]
  refine take_r 1 15 (.agg #[.int .i64 (f 0),.int .i64 (f 1),.int .i64 (f 2),.int .i64 (f 3),.int .i64 (f 4),.int .i64 (f 5),.int .i64 (f 6),.int .i64 (f 7)]) rfl (Or.inl ⟨by rfl,fun w' hw'=>by obtain ⟨x0,x1,x2,x3,x4,x5,x6,x7,x8⟩:=cel9 (G0.out.off hw' HN0.out); go_simp⟩) hS ?_
  simp only [Act.put,lsA,lsZ,lsS]
  refine take_q 2 16 (.pointer (some ⟨q0,8,none⟩)) hS ?_
  simp only [Act.put,lsA,lsZ,lsS]
  refine take_r 3 17 (.slice a l.length cap) rfl (Or.inl ⟨by rfl,fun w' hw'=>by obtain ⟨x0,x1,x2,x3,x4,x5,x6,x7,x8⟩:=cel9 (G0.out.off hw' HN0.out); go_simp⟩) hS ?_
  simp only [Act.put,lsA,lsZ,lsS]
  refine wpAnyH_ready (rs:=[4]) (by kernel_rfl) (by simp) ?_
  refine AllReadyH.cons rfl (fun K' hK'=>?_) AllReadyH.nil
  go_simp
  refine (copyAll_any a cap l _ rl (by omega)).mono ?_
  rintro e v4 ⟨t,c,k,rfl,hk,mk,o4⟩
  have hS4:=hS.trans o4 (fun _ _ h=>h.elim)
  refine hK'.out _ _ hS4 (fun hS=>?_)
  clear hK' K' hS4
  have G1:=HG1.out.off o4 (fun h=>h)
  obtain ⟨x0,x1,x2,x3,x4,x5,x6,x7,x8⟩:=cel9 G1
  have fz:=G1.free
  have HK:Hid _:=hk
  clear hk
  refine take_q 5 19 (.agg #[.int .i64 (f 0),.int .i64 (f 1),.int .i64 (f 2),.int .i64 (f 3),.int .i64 (f 4),.int .i64 (f 5),.int .i64 (f 6),.int .i64 (f 7),.slice t k.length c]) hS ?_
  simp only [Act.put,lsA,lsZ,lsS]
  refine wpAnyH_ready (rs:=[6]) (by kernel_rfl) (by simp) ?_
  refine AllReadyH.cons rfl (fun K' hK'=>?_) AllReadyH.nil
  go_simp
  have hS5:=hS.st9 (b:=q1) (.inl rfl) f (.slice t k.length c)
  refine hK'.out _ _ hS5 (fun hS=>?_)
  clear hK' K' hS5
  refine wpAnyH_done (by kernel_rfl) ?_ _
  go_wp2_with fail
  refine bodyPost_ret (results_sibs rfl rfl (G1.st9 f (.slice t k.length c))) rfl ?_
  refine ⟨f,t,c,k,rfl,HJ.out.1,by rw [HK.out]; exact HJ.out.2,?_,(HO2.out.drew.trans o4 (fun _ _ h=>h)).st9 (.inr HQ.out.1) f _⟩
  refine Made.mono (N:=w2.drew.heap.size) ?_ HQ2.out.2
  refine mk.offN ((Off.refl (fun c=>c=q1) v4).st9 (.inl rfl) f _) (fun i hi e=>?_)
  have:=HQ2.out.1
  omega
end Go.Proofs.YthjbnpaghiojlaaGreat
