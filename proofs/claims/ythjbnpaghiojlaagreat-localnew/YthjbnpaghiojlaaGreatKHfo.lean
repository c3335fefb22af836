/- Items of several texts. -/
import Derived.Test.YthjbnpaghiojlaaGreatKHal
namespace Go.Proofs.YthjbnpaghiojlaaGreat
open Go.RowKit
theorem ent_one {w:World} {b:Nat} {y:E} (h:Cel b 68 #[.string y.key,.int .i64 (y.f 0),.int .i64 (y.f 1),.int .i64 (y.f 2),.int .i64 (y.f 3),.int .i64 (y.f 4),.int .i64 (y.f 5),.int .i64 (y.f 6),.int .i64 (y.f 7),.slice y.a y.l.length y.cap] w):Ent w (some ⟨b,0,none⟩) 1 [y]:=⟨by simp,by omega,fun j v hj=>by
  match j,hj with
  | 0,hj =>
   simp at hj
   subst hj
   exact ⟨b,0,rfl,fun r x hr=>by simp only [Nat.zero_mul,Nat.zero_add]; rw [h.cell,← hr,List.getElem?_toArray]; rfl⟩⟩
theorem HP_snoc (es:List E) (x:E):absE (es ++ [x])=absE es ++ [x.abs]:=by simp [absE]
def segE (xs:List H) (n m:Nat):List K:=((xs.drop n).take m).map fun h=>h.e.abs
theorem seg_succ {xs:List H} {n m:Nat} {x:H} (hx:xs[n + m]?=some x):segE xs n (m + 1)=segE xs n m ++ [x.e.abs]:=by
 unfold segE
 rw [List.take_add_one,List.getElem?_drop,hx]
 simp
def forK (X:List HK) (node:Int):List K:=(X.filter fun h=>decide (h.node=node)).map HK.k
theorem for_seg {xs:List H} (hs:SorH H.nk xs) {node:Int} {n m:Nat} (hf:Fnd xs (node,⟨#[]⟩) n) (hd:∀ i z,n≤i→i < n + m→xs[i]?=some z→z.node=node) (he:∀ z,xs[n + m]?=some z→z.node ≠ node):segE xs n m=forK (absH xs) node:=by
 have h1:∀ z ∈ xs.take n,(decide (z.node=node))=false:=fun z hz=>by
  obtain ⟨i,hi⟩:=List.getElem?_of_mem hz
  obtain ⟨hl,-⟩:=List.getElem?_eq_some_iff.1 hi
  rw [List.length_take] at hl
  rw [List.getElem?_take_of_lt (by omega)] at hi
  have:=hf.lo i z (by omega) hi
  rw [plt_iff] at this
  rcases this with h | ⟨-,h⟩
  ·have h:z.node < node:=h
   exact decide_eq_false (by omega)
  ·have e:blt z.e.key ⟨#[]⟩=false:=by
    unfold blt
    show bytesBefore _ []=false
    cases kb z.e.key <;> rfl
   have h:blt z.e.key ⟨#[]⟩=true:=h
   rw [e] at h
   cases h
 have h2:∀ z ∈ (xs.drop n).take m,decide (z.node=node)=true:=fun z hz=>by
  obtain ⟨i,hi⟩:=List.getElem?_of_mem hz
  obtain ⟨hl,-⟩:=List.getElem?_eq_some_iff.1 hi
  rw [List.length_take] at hl
  rw [List.getElem?_take_of_lt (by omega),List.getElem?_drop] at hi
  exact decide_eq_true (hd (n + i) z (by omega) (by omega) hi)
 have h3:∀ z ∈ (xs.drop n).drop m,decide (z.node=node)=false:=fun z hz=>by
  obtain ⟨i,hi⟩:=List.getElem?_of_mem hz
  rw [List.getElem?_drop,List.getElem?_drop] at hi
  obtain ⟨hl,ez⟩:=List.getElem?_eq_some_iff.1 hi
  have hy:xs[n + m]?=some (xs[n + m]'(by omega)):=List.getElem?_eq_getElem _
  have g1:=hf.hi (n + m) _ (by omega) hy
  have g2:=he _ hy
  have g3:node < (xs[n + m]'(by omega)).node:=by
   rw [← Bool.not_eq_true,plt_iff] at g1
   have:¬ (xs[n + m]'(by omega)).node < node:=fun h=>g1 (.inl h)
   omega
  have g4:(xs[n + m]'(by omega)).node≤z.node:=by
   by_cases e:i=0
   ·subst e
    rw [← ez]
    exact Int.le_refl _
   ·have:=List.pairwise_iff_getElem.1 hs (n + m) (n + (m + i)) (by omega) hl (by omega)
    rw [ez,plt_iff] at this
    rcases this with h | ⟨h,-⟩
    ·have h:(xs[n + m]'(by omega)).node < z.node:=h
     omega
    ·have h:(xs[n + m]'(by omega)).node=z.node:=h
     omega
  exact decide_eq_false (by omega)
 have hsp:xs=xs.take n ++ ((xs.drop n).take m ++ (xs.drop n).drop m):=by rw [List.take_append_drop,List.take_append_drop]
 unfold forK segE absH
 rw [List.filter_map,List.map_map]
 have:xs.filter ((fun h:HK=>decide (h.node=node)) ∘ H.abs)=(xs.drop n).take m:=by
  conv=>lhs; rw [hsp]
  rw [List.filter_append,List.filter_append]
  have f1:(xs.take n).filter ((fun h:HK=>decide (h.node=node)) ∘ H.abs)=[]:=List.filter_eq_nil_iff.2 (fun z hz e=>by rw [show ((fun h:HK=>decide (h.node=node)) ∘ H.abs) z=decide (z.node=node) from rfl,h1 z hz] at e; cases e)
  have f2:((xs.drop n).take m).filter ((fun h:HK=>decide (h.node=node)) ∘ H.abs)=(xs.drop n).take m:=List.filter_eq_self.2 (fun z hz=>h2 z hz)
  have f3:((xs.drop n).drop m).filter ((fun h:HK=>decide (h.node=node)) ∘ H.abs)=[]:=List.filter_eq_nil_iff.2 (fun z hz e=>by rw [show ((fun h:HK=>decide (h.node=node)) ∘ H.abs) z=decide (z.node=node) from rfl,h3 z hz] at e; cases e)
  rw [f1,f2,f3]
  simp
 rw [this]
 rfl
set_option maxRecDepth 100000 in
set_option maxHeartbeats 2000000 in
theorem hfor_any (D:Nat→Prop) (p:Nat) (xs:List H) (node:Int) (w:World) (S:HSt D p xs w) :
  Calls Tryz.prog 131 #[.pointer (some ⟨p,0,none⟩),.int .i64 node] w fun e w'=>∃ (a:Option Addr) (c:Nat) (ys:List E),e=.returned (.slice a ys.length c)∧absE ys=forK (absH xs) node∧OwnG 68 10 ecs w' a c ys∧(∀ y ∈ ys,Row w' y.a y.cap y.l)∧(∀ y ∈ ys,Ter (fun c=>w.heap.size≤c) y.a y.l)∧(∀ c,blk a=some c→w.heap.size≤c)∧Off (fun _=>False) w w':=by
 have hq:=eql_set
 have HST:Hid _:=S
 have hfew:=S.few
 clear S
 go_enter Tryz.func131,Tryz.ntmps131
 go_wp2_with fail
 refine (hfind_any D p xs node ⟨#[]⟩ w HST.out).mono ?_
 rintro e w2 ⟨n,rfl,hfn,o2⟩
 generalize isAt xs (node,⟨#[]⟩) n=b
 have HO2:Hid _:=o2
 have hnl:=hfn.le
 have HFN:Hid _:=hfn
 obtain ⟨a,cap,hcp,how,-,-⟩:=HST.out.is
 have c0:w2.cell? ⟨p,0,none⟩=some (.slice a xs.length cap):=(hcp.off o2 (fun h=>h)).cell 0
 have hlc:=how.hns.len
 have HOW:Hid _:=how
 clear hfn o2
 obtain ⟨k,hk⟩:∃ k,k=xs.length - n:=⟨_,rfl⟩
 have HK:Hid (n + k=xs.length):=by show _=_; omega
 obtain ⟨a2,o,hsl,hso⟩:∃ a2 o,(∀ W,(Instr.slice 36 (.slice a xs.length cap) (some (.int .i64 (n:Int))) none none).run Tryz.prog W=.ok (.slice a2 k (cap - n)) W)∧∀ g,a=some ⟨g,0,none⟩→0 < k→a2=some ⟨g,o,none⟩∧o=n * 11:=by
  cases a with
  | none =>
   have h0:=how.nn rfl
   have h1:=how.zero rfl
   subst h1
   refine ⟨none,0,fun W=>?_,fun g hg=>by cases hg⟩
   rw [h0] at hnl hk ⊢
   simp at hnl
   subst hnl
   rw [hk]
   go_simp
  | some ad =>
   obtain ⟨g,cur,eg,-⟩:=how.cel (by simp)
   simp only [Option.some.injEq] at eg
   subst eg
   obtain ⟨o,h1,h2⟩:=sll g xs.length cap n (n:Int) rfl hnl
   rw [← hk] at h1
   exact ⟨some ⟨g,o,none⟩,o,h1,fun g' hg' hk0=>by simp at hg'; subst hg'; exact ⟨rfl,h2 (by omega)⟩⟩
 have HSO:Hid _:=hso
 clear hso hcp how hk
 go_wp2_with fail
 clear c0 hsl
 go_loopw [7,25] (fun y z wr=>∃ (m:Nat) (to:Option Addr) (co:Nat) (ys:List E),y=.slice to ys.length co∧z=.int .i64 (m:Int)∧m≤k∧absE ys=segE xs n m∧(∀ i z,n≤i→i < n + m→xs[i]?=some z→z.node=node)∧OwnG 68 10 ecs wr to co ys∧(∀ z ∈ ys,Row wr z.a z.cap z.l)∧(∀ z ∈ ys,Ter (fun c=>w.heap.size≤c) z.a z.l)∧(∀ z ∈ ys,Ter (fun c=>blk to ≠ some c) z.a z.l)∧(∀ c,blk to=some c→w.heap.size≤c)∧Off (fun _=>False) w wr) (fun _ z _=>(k - intOf z).toNat)
 case atStart=>exact ⟨0,none,0,[],rfl,rfl,by omega,rfl,fun i z h1 h2=>by omega,OwnG.nil _ _ _ _,fun z hz=>by simp at hz,fun z hz=>by simp at hz,fun z hz=>by simp at hz,fun c hc=>by simp [blk] at hc,HO2.out⟩
 case round =>
  obtain ⟨m,to,co,ys,rfl,rfl,hm,hys,hnd,hog,hrw,htr,hap,hnw,O⟩:=hrel
  have HYS:Hid _:=hys
  have HYL:Hid (ys.length≤64):=by have:=congrArg List.length hys; simp [absE,segE] at this; show _≤_; omega
  have HND:Hid _:=hnd
  have HOG:Hid _:=hog
  have HRW:Hid _:=hrw
  have HTR:Hid _:=htr
  have HAP:Hid _:=hap
  have HNW:Hid _:=hnw
  have HO:Hid _:=O
  clear hys hnd hog hrw htr hap hnw O
  by_cases hlt:m < k
  ·have e1:decide ((m:Int) < (k:Int))=true:=decide_eq_true (by omega)
   have e2:decide (m < k)=true:=decide_eq_true hlt
   have hlx:n + m < xs.length:=by have:=HK.out; omega
   obtain ⟨x,hx⟩:∃ x,xs[n + m]?=some x:=⟨_,List.getElem?_eq_getElem hlx⟩
   have hxm:=List.mem_of_getElem? hx
   obtain ⟨g,eg,hat⟩:=(HOW.out.off HO.out (fun _ _ _ h=>h)).atH hx
   have hat2:AtH wr g (o + m * 11) x:=by rw [(HSO.out g eg (by omega)).2,show n * 11 + m * 11=(n + m) * 11 by omega]; exact hat
   have hao:=(HSO.out g eg (by omega)).1
   subst hao
   obtain ⟨k0,k1,k2,k3,k4,k5,k6,k7,k8,k9,k10⟩:=hat2.cells
   have hix:=idx_hins hlt
   have HRX:Hid _:=(HST.out.row x hxm).off HO.out
   have HXL:Hid (x.e.l.length≤1000):=by have:=HST.out.ok.len16 x hxm; show _≤_; omega
   clear hat hat2 hxm eg
   go_upto_region 8 with fail
   have Cq5:=Cel.new wr 75 #[.int .i64 x.node,.string x.e.key,.int .i64 (x.e.f 0),.int .i64 (x.e.f 1),.int .i64 (x.e.f 2),.int .i64 (x.e.f 3),.int .i64 (x.e.f 4),.int .i64 (x.e.f 5),.int .i64 (x.e.f 6),.int .i64 (x.e.f 7),.slice x.e.a x.e.l.length x.e.cap]
   have OA:Off (fun _=>False) wr (wr.alloc (.cells #[.int .i64 x.node,.string x.e.key,.int .i64 (x.e.f 0),.int .i64 (x.e.f 1),.int .i64 (x.e.f 2),.int .i64 (x.e.f 3),.int .i64 (x.e.f 4),.int .i64 (x.e.f 5),.int .i64 (x.e.f 6),.int .i64 (x.e.f 7),.slice x.e.a x.e.l.length x.e.cap] 75)):=(Off.refl _ wr).alloc _
   generalize hq:wr.heap.size=q5 at Cq5 ⊢
   generalize hv:wr.alloc (.cells #[.int .i64 x.node,.string x.e.key,.int .i64 (x.e.f 0),.int .i64 (x.e.f 1),.int .i64 (x.e.f 2),.int .i64 (x.e.f 3),.int .i64 (x.e.f 4),.int .i64 (x.e.f 5),.int .i64 (x.e.f 6),.int .i64 (x.e.f 7),.slice x.e.a x.e.l.length x.e.cap] 75)=V5 at Cq5 OA ⊢
   clear hq hv
   clear k0 k1 k2 k3 k4 k5 k6 k7 k8 k9 k10 hix
   obtain ⟨x0,x1,x2,x3,x4,x5,x6,x7,x8,x9,x10⟩:=cel11 Cq5
   have HO5:Hid _:=HO.out.trans OA (fun _ _ h=>h)
   have HR5:Hid _:=HRX.out.off OA
   have HOA:Hid _:=OA
   have HX:Hid _:=hx
   clear OA Cq5 hx
   by_cases hnn:x.node=node
   ·have d1:(x.node != node)=false:=by rw [hnn]; simp
    have HNN:Hid _:=hnn
    clear hnn
    go_wp2_with fail
    clear x0 x1 x2 x3 x4 x5 x6 x7 x8 x9 x10
    refine (centry_any x.e.key x.e.f x.e.a x.e.cap x.e.l V5 HR5.out HXL.out).mono ?_
    rintro e v6 ⟨ya,yc,yl,rfl,hy,ry,ty,o6⟩
    obtain ⟨y,hye⟩:∃ y:E,y=⟨x.e.key,x.e.f,ya,yc,yl⟩:=⟨_,rfl⟩
    have CB:=Cel.new v6 68 #[.string x.e.key,.int .i64 (x.e.f 0),.int .i64 (x.e.f 1),.int .i64 (x.e.f 2),.int .i64 (x.e.f 3),.int .i64 (x.e.f 4),.int .i64 (x.e.f 5),.int .i64 (x.e.f 6),.int .i64 (x.e.f 7),.slice ya yl.length yc]
    have OB:Off (fun _=>False) v6 (v6.alloc (.cells #[.string x.e.key,.int .i64 (x.e.f 0),.int .i64 (x.e.f 1),.int .i64 (x.e.f 2),.int .i64 (x.e.f 3),.int .i64 (x.e.f 4),.int .i64 (x.e.f 5),.int .i64 (x.e.f 6),.int .i64 (x.e.f 7),.slice ya yl.length yc] 68)):=(Off.refl _ v6).alloc _
    have hB:=ent_one (y:=⟨x.e.key,x.e.f,ya,yc,yl⟩) CB
    rw [← hye] at hB
    have O6:=(HOA.out.trans o6 (fun _ _ h=>h)).trans OB (fun _ _ h=>h)
    have own6:=HOG.out.off O6 (fun _ _ _ h=>h)
    have HY:Hid (y.abs=x.e.abs):=by show _=_; rw [hye]; show (⟨x.e.key,x.e.f,cont yl⟩:K)=_; rw [hy]; rfl
    have HRY:Hid (Row (v6.alloc (.cells #[.string x.e.key,.int .i64 (x.e.f 0),.int .i64 (x.e.f 1),.int .i64 (x.e.f 2),.int .i64 (x.e.f 3),.int .i64 (x.e.f 4),.int .i64 (x.e.f 5),.int .i64 (x.e.f 6),.int .i64 (x.e.f 7),.slice ya yl.length yc] 68)) y.a y.cap y.l):=by rw [hye]; exact ry.off OB
    have HTY:Hid (Ter (fun c=>V5.heap.size≤c) y.a y.l):=by rw [hye]; exact ty
    have HO6:Hid _:=O6
    have HYV:Hid _:=CB.lt
    have HV6:Hid (V5.heap.size≤v6.heap.size∧wr.heap.size≤V5.heap.size):=⟨o6.size,HOA.out.size⟩
    have HRB:Hid (Ter (fun c=>c < v6.heap.size) y.a y.l):=by rw [hye]; exact ry.below
    have hyl:=HYL.out
    clear hy ry ty o6 OB O6 CB hye
    go_wp2_with (at_builtin; refine wpList_appE rfl (.tmp 33) (.tmp 37) rfl to co ys rfl own6 _ 1 [y] rfl hB (fun h=>by cases h) (by simp; omega) ?_; intro t' c' w7 zs hzs own' off' at')
    have hzs':=hzs.out
    generalize hv6:v6.alloc (.cells #[.string x.e.key,.int .i64 (x.e.f 0),.int .i64 (x.e.f 1),.int .i64 (x.e.f 2),.int .i64 (x.e.f 3),.int .i64 (x.e.f 4),.int .i64 (x.e.f 5),.int .i64 (x.e.f 6),.int .i64 (x.e.f 7),.slice ya yl.length yc] 68)=v7 at HRY HO6 HYV hB own6 off' at'
    have hsz:=HO6.out.size
    have rows:∀ z ∈ zs,Row w7 z.a z.cap z.l:=fun z hz=>by
      rw [hzs',List.mem_append] at hz
      rcases hz with hz | hz
      ·exact ((HRW.out z hz).off HO6.out).offT (HAP.out z hz) off' (fun c _ hd e=>hd e)
      ·simp at hz
       subst hz
       refine HRY.out.offT HTY.out off' (fun c hc hd e=>?_)
       have:=HOG.out.lt c e
       have:=HV6.out
       omega
    have HLT:Hid (∀ c,blk to=some c→c < wr.heap.size):=fun c e=>HOG.out.lt c e
    go_roundw
    case rel =>
     refine ⟨m + 1,t',c',zs,rfl,by go_num,by omega,?_,fun i z h1 h2 hz=>?_,own',rows,fun z hz=>?_,fun z hz=>?_,fun c hc=>?_,(HO.out.trans HO6.out (fun _ _ h=>h)).trans off' (fun i hi e=>?_)⟩
     ·rw [hzs',HP_snoc,HYS.out,HY.out,seg_succ HX.out]
     ·by_cases e:i=n + m
      ·subst e
       rw [HX.out] at hz
       cases hz
       exact HNN.out
      ·exact HND.out i z h1 (by omega) hz
     ·rw [hzs',List.mem_append] at hz
      rcases hz with hz | hz
      ·exact HTR.out z hz
      ·simp at hz
       subst hz
       exact HTY.out.mono (fun c hc=>by have:=HV6.out; have:=HO.out.size; omega)
     ·rw [hzs',List.mem_append] at hz
      rcases hz with hz | hz
      ·refine ((HAP.out z hz).and (HRW.out z hz).below).mono (fun c hc e=>?_)
       rcases at' with k | k
       ·rw [k] at e
        exact hc.1 e
       ·rw [k] at e
        simp at e
        have:=HV6.out
        omega
      ·simp at hz
       subst hz
       refine (HTY.out.and HRB.out).mono (fun c hc e=>?_)
       have:=HV6.out
       rcases at' with k | k
       ·rw [k] at e
        have:=HLT.out c e
        omega
       ·rw [k] at e
        simp at e
        have:=HYV.out
        omega
     ·rcases at' with k | k
      ·rw [k] at hc
       exact HNW.out c hc
      ·rw [k] at hc
       simp at hc
       have:=HO.out.size
       omega
     ·have:=HNW.out i e
      omega
    case measure=>simp [intOf]; omega
   ·have d1:(x.node != node)=true:=by simp [hnn]
    have HNN:Hid _:=hnn
    clear hnn
    go_wp2_with fail
    go_ret
    refine ⟨to,co,ys,rfl,?_,HOG.out.off HOA.out (fun _ _ _ h=>h),fun y hy=>(HRW.out y hy).off HOA.out,HTR.out,HNW.out,HO5.out⟩
    rw [HYS.out]
    exact for_seg HST.out.sor HFN.out HND.out (fun z hz=>by rw [HX.out] at hz; cases hz; exact HNN.out)
  ·obtain rfl:m=k:=by omega
   have e1:decide ((m:Int) < (m:Int))=false:=decide_eq_false (by omega)
   have e2:decide (m < m)=false:=decide_eq_false (by omega)
   go_wp2_with fail
   go_ret
   refine ⟨to,co,ys,rfl,?_,HOG.out,HRW.out,HTR.out,HNW.out,HO.out⟩
   rw [HYS.out]
   exact for_seg HST.out.sor HFN.out HND.out (fun z hz=>by have:=HK.out; rw [List.getElem?_eq_none (by omega)] at hz; cases hz)
end Go.Proofs.YthjbnpaghiojlaaGreat
