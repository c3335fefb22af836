/- Items of several texts. -/
import Derived.Test.YthjbnpaghiojlaaGreatKHdr
namespace Go.Proofs.YthjbnpaghiojlaaGreat
open Go.RowKit
theorem hns_one {w:World} {b:Nat} {y:H} (h:Cel b 75 #[.int .i64 y.node,.string y.e.key,.int .i64 (y.e.f 0),.int .i64 (y.e.f 1),.int .i64 (y.e.f 2),.int .i64 (y.e.f 3),.int .i64 (y.e.f 4),.int .i64 (y.e.f 5),.int .i64 (y.e.f 6),.int .i64 (y.e.f 7),.slice y.e.a y.e.l.length y.e.cap] w):Hns w (some ⟨b,0,none⟩) 1 [y]:=⟨by simp,by omega,fun j v hj=>by
  match j,hj with
  | 0,hj =>
   simp at hj
   subst hj
   exact ⟨b,0,rfl,⟨fun r x hr=>by simp only [Nat.zero_mul,Nat.zero_add]; rw [h.cell,← hr,List.getElem?_toArray]; rfl⟩⟩⟩
theorem absH_snoc (es:List H) (x:H):absH (es ++ [x])=absH es ++ [x.abs]:=by simp [absH]
theorem absH_take_succ {xs:List H} {n:Nat} {x:H} (hx:xs[n]?=some x):absH (xs.take (n + 1))=absH (xs.take n) ++ [x.abs]:=by
 rw [List.take_add_one,hx]
 simp [absH]
set_option maxRecDepth 100000 in
set_option maxHeartbeats 2000000 in
theorem hall_any (D:Nat→Prop) (p:Nat) (xs:List H) (w:World) (S:HSt D p xs w) :
  Calls Tryz.prog 81 #[.pointer (some ⟨p,0,none⟩)] w fun e w'=>∃ (a:Option Addr) (c:Nat) (ys:List H),e=.returned (.slice a ys.length c)∧absH ys=absH xs∧OwnG 75 11 hcs w' a c ys∧(∀ y ∈ ys,Row w' y.e.a y.e.cap y.e.l)∧(∀ y ∈ ys,Ter (fun c=>w.heap.size≤c) y.e.a y.e.l)∧(∀ c,blk a=some c→w.heap.size≤c)∧Off (fun _=>False) w w':=by
 have hq:=eql_set
 have HST:Hid _:=S
 have hfew:=S.few
 obtain ⟨a,cap,hcp,how,-,-⟩:=S.is
 have c0:w.cell? ⟨p,0,none⟩=some (.slice a xs.length cap):=hcp.cell 0
 have HOW:Hid _:=how
 clear hcp how S
 go_enter Tryz.func81,Tryz.ntmps81
 go_wp2_with fail
 clear c0
 go_loopw [3,13] (fun y z wr=>∃ (n:Nat) (to:Option Addr) (co:Nat) (ys:List H),y=.slice to ys.length co∧z=.int .i64 (n:Int)∧n≤xs.length∧absH ys=absH (xs.take n)∧OwnG 75 11 hcs wr to co ys∧(∀ z ∈ ys,Row wr z.e.a z.e.cap z.e.l)∧(∀ z ∈ ys,Ter (fun c=>w.heap.size≤c) z.e.a z.e.l)∧(∀ z ∈ ys,Ter (fun c=>blk to ≠ some c) z.e.a z.e.l)∧(∀ c,blk to=some c→w.heap.size≤c)∧Off (fun _=>False) w wr) (fun _ z _=>(xs.length - intOf z).toNat)
 case atStart=>exact ⟨0,none,0,[],rfl,rfl,by omega,rfl,OwnG.nil _ _ _ _,fun z hz=>by simp at hz,fun z hz=>by simp at hz,fun z hz=>by simp at hz,fun c hc=>by simp [blk] at hc,Off.refl _ w⟩
 case round =>
  obtain ⟨n,to,co,ys,rfl,rfl,hn,hys,hog,hrw,htr,hap,hnw,O⟩:=hrel
  have HYS:Hid _:=hys
  have HYL:Hid (ys.length≤64):=by have:=congrArg List.length hys; rw [absH_len,absH_len,List.length_take] at this; show _≤_; omega
  have HOG:Hid _:=hog
  have HRW:Hid _:=hrw
  have HTR:Hid _:=htr
  have HAP:Hid _:=hap
  have HNW:Hid _:=hnw
  have HO:Hid _:=O
  clear hys hog hrw htr hap hnw O
  by_cases hlt:n < xs.length
  ·have e1:decide ((n:Int) < (xs.length:Int))=true:=decide_eq_true (by omega)
   have e2:decide (n < xs.length)=true:=decide_eq_true hlt
   obtain ⟨x,hx⟩:∃ x,xs[n]?=some x:=⟨_,List.getElem?_eq_getElem hlt⟩
   have hxm:=List.mem_of_getElem? hx
   obtain ⟨g,rfl,hat⟩:=(HOW.out.off HO.out (fun _ _ _ h=>h)).atH hx
   obtain ⟨k0,k1,k2,k3,k4,k5,k6,k7,k8,k9,k10⟩:=hat.cells
   have hix:=idx_hin hlt
   have HRX:Hid _:=(HST.out.row x hxm).off HO.out
   have HXL:Hid (x.e.l.length≤1000):=by have:=HST.out.ok.len16 x hxm; show _≤_; omega
   clear hat hxm
   go_upto_region 7 with fail
   have Cq5:=Cel.new wr 75 #[.int .i64 x.node,.string x.e.key,.int .i64 (x.e.f 0),.int .i64 (x.e.f 1),.int .i64 (x.e.f 2),.int .i64 (x.e.f 3),.int .i64 (x.e.f 4),.int .i64 (x.e.f 5),.int .i64 (x.e.f 6),.int .i64 (x.e.f 7),.slice x.e.a x.e.l.length x.e.cap]
   have OA:Off (fun _=>False) wr (wr.alloc (.cells #[.int .i64 x.node,.string x.e.key,.int .i64 (x.e.f 0),.int .i64 (x.e.f 1),.int .i64 (x.e.f 2),.int .i64 (x.e.f 3),.int .i64 (x.e.f 4),.int .i64 (x.e.f 5),.int .i64 (x.e.f 6),.int .i64 (x.e.f 7),.slice x.e.a x.e.l.length x.e.cap] 75)):=(Off.refl _ wr).alloc _
   generalize hq:wr.heap.size=q5 at Cq5 ⊢
   generalize hv:wr.alloc (.cells #[.int .i64 x.node,.string x.e.key,.int .i64 (x.e.f 0),.int .i64 (x.e.f 1),.int .i64 (x.e.f 2),.int .i64 (x.e.f 3),.int .i64 (x.e.f 4),.int .i64 (x.e.f 5),.int .i64 (x.e.f 6),.int .i64 (x.e.f 7),.slice x.e.a x.e.l.length x.e.cap] 75)=V5 at Cq5 OA ⊢
   clear hq hv
   clear k0 k1 k2 k3 k4 k5 k6 k7 k8 k9 k10 hix
   obtain ⟨x0,x1,x2,x3,x4,x5,x6,x7,x8,x9,x10⟩:=cel11 Cq5
   have HO5:Hid _:=HO.out.trans OA (fun _ _ h=>h)
   have HR5:Hid _:=HRX.out.off OA
   have HOA:Hid _:=OA
   clear OA Cq5
   go_wp2_with fail
   clear x0 x1 x2 x3 x4 x5 x6 x7 x8 x9 x10
   refine (chint_any x V5 HR5.out HXL.out).mono ?_
   rintro e v6 ⟨y,rfl,hy,ry,ty,o6⟩
   have CB:=Cel.new v6 75 #[.int .i64 y.node,.string y.e.key,.int .i64 (y.e.f 0),.int .i64 (y.e.f 1),.int .i64 (y.e.f 2),.int .i64 (y.e.f 3),.int .i64 (y.e.f 4),.int .i64 (y.e.f 5),.int .i64 (y.e.f 6),.int .i64 (y.e.f 7),.slice y.e.a y.e.l.length y.e.cap]
   have OB:Off (fun _=>False) v6 (v6.alloc (.cells #[.int .i64 y.node,.string y.e.key,.int .i64 (y.e.f 0),.int .i64 (y.e.f 1),.int .i64 (y.e.f 2),.int .i64 (y.e.f 3),.int .i64 (y.e.f 4),.int .i64 (y.e.f 5),.int .i64 (y.e.f 6),.int .i64 (y.e.f 7),.slice y.e.a y.e.l.length y.e.cap] 75)):=(Off.refl _ v6).alloc _
   have hB:Hns (v6.alloc (.cells #[.int .i64 y.node,.string y.e.key,.int .i64 (y.e.f 0),.int .i64 (y.e.f 1),.int .i64 (y.e.f 2),.int .i64 (y.e.f 3),.int .i64 (y.e.f 4),.int .i64 (y.e.f 5),.int .i64 (y.e.f 6),.int .i64 (y.e.f 7),.slice y.e.a y.e.l.length y.e.cap] 75)) (some ⟨v6.heap.size,0,none⟩) 1 [y]:=hns_one CB
   have O6:=(HOA.out.trans o6 (fun _ _ h=>h)).trans OB (fun _ _ h=>h)
   have own6:=HOG.out.off O6 (fun _ _ _ h=>h)
   have HY:Hid _:=hy
   have HRY:Hid _:=ry.off OB
   have HTY:Hid _:=ty
   have HO6:Hid _:=O6
   have HYV:Hid (v6.heap.size < (v6.alloc (.cells #[.int .i64 y.node,.string y.e.key,.int .i64 (y.e.f 0),.int .i64 (y.e.f 1),.int .i64 (y.e.f 2),.int .i64 (y.e.f 3),.int .i64 (y.e.f 4),.int .i64 (y.e.f 5),.int .i64 (y.e.f 6),.int .i64 (y.e.f 7),.slice y.e.a y.e.l.length y.e.cap] 75)).heap.size):=CB.lt
   have HV6:Hid (V5.heap.size≤v6.heap.size∧wr.heap.size≤V5.heap.size):=⟨o6.size,HOA.out.size⟩
   have HRB:Hid _:=ry.below
   have hyl:=HYL.out
   clear hy ry ty o6 OB O6 CB
   go_wp2_with (at_builtin; refine wpList_appH rfl (.tmp 17) (.tmp 20) rfl to co ys rfl own6 _ 1 [y] rfl hB (fun h=>by cases h) (by simp; omega) ?_; intro t' c' w7 zs hzs own' off' at')
   have hzs':=hzs.out
   generalize hv6:v6.alloc (.cells #[.int .i64 y.node,.string y.e.key,.int .i64 (y.e.f 0),.int .i64 (y.e.f 1),.int .i64 (y.e.f 2),.int .i64 (y.e.f 3),.int .i64 (y.e.f 4),.int .i64 (y.e.f 5),.int .i64 (y.e.f 6),.int .i64 (y.e.f 7),.slice y.e.a y.e.l.length y.e.cap] 75)=v7 at HRY HO6 HYV hB own6 off' at'
   have hsz:=HO6.out.size
   have rows:∀ z ∈ zs,Row w7 z.e.a z.e.cap z.e.l:=fun z hz=>by
     rw [hzs',List.mem_append] at hz
     rcases hz with hz | hz
     ·exact ((HRW.out z hz).off HO6.out).offT (HAP.out z hz) off' (fun c _ hd e=>hd e)
     ·simp at hz
      subst hz
      refine HRY.out.offT HTY.out off' (fun c hc hd e=>?_)
      have:=HOG.out.lt c e
      have:=HV6.out
      omega
   have HLT:Hid (∀ c,blk to=some c→c < wr.heap.size):=fun c e=>HOG.out.lt c e
   go_roundw
   case rel =>
    refine ⟨n + 1,t',c',zs,rfl,by go_num,by omega,?_,own',rows,fun z hz=>?_,fun z hz=>?_,fun c hc=>?_,(HO.out.trans HO6.out (fun _ _ h=>h)).trans off' (fun i hi e=>?_)⟩
    ·rw [hzs',absH_snoc,HYS.out,HY.out,← absH_take_succ hx]
    ·rw [hzs',List.mem_append] at hz
     rcases hz with hz | hz
     ·exact HTR.out z hz
     ·simp at hz
      subst hz
      exact HTY.out.mono (fun c hc=>by have:=HV6.out; have:=HO.out.size; omega)
    ·rw [hzs',List.mem_append] at hz
     rcases hz with hz | hz
     ·refine ((HAP.out z hz).and (HRW.out z hz).below).mono (fun c hc e=>?_)
      rcases at' with k | k
      ·rw [k] at e
       exact hc.1 e
      ·rw [k] at e
       simp at e
       have:=HV6.out
       omega
     ·simp at hz
      subst hz
      refine (HTY.out.and HRB.out).mono (fun c hc e=>?_)
      have:=HV6.out
      rcases at' with k | k
      ·rw [k] at e
       have:=HLT.out c e
       omega
      ·rw [k] at e
       simp at e
       have:=HYV.out
       omega
    ·rcases at' with k | k
     ·rw [k] at hc
      exact HNW.out c hc
     ·rw [k] at hc
      simp at hc
      have:=HO.out.size
      omega
    ·have:=HNW.out i e
     omega
   case measure=>simp [intOf]; omega
  ·obtain rfl:n=xs.length:=by omega
   have e1:decide ((xs.length:Int) < (xs.length:Int))=false:=decide_eq_false (by omega)
   have e2:decide (xs.length < xs.length)=false:=decide_eq_false (by omega)
   go_wp2_with fail
   go_ret
   refine ⟨to,co,ys,rfl,?_,HOG.out,HRW.out,HTR.out,HNW.out,HO.out⟩
   rw [HYS.out,List.take_length]
end Go.Proofs.YthjbnpaghiojlaaGreat
