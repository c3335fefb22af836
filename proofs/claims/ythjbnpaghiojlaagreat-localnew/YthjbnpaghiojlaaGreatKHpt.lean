/- Items of several texts. -/
import Derived.Lib.Bytealg
import Derived.Test.YthjbnpaghiojlaaGreatKJoi
import Derived.Test.YthjbnpaghiojlaaGreatKSam
import Derived.Test.YthjbnpaghiojlaaGreatKHm
import Derived.Test.YthjbnpaghiojlaaGreatKDel
import Derived.Test.YthjbnpaghiojlaaGreatKCph
namespace Go.Proofs.YthjbnpaghiojlaaGreat
open Go.RowKit
theorem cmpB_lt:∀ (a b:List UInt8),Lib.compareBytes a b < 0↔bytesBefore a b=true
 | [],[]=>by simp [Lib.compareBytes,bytesBefore]
 | [],_ :: _=>by simp [Lib.compareBytes,bytesBefore]
 | _ :: _,[]=>by simp [Lib.compareBytes,bytesBefore]
 | a :: r,b :: s=>by
  unfold Lib.compareBytes bytesBefore
  have ih:=cmpB_lt r s
  by_cases h1:a < b
  ·simp [h1]
  ·by_cases h2:b < a
   ·have h3:a ≠ b:=fun e=>by subst e; exact absurd h2 h1
    simp [h1,h2,h3]
   ·have h3:a=b:=by
     rcases UInt8.lt_or_lt_of_ne (a:=a) (b:=b) |> fun _=>Classical.em (a=b) with e | e
     ·exact e
     ·rcases UInt8.lt_or_lt_of_ne e with h | h
      ·exact absurd h h1
      ·exact absurd h h2
    subst h3
    simp [h1,ih]
theorem cmpB_eq:∀ (a b:List UInt8),Lib.compareBytes a b=0↔a=b
 | [],[]=>by simp [Lib.compareBytes]
 | [],_ :: _=>by simp [Lib.compareBytes]
 | _ :: _,[]=>by simp [Lib.compareBytes]
 | a :: r,b :: s=>by
  unfold Lib.compareBytes
  have ih:=cmpB_eq r s
  by_cases h1:a < b
  ·have h3:a ≠ b:=fun e=>by subst e; exact absurd h1 (by simp)
   simp [h1,h3]
  ·by_cases h2:b < a
   ·have h3:a ≠ b:=fun e=>by subst e; exact absurd h2 h1
    simp [h1,h2,h3]
   ·have h3:a=b:=by
     rcases Classical.em (a=b) with e | e
     ·exact e
     ·rcases UInt8.lt_or_lt_of_ne e with h | h
      ·exact absurd h h1
      ·exact absurd h h2
    subst h3
    simp [h1,ih]
theorem cmpB_abs:∀ (a b:List UInt8),-1≤Lib.compareBytes a b∧Lib.compareBytes a b≤1
 | [],[]=>by simp [Lib.compareBytes]
 | [],_ :: _=>by simp [Lib.compareBytes]
 | _ :: _,[]=>by simp [Lib.compareBytes]
 | a :: r,b :: s=>by
  unfold Lib.compareBytes
  have ih:=cmpB_abs r s
  split
  ·omega
  ·split
   ·omega
   ·exact ih
set_option maxHeartbeats 1000000 in
set_option maxRecDepth 100000 in
theorem cstr_any (a b:ByteArray) (w:World):Calls Tryz.prog 226 #[.string a,.string b] w fun e w'=>e=.returned (.int .i64 (Lib.compareBytes a.data.toList b.data.toList))∧w'=w:=by
 go_enter Tryz.func226,Tryz.ntmps226
 go_wp2
 rw [run_callFunc_extern Tryz.func242 (by kernel_rfl) (by kernel_rfl) (by kernel_rfl) (e:=Extern.BytealgCompare.compare) (by kernel_rfl),Lib.run_compareString]
 simp only [Result.andThen]
 rw [Oper.upon_value]
 go_wp2
 go_ret
 exact ⟨rfl,rfl⟩
theorem scompare_any (a b:ByteArray) (w:World):Calls Tryz.prog 205 #[.string a,.string b] w fun e w'=>∃ r:Int,e=.returned (.int .i64 r)∧(r < 0↔blt a b=true)∧(r=0↔a=b)∧-1≤r∧r≤1∧w'=w:=by
 go_enter Tryz.func205,Tryz.ntmps205
 go_wp2_with fail
 refine (cstr_any a b w).mono ?_
 rintro e w' ⟨rfl,hw⟩
 rw [hw]
 clear hw w'
 go_wp2_with fail
 go_ret
 refine ⟨_,rfl,cmpB_lt _ _,(cmpB_eq _ _).trans ⟨fun h=>kb_inj h,fun h=>by rw [h]⟩,(cmpB_abs _ _).1,(cmpB_abs _ _).2,rfl⟩
theorem cmpint_any (x y:Int) (w:World):Calls Tryz.prog 204 #[.int .i64 x,.int .i64 y] w fun e w'=>∃ r:Int,e=.returned (.int .i64 r)∧(r < 0↔x < y)∧(r=0↔x=y)∧-1≤r∧r≤1∧w'=w:=by
 rcases Int.lt_trichotomy x y with h | h | h
 ·have d1:decide (x < y)=true:=decide_eq_true h
  go_enter Tryz.func204,Tryz.ntmps204
  go_wp2
  go_ret
  exact ⟨-1,rfl,by omega,by omega,by omega,by omega,rfl⟩
 ·subst h
  have d1:decide (x < x)=false:=decide_eq_false (by omega)
  go_enter Tryz.func204,Tryz.ntmps204
  go_wp2
  go_ret
  exact ⟨0,rfl,by simp,by simp,by omega,by omega,rfl⟩
 ·have d1:decide (x < y)=false:=decide_eq_false (by omega)
  have d2:decide (y < x)=true:=decide_eq_true h
  go_enter Tryz.func204,Tryz.ntmps204
  go_wp2
  go_ret
  exact ⟨1,rfl,by omega,by omega,by omega,by omega,rfl⟩
structure Cmp (x:NK) (k:NK) (r:Int):Prop where
 lt:r < 0↔plt x k=true
 eq:r=0↔x=k
 lo:-1≤r
 hi:r≤1
set_option maxHeartbeats 1000000 in
set_option maxRecDepth 100000 in
theorem cmp_any (x:H) (node:Int) (key:ByteArray) (q:Nat) (w:World) (hq:Cel q 9 #[.string key] w) :
  Calls Tryz.prog 203 #[(.agg #[.int .i64 x.node,.string x.e.key,.int .i64 (x.e.f 0),.int .i64 (x.e.f 1),.int .i64 (x.e.f 2),.int .i64 (x.e.f 3),.int .i64 (x.e.f 4),.int .i64 (x.e.f 5),.int .i64 (x.e.f 6),.int .i64 (x.e.f 7),.slice x.e.a x.e.l.length x.e.cap]),.int .i64 node,.pointer (some ⟨q,0,none⟩)] w fun e w'=>∃ r:Int,e=.returned (.int .i64 r)∧Cmp x.nk (node,key) r∧Off (fun _=>False) w w':=by
 have C:=Cel.new w 75 #[.int .i64 x.node,.string x.e.key,.int .i64 (x.e.f 0),.int .i64 (x.e.f 1),.int .i64 (x.e.f 2),.int .i64 (x.e.f 3),.int .i64 (x.e.f 4),.int .i64 (x.e.f 5),.int .i64 (x.e.f 6),.int .i64 (x.e.f 7),.slice x.e.a x.e.l.length x.e.cap]
 have O:Off (fun _=>False) w (w.alloc (.cells #[.int .i64 x.node,.string x.e.key,.int .i64 (x.e.f 0),.int .i64 (x.e.f 1),.int .i64 (x.e.f 2),.int .i64 (x.e.f 3),.int .i64 (x.e.f 4),.int .i64 (x.e.f 5),.int .i64 (x.e.f 6),.int .i64 (x.e.f 7),.slice x.e.a x.e.l.length x.e.cap] 75)):=(Off.refl _ w).alloc _
 go_enter Tryz.func203,Tryz.ntmps203
 go_upto_region 1 with fail
 generalize hqq:w.heap.size=q1 at C ⊢
 generalize hv:w.alloc (.cells #[.int .i64 x.node,.string x.e.key,.int .i64 (x.e.f 0),.int .i64 (x.e.f 1),.int .i64 (x.e.f 2),.int .i64 (x.e.f 3),.int .i64 (x.e.f 4),.int .i64 (x.e.f 5),.int .i64 (x.e.f 6),.int .i64 (x.e.f 7),.slice x.e.a x.e.l.length x.e.cap] 75)=V at C O ⊢
 clear hqq hv
 obtain ⟨x0,x1,x2,x3,x4,x5,x6,x7,x8,x9,x10⟩:=cel11 C
 have y0:V.cell? ⟨q,0,none⟩=some (.string key):=(hq.off O (fun h=>h)).cell 0
 have HO:Hid _:=O
 clear hq C O
 by_cases hn:x.node=node
 ·have d1:(x.node != node)=false:=by rw [hn]; simp
  have HN:Hid _:=hn
  clear hn
  go_wp2_with fail
  refine (scompare_any x.e.key key _).mono ?_
  rintro e w' ⟨r,rfl,h1,h2,h3,h4,hw⟩
  rw [hw]
  clear hw w'
  have HR:Hid (Cmp x.nk (node,key) r):=⟨by rw [h1,plt_iff]; show _↔x.node < node∨x.node=node∧blt x.e.key key=true; have:=HN.out; constructor <;> intro h; exact .inr ⟨this,h⟩; rcases h with h | h; omega; exact h.2,
   by rw [h2]; show _↔(x.node,x.e.key)=(node,key); rw [Prod.mk.injEq]; exact ⟨fun h=>⟨HN.out,h⟩,fun h=>h.2⟩,h3,h4⟩
  clear h1 h2 h3 h4
  go_wp2_with fail
  go_ret
  exact ⟨r,rfl,HR.out,HO.out⟩
 ·have d1:(x.node != node)=true:=by simp [hn]
  have HN:Hid _:=hn
  clear hn
  go_wp2_with fail
  refine (cmpint_any x.node node _).mono ?_
  rintro e w' ⟨r,rfl,h1,h2,h3,h4,hw⟩
  rw [hw]
  clear hw w'
  have HR:Hid (Cmp x.nk (node,key) r):=⟨by rw [h1,plt_iff]; show _↔x.node < node∨x.node=node∧blt x.e.key key=true; have:=HN.out; constructor <;> intro h; exact .inl h; rcases h with h | h; exact h; exact absurd h.1 this,
   by rw [h2]; show _↔(x.node,x.e.key)=(node,key); rw [Prod.mk.injEq]; exact ⟨fun h=>absurd h HN.out,fun h=>h.1⟩,h3,h4⟩
  clear h1 h2 h3 h4
  go_wp2_with fail
  go_ret
  exact ⟨r,rfl,HR.out,HO.out⟩
structure Fnd (xs:List H) (k:NK) (n:Nat):Prop where
 le:n≤xs.length
 lo:∀ i x,i < n→xs[i]?=some x→plt x.nk k=true
 hi:∀ i x,n≤i→xs[i]?=some x→plt x.nk k=false
def isAt (xs:List H) (k:NK) (n:Nat):Bool:=match xs[n]? with | some x=>smkH x.nk k | none=>false
set_option maxHeartbeats 1000000 in
set_option maxRecDepth 100000 in
theorem bsf_any (a:Option Addr) (cap:Nat) (xs:List H) (node:Int) (key:ByteArray) (q:Nat) (w:World) (own:OwnG 75 11 hcs w a cap xs) (hs:SorH H.nk xs) (hf:xs.length≤64) (hq:Cel q 9 #[.string key] w) :
  Calls Tryz.prog 202 #[.slice a xs.length cap,.int .i64 node,.func (.func 203) #[] #[.pointer (some ⟨q,0,none⟩)]] w fun e w'=>∃ n:Nat,e=.returned (.tuple #[.int .i64 (n:Int),.bool (isAt xs (node,key) n)])∧Fnd xs (node,key) n∧Off (fun _=>False) w w':=by
 have HOW:Hid _:=own
 have HS:Hid _:=hs
 have HQ:Hid _:=hq
 clear own hs hq
 go_enter Tryz.func202,Tryz.ntmps202
 go_wp2_with fail
 go_loopw [9,10] (fun y z wr=>∃ i j:Nat,y=.int .i64 (i:Int)∧z=.int .i64 (j:Int)∧i≤j∧j≤xs.length∧(∀ n x,n < i→xs[n]?=some x→plt x.nk (node,key)=true)∧(∀ n x,j≤n→xs[n]?=some x→plt x.nk (node,key)=false)∧Off (fun _=>False) w wr) (fun y z _=>(intOf z - intOf y).toNat)
 case atStart=>exact ⟨0,xs.length,rfl,rfl,by omega,by omega,fun n x hn=>by omega,fun n x hn hx=>by
  obtain ⟨h,-⟩:=List.getElem?_eq_some_iff.1 hx
  omega,Off.refl _ w⟩
 case round =>
  obtain ⟨i,j,rfl,rfl,hij,hjl,hlo,hhi,O⟩:=hrel
  have HLO:Hid _:=hlo
  have HHI:Hid _:=hhi
  have HO:Hid _:=O
  clear hlo hhi O
  by_cases hlt:i < j
  ·have e1:decide ((i:Int) < (j:Int))=true:=decide_eq_true (by omega)
   have e2:decide (i < j)=true:=decide_eq_true hlt
   obtain ⟨h,hh⟩:∃ h:Nat,h=(i + j) / 2:=⟨_,rfl⟩
   have hhi:((i:Int) + (j:Int)) / 2=(h:Int):=by omega
   have hh1:i≤h:=by omega
   have hh2:h < j:=by omega
   clear hh
   have hhl:h < xs.length:=by omega
   obtain ⟨x,hx⟩:∃ x,xs[h]?=some x:=⟨_,List.getElem?_eq_getElem hhl⟩
   obtain ⟨g,rfl,hat⟩:=(HOW.out.off HO.out (fun _ _ _ h=>h)).atH hx
   obtain ⟨x0,x1,x2,x3,x4,x5,x6,x7,x8,x9,x10⟩:=hat.cells
   have hix:=idx_hin hhl
   clear hat
   go_wp2_with fail
   clear x0 x1 x2 x3 x4 x5 x6 x7 x8 x9 x10 hix
   refine (cmp_any x node key q _ (HQ.out.off HO.out (fun h=>h))).mono ?_
   rintro e w1 ⟨r,rfl,hr,o1⟩
   have HO1:Hid _:=HO.out.trans o1 (fun _ _ h=>h)
   have HX:Hid _:=hx
   clear o1 hx hhi
   by_cases hr0:r < 0
   ·have d1:decide (r < 0)=true:=decide_eq_true hr0
    have HP:Hid _:=hr.lt.1 hr0
    clear hr
    go_wp2_with fail
    go_roundw
    case rel =>
     refine ⟨h + 1,j,by go_num,rfl,by omega,by omega,fun n y hn hy=>?_,HHI.out,HO1.out⟩
     by_cases e:n=h
     ·subst e
      rw [HX.out] at hy
      cases hy
      exact HP.out
     ·obtain ⟨l1,e1⟩:=List.getElem?_eq_some_iff.1 hy
      obtain ⟨l2,e2⟩:=List.getElem?_eq_some_iff.1 HX.out
      have:=List.pairwise_iff_getElem.1 HS.out n h l1 l2 (by omega)
      rw [e1,e2] at this
      exact plt_trans this HP.out
    case measure=>simp [intOf]; omega
   ·have d1:decide (r < 0)=false:=decide_eq_false hr0
    have HP:Hid (plt x.nk (node,key)=false):=by
     show _=false
     rw [← Bool.not_eq_true,← hr.lt]
     exact hr0
    clear hr
    go_wp2_with fail
    go_roundw
    case rel =>
     refine ⟨i,h,rfl,rfl,by omega,by omega,HLO.out,fun n y hn hy=>?_,HO1.out⟩
     by_cases e:n=h
     ·subst e
      rw [HX.out] at hy
      cases hy
      exact HP.out
     ·obtain ⟨l1,e1⟩:=List.getElem?_eq_some_iff.1 hy
      obtain ⟨l2,e2⟩:=List.getElem?_eq_some_iff.1 HX.out
      have:=List.pairwise_iff_getElem.1 HS.out h n l2 l1 (by omega)
      rw [e1,e2] at this
      cases e:plt y.nk (node,key)
      ·rfl
      ·have:=plt_trans this e
       rw [HP.out] at this
       cases this
    case measure=>simp [intOf]; omega
  ·obtain rfl:i=j:=by omega
   have e1:decide ((i:Int) < (i:Int))=false:=decide_eq_false (by omega)
   have e2:decide (i < i)=false:=decide_eq_false (by omega)
   by_cases hil:i < xs.length
   ·have i1:decide ((i:Int) < (xs.length:Int))=true:=decide_eq_true (by omega)
    have i2:decide (i < xs.length)=true:=decide_eq_true hil
    obtain ⟨x,hx⟩:∃ x,xs[i]?=some x:=⟨_,List.getElem?_eq_getElem hil⟩
    obtain ⟨g,rfl,hat⟩:=(HOW.out.off HO.out (fun _ _ _ h=>h)).atH hx
    obtain ⟨x0,x1,x2,x3,x4,x5,x6,x7,x8,x9,x10⟩:=hat.cells
    have hix:=idx_hin hil
    clear hat
    go_wp2_with fail
    clear x0 x1 x2 x3 x4 x5 x6 x7 x8 x9 x10 hix
    refine (cmp_any x node key q _ (HQ.out.off HO.out (fun h=>h))).mono ?_
    rintro e w1 ⟨r,rfl,hr,o1⟩
    have HO1:Hid _:=HO.out.trans o1 (fun _ _ h=>h)
    have HX:Hid _:=hx
    clear o1 hx
    have HB:Hid (isAt xs (node,key) i=decide (r=0)):=by
     show _=_
     unfold isAt
     rw [HX.out]
     show smkH x.nk (node,key)=_
     by_cases e:r=0
     ·rw [decide_eq_true e,smk_iffH]
      exact hr.eq.1 e
     ·rw [decide_eq_false e,smk_noH]
      exact fun h=>e (hr.eq.2 h)
    clear hr
    by_cases hr0:r=0
    ·have d1:(r == 0)=true:=by rw [hr0]; rfl
     have HB1:Hid (isAt xs (node,key) i=true):=by show _=_; rw [HB.out,decide_eq_true hr0]
     clear HB hr0
     go_wp2_with fail
     go_ret2
     exact ⟨i,by rw [HB1.out]; rfl,⟨by omega,HLO.out,HHI.out⟩,HO1.out⟩
    ·have d1:(r == 0)=false:=by rw [beq_eq_false_iff_ne]; exact hr0
     have HB1:Hid (isAt xs (node,key) i=false):=by show _=_; rw [HB.out,decide_eq_false hr0]
     clear HB hr0
     go_wp2_with fail
     go_ret2
     exact ⟨i,by rw [HB1.out]; rfl,⟨by omega,HLO.out,HHI.out⟩,HO1.out⟩
   ·obtain rfl:i=xs.length:=by omega
    have i1:decide ((xs.length:Int) < (xs.length:Int))=false:=decide_eq_false (by omega)
    have i2:decide (xs.length < xs.length)=false:=decide_eq_false (by omega)
    go_wp2_with fail
    go_ret2
    refine ⟨xs.length,?_,⟨Nat.le_refl _,HLO.out,HHI.out⟩,HO.out⟩
    have:isAt xs (node,key) xs.length=false:=by
     unfold isAt
     rw [List.getElem?_eq_none (Nat.le_refl _)]
    rw [this]; rfl
set_option maxHeartbeats 1000000 in
set_option maxRecDepth 100000 in
theorem hfind_any (D:Nat→Prop) (p:Nat) (xs:List H) (node:Int) (key:ByteArray) (w:World) (h:HSt D p xs w) :
  Calls Tryz.prog 162 #[.pointer (some ⟨p,0,none⟩),.int .i64 node,.string key] w fun e w'=>∃ n:Nat,e=.returned (.tuple #[.int .i64 (n:Int),.bool (isAt xs (node,key) n)])∧Fnd xs (node,key) n∧Off (fun _=>False) w w':=by
 have hf:=h.few
 have hs:=h.sor
 obtain ⟨a,cap,h1,h2,-,-⟩:=h.is
 have C:=Cel.new w 9 #[.string key]
 have O:Off (fun _=>False) w (w.alloc (.cells #[.string key] 9)):=(Off.refl _ w).alloc _
 go_enter Tryz.func162,Tryz.ntmps162
 go_upto_region 1 with fail
 generalize hqq:w.heap.size=q at C ⊢
 generalize hv:w.alloc (.cells #[.string key] 9)=V at C O ⊢
 clear hqq hv
 have c0:V.cell? ⟨p,0,none⟩=some (.slice a xs.length cap):=(h1.off O (fun h=>h)).cell 0
 have HC:Hid _:=C
 have HW:Hid _:=h2.off O (fun _ _ _ h=>h)
 have HO:Hid _:=O
 have HS:Hid _:=hs
 clear h h1 h2 C O hs
 go_wp2_with fail
 refine (bsf_any a cap xs node key q _ HW.out HS.out hf HC.out).mono ?_
 rintro e w1 ⟨n,rfl,hfn,o1⟩
 generalize hb:isAt xs (node,key) n=b
 go_wp2_with fail
 go_ret2
 exact ⟨n,by rw [hb]; rfl,hfn,HO.out.trans o1 (fun _ _ h=>h)⟩
end Go.Proofs.YthjbnpaghiojlaaGreat

namespace Go.Proofs.YthjbnpaghiojlaaGreat
open Go.RowKit
theorem spl_mid {l:List Value} {o k n:Nat} {cs:List Value} (h:o≤l.length) (hk:k=o) (hn:n=cs.length):((spl l o cs).drop k).take n=cs:=by
 subst hk hn
 unfold spl
 rw [List.append_assoc,List.drop_append,List.drop_of_length_le (by rw [List.length_take]; omega),List.nil_append,List.length_take,Nat.min_eq_left h,Nat.sub_self,List.drop_zero,List.take_left]
theorem wp_copy_run {P:Program} (w:World) {o:Oper} {a:Act} {K:Act→World→Prop} {Q:Exit→Act→World→Prop} (d s:Operand) (t t':TypeId)
  (ho:o.op=.call { callee:=.builtin .copy,args:=#[d,s],argTypes:=#[t,t'] }) (v u:Value) (hd:a.eval d=v) (hs:a.eval s=u) {v':Value} {w':World}
  (hr:(Builtin.copy_ #[t,t'] o.type #[v,u]).run P w=.ok v' w') (h:K (a.put o.dst v') w'):o.wp P a w K Q:=by
 unfold Oper.wp execOp
 simp only [ho,resolve,invoke,builtin,Sem.run_bind,Sem.run_pure,Result.andThen_ok,List.map_toArray,List.map_cons,List.map_nil,hd,hs,hr]
 exact h
theorem wpList_copy_run {P:Program} (w:World) {ops:Array Oper} {rest:List Oper} {o:Oper} {a:Act} {Q:Exit→Act→World→Prop} (hgd:o.guard=none) (d s:Operand) (t t':TypeId)
  (ho:o.op=.call { callee:=.builtin .copy,args:=#[d,s],argTypes:=#[t,t'] }) (v u:Value) (hd:a.eval d=v) (hs:a.eval s=u) {v':Value} {w':World}
  (hr:(Builtin.copy_ #[t,t'] o.type #[v,u]).run P w=.ok v' w') (h:wpList P ops Q rest (a.put o.dst v') w'):wpList P ops Q (o :: rest) a w :=
 wpList_plain hgd fun _ hK=>wp_copy_run w d s t t' ho v u hd hs hr (hK _ _ h)
theorem wp_copy_if {P:Program} {o:Oper} {a:Act} {w w':World} {K:Act→World→Prop} {Q:Exit→Act→World→Prop} {y:Nat→Option Bool} {E:Prop} (hw:Region.wanted o y=true) (s x:Operand) {t u:TypeId}
  (ho:o.op=.call { callee:=.builtin .copy,args:=#[s,x],argTypes:=#[t,u] }) {v v' X:Value} (hs:a.eval s=v) (hx:a.eval x=X) (hr:(Builtin.copy_ #[t,u] o.type #[v,X]).run P w=.ok v' w')
  (d:Nat) (hd:o.dst=some d) (h:K (a.put (some d) v') w'):if Region.wanted o y=true then Oper.wp P o a w K Q else E:=by
 rw [if_pos hw]
 rw [← hd] at h
 exact wp_copy_run w s x t u ho v X hs hx hr h
set_option maxHeartbeats 2000000 in
set_option maxRecDepth 100000 in
theorem hins_any (a:Option Addr) (cap:Nat) (xs:List H) (i:Nat) (u:H) (vb:Nat) (w:World) (own:OwnG 75 11 hcs w a cap xs) (hi:i≤xs.length) (hf:xs.length≤900) (hv:Cel vb 75 #[.int .i64 u.node,.string u.e.key,.int .i64 (u.e.f 0),.int .i64 (u.e.f 1),.int .i64 (u.e.f 2),.int .i64 (u.e.f 3),.int .i64 (u.e.f 4),.int .i64 (u.e.f 5),.int .i64 (u.e.f 6),.int .i64 (u.e.f 7),.slice u.e.a u.e.l.length u.e.cap] w) (hne:blk a ≠ some vb) (ys:List H) (hys:ys=xs.take i ++ u :: xs.drop i) :
  Calls Tryz.prog 163 #[.slice a xs.length cap,.int .i64 (i:Int),.slice (some ⟨vb,0,none⟩) 1 1] w fun e w'=>∃ a' c' n,e=.returned (.slice a' n c')∧n=ys.length∧OwnG 75 11 hcs w' a' c' ys∧Off (fun c=>blk a=some c) w w'∧∀ g,blk a'=some g→blk a=some g∨w.heap.size≤g:=by
 obtain ⟨n,hn⟩:∃ n,n=xs.length:=⟨_,rfl⟩
 rw [← hn] at hi hf ⊢
 have HN:Hid (xs.length=n):=hn.symm
 have HVC:Hid _:=hv
 have HYS:Hid _:=hys
 have HOW:Hid _:=own
 have HUC:Hid (∀ W,Cel vb 75 #[.int .i64 u.node,.string u.e.key,.int .i64 (u.e.f 0),.int .i64 (u.e.f 1),.int .i64 (u.e.f 2),.int .i64 (u.e.f 3),.int .i64 (u.e.f 4),.int .i64 (u.e.f 5),.int .i64 (u.e.f 6),.int .i64 (u.e.f 7),.slice u.e.a u.e.l.length u.e.cap] W→∀ j v,(hcs u)[j]?=some v→W.cell? ((⟨vb,0,none⟩:Addr).add j)=some v):=fun W hW j v hj=>by rw [add_lit,Nat.zero_add,hW.cell,← hj,List.getElem?_toArray]; rfl
 clear hn own hv hys
 by_cases hin0:n≤i
 ·clear hne HUC
  have hn0:i=n:=by omega
  subst hn0
  have d1:(((i:Int)) == ((i:Int)))=true:=by simp
  have HV:Hid (Hns w (some ⟨vb,0,none⟩) 1 [u]):=⟨by simp,by omega,fun j v hj=>by
    match j,hj with
    | 0,hj =>
     simp at hj
     subst hj
     exact ⟨vb,0,rfl,⟨fun r x hr=>by simp only [Nat.zero_mul,Nat.zero_add]; rw [HVC.out.cell,← hr,List.getElem?_toArray]; rfl⟩⟩⟩
  have own:=HOW.out
  have hl:=HN.out
  go_enter Tryz.func163,Tryz.ntmps163
  go_wp2_with (at_builtin; refine wpList_appH rfl (.tmp 23) (.tmp 24) rfl a cap xs (by rw [hl]; rfl) own _ 1 [u] rfl HV.out (fun h=>by cases h) (by simp; omega) ?_; intro t' c' w' zs hzs own' off' at')
  all_goals (
   go_ret
   have e:zs=ys:=by rw [hzs.out,HYS.out,← hl,List.take_length,List.drop_length]
   rw [e] at own'
   refine ⟨t',c',zs.length,rfl,by rw [e],own',off',fun g hg=>?_⟩
   rcases at' with h | h
   ·exact .inl (h ▸ hg)
   ·rw [h] at hg
    simp at hg
    exact .inr (by omega))
 ·have hin:i < n:=by omega
  have d1:(((i:Int)) == ((n:Int)))=false:=by rw [beq_eq_false_iff_ne]; omega
  obtain ⟨g,cur,rfl,hcel,hlc,hcm,hcs0,htk⟩:=HOW.out.cel (fun e=>by have:=HOW.out.nn e; have h2:=HN.out; rw [this] at h2; simp at h2; omega)
  rw [HN.out] at hlc htk
  have hcm2:cap≤9223372036854775807:=by unfold maxLen at hcm; omega
  have HC:Hid _:=hcel
  have HCS:Hid _:=hcs0
  have HTK:Hid _:=htk
  have HNE:Hid (g ≠ vb):=fun e=>hne (by rw [← e]; rfl)
  have HCL:Hid (cur.toList.length=cap * 11):=by show _=_; rw [Array.length_toList]; exact hcs0
  have HDL:Hid (((xs.drop i).flatMap hcs).length=(n - i) * 11):=by show _=_; rw [flat_len hcs_len,List.length_drop,HN.out]
  have HTL:Hid (((xs.take i).flatMap hcs).length=i * 11):=by show _=_; rw [flat_len hcs_len,List.length_take,HN.out]; congr 1; omega
  have HTI:Hid (cur.toList.take (i * 11)=(xs.take i).flatMap hcs):=by show _=_; rw [flat_take hcs_len,← htk,List.take_take]; congr 1; omega
  have HSR:Hid (∀ W,Cel g 75 cur W→∀ j v,((xs.drop i).flatMap hcs)[j]?=some v→W.cell? ((⟨g,i * 11,none⟩:Addr).add j)=some v):=fun W hW j v hj=>by
    rw [flat_drop hcs_len,List.getElem?_drop,← HTK.out,List.getElem?_take] at hj
    split at hj
    ·rw [add_lit,hW.cell]
     simpa using hj
    ·simp at hj
  have HYL:Hid (ys.length=n + 1):=by show _=_; rw [HYS.out]; simp; have:=HN.out; omega
  have HYF:Hid (ys.flatMap hcs=(xs.take i).flatMap hcs ++ hcs u ++ (xs.drop i).flatMap hcs):=by show _=_; rw [HYS.out,List.flatMap_append,List.flatMap_cons,List.append_assoc]
  clear hcel hcs0 htk hne
  have hz1:(1:Int) + 0=1:=rfl
  clear hz1
  by_cases hroom:n + 1≤cap
  ·have d2:decide ((cap:Int) < (n:Int) + 1)=false:=decide_eq_false (by omega)
   have d2':decide (cap < n + 1)=false:=decide_eq_false (by omega)
   have b1:(n:Int) + 1≤(cap:Int):=by omega
   have b1':n + 1≤cap:=by omega
   have b2:(i:Int) + 1≤(n:Int) + 1:=by omega
   have b3:¬ (cap=i + 1):=by omega
   have b4:(i:Int)≤(n:Int) + 1:=by omega
   have b5:¬ (cap=i):=by omega
   have hov:∀ o lb cb,(callFunc 206 #[.slice (some ⟨vb,0,none⟩) 1 1,.slice (some ⟨g,o,none⟩) lb cb]).run Tryz.prog w=.ok (.value (.bool false)) w:=fun o lb cb=>by
     rw [run_callFunc_extern Tryz.func206 (by kernel_rfl) (by kernel_rfl) (by kernel_rfl) (e:=Extern.SlicesOverlaps.overlaps #[36,36] #[4]) (by kernel_rfl),
      Lib.run_overlaps_apart w 36 4 75 Tryz.underlying36 11 (fun W=>by obtain ⟨i0,hi,hz0,hz1,hz2⟩:=info_parts Tryz.infoH; simp [sizeOf,typeInfo,hi,hz1]) ⟨vb,0,none⟩ ⟨g,o,none⟩ 1 1 lb cb (fun e=>HNE.out e.symm) 75 75 11 (cap * 11) (by unfold World.shape?; rw [HVC.out.is]; rfl) (by unfold World.shape?; rw [HC.out.is]; simp [HCS.out]) (by omega) (HVC.out.free 0) (HVC.out.free 11)]
     rfl
   go_enter Tryz.func163,Tryz.ntmps163
   go_upto_region 15 with (simp only [hov])
   obtain ⟨o4,hd,ho4⟩:=sll g (n + 1) cap (i + 1) ((i:Int) + 1) (by simp) (by omega)
   obtain ⟨o5,hs,ho5⟩:=sll g (n + 1) cap i (i:Int) rfl (by omega)
   obtain rfl:o4=(i + 1) * 11:=ho4 (by omega)
   obtain rfl:o5=i * 11:=ho5 (by omega)
   rw [show n + 1 - (i + 1)=n - i by omega] at hd
   clear hov ho4 ho5
   obtain ⟨w4,hr4,hc4,o4⟩:=copy_run (w:=w.drew) (o:=(i + 1) * 11) (dLen:=n - i) (dCap:=cap - (i + 1)) (sLen:=n + 1 - i) (sCap:=cap - i) (a:=⟨g,i * 11,none⟩) (cs:=(xs.drop i).flatMap hcs) HC.out.drew (n - i) (by show min _ _=_; omega) HDL.out (HSR.out _ HC.out.drew) (by rw [HDL.out]; have:=HCS.out; omega) (flat_one hcs_one _) 3
   have HC4:Hid _:=hc4
   have HO4:Hid (Off (fun c=>c=g) w w4):=((Off.refl _ w).drew).trans o4 (fun _ _ h=>h)
   clear hc4 o4
   refine wp_region_held_drew (S:=fun w'=>Off (fun c=>c=g) w w') (by kernel_rfl) ((Off.refl _ w).drew) (fun hS=>?_)
   refine take_q 0 69 (.slice (some ⟨g,0,none⟩) (n + 1) cap) hS ?_
   simp only [Act.put,lsA,lsZ,lsS]
   refine take_q 1 70 (.int .i64 (i:Int)) hS ?_
   simp only [Act.put,lsA,lsZ,lsS]
   refine take_q 2 71 (.int .i64 1) hS ?_
   simp only [Act.put,lsA,lsZ,lsS]
   refine take_r 3 72 (.int .i64 ((i:Int) + 1)) rfl (Or.inl ⟨by rfl,fun w' hw'=>by go_simp; rw [IntKind.wrap_i64]; omega⟩) hS ?_
   simp only [Act.put,lsA,lsZ,lsS]
   refine take_r 4 73 (.slice (some ⟨g,((i + 1) * 11),none⟩) (n - i) (cap - (i + 1))) rfl (Or.inl ⟨by rfl,fun w' hw'=>by have:=hd w'; go_simp⟩) hS ?_
   simp only [Act.put,lsA,lsZ,lsS]
   refine take_q 5 74 (.slice (some ⟨g,0,none⟩) (n + 1) cap) hS ?_
   simp only [Act.put,lsA,lsZ,lsS]
   refine take_q 6 75 (.int .i64 (i:Int)) hS ?_
   simp only [Act.put,lsA,lsZ,lsS]
   refine take_r 7 76 (.slice (some ⟨g,(i * 11),none⟩) (n + 1 - i) (cap - i)) rfl (Or.inl ⟨by rfl,fun w' hw'=>by have:=hs w'; go_simp⟩) hS ?_
   simp only [Act.put,lsA,lsZ,lsS]
   refine wpAnyH_ready (rs:=[8]) (by kernel_rfl) (by simp) ?_
   refine AllReadyH.cons rfl (fun K' hK'=>?_) AllReadyH.nil
   refine wp_copy_if rfl (.tmp 73) (.tmp 76) rfl rfl rfl hr4 77 rfl ?_
   simp only [Act.put,lsA,lsZ,lsS]
   refine hK'.out _ _ HO4.out (fun hS=>?_)
   clear hK' K'
   refine wpAnyH_done (by kernel_rfl) ?_ _
   clear hS hr4 hd hs
   have hsl:(spl cur.toList ((i + 1) * 11) ((xs.drop i).flatMap hcs)).length=cap * 11:=by have h1:=HDL.out; have h2:=HCL.out; rw [spl_len (by omega),h2]
   have HSL:Hid _:=hsl
   clear hsl
   obtain ⟨w5,hr5,hc5,o5⟩:=copy_run (o:=i * 11) (dLen:=n + 1 - i) (dCap:=cap - i) (sLen:=1) (sCap:=1) (a:=⟨vb,0,none⟩) (cs:=hcs u) HC4.out 1 (by show min 1 _=1; omega) rfl (HUC.out _ (HVC.out.off HO4.out (fun e=>HNE.out e.symm))) (by rw [hcs_len,List.size_toArray,HSL.out]; omega) (hcs_one u) 3
   have HC5:Hid _:=hc5
   have HO5:Hid _:=HO4.out.trans o5 (fun _ _ h=>h)
   clear hc5 o5
   go_wp2_with (at_builtin; refine wpList_copy_run _ rfl (.tmp 80) (.tmp 81) 36 36 rfl _ _ rfl rfl hr5 ?_)
   go_ret
   have hsz:(spl (spl cur.toList ((i + 1) * 11) ((xs.drop i).flatMap hcs)).toArray.toList (i * 11) (hcs u)).length=cap * 11:=by rw [List.toList_toArray,spl_len (by rw [hcs_len,HSL.out]; omega),HSL.out]
   refine ⟨some ⟨g,0,none⟩,cap,n + 1,rfl,HYL.out.symm,own_of hcs_len HC5.out (by rw [HYL.out]; omega) hcm (by rw [List.size_toArray]; exact hsz) ?_,HO5.out.mono (fun _ _ h=>by rw [h]; rfl),fun x hx=>.inl hx⟩
   have hsl:=HSL.out
   have hdl:=HDL.out
   have hcl:=HCL.out
   rw [HYL.out,List.toList_toArray,List.toList_toArray,spl_up (by omega) (by rw [hcs_len]; omega),spl_lo (by omega) (by omega),HTI.out,HYF.out,hcs_len]
   congr 1
   rw [spl_mid (by omega) (by omega) (by omega)]
  ·have d2:decide ((cap:Int) < (n:Int) + 1)=true:=decide_eq_true (by omega)
   have d2':decide (cap < n + 1)=true:=decide_eq_true (by omega)
   obtain ⟨k,hk⟩:∃ k:Nat,k=n + 1 - i:=⟨_,rfl⟩
   have hk1:(n:Int) + 1 - (i:Int)=(k:Int):=by omega
   have HK:Hid (i + k=n + 1):=by show _=_; omega
   have hk0:0 < k:=by omega
   clear hk
   obtain ⟨g2,c2,cur2,w2,hr,hc2,ht2,hl2,hm2,hs2,hg2,o2⟩:=zeros_run (w:=w) (g:=g) (i:=i) (cap:=cap) (k:=k) HTL.out (fun j v hj=>by rw [HC.out.cell]; rw [← HTI.out,List.getElem?_take] at hj; split at hj; simpa using hj; simp at hj) hk0 (by have:=HK.out; omega) (by have:=HK.out; omega) 36
   rw [HK.out] at hr hl2
   have HC2:Hid _:=hc2
   have HT2:Hid _:=ht2
   have HS2:Hid _:=hs2
   have HG2:Hid _:=hg2
   have HO2:Hid _:=o2
   have HM2:Hid _:=hm2
   have hm3:c2≤9223372036854775807:=by unfold maxLen at hm2; omega
   clear hc2 ht2 hs2 hg2 o2 hm2
   have b1:(i:Int)≤(n:Int) + 1:=by omega
   have b2:¬ (c2=i):=by omega
   have b3:¬ (cap=i):=by omega
   obtain ⟨w3,hr3,hc3,o3⟩:=copy_run (o:=i * 11) (dLen:=n + 1 - i) (dCap:=c2 - i) (sLen:=1) (sCap:=1) (a:=⟨vb,0,none⟩) (cs:=hcs u) HC2.out 1 (by show min 1 _=1; omega) rfl (HUC.out _ (HVC.out.off HO2.out (fun h=>h))) (by rw [hcs_len]; have:=HS2.out; omega) (hcs_one u) 3
   have HC3:Hid _:=hc3
   have HO3:Hid _:=o3
   clear hc3 o3
   go_enter Tryz.func163,Tryz.ntmps163
   go_upto_region 10 with (at_builtin; refine Lib.wpList_append_run _ rfl (.tmp 34) (.tmp 39) 36 3 rfl _ _ rfl rfl _ _ hr ?_)
   go_upto_region 11 with (at_builtin; refine wpList_copy_run _ rfl (.tmp 43) (.tmp 44) 36 36 rfl _ _ rfl rfl hr3 ?_)
   obtain ⟨o4,hd,ho4⟩:=sll g2 (n + 1) c2 (i + 1) ((i:Int) + 1) (by simp) (by omega)
   obtain ⟨o5,hs,ho5⟩:=sll g n cap i (i:Int) rfl (by omega)
   obtain rfl:o4=(i + 1) * 11:=ho4 (by omega)
   obtain rfl:o5=i * 11:=ho5 (by omega)
   rw [show n + 1 - (i + 1)=n - i by omega] at hd
   have hcl2:cur2.toList.length=c2 * 11:=by rw [Array.length_toList]; exact HS2.out
   have hsl:(spl cur2.toList (i * 11) (hcs u)).length=c2 * 11:=by rw [spl_len (by rw [hcs_len]; omega),hcl2]
   have HSL:Hid _:=hsl
   have HCL2:Hid _:=hcl2
   clear hsl hcl2 ho4 ho5
   obtain ⟨w4,hr4,hc4,o4⟩:=copy_run (w:=w3.drew) (o:=(i + 1) * 11) (dLen:=n - i) (dCap:=c2 - (i + 1)) (sLen:=n - i) (sCap:=cap - i) (a:=⟨g,i * 11,none⟩) (cs:=(xs.drop i).flatMap hcs) HC3.out.drew (n - i) (by show min _ _=_; omega) HDL.out (HSR.out _ ((HC.out.off HO2.out (fun h=>h)).off HO3.out (fun e=>by have h1:=HC.out.lt; have h2:=HG2.out; omega)).drew) (by rw [HDL.out,List.size_toArray,HSL.out]; omega) (flat_one hcs_one _) 3
   have HC4:Hid _:=hc4
   have HO4:Hid (Off (fun c=>c=g2) w3 w4):=((Off.refl _ w3).drew).trans o4 (fun _ _ h=>h)
   clear hc4 o4 hr hr3
   refine wp_region_held_drew (S:=fun w'=>Off (fun c=>c=g2) w3 w') (by kernel_rfl) ((Off.refl _ w3).drew) (fun hS=>?_)
   refine take_q 0 46 (.slice (some ⟨g2,0,none⟩) (n + 1) c2) hS ?_
   simp only [Act.put,lsA,lsZ,lsS]
   refine take_q 1 47 (.int .i64 (i:Int)) hS ?_
   simp only [Act.put,lsA,lsZ,lsS]
   refine take_q 2 48 (.int .i64 1) hS ?_
   simp only [Act.put,lsA,lsZ,lsS]
   refine take_r 3 49 (.int .i64 ((i:Int) + 1)) rfl (Or.inl ⟨by rfl,fun w' hw'=>by go_simp; rw [IntKind.wrap_i64]; omega⟩) hS ?_
   simp only [Act.put,lsA,lsZ,lsS]
   refine take_r 4 50 (.slice (some ⟨g2,((i + 1) * 11),none⟩) (n - i) (c2 - (i + 1))) rfl (Or.inl ⟨by rfl,fun w' hw'=>by have:=hd w'; go_simp⟩) hS ?_
   simp only [Act.put,lsA,lsZ,lsS]
   refine take_q 5 51 (.slice (some ⟨g,0,none⟩) n cap) hS ?_
   simp only [Act.put,lsA,lsZ,lsS]
   refine take_q 6 52 (.int .i64 (i:Int)) hS ?_
   simp only [Act.put,lsA,lsZ,lsS]
   refine take_r 7 53 (.slice (some ⟨g,(i * 11),none⟩) (n - i) (cap - i)) rfl (Or.inl ⟨by rfl,fun w' hw'=>by have:=hs w'; go_simp⟩) hS ?_
   simp only [Act.put,lsA,lsZ,lsS]
   refine wpAnyH_ready (rs:=[8]) (by kernel_rfl) (by simp) ?_
   refine AllReadyH.cons rfl (fun K' hK'=>?_) AllReadyH.nil
   refine wp_copy_if rfl (.tmp 50) (.tmp 53) rfl rfl rfl hr4 54 rfl ?_
   simp only [Act.put,lsA,lsZ,lsS]
   refine hK'.out _ _ HO4.out (fun hS=>?_)
   clear hK' K'
   refine wpAnyH_done (by kernel_rfl) ?_ _
   clear hS
   go_wp2_with fail
   go_ret
   have hsz:(spl (spl cur2.toList (i * 11) (hcs u)).toArray.toList ((i + 1) * 11) ((xs.drop i).flatMap hcs)).length=c2 * 11:=by rw [List.toList_toArray,spl_len (by rw [HDL.out,HSL.out]; omega),HSL.out]
   refine ⟨some ⟨g2,0,none⟩,c2,n + 1,rfl,HYL.out.symm,own_of hcs_len HC4.out (by rw [HYL.out]; exact hl2) HM2.out (by rw [List.size_toArray]; exact hsz) ?_,?_,fun x hx=>?_⟩
   ·have hsl:=HSL.out
    have hdl:=HDL.out
    have hcl:=HCL2.out
    rw [HYL.out,List.toList_toArray,List.toList_toArray,spl_in (by omega) (by omega),spl_in (by omega) (by rw [hcs_len]; omega),HT2.out,HYF.out]
   ·refine (HO2.out.mono (fun _ _ h=>h.elim)).trans ((HO3.out).trans HO4.out (fun _ _ h=>h)) (fun c hc e=>?_)
    have:=HG2.out
    omega
   ·simp [blk] at hx
    right
    have:=HG2.out
    omega
end Go.Proofs.YthjbnpaghiojlaaGreat

namespace Go.Proofs.YthjbnpaghiojlaaGreat
open Go.RowKit
def wrs (g:Nat):Nat→List Value→World→World
 | _,[],w=>w
 | o,u :: us,w=>wrs g (o + 1) us (w.setCell ⟨g,o,none⟩ u)
theorem off_wrs {D:Nat→Prop} {a:World} {g:Nat}:∀ {us:List Value} {o:Nat} {w:World},Off D a w→(D g∨a.heap.size≤g)→Off D a (wrs g o us w)
 | [],_,_,h,_=>h
 | u :: us,o,w,h,hg=>by
  unfold wrs
  exact off_wrs (h.setCell (p:=⟨g,o,none⟩) hg u) hg
def sets:List Value→Nat→List Value→List Value
 | l,_,[]=>l
 | l,o,v :: vs=>sets (l.set o v) (o + 1) vs
theorem Cel.sets {g:Nat} {t:TypeId}:∀ {vs:List Value} {o:Nat} {cur:Array Value} {w:World},Cel g t cur w→Cel g t (sets cur.toList o vs).toArray (wrs g o vs w)
 | [],_,cur,w,h=>by simpa [YthjbnpaghiojlaaGreat.sets,wrs] using h
 | v :: vs,o,cur,w,h=>by
  have:=Cel.sets (vs:=vs) (o:=o + 1) (h.set o v)
  rw [Array.toList_setIfInBounds] at this
  exact this
theorem sets_eq:∀ (vs:List Value) (l:List Value) (o:Nat),o + vs.length≤l.length→sets l o vs=spl l o vs
 | [],l,o,_=>by simp [sets,spl]
 | v :: vs,l,o,h=>by
  rw [List.length_cons] at h
  unfold sets
  rw [sets_eq vs (l.set o v) (o + 1) (by rw [List.length_set]; omega)]
  unfold spl
  rw [list_seg_step l o v vs (by omega),List.length_cons]
theorem spl_take {l:List Value} {o n:Nat} {cs:List Value} (h:o + cs.length≤n) (hn:n≤l.length):(spl l o cs).take n=spl (l.take n) o cs:=by
 rw [spl_up (by omega) h]
 unfold spl
 rw [List.take_take,Nat.min_eq_left (by omega),List.drop_take]
def sib9 (f:Nat→Int) (s:Value):List Value:=[.int .i64 (f 0),.int .i64 (f 1),.int .i64 (f 2),.int .i64 (f 3),.int .i64 (f 4),.int .i64 (f 5),.int .i64 (f 6),.int .i64 (f 7),s]
theorem flat_set {xs:List H} {n:Nat} {x y:H} (hx:xs[n]?=some x) (h1:y.node=x.node) (h2:y.e.key=x.e.key):(xs.set n y).flatMap hcs=spl (xs.flatMap hcs) (n * 11 + 2) (sib9 y.e.f (.slice y.e.a y.e.l.length y.e.cap)):=by
 induction xs generalizing n with
 | nil=>simp at hx
 | cons z xs ih =>
  cases n with
  | zero =>
   simp at hx
   subst hx
   simp only [List.set_cons_zero,List.flatMap_cons]
   simp [spl,hcs,sib9,h1,h2]
  | succ n =>
   have:=ih (n:=n) (by simpa using hx)
   simp only [List.set_cons_succ,List.flatMap_cons]
   rw [this]
   unfold spl
   rw [show (n + 1) * 11 + 2=(hcs z).length + (n * 11 + 2) by rw [hcs_len]; omega,List.take_append,List.take_of_length_le (l:=hcs z) (by omega),Nat.add_sub_cancel_left,List.drop_append,List.drop_of_length_le (l:=hcs z) (by omega),List.nil_append,show ∀ a b c:Nat,a + b + c - a=b + c from fun a b c=>by omega]
   simp only [List.append_assoc]
theorem OwnG.setS {w:World} {g cap:Nat} {xs:List H} (own:OwnG 75 11 hcs w (some ⟨g,0,none⟩) cap xs) {n:Nat} {x y:H} (hx:xs[n]?=some x) (h1:y.node=x.node) (h2:y.e.key=x.e.key) :
  OwnG 75 11 hcs (wrs g (n * 11 + 2) (sib9 y.e.f (.slice y.e.a y.e.l.length y.e.cap)) w) (some ⟨g,0,none⟩) cap (xs.set n y):=by
 obtain ⟨g',cur,eg,hc,hl,hm,hs,ht⟩:=own.cel (by simp)
 simp only [Option.some.injEq,Addr.mk.injEq,and_true] at eg
 subst eg
 obtain ⟨hlt,-⟩:=List.getElem?_eq_some_iff.1 hx
 have hcl:cur.toList.length=cap * 11:=by rw [Array.length_toList]; exact hs
 have h9:(sib9 y.e.f (.slice y.e.a y.e.l.length y.e.cap)).length=9:=rfl
 have hC:=hc.sets (vs:=sib9 y.e.f (.slice y.e.a y.e.l.length y.e.cap)) (o:=n * 11 + 2)
 rw [sets_eq _ _ _ (by omega)] at hC
 refine own_of hcs_len hC (by rw [List.length_set]; exact hl) hm ?_ ?_
 ·rw [List.size_toArray,spl_len (by omega),hcl]
 ·rw [List.length_set,List.toList_toArray,spl_take (by omega) (by omega),ht,flat_set hx h1 h2]
end Go.Proofs.YthjbnpaghiojlaaGreat

namespace Go.Proofs.YthjbnpaghiojlaaGreat
open Go.RowKit
theorem fnd_yes {xs:List H} (hs:SorH H.nk xs) {k:NK} {n:Nat} (h:isAt xs k n=true):∃ x,xs[n]?=some x∧x.nk=k∧fndGH H.nk k xs=some x:=by
 unfold isAt at h
 cases e:xs[n]? with
 | none=>rw [e] at h; cases h
 | some x =>
  rw [e] at h
  have hk:x.nk=k:=smk_iffH.1 h
  exact ⟨x,rfl,hk,(fnd_someH H.nk hs).2 ⟨List.mem_of_getElem? e,hk⟩⟩
theorem fnd_hi {xs:List H} (hs:SorH H.nk xs) {k:NK} {n:Nat} (hf:Fnd xs k n) (h:isAt xs k n=false):∀ i x,n≤i→xs[i]?=some x→plt k x.nk=true:=by
 intro i x hi hx
 obtain ⟨l2,e2⟩:=List.getElem?_eq_some_iff.1 hx
 have hl:n < xs.length:=by omega
 have hy:xs[n]?=some xs[n]:=List.getElem?_eq_getElem hl
 have hne:xs[n].nk ≠ k:=by
  unfold isAt at h
  rw [hy] at h
  exact smk_noH.1 h
 have h1:plt k xs[n].nk=true:=by
  rcases plt_tot hne with e | e
  ·rw [hf.hi n _ (Nat.le_refl _) hy] at e
   cases e
  ·exact e
 by_cases e:i=n
 ·subst e
  rw [hy] at hx
  cases hx
  exact h1
 ·have:=List.pairwise_iff_getElem.1 hs n i hl l2 (by omega)
  rw [e2] at this
  exact plt_trans h1 this
theorem fnd_no {xs:List H} (hs:SorH H.nk xs) {k:NK} {n:Nat} (hf:Fnd xs k n) (h:isAt xs k n=false):fndGH H.nk k xs=none:=by
 rw [fnd_noneH]
 intro x hx
 obtain ⟨i,hi⟩:=List.getElem?_of_mem hx
 by_cases hl:i < n
 ·exact plt_ne (hf.lo i x hl hi)
 ·exact (plt_ne (fnd_hi hs hf h i x (by omega) hi)).symm
set_option maxRecDepth 100000 in
set_option maxHeartbeats 4000000 in
theorem hput_any (D:Nat→Prop) (p:Nat) (xs:List H) (h:H) (w:World) (S:HSt D p xs w) (hr:Row w h.e.a h.e.cap h.e.l) (hn:Nrm h.e.f) :
  Calls Tryz.prog 96 #[.pointer (some ⟨p,0,none⟩),(.agg #[.int .i64 h.node,.string h.e.key,.int .i64 (h.e.f 0),.int .i64 (h.e.f 1),.int .i64 (h.e.f 2),.int .i64 (h.e.f 3),.int .i64 (h.e.f 4),.int .i64 (h.e.f 5),.int .i64 (h.e.f 6),.int .i64 (h.e.f 7),.slice h.e.a h.e.l.length h.e.cap])] w fun e w'=>e=.returned (.tuple #[.bool (hpR (absH xs) h.abs).ch,.int .i64 (hpR (absH xs) h.abs).er])∧∃ D' xs',HSt D' p xs' w'∧absH xs'=(hpR (absH xs) h.abs).x∧Off D w w'∧∀ c,D' c→D c∨w.heap.size≤c:=by
 have hq:=eql_set
 have hnot:=not_any
 have C:=Cel.new w 75 #[.int .i64 h.node,.string h.e.key,.int .i64 (h.e.f 0),.int .i64 (h.e.f 1),.int .i64 (h.e.f 2),.int .i64 (h.e.f 3),.int .i64 (h.e.f 4),.int .i64 (h.e.f 5),.int .i64 (h.e.f 6),.int .i64 (h.e.f 7),.slice h.e.a h.e.l.length h.e.cap]
 have O:Off (fun _=>False) w (w.alloc (.cells #[.int .i64 h.node,.string h.e.key,.int .i64 (h.e.f 0),.int .i64 (h.e.f 1),.int .i64 (h.e.f 2),.int .i64 (h.e.f 3),.int .i64 (h.e.f 4),.int .i64 (h.e.f 5),.int .i64 (h.e.f 6),.int .i64 (h.e.f 7),.slice h.e.a h.e.l.length h.e.cap] 75)):=(Off.refl _ w).alloc _
 have HDN:Hid (¬ D w.heap.size):=fun e=>by have:=S.dlt _ e; omega
 have HST:Hid _:=S
 have HNRM:Hid _:=hn
 go_enter Tryz.func96,Tryz.ntmps96
 go_upto_region 1 with fail
 generalize hv:w.alloc (.cells #[.int .i64 h.node,.string h.e.key,.int .i64 (h.e.f 0),.int .i64 (h.e.f 1),.int .i64 (h.e.f 2),.int .i64 (h.e.f 3),.int .i64 (h.e.f 4),.int .i64 (h.e.f 5),.int .i64 (h.e.f 6),.int .i64 (h.e.f 7),.slice h.e.a h.e.l.length h.e.cap] 75)=V at C O ⊢
 obtain ⟨x0,x1,x2,x3,x4,x5,x6,x7,x8,x9,x10⟩:=cel11 C
 have HC:Hid _:=C
 have HO:Hid _:=O
 have HR:Hid _:=hr.off O
 clear hv C O hr hn S
 go_wp2_with fail
 refine (isnode_any h.node V).mono ?_
 cases hk:nodeOk h.node
 ·rintro e w' ⟨rfl,hw⟩
  rw [hw]
  clear hw w'
  go_wp2_with fail
  go_ret2
  rw [hpR_arg (by show okH h.abs=false; unfold okH; rw [show h.abs.node=h.node from rfl,hk]; rfl)]
  exact ⟨rfl,D,xs,HST.out.free HO.out,rfl,HO.out.mono (fun _ _ h=>h.elim),fun c hc=>.inl hc⟩
 rintro e w' ⟨rfl,hw⟩
 rw [hw]
 clear hw w'
 go_wp2_with fail
 refine (smayentry_any h.e.key h.e.f h.e.a h.e.cap h.e.l V HR.out).mono ?_
 cases hm:(keyB h.e.key && mayS h.e.f (cont h.e.l))
 ·rintro e w1 ⟨rfl,o1⟩
  go_wp2_with fail
  go_ret2
  have HO1:=HO.out.trans o1 (fun _ _ h=>h)
  rw [hpR_arg (by show okH h.abs=false; unfold okH; rw [show h.abs.node=h.node from rfl,hk]; exact hm)]
  exact ⟨rfl,D,xs,HST.out.free HO1,rfl,HO1.mono (fun _ _ h=>h.elim),fun c hc=>.inl hc⟩
 rintro e w1 ⟨rfl,o1⟩
 have HM:Hid (okH h.abs=true):=by show okH h.abs=true; unfold okH; rw [show h.abs.node=h.node from rfl,hk]; exact hm
 have HHL:Hid (h.e.l.length≤1000):=by
  have:=(okH_iff.1 HM.out).2.2.few
  have e2:h.abs.k.l.length=h.e.l.length:=cont_len h.e.l
  show _≤_
  omega
 have C1:=HC.out.off o1 (fun h=>h)
 have HO1:Hid _:=HO.out.trans o1 (fun _ _ h=>h)
 have HR1:Hid _:=HR.out.off o1
 clear x0 x1 x2 x3 x4 x5 x6 x7 x8 x9 x10 hk hm o1
 obtain ⟨x0,x1,x2,x3,x4,x5,x6,x7,x8,x9,x10⟩:=cel11 C1
 have HC1:Hid _:=C1
 clear C1 HC HR HO
 go_wp2_with fail
 refine (hfind_any D p xs h.node h.e.key w1 (HST.out.free HO1.out)).mono ?_
 rintro e w2 ⟨n,rfl,hfn,o2⟩
 have HO2:Hid _:=HO1.out.trans o2 (fun _ _ h=>h)
 have HC2:Hid _:=HC1.out.off o2 (fun h=>h)
 have HR2:Hid _:=HR1.out.off o2
 have HFN:Hid _:=hfn
 have hfew:=HST.out.few
 clear x0 x1 x2 x3 x4 x5 x6 x7 x8 x9 x10 o2 hfn HC1 HR1
 obtain ⟨a,cap,hcp,how,hgd,hgt⟩:=(HST.out.free HO2.out).is
 have c0:w2.cell? ⟨p,0,none⟩=some (.slice a xs.length cap):=hcp.cell 0
 have HCP:Hid _:=hcp
 have HOW2:Hid _:=how
 have HGD:Hid _:=hgd
 have HGT:Hid _:=hgt
 clear hcp how hgd hgt
 cases hia:isAt xs (h.node,h.e.key) n
 ·have HIA:Hid _:=hia
  have HNF:Hid (fndGH HK.nk h.abs.nk (absH xs)=none):=by show fndGH HK.nk (h.node,h.e.key) (absH xs)=none; rw [← absH_fnd,fnd_no HST.out.sor HFN.out hia]; rfl
  clear hia
  by_cases hful:64≤xs.length
  ·have d1:decide ((64:Int)≤(xs.length:Int))=true:=decide_eq_true (by omega)
   have d1':decide (64≤xs.length)=true:=decide_eq_true hful
   go_wp2_with fail
   go_ret2
   rw [hpR_full HM.out HNF.out (by rw [absH_len]; exact hful)]
   exact ⟨rfl,D,xs,HST.out.free HO2.out,rfl,HO2.out.mono (fun _ _ h=>h.elim),fun c hc=>.inl hc⟩
  ·have d1:decide ((64:Int)≤(xs.length:Int))=false:=decide_eq_false (by omega)
   have d1':decide (64≤xs.length)=false:=decide_eq_false hful
   have HNL:Hid _:=hful
   clear hful
   go_upto_region 7 with fail
   clear c0 d1 d1'
   have HQD:Hid (¬ D w.heap.size):=HDN.out
   refine wp_region_held_drew (S:=fun w'=>Off D w2 w') (by kernel_rfl) ((Off.refl _ w2).drew) (fun hS=>?_)
   have hP:Off (fun _=>False) w2 w2.drew:=(Off.refl _ w2).drew
   refine take_q 0 43 (.pointer (some ⟨p,0,none⟩)) hS ?_
   simp only [Act.put,lsA,lsZ,lsS]
   refine take_q 1 44 (.pointer (some ⟨p,0,none⟩)) hS ?_
   simp only [Act.put,lsA,lsZ,lsS]
   refine take_q 2 45 (.pointer (some ⟨p,0,none⟩)) hS ?_
   simp only [Act.put,lsA,lsZ,lsS]
   refine take_q 3 46 (.pointer (some ⟨p,0,none⟩)) hS ?_
   simp only [Act.put,lsA,lsZ,lsS]
   refine take_q 5 48 (.int .i64 (n:Int)) hS ?_
   simp only [Act.put,lsA,lsZ,lsS]
   refine take_r 6 49 ((.agg #[.int .i64 h.node,.string h.e.key,.int .i64 (h.e.f 0),.int .i64 (h.e.f 1),.int .i64 (h.e.f 2),.int .i64 (h.e.f 3),.int .i64 (h.e.f 4),.int .i64 (h.e.f 5),.int .i64 (h.e.f 6),.int .i64 (h.e.f 7),.slice h.e.a h.e.l.length h.e.cap])) rfl (Or.inl ⟨by rfl,fun w' hw'=>by obtain ⟨x0,x1,x2,x3,x4,x5,x6,x7,x8,x9,x10⟩:=cel11 (HC2.out.off hw' HQD.out); go_simp⟩) hS ?_
   simp only [Act.put,lsA,lsZ,lsS]
   have c0:w2.drew.cell? ⟨p,0,none⟩=some (.slice a xs.length cap):=HCP.out.drew.cell 0
   refine wpAnyH_ready (rs:=[4,7]) (by kernel_rfl) (by simp) ?_
   refine AllReadyH.cons rfl (fun K' hK'=>?_) (AllReadyH.cons rfl (fun K' hK'=>?_) AllReadyH.nil)
   ·go_simp
    refine hK'.out _ _ hS (fun hS=>?_)
    clear hK' K'
    refine wpAnyH_ready (rs:=[7]) (by kernel_rfl) (by simp) ?_
    refine AllReadyH.cons rfl (fun K' hK'=>?_) AllReadyH.nil
    go_simp
    refine (chint_any h w2.drew (HR2.out.off hP) HHL.out).mono ?_
    rintro e v7 ⟨y,rfl,hy,ry,ty,o7⟩
    refine hK'.out _ _ (hS.trans o7 (fun _ _ h=>h.elim)) (fun hS=>?_)
    clear hK' K'
    have hP7:Off (fun _=>False) w2 v7:=hP.trans o7 (fun _ _ h=>h)
    refine wpAnyH_ready (rs:=[8]) (by kernel_rfl) (by simp) ?_
    refine AllReadyH.cons rfl (fun K' hK'=>?_) AllReadyH.nil
    go_simp
    have CB:=Cel.new v7 75 #[.int .i64 y.node,.string y.e.key,.int .i64 (y.e.f 0),.int .i64 (y.e.f 1),.int .i64 (y.e.f 2),.int .i64 (y.e.f 3),.int .i64 (y.e.f 4),.int .i64 (y.e.f 5),.int .i64 (y.e.f 6),.int .i64 (y.e.f 7),.slice y.e.a y.e.l.length y.e.cap]
    have OB:Off (fun _=>False) v7 (v7.alloc (.cells #[.int .i64 y.node,.string y.e.key,.int .i64 (y.e.f 0),.int .i64 (y.e.f 1),.int .i64 (y.e.f 2),.int .i64 (y.e.f 3),.int .i64 (y.e.f 4),.int .i64 (y.e.f 5),.int .i64 (y.e.f 6),.int .i64 (y.e.f 7),.slice y.e.a y.e.l.length y.e.cap] 75)):=(Off.refl _ v7).alloc _
    refine hK'.out _ _ (hS.trans OB (fun _ _ h=>h.elim)) (fun hS=>?_)
    clear hK' K'
    have HVB:Hid (v7.heap.size=v7.heap.size):=rfl
    generalize hqb:v7.heap.size=vb at CB HVB ⊢
    generalize hvb:v7.alloc (.cells #[.int .i64 y.node,.string y.e.key,.int .i64 (y.e.f 0),.int .i64 (y.e.f 1),.int .i64 (y.e.f 2),.int .i64 (y.e.f 3),.int .i64 (y.e.f 4),.int .i64 (y.e.f 5),.int .i64 (y.e.f 6),.int .i64 (y.e.f 7),.slice y.e.a y.e.l.length y.e.cap] 75)=v8 at CB OB hS ⊢
    have HQB:Hid (v7.heap.size≤vb∧w2.heap.size≤vb):=by have:=hP7.size; show _∧_; constructor <;> omega
    clear hqb hvb HVB
    have hP8:Off (fun _=>False) w2 v8:=hP7.trans OB (fun _ _ h=>h)
    have HY:Hid _:=hy
    have HRY:Hid _:=ry.off OB
    have HTY:Hid (Ter (fun c=>w2.heap.size≤c) y.e.a y.e.l):=ty.mono (fun c hc=>by have e:w2.drew.heap.size=w2.heap.size:=rfl; omega)
    have HP8:Hid _:=hP8
    have HCB:Hid _:=CB
    clear hy ry ty OB hP7 CB hP
    refine wpAnyH_ready (rs:=[9]) (by kernel_rfl) (by simp) ?_
    refine AllReadyH.cons rfl (fun K' hK'=>?_) AllReadyH.nil
    go_simp
    refine (hins_any a cap xs n y vb v8 (HOW2.out.off HP8.out (fun _ _ _ h=>h)) HFN.out.le (by omega) HCB.out (fun e=>by have h1:=(HOW2.out.lt vb e); have h2:=HQB.out; omega) _ rfl).mono ?_
    rintro e v9 ⟨a9,c9,n9,rfl,hn9,own9,o9,at9⟩
    have hS9:Off D w2 v9:=hS.trans o9 (fun i hi e=>(HGD.out i e).1)
    refine hK'.out _ _ hS9 (fun hS=>?_)
    clear hK' K'
    have HOWN9:Hid _:=own9
    have HAT9:Hid _:=at9
    have HN9:Hid _:=hn9
    have HO9:Hid (Off (fun c=>blk a=some c) v8 v9):=o9
    clear own9 at9 hn9 o9 hS9
    have hcp:Cel p 144 #[.slice a xs.length cap] v9:=(HCP.out.off HP8.out (fun h=>h)).off HO9.out (fun e=>(HGD.out p e).2 rfl)
    have c0:=hcp.cell 0
    have fr:=hcp.free
    simp only [List.getElem?_toArray,List.getElem?_cons_zero] at c0
    have HCP9:Hid _:=hcp.set 0 (.slice a9 n9 c9)
    clear hcp
    refine take_q 10 53 (.pointer (some ⟨p,0,none⟩)) hS ?_
    simp only [Act.put,lsA,lsZ,lsS]
    refine take_q 11 54 (.pointer (some ⟨p,0,none⟩)) hS ?_
    simp only [Act.put,lsA,lsZ,lsS]
    refine wpAnyH_ready (rs:=[12]) (by kernel_rfl) (by simp) ?_
    refine AllReadyH.cons rfl (fun K' hK'=>?_) AllReadyH.nil
    go_simp
    refine hK'.out _ _ (hS.setCell (p:=⟨p,0,none⟩) (.inl HST.out.dp) _) (fun hS'=>?_)
    clear hK' K'
    have OP:Off (fun c=>c=p) v9 (v9.setCell ⟨p,0,none⟩ (.slice a9 n9 c9)):=(Off.refl (fun c=>c=p) v9).setCell (p:=⟨p,0,none⟩) (.inl rfl) _
    generalize hv10:v9.setCell ⟨p,0,none⟩ (.slice a9 n9 c9)=v10 at hS' HCP9 OP ⊢
    clear hv10 c0 fr
    refine wpAnyH_done (by kernel_rfl) ?_ _
    have HOP:Hid _:=OP
    have HSF:Hid _:=hS'
    clear OP hS' hS
    go_wp2_with fail
    go_ret2
    rw [hpR_new HM.out HNF.out (by rw [absH_len]; exact HNL.out)]
    have hYS:xs.take n ++ y :: xs.drop n=putGH H.nk y xs:=ins_put H.nk HST.out.sor HFN.out.le (fun i x hi hx=>by rw [show y.nk=(h.node,h.e.key) from congrArg HK.nk HY.out]; exact HFN.out.lo i x hi hx) (fun i x hi hx=>by rw [show y.nk=(h.node,h.e.key) from congrArg HK.nk HY.out]; exact fnd_hi HST.out.sor HFN.out HIA.out i x hi hx)
    have hAB:absH (putGH H.nk y xs)=putGH HK.nk h.abs (absH xs):=by rw [absH_put,HY.out]
    have OD:Off D w v10:=(HO2.out.mono (fun _ _ h=>h.elim)).trans HSF.out (fun _ _ h=>h)
    refine ⟨rfl,fun c=>(D c∨w.heap.size≤c)∧c < v10.heap.size,_,?_,hAB,OD,fun c hc=>hc.1⟩
    have hw2:w.heap.size < w2.heap.size:=by have h1:=HC2.out.lt; omega
    have hpl:p < w.heap.size:=HST.out.lt
    have h8:=HP8.out.size
    have h9:=HO9.out.size
    have h10:=HOP.out.size
    have hqb:=HQB.out
    have own10:=HOWN9.out.off HOP.out (fun c _ hc e=>by
     subst e
     rcases HAT9.out c hc with k | k
     ·exact (HGD.out c k).2 rfl
     ·omega)
    have hg8:∀ g,blk a9=some g→blk a=some g∧D g∧g ≠ p∧g < w2.heap.size∨v8.heap.size≤g:=fun g hg=>by
     rcases HAT9.out g hg with k | k
     ·exact .inl ⟨k,(HGD.out g k).1,(HGD.out g k).2,HOW2.out.lt g k⟩
     ·exact .inr k
    have rowY:Row v10 y.e.a y.e.cap y.e.l:=(HRY.out.offT HTY.out HO9.out (fun c hc hd e=>by have:=HOW2.out.lt c e; omega)).offT HTY.out HOP.out (fun c hc hd e=>by omega)
    have rowX:∀ x ∈ xs,Row v10 x.e.a x.e.cap x.e.l:=fun x hx=>((((HST.out.row x hx).off HO2.out).off HP8.out).offT (HGT.out x hx) HO9.out (fun c _ hd e=>hd e)).offT (HST.out.ter x hx) HOP.out (fun c _ hd e=>hd.2 e)
    refine ⟨⟨.inl HST.out.dp,by omega⟩,fun c hc=>hc.2,⟨a9,c9,by rw [← hYS,← HN9.out]; exact HCP9.out,by rw [← hYS]; exact own10,fun g hg=>?_,fun x hx=>?_⟩,fun x hx=>?_,fun x hx=>?_,?_⟩
    ·have hlt:=own10.lt g hg
     rcases hg8 g hg with k | k
     ·exact ⟨⟨.inl k.2.1,hlt⟩,k.2.2.1⟩
     ·exact ⟨⟨.inr (by omega),hlt⟩,by omega⟩
    ·rcases (mem_putGH H.nk).1 hx with rfl | ⟨hx,-⟩
     ·exact (HTY.out.and HRY.out.below).mono (fun c hc e=>by rcases hg8 c e with k | k <;> omega)
     ·exact ((HGT.out x hx).and (HST.out.row x hx).below).mono (fun c hc e=>by
       rcases hg8 c e with k | k
       ·exact hc.1 k.1
       ·omega)
    ·rcases (mem_putGH H.nk).1 hx with rfl | ⟨hx,-⟩
     ·exact rowY
     ·exact rowX x hx
    ·rcases (mem_putGH H.nk).1 hx with rfl | ⟨hx,-⟩
     ·exact (HTY.out.and rowY.below).mono (fun c hc=>⟨⟨.inr (by omega),hc.2⟩,by omega⟩)
     ·exact ((HST.out.ter x hx).and (rowX x hx).below).mono (fun c hc=>⟨⟨.inl hc.1.1,hc.2⟩,hc.1.2⟩)
    ·rw [hAB]
     have e:=HST.out.ok.hpR (x:=h.abs) HNRM.out
     rw [hpR_new HM.out HNF.out (by rw [absH_len]; exact HNL.out)] at e
     exact e
   ·go_simp
    refine (chint_any h w2.drew (HR2.out.off hP) HHL.out).mono ?_
    rintro e v7 ⟨y,rfl,hy,ry,ty,o7⟩
    refine hK'.out _ _ (hS.trans o7 (fun _ _ h=>h.elim)) (fun hS=>?_)
    clear hK' K'
    have hP7:Off (fun _=>False) w2 v7:=hP.trans o7 (fun _ _ h=>h)
    have c7:v7.cell? ⟨p,0,none⟩=some (.slice a xs.length cap):=(HCP.out.drew.off o7 (fun h=>h)).cell 0
    refine wpAnyH_ready (rs:=[4,8]) (by kernel_rfl) (by simp) ?_
    refine AllReadyH.cons rfl (fun K' hK'=>?_) (AllReadyH.cons rfl (fun K' hK'=>?_) AllReadyH.nil)
    ·go_simp
     refine hK'.out _ _ hS (fun hS=>?_)
     clear hK' K'
     refine wpAnyH_ready (rs:=[8]) (by kernel_rfl) (by simp) ?_
     refine AllReadyH.cons rfl (fun K' hK'=>?_) AllReadyH.nil
     go_simp
     have CB:=Cel.new v7 75 #[.int .i64 y.node,.string y.e.key,.int .i64 (y.e.f 0),.int .i64 (y.e.f 1),.int .i64 (y.e.f 2),.int .i64 (y.e.f 3),.int .i64 (y.e.f 4),.int .i64 (y.e.f 5),.int .i64 (y.e.f 6),.int .i64 (y.e.f 7),.slice y.e.a y.e.l.length y.e.cap]
     have OB:Off (fun _=>False) v7 (v7.alloc (.cells #[.int .i64 y.node,.string y.e.key,.int .i64 (y.e.f 0),.int .i64 (y.e.f 1),.int .i64 (y.e.f 2),.int .i64 (y.e.f 3),.int .i64 (y.e.f 4),.int .i64 (y.e.f 5),.int .i64 (y.e.f 6),.int .i64 (y.e.f 7),.slice y.e.a y.e.l.length y.e.cap] 75)):=(Off.refl _ v7).alloc _
     refine hK'.out _ _ (hS.trans OB (fun _ _ h=>h.elim)) (fun hS=>?_)
     clear hK' K'
     have HVB:Hid (v7.heap.size=v7.heap.size):=rfl
     generalize hqb:v7.heap.size=vb at CB HVB ⊢
     generalize hvb:v7.alloc (.cells #[.int .i64 y.node,.string y.e.key,.int .i64 (y.e.f 0),.int .i64 (y.e.f 1),.int .i64 (y.e.f 2),.int .i64 (y.e.f 3),.int .i64 (y.e.f 4),.int .i64 (y.e.f 5),.int .i64 (y.e.f 6),.int .i64 (y.e.f 7),.slice y.e.a y.e.l.length y.e.cap] 75)=v8 at CB OB hS ⊢
     have HQB:Hid (v7.heap.size≤vb∧w2.heap.size≤vb):=by have:=hP7.size; show _∧_; constructor <;> omega
     clear hqb hvb HVB
     have hP8:Off (fun _=>False) w2 v8:=hP7.trans OB (fun _ _ h=>h)
     have HY:Hid _:=hy
     have HRY:Hid _:=ry.off OB
     have HTY:Hid (Ter (fun c=>w2.heap.size≤c) y.e.a y.e.l):=ty.mono (fun c hc=>by have e:w2.drew.heap.size=w2.heap.size:=rfl; omega)
     have HP8:Hid _:=hP8
     have HCB:Hid _:=CB
     clear hy ry ty OB hP7 CB hP
     refine wpAnyH_ready (rs:=[9]) (by kernel_rfl) (by simp) ?_
     refine AllReadyH.cons rfl (fun K' hK'=>?_) AllReadyH.nil
     go_simp
     refine (hins_any a cap xs n y vb v8 (HOW2.out.off HP8.out (fun _ _ _ h=>h)) HFN.out.le (by omega) HCB.out (fun e=>by have h1:=(HOW2.out.lt vb e); have h2:=HQB.out; omega) _ rfl).mono ?_
     rintro e v9 ⟨a9,c9,n9,rfl,hn9,own9,o9,at9⟩
     have hS9:Off D w2 v9:=hS.trans o9 (fun i hi e=>(HGD.out i e).1)
     refine hK'.out _ _ hS9 (fun hS=>?_)
     clear hK' K'
     have HOWN9:Hid _:=own9
     have HAT9:Hid _:=at9
     have HN9:Hid _:=hn9
     have HO9:Hid (Off (fun c=>blk a=some c) v8 v9):=o9
     clear own9 at9 hn9 o9 hS9
     have hcp:Cel p 144 #[.slice a xs.length cap] v9:=(HCP.out.off HP8.out (fun h=>h)).off HO9.out (fun e=>(HGD.out p e).2 rfl)
     have c0:=hcp.cell 0
     have fr:=hcp.free
     simp only [List.getElem?_toArray,List.getElem?_cons_zero] at c0
     have HCP9:Hid _:=hcp.set 0 (.slice a9 n9 c9)
     clear hcp
     refine take_q 10 53 (.pointer (some ⟨p,0,none⟩)) hS ?_
     simp only [Act.put,lsA,lsZ,lsS]
     refine take_q 11 54 (.pointer (some ⟨p,0,none⟩)) hS ?_
     simp only [Act.put,lsA,lsZ,lsS]
     refine wpAnyH_ready (rs:=[12]) (by kernel_rfl) (by simp) ?_
     refine AllReadyH.cons rfl (fun K' hK'=>?_) AllReadyH.nil
     go_simp
     refine hK'.out _ _ (hS.setCell (p:=⟨p,0,none⟩) (.inl HST.out.dp) _) (fun hS'=>?_)
     clear hK' K'
     have OP:Off (fun c=>c=p) v9 (v9.setCell ⟨p,0,none⟩ (.slice a9 n9 c9)):=(Off.refl (fun c=>c=p) v9).setCell (p:=⟨p,0,none⟩) (.inl rfl) _
     generalize hv10:v9.setCell ⟨p,0,none⟩ (.slice a9 n9 c9)=v10 at hS' HCP9 OP ⊢
     clear hv10 c0 fr
     refine wpAnyH_done (by kernel_rfl) ?_ _
     have HOP:Hid _:=OP
     have HSF:Hid _:=hS'
     clear OP hS' hS
     go_wp2_with fail
     go_ret2
     rw [hpR_new HM.out HNF.out (by rw [absH_len]; exact HNL.out)]
     have hYS:xs.take n ++ y :: xs.drop n=putGH H.nk y xs:=ins_put H.nk HST.out.sor HFN.out.le (fun i x hi hx=>by rw [show y.nk=(h.node,h.e.key) from congrArg HK.nk HY.out]; exact HFN.out.lo i x hi hx) (fun i x hi hx=>by rw [show y.nk=(h.node,h.e.key) from congrArg HK.nk HY.out]; exact fnd_hi HST.out.sor HFN.out HIA.out i x hi hx)
     have hAB:absH (putGH H.nk y xs)=putGH HK.nk h.abs (absH xs):=by rw [absH_put,HY.out]
     have OD:Off D w v10:=(HO2.out.mono (fun _ _ h=>h.elim)).trans HSF.out (fun _ _ h=>h)
     refine ⟨rfl,fun c=>(D c∨w.heap.size≤c)∧c < v10.heap.size,_,?_,hAB,OD,fun c hc=>hc.1⟩
     have hw2:w.heap.size < w2.heap.size:=by have h1:=HC2.out.lt; omega
     have hpl:p < w.heap.size:=HST.out.lt
     have h8:=HP8.out.size
     have h9:=HO9.out.size
     have h10:=HOP.out.size
     have hqb:=HQB.out
     have own10:=HOWN9.out.off HOP.out (fun c _ hc e=>by
      subst e
      rcases HAT9.out c hc with k | k
      ·exact (HGD.out c k).2 rfl
      ·omega)
     have hg8:∀ g,blk a9=some g→blk a=some g∧D g∧g ≠ p∧g < w2.heap.size∨v8.heap.size≤g:=fun g hg=>by
      rcases HAT9.out g hg with k | k
      ·exact .inl ⟨k,(HGD.out g k).1,(HGD.out g k).2,HOW2.out.lt g k⟩
      ·exact .inr k
     have rowY:Row v10 y.e.a y.e.cap y.e.l:=(HRY.out.offT HTY.out HO9.out (fun c hc hd e=>by have:=HOW2.out.lt c e; omega)).offT HTY.out HOP.out (fun c hc hd e=>by omega)
     have rowX:∀ x ∈ xs,Row v10 x.e.a x.e.cap x.e.l:=fun x hx=>((((HST.out.row x hx).off HO2.out).off HP8.out).offT (HGT.out x hx) HO9.out (fun c _ hd e=>hd e)).offT (HST.out.ter x hx) HOP.out (fun c _ hd e=>hd.2 e)
     refine ⟨⟨.inl HST.out.dp,by omega⟩,fun c hc=>hc.2,⟨a9,c9,by rw [← hYS,← HN9.out]; exact HCP9.out,by rw [← hYS]; exact own10,fun g hg=>?_,fun x hx=>?_⟩,fun x hx=>?_,fun x hx=>?_,?_⟩
     ·have hlt:=own10.lt g hg
      rcases hg8 g hg with k | k
      ·exact ⟨⟨.inl k.2.1,hlt⟩,k.2.2.1⟩
      ·exact ⟨⟨.inr (by omega),hlt⟩,by omega⟩
     ·rcases (mem_putGH H.nk).1 hx with rfl | ⟨hx,-⟩
      ·exact (HTY.out.and HRY.out.below).mono (fun c hc e=>by rcases hg8 c e with k | k <;> omega)
      ·exact ((HGT.out x hx).and (HST.out.row x hx).below).mono (fun c hc e=>by
        rcases hg8 c e with k | k
        ·exact hc.1 k.1
        ·omega)
     ·rcases (mem_putGH H.nk).1 hx with rfl | ⟨hx,-⟩
      ·exact rowY
      ·exact rowX x hx
     ·rcases (mem_putGH H.nk).1 hx with rfl | ⟨hx,-⟩
      ·exact (HTY.out.and rowY.below).mono (fun c hc=>⟨⟨.inr (by omega),hc.2⟩,by omega⟩)
      ·exact ((HST.out.ter x hx).and (rowX x hx).below).mono (fun c hc=>⟨⟨.inl hc.1.1,hc.2⟩,hc.1.2⟩)
     ·rw [hAB]
      have e:=HST.out.ok.hpR (x:=h.abs) HNRM.out
      rw [hpR_new HM.out HNF.out (by rw [absH_len]; exact HNL.out)] at e
      exact e
    ·go_simp
     have CB:=Cel.new v7 75 #[.int .i64 y.node,.string y.e.key,.int .i64 (y.e.f 0),.int .i64 (y.e.f 1),.int .i64 (y.e.f 2),.int .i64 (y.e.f 3),.int .i64 (y.e.f 4),.int .i64 (y.e.f 5),.int .i64 (y.e.f 6),.int .i64 (y.e.f 7),.slice y.e.a y.e.l.length y.e.cap]
     have OB:Off (fun _=>False) v7 (v7.alloc (.cells #[.int .i64 y.node,.string y.e.key,.int .i64 (y.e.f 0),.int .i64 (y.e.f 1),.int .i64 (y.e.f 2),.int .i64 (y.e.f 3),.int .i64 (y.e.f 4),.int .i64 (y.e.f 5),.int .i64 (y.e.f 6),.int .i64 (y.e.f 7),.slice y.e.a y.e.l.length y.e.cap] 75)):=(Off.refl _ v7).alloc _
     refine hK'.out _ _ (hS.trans OB (fun _ _ h=>h.elim)) (fun hS=>?_)
     clear hK' K'
     have HVB:Hid (v7.heap.size=v7.heap.size):=rfl
     generalize hqb:v7.heap.size=vb at CB HVB ⊢
     generalize hvb:v7.alloc (.cells #[.int .i64 y.node,.string y.e.key,.int .i64 (y.e.f 0),.int .i64 (y.e.f 1),.int .i64 (y.e.f 2),.int .i64 (y.e.f 3),.int .i64 (y.e.f 4),.int .i64 (y.e.f 5),.int .i64 (y.e.f 6),.int .i64 (y.e.f 7),.slice y.e.a y.e.l.length y.e.cap] 75)=v8 at CB OB hS ⊢
     have HQB:Hid (v7.heap.size≤vb∧w2.heap.size≤vb):=by have:=hP7.size; show _∧_; constructor <;> omega
     clear hqb hvb HVB
     have hP8:Off (fun _=>False) w2 v8:=hP7.trans OB (fun _ _ h=>h)
     have HY:Hid _:=hy
     have HRY:Hid _:=ry.off OB
     have HTY:Hid (Ter (fun c=>w2.heap.size≤c) y.e.a y.e.l):=ty.mono (fun c hc=>by have e:w2.drew.heap.size=w2.heap.size:=rfl; omega)
     have HP8:Hid _:=hP8
     have HCB:Hid _:=CB
     clear hy ry ty OB hP7 CB hP
     have c8:v8.cell? ⟨p,0,none⟩=some (.slice a xs.length cap):=(HCP.out.off HP8.out (fun h=>h)).cell 0
     refine wpAnyH_ready (rs:=[4]) (by kernel_rfl) (by simp) ?_
     refine AllReadyH.cons rfl (fun K' hK'=>?_) AllReadyH.nil
     go_simp
     refine hK'.out _ _ hS (fun hS=>?_)
     clear hK' K'
     refine wpAnyH_ready (rs:=[9]) (by kernel_rfl) (by simp) ?_
     refine AllReadyH.cons rfl (fun K' hK'=>?_) AllReadyH.nil
     go_simp
     refine (hins_any a cap xs n y vb v8 (HOW2.out.off HP8.out (fun _ _ _ h=>h)) HFN.out.le (by omega) HCB.out (fun e=>by have h1:=(HOW2.out.lt vb e); have h2:=HQB.out; omega) _ rfl).mono ?_
     rintro e v9 ⟨a9,c9,n9,rfl,hn9,own9,o9,at9⟩
     have hS9:Off D w2 v9:=hS.trans o9 (fun i hi e=>(HGD.out i e).1)
     refine hK'.out _ _ hS9 (fun hS=>?_)
     clear hK' K'
     have HOWN9:Hid _:=own9
     have HAT9:Hid _:=at9
     have HN9:Hid _:=hn9
     have HO9:Hid (Off (fun c=>blk a=some c) v8 v9):=o9
     clear own9 at9 hn9 o9 hS9
     have hcp:Cel p 144 #[.slice a xs.length cap] v9:=(HCP.out.off HP8.out (fun h=>h)).off HO9.out (fun e=>(HGD.out p e).2 rfl)
     have c0:=hcp.cell 0
     have fr:=hcp.free
     simp only [List.getElem?_toArray,List.getElem?_cons_zero] at c0
     have HCP9:Hid _:=hcp.set 0 (.slice a9 n9 c9)
     clear hcp
     refine take_q 10 53 (.pointer (some ⟨p,0,none⟩)) hS ?_
     simp only [Act.put,lsA,lsZ,lsS]
     refine take_q 11 54 (.pointer (some ⟨p,0,none⟩)) hS ?_
     simp only [Act.put,lsA,lsZ,lsS]
     refine wpAnyH_ready (rs:=[12]) (by kernel_rfl) (by simp) ?_
     refine AllReadyH.cons rfl (fun K' hK'=>?_) AllReadyH.nil
     go_simp
     refine hK'.out _ _ (hS.setCell (p:=⟨p,0,none⟩) (.inl HST.out.dp) _) (fun hS'=>?_)
     clear hK' K'
     have OP:Off (fun c=>c=p) v9 (v9.setCell ⟨p,0,none⟩ (.slice a9 n9 c9)):=(Off.refl (fun c=>c=p) v9).setCell (p:=⟨p,0,none⟩) (.inl rfl) _
     generalize hv10:v9.setCell ⟨p,0,none⟩ (.slice a9 n9 c9)=v10 at hS' HCP9 OP ⊢
     clear hv10 c0 fr
     refine wpAnyH_done (by kernel_rfl) ?_ _
     have HOP:Hid _:=OP
     have HSF:Hid _:=hS'
     clear OP hS' hS
     go_wp2_with fail
     go_ret2
     rw [hpR_new HM.out HNF.out (by rw [absH_len]; exact HNL.out)]
     have hYS:xs.take n ++ y :: xs.drop n=putGH H.nk y xs:=ins_put H.nk HST.out.sor HFN.out.le (fun i x hi hx=>by rw [show y.nk=(h.node,h.e.key) from congrArg HK.nk HY.out]; exact HFN.out.lo i x hi hx) (fun i x hi hx=>by rw [show y.nk=(h.node,h.e.key) from congrArg HK.nk HY.out]; exact fnd_hi HST.out.sor HFN.out HIA.out i x hi hx)
     have hAB:absH (putGH H.nk y xs)=putGH HK.nk h.abs (absH xs):=by rw [absH_put,HY.out]
     have OD:Off D w v10:=(HO2.out.mono (fun _ _ h=>h.elim)).trans HSF.out (fun _ _ h=>h)
     refine ⟨rfl,fun c=>(D c∨w.heap.size≤c)∧c < v10.heap.size,_,?_,hAB,OD,fun c hc=>hc.1⟩
     have hw2:w.heap.size < w2.heap.size:=by have h1:=HC2.out.lt; omega
     have hpl:p < w.heap.size:=HST.out.lt
     have h8:=HP8.out.size
     have h9:=HO9.out.size
     have h10:=HOP.out.size
     have hqb:=HQB.out
     have own10:=HOWN9.out.off HOP.out (fun c _ hc e=>by
      subst e
      rcases HAT9.out c hc with k | k
      ·exact (HGD.out c k).2 rfl
      ·omega)
     have hg8:∀ g,blk a9=some g→blk a=some g∧D g∧g ≠ p∧g < w2.heap.size∨v8.heap.size≤g:=fun g hg=>by
      rcases HAT9.out g hg with k | k
      ·exact .inl ⟨k,(HGD.out g k).1,(HGD.out g k).2,HOW2.out.lt g k⟩
      ·exact .inr k
     have rowY:Row v10 y.e.a y.e.cap y.e.l:=(HRY.out.offT HTY.out HO9.out (fun c hc hd e=>by have:=HOW2.out.lt c e; omega)).offT HTY.out HOP.out (fun c hc hd e=>by omega)
     have rowX:∀ x ∈ xs,Row v10 x.e.a x.e.cap x.e.l:=fun x hx=>((((HST.out.row x hx).off HO2.out).off HP8.out).offT (HGT.out x hx) HO9.out (fun c _ hd e=>hd e)).offT (HST.out.ter x hx) HOP.out (fun c _ hd e=>hd.2 e)
     refine ⟨⟨.inl HST.out.dp,by omega⟩,fun c hc=>hc.2,⟨a9,c9,by rw [← hYS,← HN9.out]; exact HCP9.out,by rw [← hYS]; exact own10,fun g hg=>?_,fun x hx=>?_⟩,fun x hx=>?_,fun x hx=>?_,?_⟩
     ·have hlt:=own10.lt g hg
      rcases hg8 g hg with k | k
      ·exact ⟨⟨.inl k.2.1,hlt⟩,k.2.2.1⟩
      ·exact ⟨⟨.inr (by omega),hlt⟩,by omega⟩
     ·rcases (mem_putGH H.nk).1 hx with rfl | ⟨hx,-⟩
      ·exact (HTY.out.and HRY.out.below).mono (fun c hc e=>by rcases hg8 c e with k | k <;> omega)
      ·exact ((HGT.out x hx).and (HST.out.row x hx).below).mono (fun c hc e=>by
        rcases hg8 c e with k | k
        ·exact hc.1 k.1
        ·omega)
     ·rcases (mem_putGH H.nk).1 hx with rfl | ⟨hx,-⟩
      ·exact rowY
      ·exact rowX x hx
     ·rcases (mem_putGH H.nk).1 hx with rfl | ⟨hx,-⟩
      ·exact (HTY.out.and rowY.below).mono (fun c hc=>⟨⟨.inr (by omega),hc.2⟩,by omega⟩)
      ·exact ((HST.out.ter x hx).and (rowX x hx).below).mono (fun c hc=>⟨⟨.inl hc.1.1,hc.2⟩,hc.1.2⟩)
     ·rw [hAB]
      have e:=HST.out.ok.hpR (x:=h.abs) HNRM.out
      rw [hpR_new HM.out HNF.out (by rw [absH_len]; exact HNL.out)] at e
      exact e
 ·obtain ⟨x,hx,hxk,hfx⟩:=fnd_yes HST.out.sor hia
  have HFX:Hid (fndGH HK.nk h.abs.nk (absH xs)=some x.abs):=by show fndGH HK.nk (h.node,h.e.key) (absH xs)=_; rw [← absH_fnd,hfx]; rfl
  have HX:Hid _:=hx
  have HXK:Hid _:=hxk
  have HRX:Hid _:=(HST.out.row x (List.mem_of_getElem? hx)).off HO2.out
  obtain ⟨hlt,-⟩:=List.getElem?_eq_some_iff.1 hx
  obtain ⟨g,rfl,hat⟩:=HOW2.out.atH hx
  have hix:=idx_hin hlt
  have HAT:Hid _:=hat
  clear hx hxk hfx hat hia
  go_upto_region 10 with fail
  clear c0 hix
  refine wp_region_held_drew (S:=fun w'=>Off (fun _=>False) w2 w') (by kernel_rfl) ((Off.refl _ w2).drew) (fun hS=>?_)
  generalize hdr:w2.drew=v5 at hS ⊢
  have HV5:Hid (w2.heap.size≤v5.heap.size):=hS.size
  clear hdr
  refine take_q 0 63 (.pointer (some ⟨g,n * 11 + 2,none⟩)) hS ?_
  simp only [Act.put,lsA,lsZ,lsS]
  refine take_q 1 64 (.pointer (some ⟨g,n * 11 + 2,none⟩)) hS ?_
  simp only [Act.put,lsA,lsZ,lsS]
  refine take_r 2 65 (.agg #[.int .i64 (x.e.f 0),.int .i64 (x.e.f 1),.int .i64 (x.e.f 2),.int .i64 (x.e.f 3),.int .i64 (x.e.f 4),.int .i64 (x.e.f 5),.int .i64 (x.e.f 6),.int .i64 (x.e.f 7),.slice x.e.a x.e.l.length x.e.cap]) rfl (Or.inl ⟨by rfl,fun w' hw'=>by obtain ⟨x0,x1,x2,x3,x4,x5,x6,x7,x8,x9,x10⟩:=(HAT.out.off hw' (fun _ h=>h)).cells; go_simp⟩) hS ?_
  simp only [Act.put,lsA,lsZ,lsS]
  refine take_q 3 66 (.pointer (some ⟨w.heap.size,1,none⟩)) hS ?_
  simp only [Act.put,lsA,lsZ,lsS]
  refine take_q 4 67 (.pointer (some ⟨w.heap.size,2,none⟩)) hS ?_
  simp only [Act.put,lsA,lsZ,lsS]
  refine take_r 5 68 (.agg #[.int .i64 (h.e.f 0),.int .i64 (h.e.f 1),.int .i64 (h.e.f 2),.int .i64 (h.e.f 3),.int .i64 (h.e.f 4),.int .i64 (h.e.f 5),.int .i64 (h.e.f 6),.int .i64 (h.e.f 7),.slice h.e.a h.e.l.length h.e.cap]) rfl (Or.inl ⟨by rfl,fun w' hw'=>by obtain ⟨x0,x1,x2,x3,x4,x5,x6,x7,x8,x9,x10⟩:=cel11 (HC2.out.off hw' (fun h=>h)); go_simp⟩) hS ?_
  simp only [Act.put,lsA,lsZ,lsS]
  refine wpAnyH_ready (rs:=[6,7]) (by kernel_rfl) (by simp) ?_
  refine AllReadyH.cons rfl (fun K' hK'=>?_) (AllReadyH.cons rfl (fun K' hK'=>?_) AllReadyH.nil)
  ·go_simp
   refine (sjoin_any x.e.f h.e.f x.e.a h.e.a x.e.cap h.e.cap x.e.l h.e.l _ (HRX.out.off hS) (HR2.out.off hS)).mono ?_
   rintro e v6 ⟨j,aj,cj,lj,rfl,hj,hlj,mj,o6⟩
   have HJ:Hid _:=hj
   have HLJ:Hid _:=hlj
   clear hj hlj
   refine hK'.out _ _ (hS.trans o6 (fun _ _ h=>h)) (fun hS=>?_)
   clear hK' K'
   refine wpAnyH_ready (rs:=[7]) (by kernel_rfl) (by simp) ?_
   refine AllReadyH.cons rfl (fun K' hK'=>?_) AllReadyH.nil
   go_simp
   have CA:=Cel.new v6 47 #[.int .i64 0,.int .i64 0,.int .i64 0,.int .i64 0,.int .i64 0,.int .i64 0,.int .i64 0,.int .i64 0,.slice none 0 0]
   have OA:Off (fun _=>False) v6 (v6.alloc (.cells #[.int .i64 0,.int .i64 0,.int .i64 0,.int .i64 0,.int .i64 0,.int .i64 0,.int .i64 0,.int .i64 0,.slice none 0 0] 47)):=(Off.refl _ v6).alloc _
   have hw0:=hS.size
   refine hK'.out _ _ (hS.trans OA (fun _ _ h=>h)) (fun hS=>?_)
   clear hK' K'
   generalize hqa:v6.heap.size=qa at CA ⊢
   generalize hva:v6.alloc (.cells #[.int .i64 0,.int .i64 0,.int .i64 0,.int .i64 0,.int .i64 0,.int .i64 0,.int .i64 0,.int .i64 0,.slice none 0 0] 47)=v7 at CA OA hS ⊢
   have HQA:Hid (v6.heap.size=qa∧w2.heap.size≤qa):=⟨hqa,by omega⟩
   clear hva hqa hw0
   obtain ⟨z0,z1,z2,z3,z4,z5,z6,z7,z8⟩:=cel9 (f:=zer) CA
   have fr:=CA.free
   refine wpAnyH_ready (rs:=[8]) (by kernel_rfl) (by simp) ?_
   refine AllReadyH.cons rfl (fun K' hK'=>?_) AllReadyH.nil
   go_simp
   have hS5:=hS.st9 (b:=qa) (.inr HQA.out.2) j (.slice aj lj.length cj)
   refine hK'.out _ _ hS5 (fun hS=>?_)
   clear hK' K' hS5
   clear z0 z1 z2 z3 z4 z5 z6 z7 z8 fr
   have CJ:=Cel.st9 (f:=zer) CA j (.slice aj lj.length cj)
   have OJ:=(Off.refl (fun c=>c=qa) v7).st9 (b:=qa) (.inl rfl) j (.slice aj lj.length cj)
   generalize hv8:(((((((((v7.setCell ⟨qa,0,none⟩ (.int .i64 (j 0))).setCell ⟨qa,1,none⟩ (.int .i64 (j 1))).setCell ⟨qa,2,none⟩ (.int .i64 (j 2))).setCell ⟨qa,3,none⟩ (.int .i64 (j 3))).setCell ⟨qa,4,none⟩ (.int .i64 (j 4))).setCell ⟨qa,5,none⟩ (.int .i64 (j 5))).setCell ⟨qa,6,none⟩ (.int .i64 (j 6))).setCell ⟨qa,7,none⟩ (.int .i64 (j 7))).setCell ⟨qa,8,none⟩ (.slice aj lj.length cj))=v8 at CJ OJ hS ⊢
   clear hv8
   have TJ:=mj.ter.mono (E:=fun c=>w2.heap.size≤c) (fun c hc=>by have:=HV5.out; omega)
   have RJ:=(mj.row.off OA).offT (TJ.and mj.row.below) OJ (fun c hc hd e=>by have:=HQA.out.1; omega)
   clear CA OA OJ
   refine wpAnyH_done (by kernel_rfl) ?_ _
   have HCJ:Hid _:=CJ
   have HP8:Hid (Off (fun _=>False) w2 v8):=hS
   have HRJ:Hid _:=RJ
   have HTJ:Hid (Ter (fun c=>w2.heap.size≤c) aj lj):=TJ
   clear CJ hS RJ TJ mj o6
   clear HQA
   go_upto_region 11 with fail
   refine wp_region_held_drew (S:=fun w'=>Off (fun _=>False) v8 w') (by kernel_rfl) ((Off.refl _ v8).drew) (fun hS=>?_)
   refine take_q 0 70 (.pointer (some ⟨g,n * 11 + 2,none⟩)) hS ?_
   simp only [Act.put,lsA,lsZ,lsS]
   refine take_q 1 71 (.pointer (some ⟨g,n * 11 + 2,none⟩)) hS ?_
   simp only [Act.put,lsA,lsZ,lsS]
   refine take_r 2 72 (.agg #[.int .i64 (x.e.f 0),.int .i64 (x.e.f 1),.int .i64 (x.e.f 2),.int .i64 (x.e.f 3),.int .i64 (x.e.f 4),.int .i64 (x.e.f 5),.int .i64 (x.e.f 6),.int .i64 (x.e.f 7),.slice x.e.a x.e.l.length x.e.cap]) rfl (Or.inl ⟨by rfl,fun w' hw'=>by obtain ⟨x0,x1,x2,x3,x4,x5,x6,x7,x8,x9,x10⟩:=((HAT.out.off HP8.out (fun _ h=>h)).off hw' (fun _ h=>h)).cells; go_simp⟩) hS ?_
   simp only [Act.put,lsA,lsZ,lsS]
   refine take_r 3 73 (.agg #[.int .i64 (j 0),.int .i64 (j 1),.int .i64 (j 2),.int .i64 (j 3),.int .i64 (j 4),.int .i64 (j 5),.int .i64 (j 6),.int .i64 (j 7),.slice aj lj.length cj]) rfl (Or.inl ⟨by rfl,fun w' hw'=>by obtain ⟨x0,x1,x2,x3,x4,x5,x6,x7,x8⟩:=cel9 (HCJ.out.off hw' (fun h=>h)); go_simp⟩) hS ?_
   simp only [Act.put,lsA,lsZ,lsS]
   refine wpAnyH_ready (rs:=[4]) (by kernel_rfl) (by simp) ?_
   refine AllReadyH.cons rfl (fun K' hK'=>?_) AllReadyH.nil
   go_simp
   refine (ssame_any x.e.f j x.e.a aj x.e.cap cj x.e.l lj _ ((HRX.out.off HP8.out).off hS) (HRJ.out.off hS)).mono ?_
   generalize hsm:sameS x.e.f j (cont x.e.l) (cont lj)=sm
   rintro e v9 ⟨rfl,o9⟩
   refine hK'.out _ _ (hS.trans o9 (fun _ _ h=>h)) (fun hS=>?_)
   clear hK' K'
   refine take_q 5 75 (.bool (!sm)) hS ?_
   simp only [Act.put,lsA,lsZ,lsS]
   refine take_q 6 10 (.bool (!sm)) hS ?_
   simp only [Act.put,lsA,lsZ,lsS]
   refine wpAnyH_done (by kernel_rfl) ?_ _
   have HP9:Hid (Off (fun _=>False) w2 v9):=HP8.out.trans hS (fun _ _ h=>h)
   have HCJ9:Hid _:=HCJ.out.off hS (fun h=>h)
   have HRJ9:Hid _:=HRJ.out.off hS
   have HSM:Hid _:=hsm
   clear hS o9 hsm HCJ HRJ
   have AT9:=(HAT.out.off HP9.out (fun _ h=>h)).cells
   obtain ⟨y0,y1,y2,y3,y4,y5,y6,y7,y8,y9,y10⟩:=AT9
   obtain ⟨x0,x1,x2,x3,x4,x5,x6,x7,x8⟩:=cel9 HCJ9.out
   have HOW9:Hid _:=HOW2.out.off HP9.out (fun _ _ _ h=>h)
   have frg:∀ o,v9.frozen? ⟨g,o,none⟩=false:=by
    obtain ⟨g',cur,eg,hc,-⟩:=HOW9.out.cel (by simp)
    simp only [Option.some.injEq,Addr.mk.injEq,and_true] at eg
    subst eg
    exact hc.free
   go_wp2_with fail
   go_ret2
   rw [hpR_old HM.out HFX.out]
   obtain ⟨y,hy⟩:∃ y:H,y=⟨h.node,⟨h.e.key,j,aj,cj,lj⟩⟩:=⟨_,rfl⟩
   have hya:y.abs=jnH x.abs h.abs:=by rw [hy]; show (⟨h.node,⟨h.e.key,j,cont lj⟩⟩:HK)=_; rw [HLJ.out,HJ.out]; rfl
   have hn1:x.node=h.node:=congrArg Prod.fst HXK.out
   have hn2:x.e.key=h.e.key:=congrArg Prod.snd HXK.out
   have hw2:w.heap.size < w2.heap.size:=by have h1:=HC2.out.lt; omega
   have hgl:g < w2.heap.size:=HOW2.out.lt g rfl
   have hgd:=HGD.out g rfl
   have hpl:p < w.heap.size:=HST.out.lt
   have own10:=HOW9.out.setS (y:=y) HX.out (by rw [hy]; exact hn1.symm) (by rw [hy]; exact hn2.symm)
   have OG:Off (fun c=>c=g) v9 (wrs g (n * 11 + 2) (sib9 y.e.f (.slice y.e.a y.e.l.length y.e.cap)) v9):=off_wrs (Off.refl _ v9) (.inl rfl)
   have hpx:xs.set n y=putGH H.nk y xs:=set_put H.nk HST.out.sor HX.out (by rw [hy]; exact HXK.out.symm)
   have hab:absH (xs.set n y)=putGH HK.nk (jnH x.abs h.abs) (absH xs):=by rw [hpx,absH_put,hya]
   have hww:wrs g (n * 11 + 2) (sib9 y.e.f (.slice y.e.a y.e.l.length y.e.cap)) v9=wrs g (n * 11 + 2) (sib9 j (.slice aj lj.length cj)) v9:=by rw [hy]
   rw [hww] at own10 OG
   have OD:Off D w (wrs g (n * 11 + 2) (sib9 j (.slice aj lj.length cj)) v9):=((HO2.out.trans HP9.out (fun _ _ h=>h)).mono (fun _ _ h=>h.elim)).trans OG (fun i hi e=>by rw [e]; exact hgd.1)
   have rowY:Row (wrs g (n * 11 + 2) (sib9 j (.slice aj lj.length cj)) v9) aj cj lj:=HRJ9.out.offT HTJ.out OG (fun c hc hd e=>by omega)
   have rowX:∀ z ∈ xs,Row (wrs g (n * 11 + 2) (sib9 j (.slice aj lj.length cj)) v9) z.e.a z.e.cap z.e.l:=fun z hz=>(((HST.out.row z hz).off HO2.out).off HP9.out).offT (HGT.out z hz) OG (fun c _ hd e=>hd (by rw [e]; rfl))
   have memY:∀ z ∈ xs.set n y,z=y∨z ∈ xs:=fun z hz=>by rw [hpx] at hz; rcases (mem_putGH H.nk).1 hz with e | e; exact .inl e; exact .inr e.1
   have h9:=HP9.out.size
   have h10:=OG.size
   refine ⟨?_,fun c=>(D c∨w.heap.size≤c)∧c < (wrs g (n * 11 + 2) (sib9 j (.slice aj lj.length cj)) v9).heap.size,xs.set n y,⟨⟨.inl HST.out.dp,by omega⟩,fun c hc=>hc.2,⟨_,cap,?_,own10,fun c hc=>?_,fun z hz=>?_⟩,fun z hz=>?_,fun z hz=>?_,?_⟩,hab,OD,fun c hc=>hc.1⟩
   ·show _=Ending.returned (Value.tuple #[Value.bool (!sameS x.abs.k.f (jnH x.abs h.abs).k.f x.abs.k.l (jnH x.abs h.abs).k.l),_])
    rw [← hya,hy]
    show _=Ending.returned (Value.tuple #[Value.bool (!sameS x.e.f j (cont x.e.l) (cont lj)),_])
    rw [HSM.out]
    rfl
   ·rw [List.length_set]
    exact (HCP.out.off HP9.out (fun h=>h)).off OG (fun e=>hgd.2 e.symm)
   ·simp [blk] at hc
    subst hc
    exact ⟨⟨.inl hgd.1,by omega⟩,hgd.2⟩
   ·rcases memY z hz with e | hz
    ·rw [e,hy]
     exact HTJ.out.mono (fun c hc e=>by simp [blk] at e; omega)
    ·exact HGT.out z hz
   ·rcases memY z hz with e | hz
    ·rw [e,hy]
     exact rowY
    ·exact rowX z hz
   ·rcases memY z hz with e | hz
    ·rw [e,hy]
     exact (HTJ.out.and rowY.below).mono (fun c hc=>⟨⟨.inr (by omega),hc.2⟩,by omega⟩)
    ·exact ((HST.out.ter z hz).and (rowX z hz).below).mono (fun c hc=>⟨⟨.inl hc.1.1,hc.2⟩,hc.1.2⟩)
   ·rw [hab]
    have e:=HST.out.ok.hpR (x:=h.abs) HNRM.out
    rw [hpR_old HM.out HFX.out] at e
    exact e
  ·go_simp
   have CA:=Cel.new v5 47 #[.int .i64 0,.int .i64 0,.int .i64 0,.int .i64 0,.int .i64 0,.int .i64 0,.int .i64 0,.int .i64 0,.slice none 0 0]
   have OA:Off (fun _=>False) v5 (v5.alloc (.cells #[.int .i64 0,.int .i64 0,.int .i64 0,.int .i64 0,.int .i64 0,.int .i64 0,.int .i64 0,.int .i64 0,.slice none 0 0] 47)):=(Off.refl _ v5).alloc _
   have hw0:=hS.size
   refine hK'.out _ _ (hS.trans OA (fun _ _ h=>h)) (fun hS=>?_)
   clear hK' K'
   generalize hqa:v5.heap.size=qa at CA ⊢
   generalize hva:v5.alloc (.cells #[.int .i64 0,.int .i64 0,.int .i64 0,.int .i64 0,.int .i64 0,.int .i64 0,.int .i64 0,.int .i64 0,.slice none 0 0] 47)=v6 at CA OA hS ⊢
   have HQA:Hid (v5.heap.size=qa∧w2.heap.size≤qa):=⟨hqa,by omega⟩
   clear hva hqa hw0
   refine wpAnyH_ready (rs:=[6]) (by kernel_rfl) (by simp) ?_
   refine AllReadyH.cons rfl (fun K' hK'=>?_) AllReadyH.nil
   go_simp
   refine (sjoin_any x.e.f h.e.f x.e.a h.e.a x.e.cap h.e.cap x.e.l h.e.l _ (HRX.out.off hS) (HR2.out.off hS)).mono ?_
   rintro e v7 ⟨j,aj,cj,lj,rfl,hj,hlj,mj,o6⟩
   have HJ:Hid _:=hj
   have HLJ:Hid _:=hlj
   clear hj hlj
   refine hK'.out _ _ (hS.trans o6 (fun _ _ h=>h)) (fun hS=>?_)
   clear hK' K'
   have HQ6:Hid (qa < v6.heap.size):=CA.lt
   replace CA:=CA.off (D:=fun _=>False) o6 (fun h=>h)
   obtain ⟨z0,z1,z2,z3,z4,z5,z6,z7,z8⟩:=cel9 (f:=zer) CA
   have fr:=CA.free
   refine wpAnyH_ready (rs:=[8]) (by kernel_rfl) (by simp) ?_
   refine AllReadyH.cons rfl (fun K' hK'=>?_) AllReadyH.nil
   go_simp
   have hS5:=hS.st9 (b:=qa) (.inr HQA.out.2) j (.slice aj lj.length cj)
   refine hK'.out _ _ hS5 (fun hS=>?_)
   clear hK' K' hS5
   clear z0 z1 z2 z3 z4 z5 z6 z7 z8 fr
   have CJ:=Cel.st9 (f:=zer) CA j (.slice aj lj.length cj)
   have OJ:=(Off.refl (fun c=>c=qa) v7).st9 (b:=qa) (.inl rfl) j (.slice aj lj.length cj)
   generalize hv8:(((((((((v7.setCell ⟨qa,0,none⟩ (.int .i64 (j 0))).setCell ⟨qa,1,none⟩ (.int .i64 (j 1))).setCell ⟨qa,2,none⟩ (.int .i64 (j 2))).setCell ⟨qa,3,none⟩ (.int .i64 (j 3))).setCell ⟨qa,4,none⟩ (.int .i64 (j 4))).setCell ⟨qa,5,none⟩ (.int .i64 (j 5))).setCell ⟨qa,6,none⟩ (.int .i64 (j 6))).setCell ⟨qa,7,none⟩ (.int .i64 (j 7))).setCell ⟨qa,8,none⟩ (.slice aj lj.length cj))=v8 at CJ OJ hS ⊢
   clear hv8
   have hq6:=HQ6.out
   have TJ:=mj.ter.mono (E:=fun c=>w2.heap.size≤c) (fun c hc=>by have:=HQA.out; omega)
   have RJ:=mj.row.offT mj.ter OJ (fun c hc hd e=>by omega)
   clear CA OA OJ
   refine wpAnyH_done (by kernel_rfl) ?_ _
   have HCJ:Hid _:=CJ
   have HP8:Hid (Off (fun _=>False) w2 v8):=hS
   have HRJ:Hid _:=RJ
   have HTJ:Hid (Ter (fun c=>w2.heap.size≤c) aj lj):=TJ
   clear CJ hS RJ TJ mj o6
   clear HQA
   go_upto_region 11 with fail
   refine wp_region_held_drew (S:=fun w'=>Off (fun _=>False) v8 w') (by kernel_rfl) ((Off.refl _ v8).drew) (fun hS=>?_)
   refine take_q 0 70 (.pointer (some ⟨g,n * 11 + 2,none⟩)) hS ?_
   simp only [Act.put,lsA,lsZ,lsS]
   refine take_q 1 71 (.pointer (some ⟨g,n * 11 + 2,none⟩)) hS ?_
   simp only [Act.put,lsA,lsZ,lsS]
   refine take_r 2 72 (.agg #[.int .i64 (x.e.f 0),.int .i64 (x.e.f 1),.int .i64 (x.e.f 2),.int .i64 (x.e.f 3),.int .i64 (x.e.f 4),.int .i64 (x.e.f 5),.int .i64 (x.e.f 6),.int .i64 (x.e.f 7),.slice x.e.a x.e.l.length x.e.cap]) rfl (Or.inl ⟨by rfl,fun w' hw'=>by obtain ⟨x0,x1,x2,x3,x4,x5,x6,x7,x8,x9,x10⟩:=((HAT.out.off HP8.out (fun _ h=>h)).off hw' (fun _ h=>h)).cells; go_simp⟩) hS ?_
   simp only [Act.put,lsA,lsZ,lsS]
   refine take_r 3 73 (.agg #[.int .i64 (j 0),.int .i64 (j 1),.int .i64 (j 2),.int .i64 (j 3),.int .i64 (j 4),.int .i64 (j 5),.int .i64 (j 6),.int .i64 (j 7),.slice aj lj.length cj]) rfl (Or.inl ⟨by rfl,fun w' hw'=>by obtain ⟨x0,x1,x2,x3,x4,x5,x6,x7,x8⟩:=cel9 (HCJ.out.off hw' (fun h=>h)); go_simp⟩) hS ?_
   simp only [Act.put,lsA,lsZ,lsS]
   refine wpAnyH_ready (rs:=[4]) (by kernel_rfl) (by simp) ?_
   refine AllReadyH.cons rfl (fun K' hK'=>?_) AllReadyH.nil
   go_simp
   refine (ssame_any x.e.f j x.e.a aj x.e.cap cj x.e.l lj _ ((HRX.out.off HP8.out).off hS) (HRJ.out.off hS)).mono ?_
   generalize hsm:sameS x.e.f j (cont x.e.l) (cont lj)=sm
   rintro e v9 ⟨rfl,o9⟩
   refine hK'.out _ _ (hS.trans o9 (fun _ _ h=>h)) (fun hS=>?_)
   clear hK' K'
   refine take_q 5 75 (.bool (!sm)) hS ?_
   simp only [Act.put,lsA,lsZ,lsS]
   refine take_q 6 10 (.bool (!sm)) hS ?_
   simp only [Act.put,lsA,lsZ,lsS]
   refine wpAnyH_done (by kernel_rfl) ?_ _
   have HP9:Hid (Off (fun _=>False) w2 v9):=HP8.out.trans hS (fun _ _ h=>h)
   have HCJ9:Hid _:=HCJ.out.off hS (fun h=>h)
   have HRJ9:Hid _:=HRJ.out.off hS
   have HSM:Hid _:=hsm
   clear hS o9 hsm HCJ HRJ
   have AT9:=(HAT.out.off HP9.out (fun _ h=>h)).cells
   obtain ⟨y0,y1,y2,y3,y4,y5,y6,y7,y8,y9,y10⟩:=AT9
   obtain ⟨x0,x1,x2,x3,x4,x5,x6,x7,x8⟩:=cel9 HCJ9.out
   have HOW9:Hid _:=HOW2.out.off HP9.out (fun _ _ _ h=>h)
   have frg:∀ o,v9.frozen? ⟨g,o,none⟩=false:=by
    obtain ⟨g',cur,eg,hc,-⟩:=HOW9.out.cel (by simp)
    simp only [Option.some.injEq,Addr.mk.injEq,and_true] at eg
    subst eg
    exact hc.free
   go_wp2_with fail
   go_ret2
   rw [hpR_old HM.out HFX.out]
   obtain ⟨y,hy⟩:∃ y:H,y=⟨h.node,⟨h.e.key,j,aj,cj,lj⟩⟩:=⟨_,rfl⟩
   have hya:y.abs=jnH x.abs h.abs:=by rw [hy]; show (⟨h.node,⟨h.e.key,j,cont lj⟩⟩:HK)=_; rw [HLJ.out,HJ.out]; rfl
   have hn1:x.node=h.node:=congrArg Prod.fst HXK.out
   have hn2:x.e.key=h.e.key:=congrArg Prod.snd HXK.out
   have hw2:w.heap.size < w2.heap.size:=by have h1:=HC2.out.lt; omega
   have hgl:g < w2.heap.size:=HOW2.out.lt g rfl
   have hgd:=HGD.out g rfl
   have hpl:p < w.heap.size:=HST.out.lt
   have own10:=HOW9.out.setS (y:=y) HX.out (by rw [hy]; exact hn1.symm) (by rw [hy]; exact hn2.symm)
   have OG:Off (fun c=>c=g) v9 (wrs g (n * 11 + 2) (sib9 y.e.f (.slice y.e.a y.e.l.length y.e.cap)) v9):=off_wrs (Off.refl _ v9) (.inl rfl)
   have hpx:xs.set n y=putGH H.nk y xs:=set_put H.nk HST.out.sor HX.out (by rw [hy]; exact HXK.out.symm)
   have hab:absH (xs.set n y)=putGH HK.nk (jnH x.abs h.abs) (absH xs):=by rw [hpx,absH_put,hya]
   have hww:wrs g (n * 11 + 2) (sib9 y.e.f (.slice y.e.a y.e.l.length y.e.cap)) v9=wrs g (n * 11 + 2) (sib9 j (.slice aj lj.length cj)) v9:=by rw [hy]
   rw [hww] at own10 OG
   have OD:Off D w (wrs g (n * 11 + 2) (sib9 j (.slice aj lj.length cj)) v9):=((HO2.out.trans HP9.out (fun _ _ h=>h)).mono (fun _ _ h=>h.elim)).trans OG (fun i hi e=>by rw [e]; exact hgd.1)
   have rowY:Row (wrs g (n * 11 + 2) (sib9 j (.slice aj lj.length cj)) v9) aj cj lj:=HRJ9.out.offT HTJ.out OG (fun c hc hd e=>by omega)
   have rowX:∀ z ∈ xs,Row (wrs g (n * 11 + 2) (sib9 j (.slice aj lj.length cj)) v9) z.e.a z.e.cap z.e.l:=fun z hz=>(((HST.out.row z hz).off HO2.out).off HP9.out).offT (HGT.out z hz) OG (fun c _ hd e=>hd (by rw [e]; rfl))
   have memY:∀ z ∈ xs.set n y,z=y∨z ∈ xs:=fun z hz=>by rw [hpx] at hz; rcases (mem_putGH H.nk).1 hz with e | e; exact .inl e; exact .inr e.1
   have h9:=HP9.out.size
   have h10:=OG.size
   refine ⟨?_,fun c=>(D c∨w.heap.size≤c)∧c < (wrs g (n * 11 + 2) (sib9 j (.slice aj lj.length cj)) v9).heap.size,xs.set n y,⟨⟨.inl HST.out.dp,by omega⟩,fun c hc=>hc.2,⟨_,cap,?_,own10,fun c hc=>?_,fun z hz=>?_⟩,fun z hz=>?_,fun z hz=>?_,?_⟩,hab,OD,fun c hc=>hc.1⟩
   ·show _=Ending.returned (Value.tuple #[Value.bool (!sameS x.abs.k.f (jnH x.abs h.abs).k.f x.abs.k.l (jnH x.abs h.abs).k.l),_])
    rw [← hya,hy]
    show _=Ending.returned (Value.tuple #[Value.bool (!sameS x.e.f j (cont x.e.l) (cont lj)),_])
    rw [HSM.out]
    rfl
   ·rw [List.length_set]
    exact (HCP.out.off HP9.out (fun h=>h)).off OG (fun e=>hgd.2 e.symm)
   ·simp [blk] at hc
    subst hc
    exact ⟨⟨.inl hgd.1,by omega⟩,hgd.2⟩
   ·rcases memY z hz with e | hz
    ·rw [e,hy]
     exact HTJ.out.mono (fun c hc e=>by simp [blk] at e; omega)
    ·exact HGT.out z hz
   ·rcases memY z hz with e | hz
    ·rw [e,hy]
     exact rowY
    ·exact rowX z hz
   ·rcases memY z hz with e | hz
    ·rw [e,hy]
     exact (HTJ.out.and rowY.below).mono (fun c hc=>⟨⟨.inr (by omega),hc.2⟩,by omega⟩)
    ·exact ((HST.out.ter z hz).and (rowX z hz).below).mono (fun c hc=>⟨⟨.inl hc.1.1,hc.2⟩,hc.1.2⟩)
   ·rw [hab]
    have e:=HST.out.ok.hpR (x:=h.abs) HNRM.out
    rw [hpR_old HM.out HFX.out] at e
    exact e
end Go.Proofs.YthjbnpaghiojlaaGreat
