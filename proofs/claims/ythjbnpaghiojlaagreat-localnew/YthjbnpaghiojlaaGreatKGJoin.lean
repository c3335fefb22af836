/- Items of several texts. -/
import Derived.Deep.Cut
import Derived.Test.YthjbnpaghiojlaaGreatKSam
import Derived.Test.YthjbnpaghiojlaaGreatKInsQ
import Derived.Test.YthjbnpaghiojlaaGreatKGIns
import Derived.Test.YthjbnpaghiojlaaGreatKGMay
namespace Go.Proofs.YthjbnpaghiojlaaGreat
open Go.RowKit
def J0 (g:Nat→Int) (l2:List A) (x z:A):Prop:=(∃ y ∈ l2,EQ x y∧z=firstA x y)∨(z=x∧nc g x=true∧∀ y ∈ l2,¬ EQ x y)
def J1 (g:Nat→Int) (l1 l2:List A) (z:A):Prop:=∃ x ∈ l1,J0 g l2 x z
def J2 (f:Nat→Int) (l1 l2:List A) (z:A):Prop:=z ∈ l2∧nc f z=true∧∀ x ∈ l1,¬ EQ x z
def St1 (g:Nat→Int) (l1 l2:List A) (i:Nat) (m:List A):Prop:=Srt m∧∀ z,z ∈ m↔J1 g (l1.take i) l2 z
def St2 (f g:Nat→Int) (l1 l2:List A) (i:Nat) (m:List A):Prop:=Srt m∧∀ z,z ∈ m↔J1 g l1 l2 z∨J2 f l1 (l2.take i) z
theorem j0_dot {g:Nat→Int} {l2:List A} {x z:A} (h:J0 g l2 x z):EQ z x:=by
 rcases h with ⟨y,-,e,rfl⟩ | ⟨rfl,-⟩
 ·exact first_dot e
 ·exact EQ.refl _
theorem mem_take_succ {l:List A} {i:Nat} {x z:A} (hx:l[i]?=some x):z ∈ l.take (i + 1)↔z ∈ l.take i∨z=x:=by
 rw [List.take_add_one,hx,List.mem_append]
 simp
theorem take_lt {l:List A} (h:Srt l) {i:Nat} {x z:A} (hx:l[i]?=some x) (hz:z ∈ l.take i):LT z x:=by
 have h1:Srt (l.take (i + 1)):=srt_take h _
 rw [List.take_add_one,hx] at h1
 unfold Srt at h1
 rw [List.pairwise_append] at h1
 exact h1.2.2 z hz x (by simp)
theorem j1_succ {g:Nat→Int} {l1 l2:List A} {i:Nat} {x z:A} (hx:l1[i]?=some x):J1 g (l1.take (i + 1)) l2 z↔J1 g (l1.take i) l2 z∨J0 g l2 x z:=by
 unfold J1
 constructor
 ·rintro ⟨u,hu,hj⟩
  rcases (mem_take_succ hx).1 hu with h | rfl
  ·exact .inl ⟨u,h,hj⟩
  ·exact .inr hj
 ·rintro (⟨u,hu,hj⟩ | hj)
  ·exact ⟨u,(mem_take_succ hx).2 (.inl hu),hj⟩
  ·exact ⟨x,(mem_take_succ hx).2 (.inr rfl),hj⟩
theorem st1_zero (g:Nat→Int) (l1 l2:List A):St1 g l1 l2 0 []:=⟨by simp [Srt],fun z=>by simp [J1]⟩
theorem st1_skip {g:Nat→Int} {l1 l2 m:List A} {i:Nat} {x:A} (h:St1 g l1 l2 i m) (hx:l1[i]?=some x) (hn:∀ y ∈ l2,¬ EQ x y) (hc:nc g x=false):St1 g l1 l2 (i + 1) m:=by
 refine ⟨h.1,fun z=>?_⟩
 rw [h.2 z,j1_succ hx]
 constructor
 ·exact .inl
 ·rintro (h | ⟨y,hy,e,-⟩ | ⟨-,hp,-⟩)
  ·exact h
  ·exact absurd e (hn y hy)
  ·rw [hc] at hp
   cases hp
theorem st1_ins {g:Nat→Int} {l1 l2 m:List A} {i k:Nat} {x n:A} (h:St1 g l1 l2 i m) (hs:Srt l1) (hx:l1[i]?=some x) (hj:∀ z,J0 g l2 x z↔z=n)
  (h1:∀ z ∈ m.take k,LT z n) (h2:∀ y,m[k]?=some y→¬ LT y n):St1 g l1 l2 (i + 1) (m.take k ++ n :: m.drop k):=by
 have hnx:EQ n x:=j0_dot ((hj n).2 rfl)
 refine ⟨ins_srt h.1 h1 h2 (fun y hy e=>?_),fun z=>?_⟩
 ·obtain ⟨u,hu,hju⟩:=(h.2 y).1 hy
  have:=take_lt hs hx hu
  exact this.ne ((j0_dot hju).symm.trans (e.trans hnx))
 ·rw [ins_mem,h.2 z,j1_succ hx,hj z]
  exact ⟨fun h=>h.symm,fun h=>h.symm⟩
theorem j0_found {g:Nat→Int} {l2:List A} {x y:A} (hs:Srt l2) (hy:y ∈ l2) (e:EQ x y) (z:A):J0 g l2 x z↔z=firstA x y:=by
 unfold J0
 constructor
 ·rintro (⟨u,hu,e2,rfl⟩ | ⟨-,-,hn⟩)
  ·rw [srt_dot hs hu hy (e2.symm.trans e)]
  ·exact absurd e (hn y hy)
 ·rintro rfl
  exact .inl ⟨y,hy,e,rfl⟩
theorem j0_new {g:Nat→Int} {l2:List A} {x:A} (hn:∀ y ∈ l2,¬ EQ x y) (hc:nc g x=true) (z:A):J0 g l2 x z↔z=x:=by
 unfold J0
 constructor
 ·rintro (⟨u,hu,e2,-⟩ | ⟨h,-,-⟩)
  ·exact absurd e2 (hn u hu)
  ·exact h
 ·rintro rfl
  exact .inr ⟨rfl,hc,hn⟩
theorem st2_zero {f g:Nat→Int} {l1 l2 m:List A} {n:Nat} (h:St1 g l1 l2 n m) (hn:n=l1.length):St2 f g l1 l2 0 m:=by
 subst hn
 refine ⟨h.1,fun z=>?_⟩
 rw [h.2 z,List.take_length]
 simp [J2]
theorem st2_skip {f g:Nat→Int} {l1 l2 m:List A} {i:Nat} {y:A} (h:St2 f g l1 l2 i m) (hy:l2[i]?=some y) (hn:(∃ x ∈ l1,EQ x y)∨nc f y=false):St2 f g l1 l2 (i + 1) m:=by
 refine ⟨h.1,fun z=>?_⟩
 rw [h.2 z]
 unfold J2
 rw [mem_take_succ hy]
 constructor
 ·rintro (h | ⟨h1,h2,h3⟩)
  ·exact .inl h
  ·exact .inr ⟨.inl h1,h2,h3⟩
 ·rintro (h | ⟨h1 | rfl,h2,h3⟩)
  ·exact .inl h
  ·exact .inr ⟨h1,h2,h3⟩
  ·rcases hn with ⟨x,hx,e⟩ | hn
   ·exact absurd e (h3 x hx)
   ·rw [hn] at h2
    cases h2
theorem st2_ins {f g:Nat→Int} {l1 l2 m:List A} {i k:Nat} {y:A} (h:St2 f g l1 l2 i m) (hs:Srt l2) (hy:l2[i]?=some y) (hn:∀ x ∈ l1,¬ EQ x y) (hc:nc f y=true)
  (h1:∀ z ∈ m.take k,LT z y) (h2:∀ u,m[k]?=some u→¬ LT u y):St2 f g l1 l2 (i + 1) (m.take k ++ y :: m.drop k):=by
 refine ⟨ins_srt h.1 h1 h2 (fun z hz e=>?_),fun z=>?_⟩
 ·rcases (h.2 z).1 hz with ⟨x,hx,hj⟩ | ⟨hz2,-,-⟩
  ·exact hn x hx ((j0_dot hj).symm.trans e)
  ·exact (take_lt hs hy hz2).ne e
 ·rw [ins_mem,h.2 z]
  unfold J2
  rw [mem_take_succ hy]
  constructor
  ·rintro (rfl | h | ⟨h1,h2,h3⟩)
   ·exact .inr ⟨.inr rfl,hc,hn⟩
   ·exact .inl h
   ·exact .inr ⟨.inl h1,h2,h3⟩
  ·rintro (h | ⟨h1 | rfl,h2,h3⟩)
   ·exact .inr (.inl h)
   ·exact .inr (.inr ⟨h1,h2,h3⟩)
   ·exact .inl rfl
theorem st2_done {f g:Nat→Int} {l1 l2 m:List A} {n:Nat} (h:St2 f g l1 l2 n m) (hn:n=l2.length) (hs1:Srt l1) (hs2:Srt l2):m=mergeA (nc g) (nc f) l1 l2:=by
 subst hn
 refine srt_ext h.1 (srt_merge _ _ _ _ hs1 hs2) (fun z=>?_)
 rw [h.2 z,mem_merge _ _ _ _ hs1 hs2,List.take_length]
 unfold J1 J0 J2 InM
 constructor
 ·rintro (⟨x,hx,⟨y,hy,e,h⟩ | ⟨rfl,hc,hn⟩⟩ | h)
  ·exact .inl ⟨x,hx,y,hy,e,h⟩
  ·exact .inr (.inl ⟨hx,hc,hn⟩)
  ·exact .inr (.inr h)
 ·rintro (⟨x,hx,y,hy,e,h⟩ | ⟨hx,hc,hn⟩ | h)
  ·exact .inl ⟨x,hx,.inl ⟨y,hy,e,h⟩⟩
  ·exact .inl ⟨z,hx,.inr ⟨rfl,hc,hn⟩⟩
  ·exact .inr h
theorem ins_cont {lo:List V} {k:Nat} {u:V} (hk1:∀ z ∈ lo.take k,lessB z.node z.num u.node u.num=true) (hk2:∀ y,lo[k]?=some y→lessB y.node y.num u.node u.num=false) :
  cont (lo.take k ++ u :: lo.drop k)=(cont lo).take k ++ u.abs :: (cont lo).drop k∧(∀ z ∈ (cont lo).take k,LT z u.abs)∧∀ y,(cont lo)[k]?=some y→¬ LT y u.abs:=by
 refine ⟨by simp [cont,List.map_take,List.map_drop],fun z hz=>?_,fun y hy hlt=>?_⟩
 ·have:z ∈ cont (lo.take k):=by simpa [cont,List.map_take] using hz
  simp only [cont,List.mem_map] at this
  obtain ⟨z',hz',rfl⟩:=this
  exact less_iff.1 (hk1 z' hz')
 ·simp only [cont,List.getElem?_map,Option.map_eq_some_iff] at hy
  obtain ⟨y',hy',rfl⟩:=hy
  have:=hk2 y' hy'
  have h2:=less_iff.2 hlt
  simp only [lessA,V.abs] at h2
  rw [this] at h2
  cases h2
theorem cont_get {l:List V} {i:Nat} {x:V} (h:l[i]?=some x):(cont l)[i]?=some x.abs:=by simp [cont,h]
theorem abs_none {l:List V} {x:V} (h:∀ y ∈ l,¬ (y.node=x.node∧y.num=x.num)):∀ y ∈ cont l,¬ EQ y x.abs:=by
 intro y hy e
 simp only [cont,List.mem_map] at hy
 obtain ⟨y',hy',rfl⟩:=hy
 exact h y' hy' e
end Go.Proofs.YthjbnpaghiojlaaGreat

namespace Go.Proofs.YthjbnpaghiojlaaGreat
open Go.RowKit
set_option maxRecDepth 100000 in
set_option maxHeartbeats 1000000 in
theorem copied_any (v:V) (w:World) (hv:VOk w v) :
  Calls Tryz.prog 149 #[.agg #[.int .i64 v.node,.int .i64 v.num,.slice v.ad v.data.length v.cap,.bool v.dead]] w fun e w'=>∃ u:V,e=.returned (.agg #[.int .i64 u.node,.int .i64 u.num,.slice u.ad u.data.length u.cap,.bool u.dead])∧u.abs=v.abs∧OwnR w' u.ad u.cap u.data∧VOk w' u∧(∀ k,blk u.ad=some k→w.heap.size≤k)∧Off (fun _=>False) w w':=by
 obtain ⟨W,hW⟩:∃ W,W=((w.alloc (.cells #[.int .i64 v.node,.int .i64 v.num,.slice v.ad v.data.length v.cap,.bool v.dead] 87)).alloc (.cells #[.int .i64 zeroV.node,.int .i64 zeroV.num,.slice zeroV.ad zeroV.data.length zeroV.cap,.bool zeroV.dead] 87)):=⟨_,rfl⟩
 have O:Off (fun _=>False) w W:=by rw [hW]; exact ((Off.refl _ w).alloc _).alloc _
 have C0:Cel w.heap.size 87 #[.int .i64 v.node,.int .i64 v.num,.slice v.ad v.data.length v.cap,.bool v.dead] W:=by rw [hW]; exact (Cel.new w _ _).alloc _
 have C1:Cel (w.heap.size + 1) 87 #[.int .i64 zeroV.node,.int .i64 zeroV.num,.slice zeroV.ad zeroV.data.length zeroV.cap,.bool zeroV.dead] W:=by rw [hW]; exact Cel.new1 w _ _ _
 have HSR:Hid _:=hv.src.off O (fun _ _ _ h=>h)
 have HC1:Hid _:=C1
 have HC0:Hid _:=C0
 have HO0:Hid _:=O
 obtain ⟨x0,x1,x2,x3⟩:=cel4 C0
 have HW:Hid _:=hW
 have hlen:=hv.len
 clear C0 C1 hW O
 go_enter Tryz.func149,Tryz.ntmps149
 go_upto_region 1 with fail
 have eW:((w.alloc (.cells #[.int .i64 v.node,.int .i64 v.num,.slice v.ad v.data.length v.cap,.bool v.dead] 87)).alloc (.cells #[.int .i64 0,.int .i64 0,.slice none 0 0,.bool false] 87))=W:=HW.out.symm
 rw [eW]
 clear eW HW
 go_upto_region 2 with (at_builtin; refine wpList_app rfl (.const (.slice none 0 0)) (.tmp 4) rfl none 0 [] rfl (OwnR.nil _) v.ad v.cap v.data rfl HSR.out (by simp; omega) ?_; intro t c w1 ys hys own off1 at1; have o1:Off (fun _=>False) W w1:=off1.mono (fun i _ h=>by simp [blk] at h); have D0:=HC0.out.off o1 (fun h=>h); have D1:=HC1.out.off o1 (fun h=>h); have HOW:Hid _:=own; have HYS:Hid (ys=v.data):=(by show ys=v.data; rw [hys.out]; simp); have HN:Hid (∀ k,blk t=some k→W.heap.size≤k):=(fun k hk=>by rcases at1 with e | e <;> (rw [e] at hk; simp [blk] at hk <;> omega)); have HO1:Hid _:=HO0.out.trans o1 (fun _ _ h=>h); clear own off1 at1 o1 hys; clear x0 x1 x2 x3; obtain ⟨x0,x1,x2,x3⟩:=cel4 D0; have f0:=D0.free)
 have E0:Cel w.heap.size 87 #[.int .i64 (⟨v.node,v.num,t,c,ys,v.dead⟩:V).node,.int .i64 (⟨v.node,v.num,t,c,ys,v.dead⟩:V).num,.slice (⟨v.node,v.num,t,c,ys,v.dead⟩:V).ad (⟨v.node,v.num,t,c,ys,v.dead⟩:V).data.length (⟨v.node,v.num,t,c,ys,v.dead⟩:V).cap,.bool (⟨v.node,v.num,t,c,ys,v.dead⟩:V).dead] (w1.setCell ⟨w.heap.size,2,none⟩ (.slice t ys.length c)):=by
  have:=D0.set 2 (.slice t ys.length c)
  simpa using this
 have E1:Cel (w.heap.size + 1) 87 #[.int .i64 zeroV.node,.int .i64 zeroV.num,.slice zeroV.ad zeroV.data.length zeroV.cap,.bool zeroV.dead] (w1.setCell ⟨w.heap.size,2,none⟩ (.slice t ys.length c)):=D1.other (by simp) _
 have HE1:Hid _:=E1
 clear x0 x1 x2 x3 f0
 obtain ⟨x0,x1,x2,x3⟩:=cel4 E0
 obtain ⟨z0,z1,z2,z3⟩:=cel4 E1
 have f0:=E0.free
 have f1:=E1.free
 clear E0 E1 D0 D1
 have hne:∀ k,blk t=some k→k ≠ w.heap.size∧k ≠ w.heap.size + 1:=fun k hk=>by
  have h1:=HN.out k hk
  have h2:=HC1.out.lt
  constructor <;> omega
 have HNE:Hid _:=hne
 clear hne
 go_wp2_with fail
 refine bodyPost_ret (results_val rfl rfl (HE1.out.st4 ⟨v.node,v.num,t,c,ys,v.dead⟩)) rfl ?_
 have OF:Off (fun _=>False) w ((((((w1.setCell ⟨w.heap.size,2,none⟩ (.slice t ys.length c)).setCell ⟨w.heap.size + 1,0,none⟩ (.int .i64 v.node)).setCell ⟨w.heap.size + 1,1,none⟩ (.int .i64 v.num)).setCell ⟨w.heap.size + 1,2,none⟩ (.slice t ys.length c)).setCell ⟨w.heap.size + 1,3,none⟩ (.bool v.dead))):=(HO1.out.setCell (.inr (by simp)) _).st4 (.inr (by omega)) ⟨v.node,v.num,t,c,ys,v.dead⟩
 have OWN:OwnR ((((((w1.setCell ⟨w.heap.size,2,none⟩ (.slice t ys.length c)).setCell ⟨w.heap.size + 1,0,none⟩ (.int .i64 v.node)).setCell ⟨w.heap.size + 1,1,none⟩ (.int .i64 v.num)).setCell ⟨w.heap.size + 1,2,none⟩ (.slice t ys.length c)).setCell ⟨w.heap.size + 1,3,none⟩ (.bool v.dead))) t c ys:=by
  refine HOW.out.off (D:=fun k=>k=w.heap.size∨k=w.heap.size + 1) (((Off.refl _ w1).setCell (.inl (.inl rfl)) _).st4 (.inl (.inr rfl)) ⟨v.node,v.num,t,c,ys,v.dead⟩) (fun k _ hk h=>?_)
  have:=HNE.out k hk
  omega
 have hyl:∀ x ∈ ys,x < 256:=by rw [HYS.out]; exact hv.lt
 have hyn:ys.length≤140737488351232:=by rw [HYS.out]; exact hv.len
 exact ⟨⟨v.node,v.num,t,c,ys,v.dead⟩,rfl,by show A.mk v.node v.num ys v.dead=_; rw [HYS.out]; rfl,OWN,⟨OWN.src,hyl,hv.n0,hv.n1,hv.m0,hv.m1,hyn⟩,fun k hk=>Nat.le_trans HO0.out.size (HN.out k hk),OF⟩
set_option maxRecDepth 100000 in
set_option maxHeartbeats 1000000 in
theorem find_any (f:Nat→Int) (a:Option Addr) (ca:Nat) (l:List V) (n N:Int) (w:World) (hr:Row w a ca l) :
  Calls Tryz.prog 147 #[.agg #[.int .i64 (f 0),.int .i64 (f 1),.int .i64 (f 2),.int .i64 (f 3),.int .i64 (f 4),.int .i64 (f 5),.int .i64 (f 6),.int .i64 (f 7),.slice a l.length ca],.agg #[.int .i64 n,.int .i64 N]] w fun e w'=>∃ r:Int,e=.returned (.int .i64 r)∧((r=-1∧∀ x ∈ l,¬ (x.node=n∧x.num=N))∨∃ (i:Nat) (x:V),r=(i:Int)∧l[i]?=some x∧x.node=n∧x.num=N)∧Off (fun _=>False) w w':=by
 obtain ⟨W,hW⟩:∃ W,W=((w.alloc (.cells #[.int .i64 (f 0),.int .i64 (f 1),.int .i64 (f 2),.int .i64 (f 3),.int .i64 (f 4),.int .i64 (f 5),.int .i64 (f 6),.int .i64 (f 7),.slice a l.length ca] 47)).alloc (.cells #[.int .i64 n,.int .i64 N] 85)):=⟨_,rfl⟩
 have O:Off (fun _=>False) w W:=by rw [hW]; exact ((Off.refl _ w).alloc _).alloc _
 have C0:Cel w.heap.size 47 #[.int .i64 (f 0),.int .i64 (f 1),.int .i64 (f 2),.int .i64 (f 3),.int .i64 (f 4),.int .i64 (f 5),.int .i64 (f 6),.int .i64 (f 7),.slice a l.length ca] W:=by rw [hW]; exact (Cel.new w _ _).alloc _
 have C1:Cel (w.heap.size + 1) 85 #[.int .i64 n,.int .i64 N] W:=by rw [hW]; exact Cel.new1 w _ _ _
 have HW:Hid _:=hW.symm
 have H0:Hid _:=C0
 have H1:Hid _:=C1
 have HO:Hid _:=O
 have HR:Hid _:=hr.off O
 clear hW C0 C1 O hr
 go_enter Tryz.func147,Tryz.ntmps147
 go_upto_region 1 with fail
 rw [HW.out]
 generalize hq1:w.heap.size + 1=q1 at H1 ⊢
 generalize hq0:w.heap.size=q0 at H0 ⊢
 clear hq0 hq1 HW
 obtain ⟨x0,x1,x2,x3,x4,x5,x6,x7,x8⟩:=cel9 H0.out
 go_wp2_with fail
 clear x0 x1 x2 x3 x4 x5 x6 x7 x8
 go_loopw [10] (fun y wr=>∃ m:Nat,y=.int .i64 (m:Int)∧m≤l.length∧(∀ j x,j < m→l[j]?=some x→¬ (x.node=n∧x.num=N))∧Off (fun _=>False) W wr) (fun y _=>(l.length - intOf y).toNat)
 case atStart=>exact ⟨0,rfl,by omega,fun j x h=>by omega,Off.refl _ _⟩
 case round =>
  obtain ⟨m,rfl,hm,hup,oo⟩:=hrel
  have HUP:Hid _:=hup
  have HP:Hid _:=oo
  clear hup oo
  by_cases hlm:m < l.length
  ·have i1:decide ((m:Int) < (l.length:Int))=true:=decide_eq_true (by omega)
   have i2:decide (m < l.length)=true:=decide_eq_true hlm
   have hlb:l.length≤9223372036854775807:=by have:=HR.out.len; have:=HR.out.bound; omega
   obtain ⟨x,hx⟩:∃ x,l[m]?=some x:=⟨_,List.getElem?_eq_getElem hlm⟩
   obtain ⟨ba,fa,hay,h4,-⟩:=HR.out.at_ m x hx
   obtain ⟨c0,c1,c2,c3⟩:=h4.off HP.out (fun _ h=>h)
   have HX:Hid _:=hx
   clear hx h4
   subst hay
   go_upto_region 4 with fail
   have Cqv:=Cel.new wr 87 #[.int .i64 x.node,.int .i64 x.num,.slice x.ad x.data.length x.cap,.bool x.dead]
   have OA:Off (fun _=>False) wr (wr.alloc (.cells #[.int .i64 x.node,.int .i64 x.num,.slice x.ad x.data.length x.cap,.bool x.dead] 87)):=(Off.refl _ wr).alloc _
   generalize hq:wr.heap.size=qv at Cqv ⊢
   generalize hv:wr.alloc (.cells #[.int .i64 x.node,.int .i64 x.num,.slice x.ad x.data.length x.cap,.bool x.dead] 87)=Vqv at Cqv OA ⊢
   clear hq hv c0 c1 c2 c3
   have HPV:Hid _:=HP.out.trans OA (fun _ _ h=>h)
   obtain ⟨e0,e1,e2,e3⟩:=cel4 Cqv
   have D1:=H1.out.off HPV.out (fun h=>h)
   have d0:Vqv.cell? ⟨q1,0,none⟩=some (.int .i64 n):=(D1.cell 0).trans rfl
   have d1:Vqv.cell? ⟨q1,1,none⟩=some (.int .i64 N):=(D1.cell 1).trans rfl
   have hdd:=eql_dot x.node x.num n N
   clear Cqv OA D1 HP
   cases hdt:decide (x.node=n∧x.num=N)
   ·rw [hdt] at hdd
    have HDT:Hid (¬ (x.node=n∧x.num=N)):=of_decide_eq_false hdt
    clear hdt
    go_wp2_with fail
    go_roundw
    case rel=>exact ⟨m + 1,by go_num,by omega,fun j y hj hy=>by
     rcases Nat.lt_or_ge j m with h | h
     ·exact HUP.out j y h hy
     ·obtain rfl:j=m:=by omega
      have hX:=HX.out
      rw [hX] at hy
      cases hy
      exact HDT.out,HPV.out⟩
    case measure=>simp [intOf]; omega
   ·rw [hdt] at hdd
    have hdt2:x.node=n∧x.num=N:=by simpa using hdt
    have HDT:Hid _:=hdt2
    clear hdt hdt2
    go_wp2_with fail
    go_ret
    exact ⟨m,rfl,.inr ⟨m,x,rfl,HX.out,HDT.out.1,HDT.out.2⟩,HO.out.trans HPV.out (fun _ _ h=>h)⟩
  ·have i1:decide ((m:Int) < (l.length:Int))=false:=decide_eq_false (by omega)
   have i2:decide (m < l.length)=false:=decide_eq_false hlm
   go_wp2_with fail
   go_ret
   refine ⟨-1,rfl,.inl ⟨rfl,fun x hx=>?_⟩,HO.out.trans HP.out (fun _ _ h=>h)⟩
   obtain ⟨j,hj⟩:=List.getElem?_of_mem hx
   obtain ⟨hj2,-⟩:=List.getElem?_eq_some_iff.1 hj
   exact HUP.out j x (by omega) hj
end Go.Proofs.YthjbnpaghiojlaaGreat

namespace Go.Proofs.YthjbnpaghiojlaaGreat
open Go.RowKit
theorem less_map:∀ (xs ys:List Nat),(∀ x ∈ xs,x < 256)→(∀ x ∈ ys,x < 256)→Op.bytesLess (xs.map fun (x:Nat)=>((x:Int).toNat.toUInt8)) (ys.map fun (x:Nat)=>((x:Int).toNat.toUInt8))=ltL xs ys
 | [],[],_,_=>by simp [Op.bytesLess,ltL]
 | [],_ :: _,_,_=>by simp [Op.bytesLess,ltL]
 | _ :: _,[],_,_=>by simp [Op.bytesLess,ltL]
 | a :: xs,b :: ys,ha,hb=>by
  have ih:=less_map xs ys (fun x hx=>ha x (by simp [hx])) (fun x hx=>hb x (by simp [hx]))
  have h1:=u8_lt (ha a (by simp)) (hb b (by simp))
  have h2:=u8_lt (hb b (by simp)) (ha a (by simp))
  simp only [List.map_cons,Op.bytesLess,ltL,ih]
  by_cases e1:a < b
  ·rw [decide_eq_true (h1.2 e1)]
   simp [e1]
  ·rw [decide_eq_false (fun h=>e1 (h1.1 h))]
   by_cases e2:b < a
   ·have hne:¬ ((a:Int).toNat.toUInt8=(b:Int).toNat.toUInt8):=fun e=>by
     have:=h2.2 e2
     rw [e] at this
     exact absurd this (UInt8.lt_irrefl _)
    rw [beq_eq_false_iff_ne.2 hne]
    simp [e1,e2]
   ·obtain rfl:a=b:=by omega
    simp
theorem less_str {a b:List Nat} (ha:∀ x ∈ a,x < 256) (hb:∀ x ∈ b,x < 256):Op.bytesLess (strOf a).toList (strOf b).toList=ltL a b:=by
 have e:∀ c:List Nat,(strOf c).toList=c.map fun (x:Nat)=>((x:Int).toNat.toUInt8):=fun c=>by
  rw [ByteArray.toList_eq]
  simp [strOf,strOfNums,Function.comp_def]
 rw [e,e,less_map a b ha hb]
set_option maxRecDepth 100000 in
set_option maxHeartbeats 1000000 in
theorem gfirst_any (x y:V) (w:World) (hx:VOk w x) (hy:VOk w y) :
  Calls Tryz.prog 150 #[.agg #[.int .i64 x.node,.int .i64 x.num,.slice x.ad x.data.length x.cap,.bool x.dead],.agg #[.int .i64 y.node,.int .i64 y.num,.slice y.ad y.data.length y.cap,.bool y.dead]] w fun e w'=>e=.returned (.agg #[.int .i64 (firstV x y).node,.int .i64 (firstV x y).num,.slice (firstV x y).ad (firstV x y).data.length (firstV x y).cap,.bool (firstV x y).dead])∧Off (fun _=>False) w w':=by
 have O2:∀ p q r,Off (fun _=>False) w (((w.alloc p).alloc q).alloc r):=fun _ _ _=>(((Off.refl _ w).alloc _).alloc _).alloc _
 obtain ⟨xn,xm,xa,xc,xd,xb⟩:=x
 obtain ⟨yn,ym,ya,yc,yd,yb⟩:=y
 cases xb <;> cases yb
 ·obtain ⟨W,hW⟩:∃ W,W=(((w.alloc (.cells #[.int .i64 (⟨xn,xm,xa,xc,xd,false⟩:V).node,.int .i64 (⟨xn,xm,xa,xc,xd,false⟩:V).num,.slice (⟨xn,xm,xa,xc,xd,false⟩:V).ad (⟨xn,xm,xa,xc,xd,false⟩:V).data.length (⟨xn,xm,xa,xc,xd,false⟩:V).cap,.bool (⟨xn,xm,xa,xc,xd,false⟩:V).dead] 87)).alloc (.cells #[.int .i64 (⟨yn,ym,ya,yc,yd,false⟩:V).node,.int .i64 (⟨yn,ym,ya,yc,yd,false⟩:V).num,.slice (⟨yn,ym,ya,yc,yd,false⟩:V).ad (⟨yn,ym,ya,yc,yd,false⟩:V).data.length (⟨yn,ym,ya,yc,yd,false⟩:V).cap,.bool (⟨yn,ym,ya,yc,yd,false⟩:V).dead] 87)).alloc (.cells #[.int .i64 zeroV.node,.int .i64 zeroV.num,.slice zeroV.ad zeroV.data.length zeroV.cap,.bool zeroV.dead] 87)):=⟨_,rfl⟩
  have O:Off (fun _=>False) w W:=by rw [hW]; exact O2 _ _ _
  have C0:Cel w.heap.size 87 #[.int .i64 (⟨xn,xm,xa,xc,xd,false⟩:V).node,.int .i64 (⟨xn,xm,xa,xc,xd,false⟩:V).num,.slice (⟨xn,xm,xa,xc,xd,false⟩:V).ad (⟨xn,xm,xa,xc,xd,false⟩:V).data.length (⟨xn,xm,xa,xc,xd,false⟩:V).cap,.bool (⟨xn,xm,xa,xc,xd,false⟩:V).dead] W:=by rw [hW]; exact ((Cel.new w _ _).alloc _).alloc _
  have C1:Cel (w.heap.size + 1) 87 #[.int .i64 (⟨yn,ym,ya,yc,yd,false⟩:V).node,.int .i64 (⟨yn,ym,ya,yc,yd,false⟩:V).num,.slice (⟨yn,ym,ya,yc,yd,false⟩:V).ad (⟨yn,ym,ya,yc,yd,false⟩:V).data.length (⟨yn,ym,ya,yc,yd,false⟩:V).cap,.bool (⟨yn,ym,ya,yc,yd,false⟩:V).dead] W:=by rw [hW]; exact (Cel.new1 w _ _ _).alloc _
  have C2:Cel (w.heap.size + 2) 87 #[.int .i64 zeroV.node,.int .i64 zeroV.num,.slice zeroV.ad zeroV.data.length zeroV.cap,.bool zeroV.dead] W:=by rw [hW]; exact Cel.new2 w _ _ _ _
  have HSX:Hid _:=hx.src.off O (fun _ _ _ h=>h)
  have HSY:Hid _:=hy.src.off O (fun _ _ _ h=>h)
  have HC2:Hid _:=C2
  have HO:Hid _:=O
  obtain ⟨x0,x1,x2,x3⟩:=cel4 C0
  obtain ⟨y0,y1,y2,y3⟩:=cel4 C1
  obtain ⟨z0,z1,z2,z3⟩:=cel4 C2
  have fz:=C2.free
  have HW:Hid _:=hW
  clear C0 C1 C2 hW O
  go_enter Tryz.func150,Tryz.ntmps150
  go_upto_region 1 with fail
  have eW:(((w.alloc (.cells #[.int .i64 (⟨xn,xm,xa,xc,xd,false⟩:V).node,.int .i64 (⟨xn,xm,xa,xc,xd,false⟩:V).num,.slice (⟨xn,xm,xa,xc,xd,false⟩:V).ad (⟨xn,xm,xa,xc,xd,false⟩:V).data.length (⟨xn,xm,xa,xc,xd,false⟩:V).cap,.bool (⟨xn,xm,xa,xc,xd,false⟩:V).dead] 87)).alloc (.cells #[.int .i64 (⟨yn,ym,ya,yc,yd,false⟩:V).node,.int .i64 (⟨yn,ym,ya,yc,yd,false⟩:V).num,.slice (⟨yn,ym,ya,yc,yd,false⟩:V).ad (⟨yn,ym,ya,yc,yd,false⟩:V).data.length (⟨yn,ym,ya,yc,yd,false⟩:V).cap,.bool (⟨yn,ym,ya,yc,yd,false⟩:V).dead] 87)).alloc (.cells #[.int .i64 0,.int .i64 0,.slice none 0 0,.bool false] 87))=W:=HW.out.symm
  rw [eW]
  clear eW HW
  have cv1:=conv_src HSY.out
  have cv2:=conv_src HSX.out
  have hls:=less_str hy.lt hx.lt
  cases hl:ltL yd xd
  ·have hl2:Op.bytesLess (strOf yd).toList (strOf xd).toList=false:=hls.trans hl
   have HF:Hid (firstV (⟨xn,xm,xa,xc,xd,false⟩:V) (⟨yn,ym,ya,yc,yd,false⟩:V)=(⟨xn,xm,xa,xc,xd,false⟩:V)):=by show _=_; simp [firstV,firstB,hl]
   clear hls hl
   go_wp2_with fail
   refine bodyPost_ret (results_val rfl rfl (HC2.out.st4 (⟨xn,xm,xa,xc,xd,false⟩:V))) rfl ?_
   exact ⟨by rw [HF.out],HO.out.st4 (.inr (by omega)) (⟨xn,xm,xa,xc,xd,false⟩:V)⟩
  ·have hl2:Op.bytesLess (strOf yd).toList (strOf xd).toList=true:=hls.trans hl
   have HF:Hid (firstV (⟨xn,xm,xa,xc,xd,false⟩:V) (⟨yn,ym,ya,yc,yd,false⟩:V)=(⟨yn,ym,ya,yc,yd,false⟩:V)):=by show _=_; simp [firstV,firstB,hl]
   clear hls hl
   go_wp2_with fail
   refine bodyPost_ret (results_val rfl rfl (HC2.out.st4 (⟨yn,ym,ya,yc,yd,false⟩:V))) rfl ?_
   exact ⟨by rw [HF.out],HO.out.st4 (.inr (by omega)) (⟨yn,ym,ya,yc,yd,false⟩:V)⟩
 ·obtain ⟨W,hW⟩:∃ W,W=(((w.alloc (.cells #[.int .i64 (⟨xn,xm,xa,xc,xd,false⟩:V).node,.int .i64 (⟨xn,xm,xa,xc,xd,false⟩:V).num,.slice (⟨xn,xm,xa,xc,xd,false⟩:V).ad (⟨xn,xm,xa,xc,xd,false⟩:V).data.length (⟨xn,xm,xa,xc,xd,false⟩:V).cap,.bool (⟨xn,xm,xa,xc,xd,false⟩:V).dead] 87)).alloc (.cells #[.int .i64 (⟨yn,ym,ya,yc,yd,true⟩:V).node,.int .i64 (⟨yn,ym,ya,yc,yd,true⟩:V).num,.slice (⟨yn,ym,ya,yc,yd,true⟩:V).ad (⟨yn,ym,ya,yc,yd,true⟩:V).data.length (⟨yn,ym,ya,yc,yd,true⟩:V).cap,.bool (⟨yn,ym,ya,yc,yd,true⟩:V).dead] 87)).alloc (.cells #[.int .i64 zeroV.node,.int .i64 zeroV.num,.slice zeroV.ad zeroV.data.length zeroV.cap,.bool zeroV.dead] 87)):=⟨_,rfl⟩
  have O:Off (fun _=>False) w W:=by rw [hW]; exact O2 _ _ _
  have C0:Cel w.heap.size 87 #[.int .i64 (⟨xn,xm,xa,xc,xd,false⟩:V).node,.int .i64 (⟨xn,xm,xa,xc,xd,false⟩:V).num,.slice (⟨xn,xm,xa,xc,xd,false⟩:V).ad (⟨xn,xm,xa,xc,xd,false⟩:V).data.length (⟨xn,xm,xa,xc,xd,false⟩:V).cap,.bool (⟨xn,xm,xa,xc,xd,false⟩:V).dead] W:=by rw [hW]; exact ((Cel.new w _ _).alloc _).alloc _
  have C1:Cel (w.heap.size + 1) 87 #[.int .i64 (⟨yn,ym,ya,yc,yd,true⟩:V).node,.int .i64 (⟨yn,ym,ya,yc,yd,true⟩:V).num,.slice (⟨yn,ym,ya,yc,yd,true⟩:V).ad (⟨yn,ym,ya,yc,yd,true⟩:V).data.length (⟨yn,ym,ya,yc,yd,true⟩:V).cap,.bool (⟨yn,ym,ya,yc,yd,true⟩:V).dead] W:=by rw [hW]; exact (Cel.new1 w _ _ _).alloc _
  have C2:Cel (w.heap.size + 2) 87 #[.int .i64 zeroV.node,.int .i64 zeroV.num,.slice zeroV.ad zeroV.data.length zeroV.cap,.bool zeroV.dead] W:=by rw [hW]; exact Cel.new2 w _ _ _ _
  have HSX:Hid _:=hx.src.off O (fun _ _ _ h=>h)
  have HSY:Hid _:=hy.src.off O (fun _ _ _ h=>h)
  have HC2:Hid _:=C2
  have HO:Hid _:=O
  obtain ⟨x0,x1,x2,x3⟩:=cel4 C0
  obtain ⟨y0,y1,y2,y3⟩:=cel4 C1
  obtain ⟨z0,z1,z2,z3⟩:=cel4 C2
  have fz:=C2.free
  have HW:Hid _:=hW
  clear C0 C1 C2 hW O
  go_enter Tryz.func150,Tryz.ntmps150
  go_upto_region 1 with fail
  have eW:(((w.alloc (.cells #[.int .i64 (⟨xn,xm,xa,xc,xd,false⟩:V).node,.int .i64 (⟨xn,xm,xa,xc,xd,false⟩:V).num,.slice (⟨xn,xm,xa,xc,xd,false⟩:V).ad (⟨xn,xm,xa,xc,xd,false⟩:V).data.length (⟨xn,xm,xa,xc,xd,false⟩:V).cap,.bool (⟨xn,xm,xa,xc,xd,false⟩:V).dead] 87)).alloc (.cells #[.int .i64 (⟨yn,ym,ya,yc,yd,true⟩:V).node,.int .i64 (⟨yn,ym,ya,yc,yd,true⟩:V).num,.slice (⟨yn,ym,ya,yc,yd,true⟩:V).ad (⟨yn,ym,ya,yc,yd,true⟩:V).data.length (⟨yn,ym,ya,yc,yd,true⟩:V).cap,.bool (⟨yn,ym,ya,yc,yd,true⟩:V).dead] 87)).alloc (.cells #[.int .i64 0,.int .i64 0,.slice none 0 0,.bool false] 87))=W:=HW.out.symm
  rw [eW]
  clear eW HW
  have HF:Hid (firstV (⟨xn,xm,xa,xc,xd,false⟩:V) (⟨yn,ym,ya,yc,yd,true⟩:V)=(⟨xn,xm,xa,xc,xd,false⟩:V)):=by show _=_; simp [firstV,firstB]
  go_wp2_with fail
  refine bodyPost_ret (results_val rfl rfl (HC2.out.st4 (⟨xn,xm,xa,xc,xd,false⟩:V))) rfl ?_
  exact ⟨by rw [HF.out],HO.out.st4 (.inr (by omega)) (⟨xn,xm,xa,xc,xd,false⟩:V)⟩
 ·obtain ⟨W,hW⟩:∃ W,W=(((w.alloc (.cells #[.int .i64 (⟨xn,xm,xa,xc,xd,true⟩:V).node,.int .i64 (⟨xn,xm,xa,xc,xd,true⟩:V).num,.slice (⟨xn,xm,xa,xc,xd,true⟩:V).ad (⟨xn,xm,xa,xc,xd,true⟩:V).data.length (⟨xn,xm,xa,xc,xd,true⟩:V).cap,.bool (⟨xn,xm,xa,xc,xd,true⟩:V).dead] 87)).alloc (.cells #[.int .i64 (⟨yn,ym,ya,yc,yd,false⟩:V).node,.int .i64 (⟨yn,ym,ya,yc,yd,false⟩:V).num,.slice (⟨yn,ym,ya,yc,yd,false⟩:V).ad (⟨yn,ym,ya,yc,yd,false⟩:V).data.length (⟨yn,ym,ya,yc,yd,false⟩:V).cap,.bool (⟨yn,ym,ya,yc,yd,false⟩:V).dead] 87)).alloc (.cells #[.int .i64 zeroV.node,.int .i64 zeroV.num,.slice zeroV.ad zeroV.data.length zeroV.cap,.bool zeroV.dead] 87)):=⟨_,rfl⟩
  have O:Off (fun _=>False) w W:=by rw [hW]; exact O2 _ _ _
  have C0:Cel w.heap.size 87 #[.int .i64 (⟨xn,xm,xa,xc,xd,true⟩:V).node,.int .i64 (⟨xn,xm,xa,xc,xd,true⟩:V).num,.slice (⟨xn,xm,xa,xc,xd,true⟩:V).ad (⟨xn,xm,xa,xc,xd,true⟩:V).data.length (⟨xn,xm,xa,xc,xd,true⟩:V).cap,.bool (⟨xn,xm,xa,xc,xd,true⟩:V).dead] W:=by rw [hW]; exact ((Cel.new w _ _).alloc _).alloc _
  have C1:Cel (w.heap.size + 1) 87 #[.int .i64 (⟨yn,ym,ya,yc,yd,false⟩:V).node,.int .i64 (⟨yn,ym,ya,yc,yd,false⟩:V).num,.slice (⟨yn,ym,ya,yc,yd,false⟩:V).ad (⟨yn,ym,ya,yc,yd,false⟩:V).data.length (⟨yn,ym,ya,yc,yd,false⟩:V).cap,.bool (⟨yn,ym,ya,yc,yd,false⟩:V).dead] W:=by rw [hW]; exact (Cel.new1 w _ _ _).alloc _
  have C2:Cel (w.heap.size + 2) 87 #[.int .i64 zeroV.node,.int .i64 zeroV.num,.slice zeroV.ad zeroV.data.length zeroV.cap,.bool zeroV.dead] W:=by rw [hW]; exact Cel.new2 w _ _ _ _
  have HSX:Hid _:=hx.src.off O (fun _ _ _ h=>h)
  have HSY:Hid _:=hy.src.off O (fun _ _ _ h=>h)
  have HC2:Hid _:=C2
  have HO:Hid _:=O
  obtain ⟨x0,x1,x2,x3⟩:=cel4 C0
  obtain ⟨y0,y1,y2,y3⟩:=cel4 C1
  obtain ⟨z0,z1,z2,z3⟩:=cel4 C2
  have fz:=C2.free
  have HW:Hid _:=hW
  clear C0 C1 C2 hW O
  go_enter Tryz.func150,Tryz.ntmps150
  go_upto_region 1 with fail
  have eW:(((w.alloc (.cells #[.int .i64 (⟨xn,xm,xa,xc,xd,true⟩:V).node,.int .i64 (⟨xn,xm,xa,xc,xd,true⟩:V).num,.slice (⟨xn,xm,xa,xc,xd,true⟩:V).ad (⟨xn,xm,xa,xc,xd,true⟩:V).data.length (⟨xn,xm,xa,xc,xd,true⟩:V).cap,.bool (⟨xn,xm,xa,xc,xd,true⟩:V).dead] 87)).alloc (.cells #[.int .i64 (⟨yn,ym,ya,yc,yd,false⟩:V).node,.int .i64 (⟨yn,ym,ya,yc,yd,false⟩:V).num,.slice (⟨yn,ym,ya,yc,yd,false⟩:V).ad (⟨yn,ym,ya,yc,yd,false⟩:V).data.length (⟨yn,ym,ya,yc,yd,false⟩:V).cap,.bool (⟨yn,ym,ya,yc,yd,false⟩:V).dead] 87)).alloc (.cells #[.int .i64 0,.int .i64 0,.slice none 0 0,.bool false] 87))=W:=HW.out.symm
  rw [eW]
  clear eW HW
  have HF:Hid (firstV (⟨xn,xm,xa,xc,xd,true⟩:V) (⟨yn,ym,ya,yc,yd,false⟩:V)=(⟨yn,ym,ya,yc,yd,false⟩:V)):=by show _=_; simp [firstV,firstB]
  go_wp2_with fail
  refine bodyPost_ret (results_val rfl rfl (HC2.out.st4 (⟨yn,ym,ya,yc,yd,false⟩:V))) rfl ?_
  exact ⟨by rw [HF.out],HO.out.st4 (.inr (by omega)) (⟨yn,ym,ya,yc,yd,false⟩:V)⟩
 ·obtain ⟨W,hW⟩:∃ W,W=(((w.alloc (.cells #[.int .i64 (⟨xn,xm,xa,xc,xd,true⟩:V).node,.int .i64 (⟨xn,xm,xa,xc,xd,true⟩:V).num,.slice (⟨xn,xm,xa,xc,xd,true⟩:V).ad (⟨xn,xm,xa,xc,xd,true⟩:V).data.length (⟨xn,xm,xa,xc,xd,true⟩:V).cap,.bool (⟨xn,xm,xa,xc,xd,true⟩:V).dead] 87)).alloc (.cells #[.int .i64 (⟨yn,ym,ya,yc,yd,true⟩:V).node,.int .i64 (⟨yn,ym,ya,yc,yd,true⟩:V).num,.slice (⟨yn,ym,ya,yc,yd,true⟩:V).ad (⟨yn,ym,ya,yc,yd,true⟩:V).data.length (⟨yn,ym,ya,yc,yd,true⟩:V).cap,.bool (⟨yn,ym,ya,yc,yd,true⟩:V).dead] 87)).alloc (.cells #[.int .i64 zeroV.node,.int .i64 zeroV.num,.slice zeroV.ad zeroV.data.length zeroV.cap,.bool zeroV.dead] 87)):=⟨_,rfl⟩
  have O:Off (fun _=>False) w W:=by rw [hW]; exact O2 _ _ _
  have C0:Cel w.heap.size 87 #[.int .i64 (⟨xn,xm,xa,xc,xd,true⟩:V).node,.int .i64 (⟨xn,xm,xa,xc,xd,true⟩:V).num,.slice (⟨xn,xm,xa,xc,xd,true⟩:V).ad (⟨xn,xm,xa,xc,xd,true⟩:V).data.length (⟨xn,xm,xa,xc,xd,true⟩:V).cap,.bool (⟨xn,xm,xa,xc,xd,true⟩:V).dead] W:=by rw [hW]; exact ((Cel.new w _ _).alloc _).alloc _
  have C1:Cel (w.heap.size + 1) 87 #[.int .i64 (⟨yn,ym,ya,yc,yd,true⟩:V).node,.int .i64 (⟨yn,ym,ya,yc,yd,true⟩:V).num,.slice (⟨yn,ym,ya,yc,yd,true⟩:V).ad (⟨yn,ym,ya,yc,yd,true⟩:V).data.length (⟨yn,ym,ya,yc,yd,true⟩:V).cap,.bool (⟨yn,ym,ya,yc,yd,true⟩:V).dead] W:=by rw [hW]; exact (Cel.new1 w _ _ _).alloc _
  have C2:Cel (w.heap.size + 2) 87 #[.int .i64 zeroV.node,.int .i64 zeroV.num,.slice zeroV.ad zeroV.data.length zeroV.cap,.bool zeroV.dead] W:=by rw [hW]; exact Cel.new2 w _ _ _ _
  have HSX:Hid _:=hx.src.off O (fun _ _ _ h=>h)
  have HSY:Hid _:=hy.src.off O (fun _ _ _ h=>h)
  have HC2:Hid _:=C2
  have HO:Hid _:=O
  obtain ⟨x0,x1,x2,x3⟩:=cel4 C0
  obtain ⟨y0,y1,y2,y3⟩:=cel4 C1
  obtain ⟨z0,z1,z2,z3⟩:=cel4 C2
  have fz:=C2.free
  have HW:Hid _:=hW
  clear C0 C1 C2 hW O
  go_enter Tryz.func150,Tryz.ntmps150
  go_upto_region 1 with fail
  have eW:(((w.alloc (.cells #[.int .i64 (⟨xn,xm,xa,xc,xd,true⟩:V).node,.int .i64 (⟨xn,xm,xa,xc,xd,true⟩:V).num,.slice (⟨xn,xm,xa,xc,xd,true⟩:V).ad (⟨xn,xm,xa,xc,xd,true⟩:V).data.length (⟨xn,xm,xa,xc,xd,true⟩:V).cap,.bool (⟨xn,xm,xa,xc,xd,true⟩:V).dead] 87)).alloc (.cells #[.int .i64 (⟨yn,ym,ya,yc,yd,true⟩:V).node,.int .i64 (⟨yn,ym,ya,yc,yd,true⟩:V).num,.slice (⟨yn,ym,ya,yc,yd,true⟩:V).ad (⟨yn,ym,ya,yc,yd,true⟩:V).data.length (⟨yn,ym,ya,yc,yd,true⟩:V).cap,.bool (⟨yn,ym,ya,yc,yd,true⟩:V).dead] 87)).alloc (.cells #[.int .i64 0,.int .i64 0,.slice none 0 0,.bool false] 87))=W:=HW.out.symm
  rw [eW]
  clear eW HW
  have cv1:=conv_src HSY.out
  have cv2:=conv_src HSX.out
  have hls:=less_str hy.lt hx.lt
  cases hl:ltL yd xd
  ·have hl2:Op.bytesLess (strOf yd).toList (strOf xd).toList=false:=hls.trans hl
   have HF:Hid (firstV (⟨xn,xm,xa,xc,xd,true⟩:V) (⟨yn,ym,ya,yc,yd,true⟩:V)=(⟨xn,xm,xa,xc,xd,true⟩:V)):=by show _=_; simp [firstV,firstB,hl]
   clear hls hl
   go_wp2_with fail
   refine bodyPost_ret (results_val rfl rfl (HC2.out.st4 (⟨xn,xm,xa,xc,xd,true⟩:V))) rfl ?_
   exact ⟨by rw [HF.out],HO.out.st4 (.inr (by omega)) (⟨xn,xm,xa,xc,xd,true⟩:V)⟩
  ·have hl2:Op.bytesLess (strOf yd).toList (strOf xd).toList=true:=hls.trans hl
   have HF:Hid (firstV (⟨xn,xm,xa,xc,xd,true⟩:V) (⟨yn,ym,ya,yc,yd,true⟩:V)=(⟨yn,ym,ya,yc,yd,true⟩:V)):=by show _=_; simp [firstV,firstB,hl]
   clear hls hl
   go_wp2_with fail
   refine bodyPost_ret (results_val rfl rfl (HC2.out.st4 (⟨yn,ym,ya,yc,yd,true⟩:V))) rfl ?_
   exact ⟨by rw [HF.out],HO.out.st4 (.inr (by omega)) (⟨yn,ym,ya,yc,yd,true⟩:V)⟩
end Go.Proofs.YthjbnpaghiojlaaGreat

namespace Go.Proofs.YthjbnpaghiojlaaGreat
open Go.RowKit
set_option maxRecDepth 100000 in
set_option maxHeartbeats 8000000 in
theorem gjoinN_any (f g:Nat→Int) (a b:Option Addr) (ca cb:Nat) (l k:List V) (w:World) (h1:Row w a ca l) (h2:Row w b cb k) :
  Calls Tryz.prog 84 #[.agg #[.int .i64 (f 0),.int .i64 (f 1),.int .i64 (f 2),.int .i64 (f 3),.int .i64 (f 4),.int .i64 (f 5),.int .i64 (f 6),.int .i64 (f 7),.slice a l.length ca],.agg #[.int .i64 (g 0),.int .i64 (g 1),.int .i64 (g 2),.int .i64 (g 3),.int .i64 (g 4),.int .i64 (g 5),.int .i64 (g 6),.int .i64 (g 7),.slice b k.length cb]] w fun e w'=>∃ (h:Nat→Int) (a':Option Addr) (c':Nat) (l':List V),e=.returned (.agg #[.int .i64 (h 0),.int .i64 (h 1),.int .i64 (h 2),.int .i64 (h 3),.int .i64 (h 4),.int .i64 (h 5),.int .i64 (h 6),.int .i64 (h 7),.slice a' l'.length c'])∧h=joinV f g (cont l) (cont k)∧cont l'=joinL f g (cont l) (cont k)∧Row w' a' c' l'∧Off (fun _=>False) w w'∧(∀ c,blk a'=some c→w.heap.size≤c)∧(∀ v ∈ l',∀ c,blk v.ad=some c→w.heap.size≤c):=by
 have hnot:=not_any
 obtain ⟨W,hW⟩:∃ W,W=(((w.alloc (.cells #[.int .i64 (f 0),.int .i64 (f 1),.int .i64 (f 2),.int .i64 (f 3),.int .i64 (f 4),.int .i64 (f 5),.int .i64 (f 6),.int .i64 (f 7),.slice a l.length ca] 47)).alloc (.cells #[.int .i64 (g 0),.int .i64 (g 1),.int .i64 (g 2),.int .i64 (g 3),.int .i64 (g 4),.int .i64 (g 5),.int .i64 (g 6),.int .i64 (g 7),.slice b k.length cb] 47)).alloc (.cells #[.int .i64 (zer 0),.int .i64 (zer 1),.int .i64 (zer 2),.int .i64 (zer 3),.int .i64 (zer 4),.int .i64 (zer 5),.int .i64 (zer 6),.int .i64 (zer 7),.slice none 0 0] 47)):=⟨_,rfl⟩
 have O:Off (fun _=>False) w W:=by rw [hW]; exact (((Off.refl _ w).alloc _).alloc _).alloc _
 have C0:Cel w.heap.size 47 #[.int .i64 (f 0),.int .i64 (f 1),.int .i64 (f 2),.int .i64 (f 3),.int .i64 (f 4),.int .i64 (f 5),.int .i64 (f 6),.int .i64 (f 7),.slice a l.length ca] W:=by rw [hW]; exact ((Cel.new w _ _).alloc _).alloc _
 have C1:Cel (w.heap.size + 1) 47 #[.int .i64 (g 0),.int .i64 (g 1),.int .i64 (g 2),.int .i64 (g 3),.int .i64 (g 4),.int .i64 (g 5),.int .i64 (g 6),.int .i64 (g 7),.slice b k.length cb] W:=by rw [hW]; exact (Cel.new1 w _ _ _).alloc _
 have C2:Cel (w.heap.size + 2) 47 #[.int .i64 (zer 0),.int .i64 (zer 1),.int .i64 (zer 2),.int .i64 (zer 3),.int .i64 (zer 4),.int .i64 (zer 5),.int .i64 (zer 6),.int .i64 (zer 7),.slice none 0 0] W:=by rw [hW]; exact Cel.new2 w _ _ _ _
 have HW:Hid ((((w.alloc (.cells #[.int .i64 (f 0),.int .i64 (f 1),.int .i64 (f 2),.int .i64 (f 3),.int .i64 (f 4),.int .i64 (f 5),.int .i64 (f 6),.int .i64 (f 7),.slice a l.length ca] 47)).alloc (.cells #[.int .i64 (g 0),.int .i64 (g 1),.int .i64 (g 2),.int .i64 (g 3),.int .i64 (g 4),.int .i64 (g 5),.int .i64 (g 6),.int .i64 (g 7),.slice b k.length cb] 47)).alloc (.cells #[.int .i64 0,.int .i64 0,.int .i64 0,.int .i64 0,.int .i64 0,.int .i64 0,.int .i64 0,.int .i64 0,.slice none 0 0] 47))=W):=hW.symm
 have H0:Hid _:=C0
 have H1:Hid _:=C1
 have H2:Hid _:=C2
 have HO:Hid _:=O
 have HRA:Hid _:=h1.off O
 have HRB:Hid _:=h2.off O
 clear hW C0 C1 C2 O h1 h2
 cases m1:mayS f (cont l)
 ·have HP:Hid (zer=joinV f g (cont l) (cont k)∧cont []=joinL f g (cont l) (cont k)):=⟨by simp [joinV,m1],(show joinL f g (cont l) (cont k)=[] by simp [joinL,m1]).symm⟩
  go_enter Tryz.func84,Tryz.ntmps84
  go_upto_region 1 with fail
  rw [HW.out]
  generalize hq2:w.heap.size + 1 + 1=q2 at ⊢
  rw [show w.heap.size + 2=q2 by omega] at H2
  generalize hq1:w.heap.size + 1=q1 at H1 ⊢
  generalize hq0:w.heap.size=q0 at H0 ⊢
  have HQ:Hid (w.heap.size≤q2):=by show w.heap.size≤q2; omega
  clear hq0 hq1 hq2
  obtain ⟨x0,x1,x2,x3,x4,x5,x6,x7,x8⟩:=cel9 H0.out
  go_wp2_with fail
  clear x0 x1 x2 x3 x4 x5 x6 x7 x8
  refine (gmay_any f a ca l W HRA.out).mono ?_
  rw [m1]
  rintro e w1 ⟨rfl,o1⟩
  have D2:=H2.out.off o1 (fun h=>h)
  obtain ⟨x0,x1,x2,x3,x4,x5,x6,x7,x8⟩:=cel9 D2
  have fz:=D2.free
  go_wp2_with fail
  have E2:=D2.clr9
  have OE:=(HO.out.trans o1 (fun _ _ h=>h)).clr9 (b:=q2) (.inr HQ.out)
  refine bodyPost_ret (results_none9 rfl rfl E2) rfl ?_
  exact ⟨zer,none,0,[],rfl,HP.out.1,HP.out.2,Row.nil _ _ _ (by omega),OE,fun c hc=>by simp [blk] at hc,fun v hv=>by simp at hv⟩
 cases m2:mayS g (cont k)
 ·have HP:Hid (zer=joinV f g (cont l) (cont k)∧cont []=joinL f g (cont l) (cont k)):=⟨by simp [joinV,m2],(show joinL f g (cont l) (cont k)=[] by simp [joinL,m2]).symm⟩
  go_enter Tryz.func84,Tryz.ntmps84
  go_upto_region 1 with fail
  rw [HW.out]
  generalize hq2:w.heap.size + 1 + 1=q2 at ⊢
  rw [show w.heap.size + 2=q2 by omega] at H2
  generalize hq1:w.heap.size + 1=q1 at H1 ⊢
  generalize hq0:w.heap.size=q0 at H0 ⊢
  have HQ:Hid (w.heap.size≤q2):=by show w.heap.size≤q2; omega
  clear hq0 hq1 hq2
  obtain ⟨x0,x1,x2,x3,x4,x5,x6,x7,x8⟩:=cel9 H0.out
  go_wp2_with fail
  clear x0 x1 x2 x3 x4 x5 x6 x7 x8
  refine (gmay_any f a ca l W HRA.out).mono ?_
  rw [m1]
  rintro e w1 ⟨rfl,o1⟩
  obtain ⟨x0,x1,x2,x3,x4,x5,x6,x7,x8⟩:=cel9 (H1.out.off o1 (fun h=>h))
  go_wp2_with fail
  clear x0 x1 x2 x3 x4 x5 x6 x7 x8
  refine (gmay_any g b cb k _ (HRB.out.off o1)).mono ?_
  rw [m2]
  rintro e w2 ⟨rfl,o2⟩
  replace o2:=o1.trans o2 (fun _ _ h=>h)
  clear o1
  have D2:=H2.out.off o2 (fun h=>h)
  obtain ⟨x0,x1,x2,x3,x4,x5,x6,x7,x8⟩:=cel9 D2
  have fz:=D2.free
  go_wp2_with fail
  have E2:=D2.clr9
  have OE:=(HO.out.trans o2 (fun _ _ h=>h)).clr9 (b:=q2) (.inr HQ.out)
  refine bodyPost_ret (results_none9 rfl rfl E2) rfl ?_
  exact ⟨zer,none,0,[],rfl,HP.out.1,HP.out.2,Row.nil _ _ _ (by omega),OE,fun c hc=>by simp [blk] at hc,fun v hv=>by simp at hv⟩
 have HSL:Hid _:=may_srt (may_iff.1 m1)
 have HSK:Hid _:=may_srt (may_iff.1 m2)
 have hl16:l.length≤16:=by have:=(may_iff.1 m1).few; rwa [cont_len] at this
 have hk16:k.length≤16:=by have:=(may_iff.1 m2).few; rwa [cont_len] at this
 go_enter Tryz.func84,Tryz.ntmps84
 go_upto_region 1 with fail
 rw [HW.out]
 generalize hq2:w.heap.size + 1 + 1=q2 at ⊢
 rw [show w.heap.size + 2=q2 by omega] at H2
 generalize hq1:w.heap.size + 1=q1 at H1 ⊢
 generalize hq0:w.heap.size=q0 at H0 ⊢
 have HQ:Hid (w.heap.size≤q2):=by show w.heap.size≤q2; omega
 clear hq0 hq1 hq2
 obtain ⟨x0,x1,x2,x3,x4,x5,x6,x7,x8⟩:=cel9 H0.out
 go_wp2_with fail
 clear x0 x1 x2 x3 x4 x5 x6 x7 x8
 refine (gmay_any f a ca l W HRA.out).mono ?_
 rw [m1]
 rintro e w1 ⟨rfl,o1⟩
 obtain ⟨x0,x1,x2,x3,x4,x5,x6,x7,x8⟩:=cel9 (H1.out.off o1 (fun h=>h))
 go_wp2_with fail
 clear x0 x1 x2 x3 x4 x5 x6 x7 x8
 refine (gmay_any g b cb k _ (HRB.out.off o1)).mono ?_
 rw [m2]
 rintro e w2 ⟨rfl,o2⟩
 replace o2:=o1.trans o2 (fun _ _ h=>h)
 clear o1
 obtain ⟨x0,x1,x2,x3,x4,x5,x6,x7,x8⟩:=cel9 (H0.out.off o2 (fun h=>h))
 obtain ⟨y0,y1,y2,y3,y4,y5,y6,y7,y8⟩:=cel9 (H1.out.off o2 (fun h=>h))
 go_wp2_with fail
 refine (fjoin_any f g _).mono ?_
 rintro e w4 ⟨h,rfl,hh,o4⟩
 replace o4:=o2.trans o4 (fun _ _ h=>h)
 have HHE:Hid (∀ j,j < 8→h j=maxV f g j):=hh
 clear hh o2 x0 x1 x2 x3 x4 x5 x6 x7 x8 y0 y1 y2 y3 y4 y5 y6 y7 y8
 go_upto_region 4 with fail
 have C5:=Cel.new w4 47 #[.int .i64 (h 0),.int .i64 (h 1),.int .i64 (h 2),.int .i64 (h 3),.int .i64 (h 4),.int .i64 (h 5),.int .i64 (h 6),.int .i64 (h 7),.slice none 0 0]
 have O6:=o4.alloc (.cells #[.int .i64 (h 0),.int .i64 (h 1),.int .i64 (h 2),.int .i64 (h 3),.int .i64 (h 4),.int .i64 (h 5),.int .i64 (h 6),.int .i64 (h 7),.slice none 0 0] 47)
 generalize hq5:w4.heap.size=q5 at C5 ⊢
 have hw5:W.heap.size≤q5:=by have:=o4.size; omega
 generalize hw8:w4.alloc (.cells #[.int .i64 (h 0),.int .i64 (h 1),.int .i64 (h 2),.int .i64 (h 3),.int .i64 (h 4),.int .i64 (h 5),.int .i64 (h 6),.int .i64 (h 7),.slice none 0 0] 47)=w8 at C5 O6 ⊢
 clear hw8 hq5 o4
 have HQ5:Hid (w.heap.size≤q5∧W.heap.size≤q5):=⟨Nat.le_trans HO.out.size hw5,hw5⟩
 have HC5:Hid _:=C5
 have HO6:Hid _:=O6
 have H08:Hid _:=H0.out.off O6 (fun h=>h)
 have H18:Hid _:=H1.out.off O6 (fun h=>h)
 have H28:Hid _:=H2.out.off O6 (fun h=>h)
 have HL5:Hid (q5 < w8.heap.size):=C5.lt
 have HN5:Hid (q0 ≠ q5∧q2 ≠ q5∧q1 ≠ q5):=⟨by have:=H0.out.lt; omega,by have:=H2.out.lt; omega,by have:=H1.out.lt; omega⟩
 clear C5 O6 hw5 H0 H1 H2
 obtain ⟨x0,x1,x2,x3,x4,x5,x6,x7,x8⟩:=cel9 H08.out
 go_wp2_with fail
 clear x0 x1 x2 x3 x4 x5 x6 x7 x8
 go_loopw [29] (fun y wr=>∃ (i:Nat) (lo:List V) (ao:Option Addr) (co:Nat),y=.int .i64 (i:Int)∧i≤l.length∧Cel q5 47 #[.int .i64 (h 0),.int .i64 (h 1),.int .i64 (h 2),.int .i64 (h 3),.int .i64 (h 4),.int .i64 (h 5),.int .i64 (h 6),.int .i64 (h 7),.slice ao lo.length co] wr∧Mk w8.heap.size wr ao co lo∧lo.length≤i∧St1 g (cont l) (cont k) i (cont lo)∧Off (fun c=>c=q5) w8 wr) (fun y _=>(l.length - intOf y).toNat)
 case atStart=>exact ⟨0,[],none,0,rfl,by omega,HC5.out,Mk.nil _ _,by simp,st1_zero _ _ _,Off.refl _ _⟩
 case round =>
  clear HC5
  obtain ⟨i,lo,ao,co,rfl,hi,bx,mk,hlol,hst,po⟩:=hrel
  have HBX:Hid _:=bx
  have HMK:Hid _:=mk
  have HST:Hid _:=hst
  have HPO:Hid (Off (fun c=>c=q5) w8 wr):=po
  have HOW:Hid (Off (fun c=>W.heap.size≤c) W wr):=(HO6.out.mono (fun _ _ h=>h.elim)).trans po (fun k _ e=>by rw [e]; exact HQ5.out.2)
  clear bx mk hst po
  by_cases hil:i < l.length
  ·have i1:decide ((i:Int) < (l.length:Int))=true:=decide_eq_true (by omega)
   have i2:decide (i < l.length)=true:=decide_eq_true hil
   obtain ⟨x,hx⟩:∃ x,l[i]?=some x:=⟨_,List.getElem?_eq_getElem hil⟩
   obtain ⟨ba,fa,hay,h4,hvx⟩:=HRA.out.at_ i x hx
   have HX:Hid _:=hx
   have HVW:Hid _:=hvx
   obtain ⟨c0,c1,c2,c3⟩:=h4.off HOW.out (fun hb h=>by omega)
   clear hx h4 hvx
   have HAY:Hid _:=hay
   subst hay
   go_upto_region 7 with fail
   have CX:=Cel.new wr 87 #[.int .i64 x.node,.int .i64 x.num,.slice x.ad x.data.length x.cap,.bool x.dead]
   have OA:Off (fun _=>False) wr (wr.alloc (.cells #[.int .i64 x.node,.int .i64 x.num,.slice x.ad x.data.length x.cap,.bool x.dead] 87)):=(Off.refl _ wr).alloc _
   have lbx:=HBX.out.lt
   generalize hq:wr.heap.size=qx at CX lbx ⊢
   generalize hv:wr.alloc (.cells #[.int .i64 x.node,.int .i64 x.num,.slice x.ad x.data.length x.cap,.bool x.dead] 87)=vx at CX OA ⊢
   have HQX:Hid (¬ qx=q5):=by show ¬ qx=q5; omega
   clear hv hq c0 c1 c2 c3
   have HBX0:Hid _:=HBX.out.off OA (fun h=>h)
   have HMK0:Hid _:=HMK.out.free OA
   have HPO0:Hid (Off (fun c=>c=q5) w8 vx):=HPO.out.trans (OA.mono (fun _ _ h=>h.elim)) (fun _ _ h=>h)
   have HOW0:Hid (Off (fun c=>W.heap.size≤c) W vx):=HOW.out.trans (OA.mono (fun _ _ h=>h.elim)) (fun _ _ h=>h)
   clear HBX HMK HPO HOW lbx OA
   obtain ⟨x0,x1,x2,x3,x4,x5,x6,x7,x8⟩:=cel9 (H18.out.off HPO0.out (fun e=>HN5.out.2.2 e))
   obtain ⟨e0,e1,e2,e3⟩:=cel4 CX
   have HCX0:Hid _:=CX
   go_wp2_with fail
   clear x0 x1 x2 x3 x4 x5 x6 x7 x8 e0 e1 e2 e3 CX
   refine (find_any g b cb k x.node x.num _ (HRB.out.offD HOW0.out (fun c hc _ h=>by omega) (fun v hv c hc _ h=>by omega))).mono ?_
   rintro e w9 ⟨r,rfl,hr,o9⟩
   have HBX1:Hid _:=HBX0.out.off o9 (fun h=>h)
   have HMK1:Hid _:=HMK0.out.free o9
   have HPO1:Hid (Off (fun c=>c=q5) w8 w9):=HPO0.out.trans (o9.mono (fun _ _ h=>h.elim)) (fun _ _ h=>h)
   have HOW1:Hid (Off (fun c=>W.heap.size≤c) W w9):=HOW0.out.trans (o9.mono (fun _ _ h=>h.elim)) (fun _ _ h=>h)
   have HCX1:Hid _:=HCX0.out.off o9 (fun h=>h)
   clear o9 HBX0 HMK0 HPO0 HOW0 HCX0
   rcases hr with ⟨rfl,hno⟩ | ⟨j,y,rfl,hy,hyn,hyN⟩
   ·have HNO:Hid (∀ y ∈ cont k,¬ EQ x.abs y):=fun y hy e=>abs_none hno y hy e.symm
    clear hno
    obtain ⟨x0,x1,x2,x3,x4,x5,x6,x7,x8⟩:=cel9 (H18.out.off HPO1.out (fun e=>HN5.out.2.2 e))
    obtain ⟨e0,e1,e2,e3⟩:=cel4 HCX1.out
    cases hcv:coversB g x.node x.num
    ·go_wp2_with fail
     clear x0 x1 x2 x3 x4 x5 x6 x7 x8 e0 e1 e2 e3
     refine (fcovers_any g x.node x.num _).mono ?_
     rw [hcv]
     rintro e v1 ⟨rfl,o1⟩
     have HBX:Hid _:=HBX1.out.off o1 (fun h=>h)
     have HMK:Hid _:=HMK1.out.free o1
     have HPO:Hid (Off (fun c=>c=q5) w8 v1):=HPO1.out.trans (o1.mono (fun _ _ h=>h.elim)) (fun _ _ h=>h)
     have HOW:Hid (Off (fun c=>W.heap.size≤c) W v1):=HOW1.out.trans (o1.mono (fun _ _ h=>h.elim)) (fun _ _ h=>h)
     have HCX:Hid _:=HCX1.out.off o1 (fun h=>h)
     have HVX:Hid (∀ w',Off (fun c=>c=q5) v1 w'→VOk w' x):=fun w' o=>HVW.out.off (HOW.out.trans o (fun k _ e=>by rw [e]; exact HQ5.out.2)) (fun c hc _ h=>by omega)
     clear o1 HBX1 HMK1 HPO1 HOW1 HCX1
     go_upto_region 11 with fail
     have HSW:Hid (w8.heap.size≤v1.heap.size):=HPO.out.size
     refine wp_region_held_drew (S:=fun w'=>Off (fun c=>c=q5) v1 w') (by kernel_rfl) ((Off.refl _ v1).drew) (fun hS=>?_)
     have BX:=HBX.out.drew
     have MK:=HMK.out.free ((Off.refl _ v1).drew)
     have hv1:v1.heap.size≤v1.drew.heap.size:=Nat.le_refl _
     generalize hdr:v1.drew=va at BX MK hS hv1 ⊢
     clear hdr
     refine take_q 0 57 (.pointer (some ⟨q5,8,none⟩)) hS ?_
     simp only [Act.put,lsA,lsZ,lsS]
     refine take_r 2 59 (.agg #[.int .i64 x.node,.int .i64 x.num,.slice x.ad x.data.length x.cap,.bool x.dead]) rfl (Or.inl ⟨by rfl,fun w' hw'=>by obtain ⟨x0,x1,x2,x3⟩:=cel4 (HCX.out.off hw' (fun h=>HQX.out h)); go_simp⟩) hS ?_
     simp only [Act.put,lsA,lsZ,lsS]
     refine wpAnyH_ready (rs:=[1,3]) (by kernel_rfl) (by simp) ?_
     refine AllReadyH.cons rfl (fun K' hK'=>?_) (AllReadyH.cons rfl (fun K' hK'=>?_) AllReadyH.nil)
     ·obtain ⟨x0,x1,x2,x3,x4,x5,x6,x7,x8⟩:=cel9 BX
      go_simp
      refine hK'.out _ _ hS (fun hS=>?_)
      clear hK' K' x0 x1 x2 x3 x4 x5 x6 x7 x8
      refine wpAnyH_ready (rs:=[3]) (by kernel_rfl) (by simp) ?_
      refine AllReadyH.cons rfl (fun K' hK'=>?_) AllReadyH.nil
      go_simp
      refine (copied_any x _ (HVX.out _ hS)).mono ?_
      rintro e vb ⟨u,rfl,hu,uo,uk,un,o1⟩
      have hS1:=hS.trans (o1.mono (fun _ _ h=>h.elim)) (fun _ _ h=>h)
      refine hK'.out _ _ hS1 (fun hS=>?_)
      clear hK' K' hS1
      replace BX:=BX.off o1 (fun h=>h)
      replace MK:=MK.free o1
      have UK:VOk vb u∧∀ k,blk u.ad=some k→va.heap.size≤k∧k < vb.heap.size:=⟨uk,fun k hk=>⟨un k hk,uo.lt k hk⟩⟩
      have HU:Hid (u.abs=x.abs):=hu
      have szo:=o1.size
      clear uo uk un hu o1
      refine wpAnyH_ready (rs:=[4]) (by kernel_rfl) (by simp) ?_
      refine AllReadyH.cons rfl (fun K' hK'=>?_) AllReadyH.nil
      go_simp
      refine (insert_any ao co lo u _ MK.row MK.own.zero UK.1 (by omega)).mono ?_
      rintro e v7 ⟨kk,a7,c7,rfl,hk,hk1,hk2,own7,at7,o7⟩
      have hS1:=hS.trans (o7.mono (fun _ _ h=>h.elim)) (fun _ _ h=>h)
      refine hK'.out _ _ hS1 (fun hS=>?_)
      clear hK' K' hS1
      refine take_q 5 62 (.pointer (some ⟨q5,8,none⟩)) hS ?_
      simp only [Act.put,lsA,lsZ,lsS]
      have MK7:=MK.ins (u:=u) (m:=kk) (by have:=HSW.out; have:=szo; omega) UK.1 (fun c hc=>⟨by have:=(UK.2 c hc).1; have:=HSW.out; omega,(UK.2 c hc).2⟩) own7 o7 at7
      have BX7:=BX.off o7 (fun h=>h)
      obtain ⟨hc7,hc8,hc9⟩:=ins_cont hk1 hk2
      have HST7:Hid (St1 g (cont l) (cont k) (i + 1) ((cont lo).take kk ++ u.abs :: (cont lo).drop kk)):=st1_ins HST.out HSL.out (cont_get HX.out) (fun z=>by rw [HU.out]; exact j0_new HNO.out (by simp only [nc,V.abs,hcv]; rfl) z) hc8 hc9
      have hlen7:(lo.take kk ++ u :: lo.drop kk).length=lo.length + 1:=by simp; omega
      rw [← hc7] at HST7
      generalize hz7:lo.take kk ++ u :: lo.drop kk=l7 at MK7 HST7 hlen7 ⊢
      obtain ⟨x0,x1,x2,x3,x4,x5,x6,x7,x8⟩:=cel9 BX7
      have fz:=BX7.free
      have HLEN:Hid _:=hlen7
      clear hlen7
      refine wpAnyH_ready (rs:=[6]) (by kernel_rfl) (by simp) ?_
      refine AllReadyH.cons rfl (fun K' hK'=>?_) AllReadyH.nil
      go_simp
      have hS3:=hS.setCell (p:=⟨q5,8,none⟩) (.inl rfl) (.slice a7 l7.length c7)
      refine hK'.out _ _ hS3 (fun hS=>?_)
      clear hK' K' hS3
      refine wpAnyH_done (by kernel_rfl) ?_ _
      clear x0 x1 x2 x3 x4 x5 x6 x7 x8 fz
      have BX8:=BX7.set 8 (.slice a7 l7.length c7)
      simp only [lsA,lsZ,lsS] at BX8
      have MK8:=MK7.off ((Off.refl (fun c=>c=q5) v7).setCell (p:=⟨q5,8,none⟩) (.inl rfl) (.slice a7 l7.length c7)) (fun k h1 _ h2=>by have:=HL5.out; omega)
      have OF:=HPO.out.trans hS (fun k _ h=>h)
      generalize hv9:v7.setCell ⟨q5,8,none⟩ (.slice a7 l7.length c7)=v9 at BX8 MK8 OF ⊢
      have HB8:Hid _:=BX8
      have HM8:Hid _:=MK8
      have HOF:Hid _:=OF
      clear BX7 BX8 MK7 MK8 OF hS hv9 own7 at7 o7 hk hk1 hk2 hz7 MK BX UK szo hc7 hc8 hc9
      go_wp2_with fail
      go_roundw
      case rel=>exact ⟨i + 1,l7,a7,c7,by go_num,by omega,HB8.out,HM8.out,by have:=HLEN.out; omega,HST7.out,HOF.out⟩
      case measure=>simp [intOf]; omega
     ·go_simp
      refine (copied_any x _ (HVX.out _ hS)).mono ?_
      rintro e vb ⟨u,rfl,hu,uo,uk,un,o1⟩
      have hS1:=hS.trans (o1.mono (fun _ _ h=>h.elim)) (fun _ _ h=>h)
      refine hK'.out _ _ hS1 (fun hS=>?_)
      clear hK' K' hS1
      replace BX:=BX.off o1 (fun h=>h)
      replace MK:=MK.free o1
      have UK:VOk vb u∧∀ k,blk u.ad=some k→va.heap.size≤k∧k < vb.heap.size:=⟨uk,fun k hk=>⟨un k hk,uo.lt k hk⟩⟩
      have HU:Hid (u.abs=x.abs):=hu
      have szo:=o1.size
      clear uo uk un hu o1
      refine wpAnyH_ready (rs:=[1]) (by kernel_rfl) (by simp) ?_
      refine AllReadyH.cons rfl (fun K' hK'=>?_) AllReadyH.nil
      obtain ⟨x0,x1,x2,x3,x4,x5,x6,x7,x8⟩:=cel9 BX
      go_simp
      refine hK'.out _ _ hS (fun hS=>?_)
      clear hK' K' x0 x1 x2 x3 x4 x5 x6 x7 x8
      refine wpAnyH_ready (rs:=[4]) (by kernel_rfl) (by simp) ?_
      refine AllReadyH.cons rfl (fun K' hK'=>?_) AllReadyH.nil
      go_simp
      refine (insert_any ao co lo u _ MK.row MK.own.zero UK.1 (by omega)).mono ?_
      rintro e v7 ⟨kk,a7,c7,rfl,hk,hk1,hk2,own7,at7,o7⟩
      have hS1:=hS.trans (o7.mono (fun _ _ h=>h.elim)) (fun _ _ h=>h)
      refine hK'.out _ _ hS1 (fun hS=>?_)
      clear hK' K' hS1
      refine take_q 5 62 (.pointer (some ⟨q5,8,none⟩)) hS ?_
      simp only [Act.put,lsA,lsZ,lsS]
      have MK7:=MK.ins (u:=u) (m:=kk) (by have:=HSW.out; have:=szo; omega) UK.1 (fun c hc=>⟨by have:=(UK.2 c hc).1; have:=HSW.out; omega,(UK.2 c hc).2⟩) own7 o7 at7
      have BX7:=BX.off o7 (fun h=>h)
      obtain ⟨hc7,hc8,hc9⟩:=ins_cont hk1 hk2
      have HST7:Hid (St1 g (cont l) (cont k) (i + 1) ((cont lo).take kk ++ u.abs :: (cont lo).drop kk)):=st1_ins HST.out HSL.out (cont_get HX.out) (fun z=>by rw [HU.out]; exact j0_new HNO.out (by simp only [nc,V.abs,hcv]; rfl) z) hc8 hc9
      have hlen7:(lo.take kk ++ u :: lo.drop kk).length=lo.length + 1:=by simp; omega
      rw [← hc7] at HST7
      generalize hz7:lo.take kk ++ u :: lo.drop kk=l7 at MK7 HST7 hlen7 ⊢
      obtain ⟨x0,x1,x2,x3,x4,x5,x6,x7,x8⟩:=cel9 BX7
      have fz:=BX7.free
      have HLEN:Hid _:=hlen7
      clear hlen7
      refine wpAnyH_ready (rs:=[6]) (by kernel_rfl) (by simp) ?_
      refine AllReadyH.cons rfl (fun K' hK'=>?_) AllReadyH.nil
      go_simp
      have hS3:=hS.setCell (p:=⟨q5,8,none⟩) (.inl rfl) (.slice a7 l7.length c7)
      refine hK'.out _ _ hS3 (fun hS=>?_)
      clear hK' K' hS3
      refine wpAnyH_done (by kernel_rfl) ?_ _
      clear x0 x1 x2 x3 x4 x5 x6 x7 x8 fz
      have BX8:=BX7.set 8 (.slice a7 l7.length c7)
      simp only [lsA,lsZ,lsS] at BX8
      have MK8:=MK7.off ((Off.refl (fun c=>c=q5) v7).setCell (p:=⟨q5,8,none⟩) (.inl rfl) (.slice a7 l7.length c7)) (fun k h1 _ h2=>by have:=HL5.out; omega)
      have OF:=HPO.out.trans hS (fun k _ h=>h)
      generalize hv9:v7.setCell ⟨q5,8,none⟩ (.slice a7 l7.length c7)=v9 at BX8 MK8 OF ⊢
      have HB8:Hid _:=BX8
      have HM8:Hid _:=MK8
      have HOF:Hid _:=OF
      clear BX7 BX8 MK7 MK8 OF hS hv9 own7 at7 o7 hk hk1 hk2 hz7 MK BX UK szo hc7 hc8 hc9
      go_wp2_with fail
      go_roundw
      case rel=>exact ⟨i + 1,l7,a7,c7,by go_num,by omega,HB8.out,HM8.out,by have:=HLEN.out; omega,HST7.out,HOF.out⟩
      case measure=>simp [intOf]; omega
    ·go_wp2_with fail
     clear x0 x1 x2 x3 x4 x5 x6 x7 x8 e0 e1 e2 e3
     refine (fcovers_any g x.node x.num _).mono ?_
     rw [hcv]
     rintro e v1 ⟨rfl,o1⟩
     have HBX:Hid _:=HBX1.out.off o1 (fun h=>h)
     have HMK:Hid _:=HMK1.out.free o1
     have HPO:Hid (Off (fun c=>c=q5) w8 v1):=HPO1.out.trans (o1.mono (fun _ _ h=>h.elim)) (fun _ _ h=>h)
     have HOW:Hid (Off (fun c=>W.heap.size≤c) W v1):=HOW1.out.trans (o1.mono (fun _ _ h=>h.elim)) (fun _ _ h=>h)
     have HCX:Hid _:=HCX1.out.off o1 (fun h=>h)
     have HST7:Hid (St1 g (cont l) (cont k) (i + 1) (cont lo)):=st1_skip HST.out (cont_get HX.out) HNO.out (by simp only [nc,V.abs,hcv]; rfl)
     clear o1 HBX1 HMK1 HPO1 HOW1 HCX1
     go_wp2_with fail
     go_roundw
     case rel=>exact ⟨i + 1,lo,ao,co,by go_num,by omega,HBX.out,HMK.out,by omega,HST7.out,HPO.out⟩
     case measure=>simp [intOf]; omega
   ·have HXY:Hid (EQ x.abs y.abs):=⟨hyn.symm,hyN.symm⟩
    have HY:Hid _:=hy
    obtain ⟨hjl,-⟩:=List.getElem?_eq_some_iff.1 hy
    obtain ⟨bb,fb,hbb,hy4,hvy⟩:=HRB.out.at_ j y hy
    have HVYW:Hid _:=hvy
    have HY4:Hid _:=hy4
    have j1:decide ((j:Int) < (k.length:Int))=true:=decide_eq_true (by omega)
    have j2:decide (j < k.length)=true:=decide_eq_true hjl
    have j3:decide ((0:Int)≤(j:Int))=true:=decide_eq_true (by omega)
    clear hyn hyN hy hy4 hvy
    subst hbb
    obtain ⟨v1,hv1⟩:∃ v1,v1=w9:=⟨_,rfl⟩
    rw [← hv1] at HBX1 HMK1 HPO1 HOW1 HCX1 ⊢
    have HBX:Hid _:=HBX1.out
    have HMK:Hid _:=HMK1.out
    have HPO:Hid (Off (fun c=>c=q5) w8 v1):=HPO1.out
    have HOW:Hid (Off (fun c=>W.heap.size≤c) W v1):=HOW1.out
    have HCX:Hid _:=HCX1.out
    have HVX:Hid (∀ w',Off (fun c=>c=q5) v1 w'→VOk w' x):=fun w' o=>HVW.out.off (HOW.out.trans o (fun k _ e=>by rw [e]; exact HQ5.out.2)) (fun c hc _ h=>by omega)
    have HVY:Hid (∀ w',Off (fun c=>c=q5) v1 w'→VOk w' y):=fun w' o=>HVYW.out.off (HOW.out.trans o (fun k _ e=>by rw [e]; exact HQ5.out.2)) (fun c hc _ h=>by omega)
    clear hv1 HBX1 HMK1 HPO1 HOW1 HCX1
    go_upto_region 9 with fail
    have HSW:Hid (w8.heap.size≤v1.heap.size):=HPO.out.size
    refine wp_region_held_drew (S:=fun w'=>Off (fun c=>c=q5) v1 w') (by kernel_rfl) ((Off.refl _ v1).drew) (fun hS=>?_)
    have BX:=HBX.out.drew
    have MK:=HMK.out.free ((Off.refl _ v1).drew)
    have hv1:v1.heap.size≤v1.drew.heap.size:=Nat.le_refl _
    generalize hdr:v1.drew=va at BX MK hS hv1 ⊢
    clear hdr
    refine take_q 0 39 (.pointer (some ⟨q5,8,none⟩)) hS ?_
    simp only [Act.put,lsA,lsZ,lsS]
    refine take_r 2 41 (.agg #[.int .i64 x.node,.int .i64 x.num,.slice x.ad x.data.length x.cap,.bool x.dead]) rfl (Or.inl ⟨by rfl,fun w' hw'=>by obtain ⟨x0,x1,x2,x3⟩:=cel4 (HCX.out.off hw' (fun h=>HQX.out h)); go_simp⟩) hS ?_
    simp only [Act.put,lsA,lsZ,lsS]
    refine take_q 3 42 (.pointer (some ⟨q1,8,none⟩)) hS ?_
    simp only [Act.put,lsA,lsZ,lsS]
    refine take_r 4 43 (.slice (some ⟨bb,fb,none⟩) k.length cb) rfl (Or.inl ⟨by rfl,fun w' hw'=>by obtain ⟨x0,x1,x2,x3,x4,x5,x6,x7,x8⟩:=cel9 (H18.out.off (HPO.out.trans hw' (fun _ _ h=>h)) (fun e=>HN5.out.2.2 e)); go_simp⟩) hS ?_
    simp only [Act.put,lsA,lsZ,lsS]
    refine take_q 5 44 (.int .i64 (j:Int)) hS ?_
    simp only [Act.put,lsA,lsZ,lsS]
    refine take_q 6 45 (.pointer (some ⟨bb,fb + j * 4,none⟩)) hS ?_
    simp only [Act.put,lsA,lsZ,lsS]
    refine take_r 7 46 (.agg #[.int .i64 y.node,.int .i64 y.num,.slice y.ad y.data.length y.cap,.bool y.dead]) rfl (Or.inl ⟨by rfl,fun w' hw'=>by obtain ⟨c0,c1,c2,c3⟩:=HY4.out.off (HOW.out.trans hw' (fun k _ e=>by rw [e]; exact HQ5.out.2)) (fun hb h=>by omega); go_simp⟩) hS ?_
    simp only [Act.put,lsA,lsZ,lsS]
    refine wpAnyH_ready (rs:=[1,8]) (by kernel_rfl) (by simp) ?_
    refine AllReadyH.cons rfl (fun K' hK'=>?_) (AllReadyH.cons rfl (fun K' hK'=>?_) AllReadyH.nil)
    ·obtain ⟨x0,x1,x2,x3,x4,x5,x6,x7,x8⟩:=cel9 BX
     go_simp
     refine hK'.out _ _ hS (fun hS=>?_)
     clear hK' K' x0 x1 x2 x3 x4 x5 x6 x7 x8
     refine wpAnyH_ready (rs:=[8]) (by kernel_rfl) (by simp) ?_
     refine AllReadyH.cons rfl (fun K' hK'=>?_) AllReadyH.nil
     go_simp
     refine (gfirst_any x y _ (HVX.out _ hS) (HVY.out _ hS)).mono ?_
     rintro e vf ⟨rfl,o0⟩
     have hS1:=hS.trans (o0.mono (fun _ _ h=>h.elim)) (fun _ _ h=>h)
     refine hK'.out _ _ hS1 (fun hS=>?_)
     clear hK' K' hS1
     replace BX:=BX.off o0 (fun h=>h)
     replace MK:=MK.free o0
     have szf:=o0.size
     have FK:=firstV_ok (HVX.out _ hS) (HVY.out _ hS)
     have HFA:Hid ((firstV x y).abs=firstA x.abs y.abs):=firstV_abs x y
     generalize hfv:firstV x y=fv at FK HFA ⊢
     clear hfv o0
     refine wpAnyH_ready (rs:=[9]) (by kernel_rfl) (by simp) ?_
     refine AllReadyH.cons rfl (fun K' hK'=>?_) AllReadyH.nil
     go_simp
     refine (copied_any fv _ FK).mono ?_
     rintro e vb ⟨u,rfl,hu,uo,uk,un,o1⟩
     have hS1:=hS.trans (o1.mono (fun _ _ h=>h.elim)) (fun _ _ h=>h)
     refine hK'.out _ _ hS1 (fun hS=>?_)
     clear hK' K' hS1
     replace BX:=BX.off o1 (fun h=>h)
     replace MK:=MK.free o1
     have UK:VOk vb u∧∀ k,blk u.ad=some k→vf.heap.size≤k∧k < vb.heap.size:=⟨uk,fun k hk=>⟨un k hk,uo.lt k hk⟩⟩
     have HU:Hid (u.abs=fv.abs):=hu
     have szo:=o1.size
     clear uo uk un hu o1
     refine wpAnyH_ready (rs:=[10]) (by kernel_rfl) (by simp) ?_
     refine AllReadyH.cons rfl (fun K' hK'=>?_) AllReadyH.nil
     go_simp
     refine (insert_any ao co lo u _ MK.row MK.own.zero UK.1 (by omega)).mono ?_
     rintro e v7 ⟨kk,a7,c7,rfl,hk,hk1,hk2,own7,at7,o7⟩
     have hS1:=hS.trans (o7.mono (fun _ _ h=>h.elim)) (fun _ _ h=>h)
     refine hK'.out _ _ hS1 (fun hS=>?_)
     clear hK' K' hS1
     refine take_q 11 50 (.pointer (some ⟨q5,8,none⟩)) hS ?_
     simp only [Act.put,lsA,lsZ,lsS]
     have MK7:=MK.ins (u:=u) (m:=kk) (by have:=HSW.out; have:=szo; have:=szf; omega) UK.1 (fun c hc=>⟨by have:=(UK.2 c hc).1; have:=HSW.out; have:=szf; omega,(UK.2 c hc).2⟩) own7 o7 at7
     have BX7:=BX.off o7 (fun h=>h)
     obtain ⟨hc7,hc8,hc9⟩:=ins_cont hk1 hk2
     have HST7:Hid (St1 g (cont l) (cont k) (i + 1) ((cont lo).take kk ++ u.abs :: (cont lo).drop kk)):=st1_ins HST.out HSL.out (cont_get HX.out) (fun z=>by rw [HU.out,HFA.out]; exact j0_found HSK.out (List.mem_of_getElem? (cont_get HY.out)) HXY.out z) hc8 hc9
     have hlen7:(lo.take kk ++ u :: lo.drop kk).length=lo.length + 1:=by simp; omega
     rw [← hc7] at HST7
     generalize hz7:lo.take kk ++ u :: lo.drop kk=l7 at MK7 HST7 hlen7 ⊢
     obtain ⟨x0,x1,x2,x3,x4,x5,x6,x7,x8⟩:=cel9 BX7
     have fz:=BX7.free
     have HLEN:Hid _:=hlen7
     clear hlen7
     refine wpAnyH_ready (rs:=[12]) (by kernel_rfl) (by simp) ?_
     refine AllReadyH.cons rfl (fun K' hK'=>?_) AllReadyH.nil
     go_simp
     have hS3:=hS.setCell (p:=⟨q5,8,none⟩) (.inl rfl) (.slice a7 l7.length c7)
     refine hK'.out _ _ hS3 (fun hS=>?_)
     clear hK' K' hS3
     refine wpAnyH_done (by kernel_rfl) ?_ _
     clear x0 x1 x2 x3 x4 x5 x6 x7 x8 fz
     have BX8:=BX7.set 8 (.slice a7 l7.length c7)
     simp only [lsA,lsZ,lsS] at BX8
     have MK8:=MK7.off ((Off.refl (fun c=>c=q5) v7).setCell (p:=⟨q5,8,none⟩) (.inl rfl) (.slice a7 l7.length c7)) (fun k h1 _ h2=>by have:=HL5.out; omega)
     have OF:=HPO.out.trans hS (fun k _ h=>h)
     generalize hv9:v7.setCell ⟨q5,8,none⟩ (.slice a7 l7.length c7)=v9 at BX8 MK8 OF ⊢
     have HB8:Hid _:=BX8
     have HM8:Hid _:=MK8
     have HOF:Hid _:=OF
     clear BX7 BX8 MK7 MK8 OF hS hv9 own7 at7 o7 hk hk1 hk2 hz7 MK BX UK szo hc7 hc8 hc9
     go_wp2_with fail
     go_roundw
     case rel=>exact ⟨i + 1,l7,a7,c7,by go_num,by omega,HB8.out,HM8.out,by have:=HLEN.out; omega,HST7.out,HOF.out⟩
     case measure=>simp [intOf]; omega
    ·go_simp
     refine (gfirst_any x y _ (HVX.out _ hS) (HVY.out _ hS)).mono ?_
     rintro e vf ⟨rfl,o0⟩
     have hS1:=hS.trans (o0.mono (fun _ _ h=>h.elim)) (fun _ _ h=>h)
     refine hK'.out _ _ hS1 (fun hS=>?_)
     clear hK' K' hS1
     replace BX:=BX.off o0 (fun h=>h)
     replace MK:=MK.free o0
     have szf:=o0.size
     have FK:=firstV_ok (HVX.out _ hS) (HVY.out _ hS)
     have HFA:Hid ((firstV x y).abs=firstA x.abs y.abs):=firstV_abs x y
     generalize hfv:firstV x y=fv at FK HFA ⊢
     clear hfv o0
     refine wpAnyH_ready (rs:=[1,9]) (by kernel_rfl) (by simp) ?_
     refine AllReadyH.cons rfl (fun K' hK'=>?_) (AllReadyH.cons rfl (fun K' hK'=>?_) AllReadyH.nil)
     ·obtain ⟨x0,x1,x2,x3,x4,x5,x6,x7,x8⟩:=cel9 BX
      go_simp
      refine hK'.out _ _ hS (fun hS=>?_)
      clear hK' K' x0 x1 x2 x3 x4 x5 x6 x7 x8
      refine wpAnyH_ready (rs:=[9]) (by kernel_rfl) (by simp) ?_
      refine AllReadyH.cons rfl (fun K' hK'=>?_) AllReadyH.nil
      go_simp
      refine (copied_any fv _ FK).mono ?_
      rintro e vb ⟨u,rfl,hu,uo,uk,un,o1⟩
      have hS1:=hS.trans (o1.mono (fun _ _ h=>h.elim)) (fun _ _ h=>h)
      refine hK'.out _ _ hS1 (fun hS=>?_)
      clear hK' K' hS1
      replace BX:=BX.off o1 (fun h=>h)
      replace MK:=MK.free o1
      have UK:VOk vb u∧∀ k,blk u.ad=some k→vf.heap.size≤k∧k < vb.heap.size:=⟨uk,fun k hk=>⟨un k hk,uo.lt k hk⟩⟩
      have HU:Hid (u.abs=fv.abs):=hu
      have szo:=o1.size
      clear uo uk un hu o1
      refine wpAnyH_ready (rs:=[10]) (by kernel_rfl) (by simp) ?_
      refine AllReadyH.cons rfl (fun K' hK'=>?_) AllReadyH.nil
      go_simp
      refine (insert_any ao co lo u _ MK.row MK.own.zero UK.1 (by omega)).mono ?_
      rintro e v7 ⟨kk,a7,c7,rfl,hk,hk1,hk2,own7,at7,o7⟩
      have hS1:=hS.trans (o7.mono (fun _ _ h=>h.elim)) (fun _ _ h=>h)
      refine hK'.out _ _ hS1 (fun hS=>?_)
      clear hK' K' hS1
      refine take_q 11 50 (.pointer (some ⟨q5,8,none⟩)) hS ?_
      simp only [Act.put,lsA,lsZ,lsS]
      have MK7:=MK.ins (u:=u) (m:=kk) (by have:=HSW.out; have:=szo; have:=szf; omega) UK.1 (fun c hc=>⟨by have:=(UK.2 c hc).1; have:=HSW.out; have:=szf; omega,(UK.2 c hc).2⟩) own7 o7 at7
      have BX7:=BX.off o7 (fun h=>h)
      obtain ⟨hc7,hc8,hc9⟩:=ins_cont hk1 hk2
      have HST7:Hid (St1 g (cont l) (cont k) (i + 1) ((cont lo).take kk ++ u.abs :: (cont lo).drop kk)):=st1_ins HST.out HSL.out (cont_get HX.out) (fun z=>by rw [HU.out,HFA.out]; exact j0_found HSK.out (List.mem_of_getElem? (cont_get HY.out)) HXY.out z) hc8 hc9
      have hlen7:(lo.take kk ++ u :: lo.drop kk).length=lo.length + 1:=by simp; omega
      rw [← hc7] at HST7
      generalize hz7:lo.take kk ++ u :: lo.drop kk=l7 at MK7 HST7 hlen7 ⊢
      obtain ⟨x0,x1,x2,x3,x4,x5,x6,x7,x8⟩:=cel9 BX7
      have fz:=BX7.free
      have HLEN:Hid _:=hlen7
      clear hlen7
      refine wpAnyH_ready (rs:=[12]) (by kernel_rfl) (by simp) ?_
      refine AllReadyH.cons rfl (fun K' hK'=>?_) AllReadyH.nil
      go_simp
      have hS3:=hS.setCell (p:=⟨q5,8,none⟩) (.inl rfl) (.slice a7 l7.length c7)
      refine hK'.out _ _ hS3 (fun hS=>?_)
      clear hK' K' hS3
      refine wpAnyH_done (by kernel_rfl) ?_ _
      clear x0 x1 x2 x3 x4 x5 x6 x7 x8 fz
      have BX8:=BX7.set 8 (.slice a7 l7.length c7)
      simp only [lsA,lsZ,lsS] at BX8
      have MK8:=MK7.off ((Off.refl (fun c=>c=q5) v7).setCell (p:=⟨q5,8,none⟩) (.inl rfl) (.slice a7 l7.length c7)) (fun k h1 _ h2=>by have:=HL5.out; omega)
      have OF:=HPO.out.trans hS (fun k _ h=>h)
      generalize hv9:v7.setCell ⟨q5,8,none⟩ (.slice a7 l7.length c7)=v9 at BX8 MK8 OF ⊢
      have HB8:Hid _:=BX8
      have HM8:Hid _:=MK8
      have HOF:Hid _:=OF
      clear BX7 BX8 MK7 MK8 OF hS hv9 own7 at7 o7 hk hk1 hk2 hz7 MK BX UK szo hc7 hc8 hc9
      go_wp2_with fail
      go_roundw
      case rel=>exact ⟨i + 1,l7,a7,c7,by go_num,by omega,HB8.out,HM8.out,by have:=HLEN.out; omega,HST7.out,HOF.out⟩
      case measure=>simp [intOf]; omega
     ·go_simp
      refine (copied_any fv _ FK).mono ?_
      rintro e vb ⟨u,rfl,hu,uo,uk,un,o1⟩
      have hS1:=hS.trans (o1.mono (fun _ _ h=>h.elim)) (fun _ _ h=>h)
      refine hK'.out _ _ hS1 (fun hS=>?_)
      clear hK' K' hS1
      replace BX:=BX.off o1 (fun h=>h)
      replace MK:=MK.free o1
      have UK:VOk vb u∧∀ k,blk u.ad=some k→vf.heap.size≤k∧k < vb.heap.size:=⟨uk,fun k hk=>⟨un k hk,uo.lt k hk⟩⟩
      have HU:Hid (u.abs=fv.abs):=hu
      have szo:=o1.size
      clear uo uk un hu o1
      refine wpAnyH_ready (rs:=[1]) (by kernel_rfl) (by simp) ?_
      refine AllReadyH.cons rfl (fun K' hK'=>?_) AllReadyH.nil
      obtain ⟨x0,x1,x2,x3,x4,x5,x6,x7,x8⟩:=cel9 BX
      go_simp
      refine hK'.out _ _ hS (fun hS=>?_)
      clear hK' K' x0 x1 x2 x3 x4 x5 x6 x7 x8
      refine wpAnyH_ready (rs:=[10]) (by kernel_rfl) (by simp) ?_
      refine AllReadyH.cons rfl (fun K' hK'=>?_) AllReadyH.nil
      go_simp
      refine (insert_any ao co lo u _ MK.row MK.own.zero UK.1 (by omega)).mono ?_
      rintro e v7 ⟨kk,a7,c7,rfl,hk,hk1,hk2,own7,at7,o7⟩
      have hS1:=hS.trans (o7.mono (fun _ _ h=>h.elim)) (fun _ _ h=>h)
      refine hK'.out _ _ hS1 (fun hS=>?_)
      clear hK' K' hS1
      refine take_q 11 50 (.pointer (some ⟨q5,8,none⟩)) hS ?_
      simp only [Act.put,lsA,lsZ,lsS]
      have MK7:=MK.ins (u:=u) (m:=kk) (by have:=HSW.out; have:=szo; have:=szf; omega) UK.1 (fun c hc=>⟨by have:=(UK.2 c hc).1; have:=HSW.out; have:=szf; omega,(UK.2 c hc).2⟩) own7 o7 at7
      have BX7:=BX.off o7 (fun h=>h)
      obtain ⟨hc7,hc8,hc9⟩:=ins_cont hk1 hk2
      have HST7:Hid (St1 g (cont l) (cont k) (i + 1) ((cont lo).take kk ++ u.abs :: (cont lo).drop kk)):=st1_ins HST.out HSL.out (cont_get HX.out) (fun z=>by rw [HU.out,HFA.out]; exact j0_found HSK.out (List.mem_of_getElem? (cont_get HY.out)) HXY.out z) hc8 hc9
      have hlen7:(lo.take kk ++ u :: lo.drop kk).length=lo.length + 1:=by simp; omega
      rw [← hc7] at HST7
      generalize hz7:lo.take kk ++ u :: lo.drop kk=l7 at MK7 HST7 hlen7 ⊢
      obtain ⟨x0,x1,x2,x3,x4,x5,x6,x7,x8⟩:=cel9 BX7
      have fz:=BX7.free
      have HLEN:Hid _:=hlen7
      clear hlen7
      refine wpAnyH_ready (rs:=[12]) (by kernel_rfl) (by simp) ?_
      refine AllReadyH.cons rfl (fun K' hK'=>?_) AllReadyH.nil
      go_simp
      have hS3:=hS.setCell (p:=⟨q5,8,none⟩) (.inl rfl) (.slice a7 l7.length c7)
      refine hK'.out _ _ hS3 (fun hS=>?_)
      clear hK' K' hS3
      refine wpAnyH_done (by kernel_rfl) ?_ _
      clear x0 x1 x2 x3 x4 x5 x6 x7 x8 fz
      have BX8:=BX7.set 8 (.slice a7 l7.length c7)
      simp only [lsA,lsZ,lsS] at BX8
      have MK8:=MK7.off ((Off.refl (fun c=>c=q5) v7).setCell (p:=⟨q5,8,none⟩) (.inl rfl) (.slice a7 l7.length c7)) (fun k h1 _ h2=>by have:=HL5.out; omega)
      have OF:=HPO.out.trans hS (fun k _ h=>h)
      generalize hv9:v7.setCell ⟨q5,8,none⟩ (.slice a7 l7.length c7)=v9 at BX8 MK8 OF ⊢
      have HB8:Hid _:=BX8
      have HM8:Hid _:=MK8
      have HOF:Hid _:=OF
      clear BX7 BX8 MK7 MK8 OF hS hv9 own7 at7 o7 hk hk1 hk2 hz7 MK BX UK szo hc7 hc8 hc9
      go_wp2_with fail
      go_roundw
      case rel=>exact ⟨i + 1,l7,a7,c7,by go_num,by omega,HB8.out,HM8.out,by have:=HLEN.out; omega,HST7.out,HOF.out⟩
      case measure=>simp [intOf]; omega
  ·have i1:decide ((i:Int) < (l.length:Int))=false:=decide_eq_false (by omega)
   have i2:decide (i < l.length)=false:=decide_eq_false hil
   have HST2:Hid (St2 f g (cont l) (cont k) 0 (cont lo)):=st2_zero HST.out (by rw [cont_len]; omega)
   clear HST
   obtain ⟨x0,x1,x2,x3,x4,x5,x6,x7,x8⟩:=cel9 (H18.out.off HPO.out (fun e=>HN5.out.2.2 e))
   go_wp2_with fail
   clear x0 x1 x2 x3 x4 x5 x6 x7 x8 i1 i2
   go_loopw [67] (fun y wr=>∃ (i:Nat) (lo:List V) (ao:Option Addr) (co:Nat),y=.int .i64 (i:Int)∧i≤k.length∧Cel q5 47 #[.int .i64 (h 0),.int .i64 (h 1),.int .i64 (h 2),.int .i64 (h 3),.int .i64 (h 4),.int .i64 (h 5),.int .i64 (h 6),.int .i64 (h 7),.slice ao lo.length co] wr∧Mk w8.heap.size wr ao co lo∧lo.length≤l.length + i∧St2 f g (cont l) (cont k) i (cont lo)∧Off (fun c=>c=q5) w8 wr) (fun y _=>(k.length - intOf y).toNat)
   case atStart=>exact ⟨0,lo,ao,co,rfl,by omega,HBX.out,HMK.out,by omega,HST2.out,HPO.out⟩
   case round =>
    clear HBX HMK HPO HST2 HOW
    obtain ⟨i,lo,ao,co,rfl,hi,bx,mk,hlol,hst,po⟩:=hrel
    have HBX:Hid _:=bx
    have HMK:Hid _:=mk
    have HST:Hid _:=hst
    have HPO:Hid (Off (fun c=>c=q5) w8 wr):=po
    have HOW:Hid (Off (fun c=>W.heap.size≤c) W wr):=(HO6.out.mono (fun _ _ h=>h.elim)).trans po (fun k _ e=>by rw [e]; exact HQ5.out.2)
    clear bx mk hst po
    by_cases hil:i < k.length
    ·have i1:decide ((i:Int) < (k.length:Int))=true:=decide_eq_true (by omega)
     have i2:decide (i < k.length)=true:=decide_eq_true hil
     obtain ⟨x,hx⟩:∃ x,k[i]?=some x:=⟨_,List.getElem?_eq_getElem hil⟩
     obtain ⟨ba,fa,hay,h4,hvx⟩:=HRB.out.at_ i x hx
     have HX:Hid _:=hx
     have HVW:Hid _:=hvx
     obtain ⟨c0,c1,c2,c3⟩:=h4.off HOW.out (fun hb h=>by omega)
     clear hx h4 hvx
     have HAY:Hid _:=hay
     subst hay
     go_upto_region 16 with fail
     have CX:=Cel.new wr 87 #[.int .i64 x.node,.int .i64 x.num,.slice x.ad x.data.length x.cap,.bool x.dead]
     have OA:Off (fun _=>False) wr (wr.alloc (.cells #[.int .i64 x.node,.int .i64 x.num,.slice x.ad x.data.length x.cap,.bool x.dead] 87)):=(Off.refl _ wr).alloc _
     have lbx:=HBX.out.lt
     generalize hq:wr.heap.size=qx at CX lbx ⊢
     generalize hv:wr.alloc (.cells #[.int .i64 x.node,.int .i64 x.num,.slice x.ad x.data.length x.cap,.bool x.dead] 87)=vx at CX OA ⊢
     have HQX:Hid (¬ qx=q5):=by show ¬ qx=q5; omega
     clear hv hq c0 c1 c2 c3
     have HBX0:Hid _:=HBX.out.off OA (fun h=>h)
     have HMK0:Hid _:=HMK.out.free OA
     have HPO0:Hid (Off (fun c=>c=q5) w8 vx):=HPO.out.trans (OA.mono (fun _ _ h=>h.elim)) (fun _ _ h=>h)
     have HOW0:Hid (Off (fun c=>W.heap.size≤c) W vx):=HOW.out.trans (OA.mono (fun _ _ h=>h.elim)) (fun _ _ h=>h)
     clear HBX HMK HPO HOW lbx OA
     obtain ⟨x0,x1,x2,x3,x4,x5,x6,x7,x8⟩:=cel9 (H08.out.off HPO0.out (fun e=>HN5.out.1 e))
     obtain ⟨e0,e1,e2,e3⟩:=cel4 CX
     have HCX0:Hid _:=CX
     go_wp2_with fail
     clear x0 x1 x2 x3 x4 x5 x6 x7 x8 e0 e1 e2 e3 CX
     refine (find_any f a ca l x.node x.num _ (HRA.out.offD HOW0.out (fun c hc _ h=>by omega) (fun v hv c hc _ h=>by omega))).mono ?_
     rintro e w9 ⟨r,rfl,hr,o9⟩
     have HBX1:Hid _:=HBX0.out.off o9 (fun h=>h)
     have HMK1:Hid _:=HMK0.out.free o9
     have HPO1:Hid (Off (fun c=>c=q5) w8 w9):=HPO0.out.trans (o9.mono (fun _ _ h=>h.elim)) (fun _ _ h=>h)
     have HOW1:Hid (Off (fun c=>W.heap.size≤c) W w9):=HOW0.out.trans (o9.mono (fun _ _ h=>h.elim)) (fun _ _ h=>h)
     have HCX1:Hid _:=HCX0.out.off o9 (fun h=>h)
     clear o9 HBX0 HMK0 HPO0 HOW0 HCX0
     rcases hr with ⟨rfl,hno⟩ | ⟨j,y,rfl,hy,hyn,hyN⟩
     ·have HNO:Hid (∀ y ∈ cont l,¬ EQ y x.abs):=abs_none hno
      clear hno
      obtain ⟨x0,x1,x2,x3,x4,x5,x6,x7,x8⟩:=cel9 (H08.out.off HPO1.out (fun e=>HN5.out.1 e))
      obtain ⟨e0,e1,e2,e3⟩:=cel4 HCX1.out
      cases hcv:coversB f x.node x.num
      ·go_wp2_with fail
       clear x0 x1 x2 x3 x4 x5 x6 x7 x8 e0 e1 e2 e3
       refine (fcovers_any f x.node x.num _).mono ?_
       rw [hcv]
       rintro e v1 ⟨rfl,o1⟩
       have HBX:Hid _:=HBX1.out.off o1 (fun h=>h)
       have HMK:Hid _:=HMK1.out.free o1
       have HPO:Hid (Off (fun c=>c=q5) w8 v1):=HPO1.out.trans (o1.mono (fun _ _ h=>h.elim)) (fun _ _ h=>h)
       have HOW:Hid (Off (fun c=>W.heap.size≤c) W v1):=HOW1.out.trans (o1.mono (fun _ _ h=>h.elim)) (fun _ _ h=>h)
       have HCX:Hid _:=HCX1.out.off o1 (fun h=>h)
       have HVX:Hid (∀ w',Off (fun c=>c=q5) v1 w'→VOk w' x):=fun w' o=>HVW.out.off (HOW.out.trans o (fun k _ e=>by rw [e]; exact HQ5.out.2)) (fun c hc _ h=>by omega)
       clear o1 HBX1 HMK1 HPO1 HOW1 HCX1
       go_upto_region 17 with fail
       have HSW:Hid (w8.heap.size≤v1.heap.size):=HPO.out.size
       refine wp_region_held_drew (S:=fun w'=>Off (fun c=>c=q5) v1 w') (by kernel_rfl) ((Off.refl _ v1).drew) (fun hS=>?_)
       have BX:=HBX.out.drew
       have MK:=HMK.out.free ((Off.refl _ v1).drew)
       have hv1:v1.heap.size≤v1.drew.heap.size:=Nat.le_refl _
       generalize hdr:v1.drew=va at BX MK hS hv1 ⊢
       clear hdr
       refine take_q 0 84 (.pointer (some ⟨q5,8,none⟩)) hS ?_
       simp only [Act.put,lsA,lsZ,lsS]
       refine take_r 2 86 (.agg #[.int .i64 x.node,.int .i64 x.num,.slice x.ad x.data.length x.cap,.bool x.dead]) rfl (Or.inl ⟨by rfl,fun w' hw'=>by obtain ⟨x0,x1,x2,x3⟩:=cel4 (HCX.out.off hw' (fun h=>HQX.out h)); go_simp⟩) hS ?_
       simp only [Act.put,lsA,lsZ,lsS]
       refine wpAnyH_ready (rs:=[1,3]) (by kernel_rfl) (by simp) ?_
       refine AllReadyH.cons rfl (fun K' hK'=>?_) (AllReadyH.cons rfl (fun K' hK'=>?_) AllReadyH.nil)
       ·obtain ⟨x0,x1,x2,x3,x4,x5,x6,x7,x8⟩:=cel9 BX
        go_simp
        refine hK'.out _ _ hS (fun hS=>?_)
        clear hK' K' x0 x1 x2 x3 x4 x5 x6 x7 x8
        refine wpAnyH_ready (rs:=[3]) (by kernel_rfl) (by simp) ?_
        refine AllReadyH.cons rfl (fun K' hK'=>?_) AllReadyH.nil
        go_simp
        refine (copied_any x _ (HVX.out _ hS)).mono ?_
        rintro e vb ⟨u,rfl,hu,uo,uk,un,o1⟩
        have hS1:=hS.trans (o1.mono (fun _ _ h=>h.elim)) (fun _ _ h=>h)
        refine hK'.out _ _ hS1 (fun hS=>?_)
        clear hK' K' hS1
        replace BX:=BX.off o1 (fun h=>h)
        replace MK:=MK.free o1
        have UK:VOk vb u∧∀ k,blk u.ad=some k→va.heap.size≤k∧k < vb.heap.size:=⟨uk,fun k hk=>⟨un k hk,uo.lt k hk⟩⟩
        have HU:Hid (u.abs=x.abs):=hu
        have szo:=o1.size
        clear uo uk un hu o1
        refine wpAnyH_ready (rs:=[4]) (by kernel_rfl) (by simp) ?_
        refine AllReadyH.cons rfl (fun K' hK'=>?_) AllReadyH.nil
        go_simp
        refine (insert_any ao co lo u _ MK.row MK.own.zero UK.1 (by omega)).mono ?_
        rintro e v7 ⟨kk,a7,c7,rfl,hk,hk1,hk2,own7,at7,o7⟩
        have hS1:=hS.trans (o7.mono (fun _ _ h=>h.elim)) (fun _ _ h=>h)
        refine hK'.out _ _ hS1 (fun hS=>?_)
        clear hK' K' hS1
        refine take_q 5 89 (.pointer (some ⟨q5,8,none⟩)) hS ?_
        simp only [Act.put,lsA,lsZ,lsS]
        have MK7:=MK.ins (u:=u) (m:=kk) (by have:=HSW.out; have:=szo; omega) UK.1 (fun c hc=>⟨by have:=(UK.2 c hc).1; have:=HSW.out; omega,(UK.2 c hc).2⟩) own7 o7 at7
        have BX7:=BX.off o7 (fun h=>h)
        obtain ⟨hc7,hc8,hc9⟩:=ins_cont hk1 hk2
        have HST7:Hid (St2 f g (cont l) (cont k) (i + 1) ((cont lo).take kk ++ u.abs :: (cont lo).drop kk)):=by
         have hu:=HU.out
         rw [hu] at hc8 hc9 ⊢
         exact st2_ins HST.out HSK.out (cont_get HX.out) HNO.out (by simp only [nc,V.abs,hcv]; rfl) hc8 hc9
        have hlen7:(lo.take kk ++ u :: lo.drop kk).length=lo.length + 1:=by simp; omega
        rw [← hc7] at HST7
        generalize hz7:lo.take kk ++ u :: lo.drop kk=l7 at MK7 HST7 hlen7 ⊢
        obtain ⟨x0,x1,x2,x3,x4,x5,x6,x7,x8⟩:=cel9 BX7
        have fz:=BX7.free
        have HLEN:Hid _:=hlen7
        clear hlen7
        refine wpAnyH_ready (rs:=[6]) (by kernel_rfl) (by simp) ?_
        refine AllReadyH.cons rfl (fun K' hK'=>?_) AllReadyH.nil
        go_simp
        have hS3:=hS.setCell (p:=⟨q5,8,none⟩) (.inl rfl) (.slice a7 l7.length c7)
        refine hK'.out _ _ hS3 (fun hS=>?_)
        clear hK' K' hS3
        refine wpAnyH_done (by kernel_rfl) ?_ _
        clear x0 x1 x2 x3 x4 x5 x6 x7 x8 fz
        have BX8:=BX7.set 8 (.slice a7 l7.length c7)
        simp only [lsA,lsZ,lsS] at BX8
        have MK8:=MK7.off ((Off.refl (fun c=>c=q5) v7).setCell (p:=⟨q5,8,none⟩) (.inl rfl) (.slice a7 l7.length c7)) (fun k h1 _ h2=>by have:=HL5.out; omega)
        have OF:=HPO.out.trans hS (fun k _ h=>h)
        generalize hv9:v7.setCell ⟨q5,8,none⟩ (.slice a7 l7.length c7)=v9 at BX8 MK8 OF ⊢
        have HB8:Hid _:=BX8
        have HM8:Hid _:=MK8
        have HOF:Hid _:=OF
        clear BX7 BX8 MK7 MK8 OF hS hv9 own7 at7 o7 hk hk1 hk2 hz7 MK BX UK szo hc7 hc8 hc9
        go_wp2_with fail
        go_roundw
        case rel=>exact ⟨i + 1,l7,a7,c7,by go_num,by omega,HB8.out,HM8.out,by have:=HLEN.out; omega,HST7.out,HOF.out⟩
        case measure=>simp [intOf]; omega
       ·go_simp
        refine (copied_any x _ (HVX.out _ hS)).mono ?_
        rintro e vb ⟨u,rfl,hu,uo,uk,un,o1⟩
        have hS1:=hS.trans (o1.mono (fun _ _ h=>h.elim)) (fun _ _ h=>h)
        refine hK'.out _ _ hS1 (fun hS=>?_)
        clear hK' K' hS1
        replace BX:=BX.off o1 (fun h=>h)
        replace MK:=MK.free o1
        have UK:VOk vb u∧∀ k,blk u.ad=some k→va.heap.size≤k∧k < vb.heap.size:=⟨uk,fun k hk=>⟨un k hk,uo.lt k hk⟩⟩
        have HU:Hid (u.abs=x.abs):=hu
        have szo:=o1.size
        clear uo uk un hu o1
        refine wpAnyH_ready (rs:=[1]) (by kernel_rfl) (by simp) ?_
        refine AllReadyH.cons rfl (fun K' hK'=>?_) AllReadyH.nil
        obtain ⟨x0,x1,x2,x3,x4,x5,x6,x7,x8⟩:=cel9 BX
        go_simp
        refine hK'.out _ _ hS (fun hS=>?_)
        clear hK' K' x0 x1 x2 x3 x4 x5 x6 x7 x8
        refine wpAnyH_ready (rs:=[4]) (by kernel_rfl) (by simp) ?_
        refine AllReadyH.cons rfl (fun K' hK'=>?_) AllReadyH.nil
        go_simp
        refine (insert_any ao co lo u _ MK.row MK.own.zero UK.1 (by omega)).mono ?_
        rintro e v7 ⟨kk,a7,c7,rfl,hk,hk1,hk2,own7,at7,o7⟩
        have hS1:=hS.trans (o7.mono (fun _ _ h=>h.elim)) (fun _ _ h=>h)
        refine hK'.out _ _ hS1 (fun hS=>?_)
        clear hK' K' hS1
        refine take_q 5 89 (.pointer (some ⟨q5,8,none⟩)) hS ?_
        simp only [Act.put,lsA,lsZ,lsS]
        have MK7:=MK.ins (u:=u) (m:=kk) (by have:=HSW.out; have:=szo; omega) UK.1 (fun c hc=>⟨by have:=(UK.2 c hc).1; have:=HSW.out; omega,(UK.2 c hc).2⟩) own7 o7 at7
        have BX7:=BX.off o7 (fun h=>h)
        obtain ⟨hc7,hc8,hc9⟩:=ins_cont hk1 hk2
        have HST7:Hid (St2 f g (cont l) (cont k) (i + 1) ((cont lo).take kk ++ u.abs :: (cont lo).drop kk)):=by
         have hu:=HU.out
         rw [hu] at hc8 hc9 ⊢
         exact st2_ins HST.out HSK.out (cont_get HX.out) HNO.out (by simp only [nc,V.abs,hcv]; rfl) hc8 hc9
        have hlen7:(lo.take kk ++ u :: lo.drop kk).length=lo.length + 1:=by simp; omega
        rw [← hc7] at HST7
        generalize hz7:lo.take kk ++ u :: lo.drop kk=l7 at MK7 HST7 hlen7 ⊢
        obtain ⟨x0,x1,x2,x3,x4,x5,x6,x7,x8⟩:=cel9 BX7
        have fz:=BX7.free
        have HLEN:Hid _:=hlen7
        clear hlen7
        refine wpAnyH_ready (rs:=[6]) (by kernel_rfl) (by simp) ?_
        refine AllReadyH.cons rfl (fun K' hK'=>?_) AllReadyH.nil
        go_simp
        have hS3:=hS.setCell (p:=⟨q5,8,none⟩) (.inl rfl) (.slice a7 l7.length c7)
        refine hK'.out _ _ hS3 (fun hS=>?_)
        clear hK' K' hS3
        refine wpAnyH_done (by kernel_rfl) ?_ _
        clear x0 x1 x2 x3 x4 x5 x6 x7 x8 fz
        have BX8:=BX7.set 8 (.slice a7 l7.length c7)
        simp only [lsA,lsZ,lsS] at BX8
        have MK8:=MK7.off ((Off.refl (fun c=>c=q5) v7).setCell (p:=⟨q5,8,none⟩) (.inl rfl) (.slice a7 l7.length c7)) (fun k h1 _ h2=>by have:=HL5.out; omega)
        have OF:=HPO.out.trans hS (fun k _ h=>h)
        generalize hv9:v7.setCell ⟨q5,8,none⟩ (.slice a7 l7.length c7)=v9 at BX8 MK8 OF ⊢
        have HB8:Hid _:=BX8
        have HM8:Hid _:=MK8
        have HOF:Hid _:=OF
        clear BX7 BX8 MK7 MK8 OF hS hv9 own7 at7 o7 hk hk1 hk2 hz7 MK BX UK szo hc7 hc8 hc9
        go_wp2_with fail
        go_roundw
        case rel=>exact ⟨i + 1,l7,a7,c7,by go_num,by omega,HB8.out,HM8.out,by have:=HLEN.out; omega,HST7.out,HOF.out⟩
        case measure=>simp [intOf]; omega
      ·go_wp2_with fail
       clear x0 x1 x2 x3 x4 x5 x6 x7 x8 e0 e1 e2 e3
       refine (fcovers_any f x.node x.num _).mono ?_
       rw [hcv]
       rintro e v1 ⟨rfl,o1⟩
       have HBX:Hid _:=HBX1.out.off o1 (fun h=>h)
       have HMK:Hid _:=HMK1.out.free o1
       have HPO:Hid (Off (fun c=>c=q5) w8 v1):=HPO1.out.trans (o1.mono (fun _ _ h=>h.elim)) (fun _ _ h=>h)
       have HOW:Hid (Off (fun c=>W.heap.size≤c) W v1):=HOW1.out.trans (o1.mono (fun _ _ h=>h.elim)) (fun _ _ h=>h)
       have HCX:Hid _:=HCX1.out.off o1 (fun h=>h)
       have HST7:Hid (St2 f g (cont l) (cont k) (i + 1) (cont lo)):=st2_skip HST.out (cont_get HX.out) (.inr (by simp only [nc,V.abs,hcv]; rfl))
       clear o1 HBX1 HMK1 HPO1 HOW1 HCX1
       go_wp2_with fail
       go_roundw
       case rel=>exact ⟨i + 1,lo,ao,co,by go_num,by omega,HBX.out,HMK.out,by omega,HST7.out,HPO.out⟩
       case measure=>simp [intOf]; omega
     ·have HST7:Hid (St2 f g (cont l) (cont k) (i + 1) (cont lo)):=st2_skip HST.out (cont_get HX.out) (.inl ⟨y.abs,List.mem_of_getElem? (cont_get hy),hyn,hyN⟩)
      have j3:decide ((j:Int) < 0)=false:=decide_eq_false (by omega)
      have HBX:Hid _:=HBX1.out
      have HMK:Hid _:=HMK1.out
      have HPO:Hid (Off (fun c=>c=q5) w8 w9):=HPO1.out
      clear HBX1 HMK1 HPO1 HOW1 HCX1 hy hyn hyN
      go_wp2_with fail
      go_roundw
      case rel=>exact ⟨i + 1,lo,ao,co,by go_num,by omega,HBX.out,HMK.out,by omega,HST7.out,HPO.out⟩
      case measure=>simp [intOf]; omega
    ·have i1:decide ((i:Int) < (k.length:Int))=false:=decide_eq_false (by omega)
     have i2:decide (i < k.length)=false:=decide_eq_false hil
     have HVN:Hid (∀ v ∈ lo,∀ c,blk v.ad=some c→w8.heap.size≤c):=fun v hv c hc=>((HMK.out.val v hv).2 c hc).1
     rw [show i=k.length by omega] at HST
     have HM:Hid (cont lo=mergeA (nc g) (nc f) (cont l) (cont k)):=st2_done HST.out (by rw [cont_len]) HSL.out HSK.out
     obtain ⟨x0,x1,x2,x3,x4,x5,x6,x7,x8⟩:=cel9 HBX.out
     have H2F:Hid _:=H28.out.off HPO.out (fun e=>HN5.out.2.1 e)
     by_cases h16:16 < lo.length
     ·have e1:decide ((16:Int) < (lo.length:Int))=true:=decide_eq_true (by omega)
      have e2:decide (16 < lo.length)=true:=decide_eq_true h16
      obtain ⟨hsl,-⟩:=HMK.out.row.slh (k:=16) (by omega)
      have fq:=HBX.out.free
      have hlt:(lo.take 16).length≤16:=by simp; omega
      have HL7:Hid (cont (lo.take 16)=joinL f g (cont l) (cont k)):=by
       show _=_
       simp only [joinL,m1,m2,and_self,if_true]
       rw [← HM.out]
       simp [cont,List.map_take]
      have HSUB:Hid (∀ v ∈ lo.take 16,v ∈ lo):=fun v hv=>List.mem_of_mem_take hv
      have HR7:Hid (Row wr ao co (lo.take 16)):=(HMK.out.row.slh (k:=16) (by omega)).2
      have hsl:∀ W,(Instr.slice 45 (.slice ao lo.length co) none (some (.int .i64 16)) none).run Tryz.prog W=.ok (.slice ao (lo.take 16).length co) W:=hsl
      generalize hl7:lo.take 16=l7 at hsl HL7 HR7 hlt HSUB
      clear hl7
      go_upto_region 21 with fail
      clear x0 x1 x2 x3 x4 x5 x6 x7 x8 fq hsl
      have BX8:=HBX.out.set 8 (.slice ao l7.length co)
      simp only [lsA,lsZ,lsS] at BX8
      have OS:Off (fun c=>c=q5) wr (wr.setCell ⟨q5,8,none⟩ (.slice ao l7.length co)):=(Off.refl (fun c=>c=q5) wr).setCell (p:=⟨q5,8,none⟩) (.inl rfl) _
      have hrow:Row (wr.setCell ⟨q5,8,none⟩ (.slice ao l7.length co)) ao co l7:=HR7.out.offD OS (fun c _ hc e=>by have:=HMK.out.lo c hc; have:=HL5.out; omega) (fun v hv c _ hc e=>by have:=HVN.out v (HSUB.out v hv) c hc; have:=HL5.out; omega)
      generalize hv9:wr.setCell ⟨q5,8,none⟩ (.slice ao l7.length co)=v9 at BX8 OS hrow ⊢
      clear hv9
      have HR9:Hid _:=hrow
      have D2:=H2F.out.off OS (fun e=>HN5.out.2.1 e)
      have HOF:Hid _:=HPO.out.trans OS (fun _ _ h=>h)
      clear OS hrow
      obtain ⟨x0,x1,x2,x3,x4,x5,x6,x7,x8⟩:=cel9 BX8
      obtain ⟨y0,y1,y2,y3,y4,y5,y6,y7,y8⟩:=cel9 D2
      have fz:=D2.free
      go_wp2_with fail
      have E2:=D2.st9 h (.slice ao l7.length co)
      have OE:=(((HO.out.trans HO6.out (fun _ _ h=>h)).mono (fun _ _ h=>h.elim)).trans HOF.out (fun _ _ h=>h)).mono (E:=fun _=>False) (fun j hj e=>by have:=HQ5.out.1; omega)
      refine bodyPost_ret (results_sibs rfl rfl E2) rfl ?_
      have hx:∀ j,j < 8→h j=joinV f g (cont l) (cont k) j:=by
       intro j hj
       rw [HHE.out j hj]
       simp [joinV,m1,m2]
      have hsz:=(HO.out.trans HO6.out (fun _ _ h=>h)).size
      refine ⟨joinV f g (cont l) (cont k),ao,co,l7,by rw [vec_ext hx],rfl,HL7.out,?_,OE.st9 (b:=q2) (.inr HQ.out) h _,fun c hc=>Nat.le_trans hsz (HMK.out.lo c hc),fun v hv c hc=>Nat.le_trans hsz (HVN.out v (HSUB.out v hv) c hc)⟩
      refine HR9.out.offD ((Off.refl (fun c=>c=q2) v9).st9 (.inl rfl) h _) (fun c _ hc e=>?_) (fun v hv c _ hc e=>?_)
      ·have:=HMK.out.lo c hc
       have:=H28.out.lt
       omega
      ·have:=HVN.out v (HSUB.out v hv) c hc
       have:=H28.out.lt
       omega
     ·have e1:decide ((16:Int) < (lo.length:Int))=false:=decide_eq_false (by omega)
      have e2:decide (16 < lo.length)=false:=decide_eq_false h16
      have HL7:Hid (cont lo=joinL f g (cont l) (cont k)):=by
       show _=_
       simp only [joinL,m1,m2,and_self,if_true]
       rw [← HM.out,List.take_of_length_le (by rw [cont_len]; omega)]
      have HR9:Hid _:=HMK.out.row
      have D2:=H2F.out
      have HOF:Hid _:=HPO.out
      go_upto_region 21 with fail
      clear x0 x1 x2 x3 x4 x5 x6 x7 x8
      have BX8:=HBX.out
      obtain ⟨x0,x1,x2,x3,x4,x5,x6,x7,x8⟩:=cel9 BX8
      obtain ⟨y0,y1,y2,y3,y4,y5,y6,y7,y8⟩:=cel9 D2
      have fz:=D2.free
      go_wp2_with fail
      have E2:=D2.st9 h (.slice ao lo.length co)
      have OE:=(((HO.out.trans HO6.out (fun _ _ h=>h)).mono (fun _ _ h=>h.elim)).trans HOF.out (fun _ _ h=>h)).mono (E:=fun _=>False) (fun j hj e=>by have:=HQ5.out.1; omega)
      refine bodyPost_ret (results_sibs rfl rfl E2) rfl ?_
      have hx:∀ j,j < 8→h j=joinV f g (cont l) (cont k) j:=by
       intro j hj
       rw [HHE.out j hj]
       simp [joinV,m1,m2]
      have hsz:=(HO.out.trans HO6.out (fun _ _ h=>h)).size
      refine ⟨joinV f g (cont l) (cont k),ao,co,lo,by rw [vec_ext hx],rfl,HL7.out,?_,OE.st9 (b:=q2) (.inr HQ.out) h _,fun c hc=>Nat.le_trans hsz (HMK.out.lo c hc),fun v hv c hc=>Nat.le_trans hsz (HVN.out v hv c hc)⟩
      refine HR9.out.offD ((Off.refl (fun c=>c=q2) wr).st9 (.inl rfl) h _) (fun c _ hc e=>?_) (fun v hv c _ hc e=>?_)
      ·have:=HMK.out.lo c hc
       have:=H28.out.lt
       omega
      ·have:=HVN.out v hv c hc
       have:=H28.out.lt
       omega
theorem gjoin_any (f g:Nat→Int) (a b:Option Addr) (ca cb:Nat) (l k:List V) (w:World) (h1:Row w a ca l) (h2:Row w b cb k) :
  Calls Tryz.prog 84 #[.agg #[.int .i64 (f 0),.int .i64 (f 1),.int .i64 (f 2),.int .i64 (f 3),.int .i64 (f 4),.int .i64 (f 5),.int .i64 (f 6),.int .i64 (f 7),.slice a l.length ca],.agg #[.int .i64 (g 0),.int .i64 (g 1),.int .i64 (g 2),.int .i64 (g 3),.int .i64 (g 4),.int .i64 (g 5),.int .i64 (g 6),.int .i64 (g 7),.slice b k.length cb]] w fun e w'=>∃ (h:Nat→Int) (a':Option Addr) (c':Nat) (l':List V),e=.returned (.agg #[.int .i64 (h 0),.int .i64 (h 1),.int .i64 (h 2),.int .i64 (h 3),.int .i64 (h 4),.int .i64 (h 5),.int .i64 (h 6),.int .i64 (h 7),.slice a' l'.length c'])∧h=joinV f g (cont l) (cont k)∧cont l'=joinL f g (cont l) (cont k)∧Row w' a' c' l'∧Off (fun _=>False) w w':=by
 refine (gjoinN_any f g a b ca cb l k w h1 h2).mono ?_
 rintro e w' ⟨h,a',c',l',e1,e2,e3,e4,e5,-,-⟩
 exact ⟨h,a',c',l',e1,e2,e3,e4,e5⟩
end Go.Proofs.YthjbnpaghiojlaaGreat
