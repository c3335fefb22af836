/- Items of several texts. -/
import Derived.Test.YthjbnpaghiojlaaGreatKAwk
namespace Go.Proofs.YthjbnpaghiojlaaGreat
def LT (x y:A):Prop:=x.node < y.node∨x.node=y.node∧x.num < y.num
def EQ (x y:A):Prop:=x.node=y.node∧x.num=y.num
theorem less_iff {x y:A}:lessA x y=true↔LT x y:=by simp [lessA,lessB,LT]
theorem LT.trans {x y z:A} (h:LT x y) (k:LT y z):LT x z:=by unfold LT at *; omega
theorem LT.ne {x y:A} (h:LT x y):¬ EQ x y:=by unfold LT EQ at *; omega
theorem LT.ne' {x y:A} (h:LT x y):¬ EQ y x:=by unfold LT EQ at *; omega
theorem EQ.symm {x y:A} (h:EQ x y):EQ y x:=⟨h.1.symm,h.2.symm⟩
theorem EQ.trans {x y z:A} (h:EQ x y) (k:EQ y z):EQ x z:=⟨h.1.trans k.1,h.2.trans k.2⟩
theorem EQ.lt {x y z:A} (h:EQ x y) (k:LT y z):LT x z:=by unfold LT EQ at *; omega
theorem LT.eq {x y z:A} (h:LT x y) (k:EQ y z):LT x z:=by unfold LT EQ at *; omega
theorem tri (x y:A):LT x y∨LT y x∨EQ x y:=by unfold LT EQ; omega
theorem LT.asym {x y:A} (h:LT x y):¬ LT y x:=by unfold LT at *; omega
theorem LT.irr (x:A):¬ LT x x:=by unfold LT; omega
theorem EQ.refl (x:A):EQ x x:=⟨rfl,rfl⟩
def Srt (l:List A):Prop:=l.Pairwise LT
theorem may_srt {f:Nat→Int} {l:List A} (h:MayP f l):Srt l:=by
 have key:∀ k i x y,l[i]?=some x→l[i + k + 1]?=some y→LT x y:=by
  intro k
  induction k with
  | zero=>intro i x y hx hy; exact less_iff.1 (h.less i x y hx hy)
  | succ k ih =>
   intro i x y hx hy
   have hl:i + k + 1 < l.length:=by
    obtain ⟨h,-⟩:=List.getElem?_eq_some_iff.1 hy
    omega
   have hz:=ih i x l[i + k + 1] hx (List.getElem?_eq_getElem hl)
   exact hz.trans (less_iff.1 (h.less (i + k + 1) _ y (List.getElem?_eq_getElem hl) hy))
 unfold Srt
 rw [List.pairwise_iff_getElem]
 intro i j hi hj hij
 refine key (j - i - 1) i _ _ (List.getElem?_eq_getElem hi) ?_
 rw [show i + (j - i - 1) + 1=j by omega]
 exact List.getElem?_eq_getElem hj
theorem srt_adj {l:List A} (h:Srt l):∀ i x y,l[i]?=some x→l[i + 1]?=some y→lessB x.node x.num y.node y.num=true:=by
 intro i x y hx hy
 obtain ⟨h1,rfl⟩:=List.getElem?_eq_some_iff.1 hx
 obtain ⟨h2,rfl⟩:=List.getElem?_eq_some_iff.1 hy
 exact less_iff.2 ((List.pairwise_iff_getElem.1 h) i (i + 1) h1 h2 (by omega))
theorem srt_ext:∀ {l k:List A},Srt l→Srt k→(∀ z,z ∈ l↔z ∈ k)→l=k
 | [],[],_,_,_=>rfl
 | [],y :: k,_,_,h=>by have:=(h y).2 (by simp); simp at this
 | x :: l,[],_,_,h=>by have:=(h x).1 (by simp); simp at this
 | x :: l,y :: k,hl,hk,h=>by
  unfold Srt at hl hk
  rw [List.pairwise_cons] at hl hk
  have hxy:x=y:=by
   have h1:=(h x).1 (by simp)
   have h2:=(h y).2 (by simp)
   simp only [List.mem_cons] at h1 h2
   rcases h1 with h1 | h1
   ·exact h1
   ·rcases h2 with h2 | h2
    ·exact h2.symm
    ·exact ((hl.1 y h2).asym (hk.1 x h1)).elim
  subst hxy
  rw [srt_ext hl.2 hk.2 (fun z=>?_)]
  have hz:=h z
  simp only [List.mem_cons] at hz
  constructor
  ·intro h1
   rcases hz.1 (.inr h1) with rfl | h2
   ·exact ((hl.1 z h1).asym (hl.1 z h1)).elim
   ·exact h2
  ·intro h1
   rcases hz.2 (.inr h1) with rfl | h2
   ·exact ((hk.1 z h1).asym (hk.1 z h1)).elim
   ·exact h2
theorem srt_dot {l:List A} (h:Srt l) {x y:A} (hx:x ∈ l) (hy:y ∈ l) (e:EQ x y):x=y:=by
 obtain ⟨i,hi,rfl⟩:=List.getElem_of_mem hx
 obtain ⟨j,hj,rfl⟩:=List.getElem_of_mem hy
 rcases Nat.lt_trichotomy i j with h1 | rfl | h1
 ·exact ((List.pairwise_iff_getElem.1 h i j hi hj h1).ne e).elim
 ·rfl
 ·exact ((List.pairwise_iff_getElem.1 h j i hj hi h1).ne' e).elim
def InM (p q:A→Bool) (xs ys:List A) (z:A):Prop :=
 (∃ x ∈ xs,∃ y ∈ ys,EQ x y∧z=firstA x y)∨(z ∈ xs∧p z=true∧∀ y ∈ ys,¬ EQ z y)∨(z ∈ ys∧q z=true∧∀ x ∈ xs,¬ EQ x z)
theorem first_dot {x y:A} (h:EQ x y):EQ (firstA x y) x:=by
 unfold firstA
 split
 ·exact EQ.refl x
 ·exact h.symm
theorem mem_keep {b:Bool} {x z:A}:z ∈ keep b x↔z=x∧b=true:=by
 unfold keep
 cases b <;> simp
theorem not_less {x y:A}:lessA x y=false↔¬ LT x y:=by rw [← less_iff]; simp
theorem mem_merge (p q:A→Bool) (xs ys:List A) (hx:Srt xs) (hy:Srt ys) (z:A):z ∈ mergeA p q xs ys↔InM p q xs ys z:=by
 induction xs,ys using mergeA_ind with
 | case1 ys =>
  rw [mergeA_nil _ _ _ _ (.inl rfl)]
  simp [InM]
 | case2 x xs =>
  rw [mergeA_nil _ _ _ _ (.inr rfl)]
  simp [InM]
 | case3 x xs y ys h ih =>
  rw [mergeA_lt _ _ _ _ h,List.mem_append,mem_keep]
  unfold Srt at hx hy
  rw [List.pairwise_cons] at hx
  have hlt:=less_iff.1 h
  have hlt':∀ y' ∈ y :: ys,LT x y':=fun y' hy'=>by
   rcases List.mem_cons.1 hy' with rfl | h2
   ·exact hlt
   ·exact hlt.trans ((List.pairwise_cons.1 hy).1 y' h2)
  rw [ih hx.2 hy]
  unfold InM
  constructor
  ·rintro (⟨rfl,hp⟩ | ⟨x',h1,y',h2,h3,h4⟩ | ⟨h1,h2,h3⟩ | ⟨h1,h2,h3⟩)
   ·exact .inr (.inl ⟨by simp,hp,fun y' hy'=>(hlt' y' hy').ne⟩)
   ·exact .inl ⟨x',by simp [h1],y',h2,h3,h4⟩
   ·exact .inr (.inl ⟨by simp [h1],h2,h3⟩)
   ·refine .inr (.inr ⟨h1,h2,fun x' hx'=>?_⟩)
    rcases List.mem_cons.1 hx' with rfl | hx'
    ·exact (hlt' z h1).ne
    ·exact h3 x' hx'
  ·rintro (⟨x',h1,y',h2,h3,h4⟩ | ⟨h1,h2,h3⟩ | ⟨h1,h2,h3⟩)
   ·rcases List.mem_cons.1 h1 with rfl | h1
    ·exact ((hlt' y' h2).ne h3).elim
    ·exact .inr (.inl ⟨x',h1,y',h2,h3,h4⟩)
   ·rcases List.mem_cons.1 h1 with rfl | h1
    ·exact .inl ⟨rfl,h2⟩
    ·exact .inr (.inr (.inl ⟨h1,h2,h3⟩))
   ·exact .inr (.inr (.inr ⟨h1,h2,fun x' hx'=>h3 x' (by simp [hx'])⟩))
 | case4 x xs y ys h h' ih =>
  have h0:lessA x y=false:=by simpa using h
  rw [mergeA_gt _ _ _ _ h0 h',List.mem_append,mem_keep]
  unfold Srt at hx hy
  rw [List.pairwise_cons] at hy
  have hlt:=less_iff.1 h'
  have hlt':∀ x' ∈ x :: xs,LT y x':=fun x' hx'=>by
   rcases List.mem_cons.1 hx' with rfl | h2
   ·exact hlt
   ·exact hlt.trans ((List.pairwise_cons.1 hx).1 x' h2)
  rw [ih hx hy.2]
  unfold InM
  constructor
  ·rintro (⟨rfl,hp⟩ | ⟨x',h1,y',h2,h3,h4⟩ | ⟨h1,h2,h3⟩ | ⟨h1,h2,h3⟩)
   ·exact .inr (.inr ⟨by simp,hp,fun x' hx'=>(hlt' x' hx').ne'⟩)
   ·exact .inl ⟨x',h1,y',by simp [h2],h3,h4⟩
   ·refine .inr (.inl ⟨h1,h2,fun y' hy'=>?_⟩)
    rcases List.mem_cons.1 hy' with rfl | hy'
    ·exact (hlt' z h1).ne'
    ·exact h3 y' hy'
   ·exact .inr (.inr ⟨by simp [h1],h2,h3⟩)
  ·rintro (⟨x',h1,y',h2,h3,h4⟩ | ⟨h1,h2,h3⟩ | ⟨h1,h2,h3⟩)
   ·rcases List.mem_cons.1 h2 with rfl | h2
    ·exact ((hlt' x' h1).ne' h3).elim
    ·exact .inr (.inl ⟨x',h1,y',h2,h3,h4⟩)
   ·exact .inr (.inr (.inl ⟨h1,h2,fun y' hy'=>h3 y' (by simp [hy'])⟩))
   ·rcases List.mem_cons.1 h1 with rfl | h1
    ·exact .inl ⟨rfl,h2⟩
    ·exact .inr (.inr (.inr ⟨h1,h2,h3⟩))
 | case5 x xs y ys h h' ih =>
  have h0:lessA x y=false:=by simpa using h
  have h1':lessA y x=false:=by simpa using h'
  rw [mergeA_eq _ _ _ _ h0 h1',List.mem_cons]
  unfold Srt at hx hy
  rw [List.pairwise_cons] at hx hy
  have he:EQ x y:=by
   rcases tri x y with h2 | h2 | h2
   ·exact (not_less.1 h0 h2).elim
   ·exact (not_less.1 h1' h2).elim
   ·exact h2
  rw [ih hx.2 hy.2]
  unfold InM
  constructor
  ·rintro (rfl | ⟨x',h1,y',h2,h3,h4⟩ | ⟨h1,h2,h3⟩ | ⟨h1,h2,h3⟩)
   ·exact .inl ⟨x,by simp,y,by simp,he,rfl⟩
   ·exact .inl ⟨x',by simp [h1],y',by simp [h2],h3,h4⟩
   ·refine .inr (.inl ⟨by simp [h1],h2,fun y' hy'=>?_⟩)
    rcases List.mem_cons.1 hy' with rfl | hy'
    ·exact fun e=>(hx.1 z h1).ne (he.trans e.symm)
    ·exact h3 y' hy'
   ·refine .inr (.inr ⟨by simp [h1],h2,fun x' hx'=>?_⟩)
    rcases List.mem_cons.1 hx' with rfl | hx'
    ·exact fun e=>(hy.1 z h1).ne (he.symm.trans e)
    ·exact h3 x' hx'
  ·rintro (⟨x',h1,y',h2,h3,h4⟩ | ⟨h1,h2,h3⟩ | ⟨h1,h2,h3⟩)
   ·rcases List.mem_cons.1 h1 with rfl | h1 <;> rcases List.mem_cons.1 h2 with rfl | h2
    ·exact .inl h4
    ·exact ((hy.1 y' h2).ne (he.symm.trans h3)).elim
    ·exact ((hx.1 x' h1).ne (he.trans h3.symm)).elim
    ·exact .inr (.inl ⟨x',h1,y',h2,h3,h4⟩)
   ·rcases List.mem_cons.1 h1 with rfl | h1
    ·exact (h3 y (by simp) he).elim
    ·exact .inr (.inr (.inl ⟨h1,h2,fun y' hy'=>h3 y' (by simp [hy'])⟩))
   ·rcases List.mem_cons.1 h1 with rfl | h1
    ·exact (h3 x (by simp) he).elim
    ·exact .inr (.inr (.inr ⟨h1,h2,fun x' hx'=>h3 x' (by simp [hx'])⟩))
theorem inM_dot {p q:A→Bool} {xs ys:List A} {z:A} (h:InM p q xs ys z):(∃ x ∈ xs,EQ z x)∨∃ y ∈ ys,EQ z y:=by
 rcases h with ⟨x,hx,y,hy,e,rfl⟩ | ⟨h,-,-⟩ | ⟨h,-,-⟩
 ·exact .inl ⟨x,hx,first_dot e⟩
 ·exact .inl ⟨z,h,EQ.refl z⟩
 ·exact .inr ⟨z,h,EQ.refl z⟩
theorem srt_merge (p q:A→Bool) (xs ys:List A) (hx:Srt xs) (hy:Srt ys):Srt (mergeA p q xs ys):=by
 induction xs,ys using mergeA_ind with
 | case1 ys =>
  rw [mergeA_nil _ _ _ _ (.inl rfl)]
  simp only [List.filter_nil,List.nil_append]
  exact List.Pairwise.filter q hy
 | case2 x xs =>
  rw [mergeA_nil _ _ _ _ (.inr rfl)]
  simp only [List.filter_nil,List.append_nil]
  exact List.Pairwise.filter p hx
 | case3 x xs y ys h ih =>
  have hx2:=List.pairwise_cons.1 hx
  have hlt:=less_iff.1 h
  rw [mergeA_lt _ _ _ _ h]
  unfold Srt
  rw [List.pairwise_append]
  refine ⟨by unfold keep; split <;> simp,ih hx2.2 hy,fun a ha b hb=>?_⟩
  obtain ⟨rfl,-⟩:=mem_keep.1 ha
  rcases inM_dot ((mem_merge p q _ _ hx2.2 hy b).1 hb) with ⟨x',h1,h2⟩ | ⟨y',h1,h2⟩
  ·exact (hx2.1 x' h1).eq h2.symm
  ·rcases List.mem_cons.1 h1 with rfl | h1
   ·exact hlt.eq h2.symm
   ·exact (hlt.trans ((List.pairwise_cons.1 hy).1 y' h1)).eq h2.symm
 | case4 x xs y ys h h' ih =>
  have hy2:=List.pairwise_cons.1 hy
  have h0:lessA x y=false:=by simpa using h
  have hlt:=less_iff.1 h'
  rw [mergeA_gt _ _ _ _ h0 h']
  unfold Srt
  rw [List.pairwise_append]
  refine ⟨by unfold keep; split <;> simp,ih hx hy2.2,fun a ha b hb=>?_⟩
  obtain ⟨rfl,-⟩:=mem_keep.1 ha
  rcases inM_dot ((mem_merge p q _ _ hx hy2.2 b).1 hb) with ⟨x',h1,h2⟩ | ⟨y',h1,h2⟩
  ·rcases List.mem_cons.1 h1 with rfl | h1
   ·exact hlt.eq h2.symm
   ·exact (hlt.trans ((List.pairwise_cons.1 hx).1 x' h1)).eq h2.symm
  ·exact (hy2.1 y' h1).eq h2.symm
 | case5 x xs y ys h h' ih =>
  have h0:lessA x y=false:=by simpa using h
  have h1':lessA y x=false:=by simpa using h'
  have hx2:=List.pairwise_cons.1 hx
  have hy2:=List.pairwise_cons.1 hy
  have he:EQ x y:=by
   rcases tri x y with h2 | h2 | h2
   ·exact (not_less.1 h0 h2).elim
   ·exact (not_less.1 h1' h2).elim
   ·exact h2
  rw [mergeA_eq _ _ _ _ h0 h1']
  unfold Srt
  rw [List.pairwise_cons]
  refine ⟨fun b hb=>?_,ih hx2.2 hy2.2⟩
  have hf:=first_dot he
  rcases inM_dot ((mem_merge p q _ _ hx2.2 hy2.2 b).1 hb) with ⟨x',h1,h2⟩ | ⟨y',h1,h2⟩
  ·exact hf.lt ((hx2.1 x' h1).eq h2.symm)
  ·exact (hf.trans he).lt ((hy2.1 y' h1).eq h2.symm)
end Go.Proofs.YthjbnpaghiojlaaGreat

namespace Go.Proofs.YthjbnpaghiojlaaGreat
theorem cov_iff {f:Nat→Int} {n N:Int}:coversB f n N=true↔0≤n∧n < 8∧1≤N∧N≤f n.toNat:=by simp [coversB]
theorem nc_iff {f:Nat→Int} {x:A}:nc f x=true↔¬ (coversB f x.node x.num=true):=by simp [nc]
theorem cov_mono {f g:Nat→Int} (h:∀ j,j < 8→f j≤g j) {n N:Int} (hc:coversB f n N=true):coversB g n N=true:=by
 rw [cov_iff] at *
 have:=h n.toNat (by omega)
 omega
theorem cov_max {f g:Nat→Int} {n N:Int}:coversB (maxV f g) n N=true↔coversB f n N=true∨coversB g n N=true:=by
 simp only [cov_iff,maxV]
 omega
theorem cov_dot {f:Nat→Int} {x y:A} (h:EQ x y) (hc:coversB f x.node x.num=true):coversB f y.node y.num=true:=by rw [← h.1,← h.2]; exact hc
theorem srt_take {l:List A} (h:Srt l) (n:Nat):Srt (l.take n):=List.Pairwise.sublist (List.take_sublist n l) h
theorem first_or (x y:A):firstA x y=x∨firstA x y=y:=by unfold firstA; split <;> simp
theorem inM_mem {p q:A→Bool} {xs ys:List A} {z:A} (h:InM p q xs ys z):z ∈ xs∨z ∈ ys:=by
 rcases h with ⟨x,hx,y,hy,-,rfl⟩ | ⟨h,-⟩ | ⟨h,-⟩
 ·rcases first_or x y with e | e
  ·exact .inl (by rw [e]; exact hx)
  ·exact .inr (by rw [e]; exact hy)
 ·exact .inl h
 ·exact .inr h
theorem may_join {f g:Nat→Int} {l k:List A} (h1:MayP f l) (h2:MayP g k) (p q:A→Bool):MayP (maxV f g) ((mergeA p q l k).take 16):=by
 refine ⟨fun j hj=>?_,by simp; omega,srt_adj (srt_take (srt_merge _ _ _ _ (may_srt h1) (may_srt h2)) 16),fun x hx=>?_⟩
 ·have:=h1.seen j hj
  have:=h2.seen j hj
  simp only [maxV]
  omega
 ·rcases inM_mem ((mem_merge _ _ _ _ (may_srt h1) (may_srt h2) x).1 (List.mem_of_mem_take hx)) with h | h
  ·exact ⟨cov_max.2 (.inl (h1.cov x h).1),(h1.cov x h).2⟩
  ·exact ⟨cov_max.2 (.inr (h2.cov x h).1),(h2.cov x h).2⟩
theorem with_apply {f:Nat→Int} {n N:Int} (hn:nodeB n=true) (j:Nat):withV f n N j=if j=n.toNat then max (f n.toNat) N else f j:=by simp [withV,hn,upd]
theorem next_ok {f:Nat→Int} {node n N:Int} (h:nextV f node=(n,N,0)):nodeB n=true∧n=node∧N=f n.toNat + 1∧f n.toNat < 1099511627776:=by
 unfold nextV at h
 split at h
 ·simp at h
 ·rename_i hb
  split at h
  ·simp at h
  ·rename_i hc
   simp only [Prod.mk.injEq,and_true] at h
   obtain ⟨rfl,rfl⟩:=h
   exact ⟨by simpa using hb,rfl,rfl,by omega⟩
theorem cov_with {f:Nat→Int} {n N:Int} (hn:nodeB n=true) (hN:1≤N):coversB (withV f n N) n N=true:=by
 have:0≤n∧n < 8:=by simpa [nodeB] using hn
 rw [cov_iff,with_apply hn]
 simp
 omega
theorem with_le {f:Nat→Int} {n N:Int}:∀ j,j < 8→f j≤withV f n N j:=by
 intro j _
 by_cases hn:nodeB n=true
 ·rw [with_apply hn]
  split
  ·rename_i e
   rw [← e]
   omega
  ·omega
 ·simp [withV,hn]
theorem not_cov_next {f:Nat→Int} {node n N:Int} (h:nextV f node=(n,N,0)):coversB f n N=false:=by
 obtain ⟨-,-,h3,-⟩:=next_ok h
 simp only [coversB,decide_eq_false_iff_not]
 omega
theorem may_put {f g:Nat→Int} {l:List A} (h1:MayP f l) (h2:∀ j,j < 8→0≤g j∧g j≤1099511627776) {node n N:Int} (hx:nextV (maxV f g) node=(n,N,0)) {data:List Nat} {dead:Bool} (hd:okData data.length dead=true) (p q:A→Bool) (hl:(mergeA p q l [⟨n,N,data,dead⟩]).length≤16):MayP (withV (maxV f g) n N) (mergeA p q l [⟨n,N,data,dead⟩]):=by
 obtain ⟨h3,-,h4,h5⟩:=next_ok hx
 have hs:Srt [(⟨n,N,data,dead⟩:A)]:=by simp [Srt]
 have h0:0≤maxV f g n.toNat:=by
  have:=h1.seen n.toNat (by simp [nodeB] at h3; omega)
  simp only [maxV]
  omega
 refine ⟨fun j hj=>?_,hl,srt_adj (srt_merge _ _ _ _ (may_srt h1) hs),fun x hx=>?_⟩
 ·rw [with_apply h3]
  have a1:=h1.seen j hj
  have a2:=h2 j hj
  simp only [maxV] at *
  split <;> omega
 ·rcases inM_mem ((mem_merge _ _ _ _ (may_srt h1) hs x).1 hx) with h | h
  ·exact ⟨cov_mono with_le (cov_max.2 (.inl (h1.cov x h).1)),(h1.cov x h).2⟩
  ·simp only [List.mem_singleton] at h
   subst h
   exact ⟨cov_with h3 (by omega),hd⟩
end Go.Proofs.YthjbnpaghiojlaaGreat
