/- Items of several texts. -/
import Derived.Test.YthjbnpaghiojlaaGreatKLessP
namespace Go.Proofs.YthjbnpaghiojlaaGreat
abbrev St:=Option (Option A)
def joinSt:St→St→St
 | none,s=>s
 | some none,_=>some none
 | some (some x),none=>some (some x)
 | some (some x),some (some y)=>some (some (firstA x y))
 | some (some _),some none=>some none
def hit (d:Int × Int) (x:A):Bool:=decide (x.node=d.1∧x.num=d.2)
def st (f:Nat→Int) (l:List A) (d:Int × Int):St :=
 match l.find? (hit d) with
 | some x=>some (some x)
 | none=>if coversB f d.1 d.2 then some none else none
theorem hit_iff {d:Int × Int} {x:A}:hit d x=true↔x.node=d.1∧x.num=d.2:=by simp [hit]
theorem find_some {l:List A} (h:Srt l) {d:Int × Int} {x:A}:l.find? (hit d)=some x↔x ∈ l∧hit d x=true:=by
 constructor
 ·intro e
  exact ⟨List.mem_of_find?_eq_some e,List.find?_some e⟩
 ·rintro ⟨hx,hd⟩
  cases e:l.find? (hit d) with
  | none=>exact absurd hd (by simpa using List.find?_eq_none.1 e x hx)
  | some y =>
   have hy:=List.mem_of_find?_eq_some e
   have hyd:=List.find?_some e
   rw [hit_iff] at hd hyd
   rw [srt_dot h hy hx ⟨hyd.1.trans hd.1.symm,hyd.2.trans hd.2.symm⟩]
theorem find_none {l:List A} {d:Int × Int}:l.find? (hit d)=none↔∀ x ∈ l,¬ (x.node=d.1∧x.num=d.2):=by
 rw [List.find?_eq_none]
 simp only [hit_iff]
theorem st_val {f:Nat→Int} {l:List A} (h:Srt l) {d:Int × Int} {x:A}:st f l d=some (some x)↔x ∈ l∧x.node=d.1∧x.num=d.2:=by
 rw [← hit_iff,← find_some h]
 unfold st
 cases l.find? (hit d) with
 | none=>cases hc:coversB f d.1 d.2 <;> simp
 | some y=>simp
theorem st_ext {f g:Nat→Int} {l k:List A} (h1:Srt l) (h2:Srt k) (h:∀ d,st f l d=st g k d):l=k:=by
 refine srt_ext h1 h2 (fun z=>?_)
 have e:=h (z.node,z.num)
 constructor
 ·intro hz
  have:=(st_val (f:=f) h1 (d:=(z.node,z.num))).2 ⟨hz,rfl,rfl⟩
  rw [e] at this
  exact ((st_val h2).1 this).1
 ·intro hz
  have:=(st_val (f:=g) h2 (d:=(z.node,z.num))).2 ⟨hz,rfl,rfl⟩
  rw [← e] at this
  exact ((st_val h1).1 this).1
theorem st_join {f g:Nat→Int} {l k:List A} (h1:MayP f l) (h2:MayP g k) (d:Int × Int):st (maxV f g) (mergeA (nc g) (nc f) l k) d=joinSt (st f l d) (st g k d):=by
 have s1:=may_srt h1
 have s2:=may_srt h2
 have s3:=srt_merge (nc g) (nc f) l k s1 s2
 have mm:=mem_merge (nc g) (nc f) l k s1 s2
 cases e1:l.find? (hit d) with
 | some x =>
  obtain ⟨hx,hxd⟩:=(find_some s1).1 e1
  rw [hit_iff] at hxd
  have st1:st f l d=some (some x):=by unfold st; rw [e1]
  cases e2:k.find? (hit d) with
  | some y =>
   obtain ⟨hy,hyd⟩:=(find_some s2).1 e2
   rw [hit_iff] at hyd
   have st2:st g k d=some (some y):=by unfold st; rw [e2]
   have he:EQ x y:=⟨hxd.1.trans hyd.1.symm,hxd.2.trans hyd.2.symm⟩
   have hf:=first_dot he
   rw [st1,st2]
   exact (st_val s3).2 ⟨(mm _).2 (.inl ⟨x,hx,y,hy,he,rfl⟩),hf.1.trans hxd.1,hf.2.trans hxd.2⟩
  | none =>
   have hn:=find_none.1 e2
   cases hc:coversB g d.1 d.2
   ·have st2:st g k d=none:=by unfold st; rw [e2]; simp [hc]
    rw [st1,st2]
    refine (st_val s3).2 ⟨(mm _).2 (.inr (.inl ⟨hx,?_,fun y hy e=>hn y hy ⟨e.1.symm.trans hxd.1,e.2.symm.trans hxd.2⟩⟩)),hxd⟩
    rw [nc_iff,hxd.1,hxd.2,hc]
    simp
   ·have st2:st g k d=some none:=by unfold st; rw [e2]; simp [hc]
    rw [st1,st2]
    have hz:(mergeA (nc g) (nc f) l k).find? (hit d)=none:=by
     rw [find_none]
     intro z hz hzd
     rcases (mm z).1 hz with ⟨x',hx',y',hy',he,rfl⟩ | ⟨hzl,hp,-⟩ | ⟨hzk,-,-⟩
     ·have hf:=first_dot he
      exact hn y' hy' ⟨he.1.symm.trans (hf.1.symm.trans hzd.1),he.2.symm.trans (hf.2.symm.trans hzd.2)⟩
     ·rw [nc_iff,hzd.1,hzd.2] at hp
      exact hp hc
     ·exact hn z hzk hzd
    have hcm:coversB (maxV f g) d.1 d.2=true:=cov_max.2 (.inr hc)
    unfold st
    rw [hz]
    simp [hcm,joinSt]
 | none =>
  have hn:=find_none.1 e1
  cases e2:k.find? (hit d) with
  | some y =>
   obtain ⟨hy,hyd⟩:=(find_some s2).1 e2
   rw [hit_iff] at hyd
   have st2:st g k d=some (some y):=by unfold st; rw [e2]
   cases hc:coversB f d.1 d.2
   ·have st1:st f l d=none:=by unfold st; rw [e1]; simp [hc]
    rw [st1,st2]
    refine (st_val s3).2 ⟨(mm _).2 (.inr (.inr ⟨hy,?_,fun x hx e=>hn x hx ⟨e.1.trans hyd.1,e.2.trans hyd.2⟩⟩)),hyd⟩
    rw [nc_iff,hyd.1,hyd.2,hc]
    simp
   ·have st1:st f l d=some none:=by unfold st; rw [e1]; simp [hc]
    rw [st1,st2]
    have hz:(mergeA (nc g) (nc f) l k).find? (hit d)=none:=by
     rw [find_none]
     intro z hz hzd
     rcases (mm z).1 hz with ⟨x',hx',y',hy',he,rfl⟩ | ⟨hzl,-,-⟩ | ⟨hzk,hp,-⟩
     ·have hf:=first_dot he
      exact hn x' hx' ⟨hf.1.symm.trans hzd.1,hf.2.symm.trans hzd.2⟩
     ·exact hn z hzl hzd
     ·rw [nc_iff,hzd.1,hzd.2] at hp
      exact hp hc
    have hcm:coversB (maxV f g) d.1 d.2=true:=cov_max.2 (.inl hc)
    unfold st
    rw [hz]
    simp [hcm,joinSt]
  | none =>
   have hn2:=find_none.1 e2
   have hz:(mergeA (nc g) (nc f) l k).find? (hit d)=none:=by
    rw [find_none]
    intro z hz hzd
    rcases inM_mem ((mm z).1 hz) with h | h
    ·exact hn z h hzd
    ·exact hn2 z h hzd
   unfold st
   rw [hz,e1,e2]
   cases c1:coversB f d.1 d.2 <;> cases c2:coversB g d.1 d.2
   ·have:coversB (maxV f g) d.1 d.2=false:=by rw [Bool.eq_false_iff,ne_eq,cov_max,c1,c2]; simp
    simp [this,joinSt]
   ·simp [cov_max.2 (.inr c2),joinSt]
   ·simp [cov_max.2 (.inl c1),joinSt]
   ·simp [cov_max.2 (.inl c1),joinSt]
theorem join_idem (a:St):joinSt a a=a:=by
 rcases a with _ | _ | x <;> try rfl
 simp only [joinSt,first_self]
theorem join_ok {f g:Nat→Int} {l k:List A} (h1:MayP f l) (h2:MayP g k):MayP (joinV f g l k) (joinL f g l k):=by
 have e1:=may_yes h1
 have e2:=may_yes h2
 have a1:joinV f g l k=maxV f g:=by simp [joinV,e1,e2]
 have a2:joinL f g l k=(mergeA (nc g) (nc f) l k).take 16:=by simp [joinL,e1,e2]
 rw [a1,a2]
 exact may_join h1 h2 _ _
section
variable {f g h:Nat→Int} {l k m:List A}
theorem leq_of (h1:MayP f l) (h2:MayP g k) (h3:∀ j,j < 8→f j≤g j) (h4:∀ d,joinSt (st f l d) (st g k d)=st g k d):leqS f g l k=true:=by
 have hm:=st_join h1 h2
 have e:mergeA (nc g) (nc f) l k=k:=st_ext (f:=maxV f g) (g:=g) (srt_merge _ _ _ _ (may_srt h1) (may_srt h2)) (may_srt h2) (fun d=>by rw [hm d,h4 d])
 exact leq_iff.2 ⟨h1,h2,h3,by rw [e]; exact take_may h2⟩
theorem ord_refl (h1:MayP f l):leqS f f l l=true:=leq_of h1 h1 (fun _ _=>Int.le_refl _) (fun _=>join_idem _)
end
end Go.Proofs.YthjbnpaghiojlaaGreat
