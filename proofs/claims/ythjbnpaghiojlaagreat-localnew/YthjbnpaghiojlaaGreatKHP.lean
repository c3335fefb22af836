/- Items of several texts. -/
import Derived.Maps.OwnSet
import Derived.Maps.RangeWalk
import Derived.Maps.Ext
import Derived.Sort.KeysCollected
import Derived.Test.YthjbnpaghiojlaaGreatKRea
import Derived.Test.YthjbnpaghiojlaaGreatKGSm
import Derived.Test.YthjbnpaghiojlaaGreatKOrdQ
import Derived.Test.YthjbnpaghiojlaaGreatKTxt
import Derived.Test.YthjbnpaghiojlaaGreatKTbP
import Derived.Test.YthjbnpaghiojlaaGreatKTbJ
namespace Go.Proofs.YthjbnpaghiojlaaGreat
open Go.RowKit
abbrev NK:=Int × ByteArray
def plt (a b:NK):Bool:=decide (a.1 < b.1) || (decide (a.1=b.1) && blt a.2 b.2)
theorem plt_iff {a b:NK}:plt a b=true↔a.1 < b.1∨a.1=b.1∧blt a.2 b.2=true:=by simp [plt]
theorem plt_irr (a:NK):plt a a=false:=by
 rw [← Bool.not_eq_true,plt_iff,blt_irr]
 simp
theorem plt_trans {a b c:NK} (h:plt a b=true) (k:plt b c=true):plt a c=true:=by
 rw [plt_iff] at h k ⊢
 rcases h with h | ⟨h,h'⟩ <;> rcases k with k | ⟨k,k'⟩
 ·exact .inl (by omega)
 ·exact .inl (by omega)
 ·exact .inl (by omega)
 ·exact .inr ⟨by omega,blt_trans h' k'⟩
theorem plt_tot {a b:NK} (h:a ≠ b):plt a b=true∨plt b a=true:=by
 rw [plt_iff,plt_iff]
 rcases Int.lt_trichotomy a.1 b.1 with e | e | e
 ·exact .inl (.inl e)
 ·rcases blt_tot (a:=a.2) (b:=b.2) (fun e2=>h (Prod.ext e e2)) with k | k
  ·exact .inl (.inr ⟨e,k⟩)
  ·exact .inr (.inr ⟨e.symm,k⟩)
 ·exact .inr (.inl e)
theorem plt_ne {a b:NK} (h:plt a b=true):a ≠ b:=fun e=>by
 subst e
 rw [plt_irr] at h
 cases h
theorem plt_asym {a b:NK} (h:plt a b=true):plt b a=false:=by
 cases e:plt b a
 ·rfl
 ·have:=plt_trans h e
  rw [plt_irr] at this
  cases this
section
variable {α β:Type} (key:α→NK)
def insGH (x:α):List α→List α
 | []=>[x]
 | y :: r=>if plt (key x) (key y) then x :: y :: r else y :: insGH x r
def smkH (y k:NK):Bool:=decide (y.1=k.1) && (kb y.2 == kb k.2)
theorem smk_iffH {y k:NK}:smkH y k=true↔y=k:=by
 simp only [smkH,Bool.and_eq_true,decide_eq_true_eq,beq_iff_eq]
 constructor
 ·rintro ⟨h1,h2⟩
  exact Prod.ext h1 (kb_inj h2)
 ·rintro rfl
  exact ⟨rfl,rfl⟩
theorem smk_noH {y k:NK}:smkH y k=false↔y ≠ k:=by
 rw [← Bool.not_eq_true,smk_iffH]
def putGH (x:α) (t:List α):List α:=insGH key x (t.filter fun y=>!smkH (key y) (key x))
def fndGH (k:NK) (t:List α):Option α:=t.find? fun y=>smkH (key y) k
def SorH (t:List α):Prop:=t.Pairwise fun x y=>plt (key x) (key y)=true
theorem mem_insGH {x z:α}:∀ {t:List α},z ∈ insGH key x t↔z=x∨z ∈ t
 | []=>by simp [insGH]
 | y :: r=>by
  unfold insGH
  split
  ·simp
  ·rw [List.mem_cons,mem_insGH,List.mem_cons]
   constructor
   ·rintro (h | h | h)
    ·exact .inr (.inl h)
    ·exact .inl h
    ·exact .inr (.inr h)
   ·rintro (h | h | h)
    ·exact .inr (.inl h)
    ·exact .inl h
    ·exact .inr (.inr h)
theorem len_insGH (x:α):∀ t:List α,(insGH key x t).length=t.length + 1
 | []=>rfl
 | y :: r=>by
  unfold insGH
  split
  ·rfl
  ·simp [len_insGH x r]
theorem sor_insGH {x:α}:∀ {t:List α},SorH key t→(∀ y ∈ t,key y ≠ key x)→SorH key (insGH key x t)
 | [],_,_=>by simp [insGH,SorH]
 | y :: r,h,hx=>by
  obtain ⟨h1,h2⟩:=List.pairwise_cons.1 h
  unfold insGH
  split
  ·rename_i e
   refine List.pairwise_cons.2 ⟨fun z hz=>?_,h⟩
   rcases List.mem_cons.1 hz with rfl | hz
   ·exact e
   ·exact plt_trans e (h1 z hz)
  ·rename_i e
   refine List.pairwise_cons.2 ⟨fun z hz=>?_,sor_insGH h2 (fun z hz=>hx z (List.mem_cons_of_mem _ hz))⟩
   rcases (mem_insGH key).1 hz with rfl | hz
   ·rcases plt_tot (hx y (List.mem_cons_self ..)) with h | h
    ·exact h
    ·exact absurd h e
   ·exact h1 z hz
theorem mem_putGH {x z:α} {t:List α}:z ∈ putGH key x t↔z=x∨z ∈ t∧key z ≠ key x:=by
 unfold putGH
 rw [mem_insGH,List.mem_filter,Bool.not_eq_true',smk_noH]
theorem sor_putGH {x:α} {t:List α} (h:SorH key t):SorH key (putGH key x t):=by
 refine sor_insGH key (List.Pairwise.sublist List.filter_sublist h) (fun y hy=>?_)
 rw [List.mem_filter,Bool.not_eq_true',smk_noH] at hy
 exact hy.2
theorem sor_eqH {t:List α} (h:SorH key t) {x y:α} (hx:x ∈ t) (hy:y ∈ t) (e:key x=key y):x=y:=by
 induction t with
 | nil=>simp at hx
 | cons z r ih =>
  obtain ⟨h1,h2⟩:=List.pairwise_cons.1 h
  rcases List.mem_cons.1 hx with e1 | hx'
  ·rcases List.mem_cons.1 hy with e2 | hy'
   ·rw [e1,e2]
   ·rw [e1] at e
    exact absurd e (plt_ne (h1 y hy'))
  ·rcases List.mem_cons.1 hy with e2 | hy'
   ·rw [e2] at e
    exact absurd e.symm (plt_ne (h1 x hx'))
   ·exact ih h2 hx' hy'
theorem fnd_someH {t:List α} (h:SorH key t) {k:NK} {x:α}:fndGH key k t=some x↔x ∈ t∧key x=k:=by
 constructor
 ·intro e
  exact ⟨List.mem_of_find?_eq_some e,smk_iffH.1 (List.find?_some (p:=fun y=>smkH (key y) k) e)⟩
 ·rintro ⟨hx,hk⟩
  cases e:fndGH key k t with
  | none =>
   have:=List.find?_eq_none.1 e x hx
   rw [smk_iffH] at this
   exact absurd hk this
  | some y =>
   have h1:y ∈ t∧key y=k:=⟨List.mem_of_find?_eq_some e,smk_iffH.1 (List.find?_some (p:=fun y=>smkH (key y) k) e)⟩
   rw [sor_eqH key h h1.1 hx (h1.2.trans hk.symm)]
theorem fnd_memH {t:List α} {k:NK} {x:α} (e:fndGH key k t=some x):x ∈ t∧key x=k :=
 ⟨List.mem_of_find?_eq_some e,smk_iffH.1 (List.find?_some (p:=fun y=>smkH (key y) k) e)⟩
theorem fnd_noneH {t:List α} {k:NK}:fndGH key k t=none↔∀ x ∈ t,key x ≠ k:=by
 unfold fndGH
 rw [List.find?_eq_none]
 simp only [smk_iffH]
 try exact Iff.rfl
theorem sor_extH:∀ {t r:List α},SorH key t→SorH key r→(∀ z,z ∈ t↔z ∈ r)→t=r
 | [],[],_,_,_=>rfl
 | [],y :: r,_,_,h=>by have:=(h y).2 (List.mem_cons_self ..); simp at this
 | x :: t,[],_,_,h=>by have:=(h x).1 (List.mem_cons_self ..); simp at this
 | x :: t,y :: r,h1,h2,h=>by
  obtain ⟨a1,a2⟩:=List.pairwise_cons.1 h1
  obtain ⟨b1,b2⟩:=List.pairwise_cons.1 h2
  have e:x=y:=by
   rcases List.mem_cons.1 ((h x).1 (List.mem_cons_self ..)) with e | hx
   ·exact e
   ·rcases List.mem_cons.1 ((h y).2 (List.mem_cons_self ..)) with e | hy
    ·exact e.symm
    ·have c1:=a1 y hy
     have c2:=b1 x hx
     rw [plt_asym c1] at c2
     cases c2
  subst e
  congr 1
  refine sor_extH a2 b2 (fun z=>?_)
  have hz:=h z
  rw [List.mem_cons,List.mem_cons] at hz
  constructor
  ·intro m
   rcases hz.1 (.inr m) with e | m'
   ·subst e
    exact absurd rfl (plt_ne (a1 z m))
   ·exact m'
  ·intro m
   rcases hz.2 (.inr m) with e | m'
   ·subst e
    exact absurd rfl (plt_ne (b1 z m))
   ·exact m'
theorem filter_lenH {t:List α} (h:SorH key t) (k:NK):(t.filter fun y=>!smkH (key y) k).length + (if (fndGH key k t).isSome then 1 else 0)=t.length:=by
 induction t with
 | nil=>simp [fndGH]
 | cons z r ih =>
  obtain ⟨h1,h2⟩:=List.pairwise_cons.1 h
  have:=ih h2
  cases e:smkH (key z) k
  ·have e2:fndGH key k (z :: r)=fndGH key k r:=by
    unfold fndGH
    rw [List.find?_cons,e]
   rw [e2]
   have e3:((z :: r).filter fun y=>!smkH (key y) k).length=(r.filter fun y=>!smkH (key y) k).length + 1:=by
    rw [List.filter_cons,e]
    simp
   rw [e3,List.length_cons]
   omega
  ·have e2:fndGH key k r=none:=(fnd_noneH key).2 (fun y hy=>by
    rw [← smk_iffH.1 e]
    exact fun e=>plt_ne (h1 y hy) e.symm)
   rw [e2] at this
   simp only [fndGH,List.find?_cons,e,List.filter_cons,Bool.not_true,List.length_cons]
   simpa using this
theorem len_putGH {x:α} {t:List α} (h:SorH key t):(putGH key x t).length=if (fndGH key (key x) t).isSome then t.length else t.length + 1:=by
 have:=filter_lenH key h (key x)
 unfold putGH
 rw [len_insGH]
 split at this
 ·rename_i e
  rw [if_pos e]
  omega
 ·rename_i e
  rw [if_neg e]
  omega
variable {key} {key':β→NK} {g:α→β}
theorem map_insGH (hg:∀ x,key' (g x)=key x) (x:α):∀ t:List α,(insGH key x t).map g=insGH key' (g x) (t.map g)
 | []=>rfl
 | y :: r=>by
  simp only [insGH,List.map_cons,hg]
  split
  ·rfl
  ·rw [List.map_cons,map_insGH hg x r]
theorem map_putGH (hg:∀ x,key' (g x)=key x) (x:α) (t:List α):(putGH key x t).map g=putGH key' (g x) (t.map g):=by
 unfold putGH
 rw [map_insGH hg,List.filter_map]
 simp only [Function.comp_def,hg]
theorem map_fndGH (hg:∀ x,key' (g x)=key x) (k:NK) (t:List α):(fndGH key k t).map g=fndGH key' k (t.map g):=by
 unfold fndGH
 rw [List.find?_map]
 simp only [Function.comp_def,hg]
theorem map_sorH (hg:∀ x,key' (g x)=key x) {t:List α}:SorH key' (t.map g)↔SorH key t:=by
 unfold SorH
 rw [List.pairwise_map]
 simp only [hg]
end
section
variable {α:Type} (key:α→NK)
theorem sor_keys {t:List α}:SorH id (t.map key)↔SorH key t:=map_sorH (key:=key) (key':=id) (fun _=>rfl)
theorem sor_at {t:List α} (h:SorH key t) {i j:Nat} {x y:α} (hx:t[i]?=some x) (hy:t[j]?=some y) (hij:i ≠ j):key x ≠ key y:=by
 obtain ⟨hi,ex⟩:=List.getElem?_eq_some_iff.1 hx
 obtain ⟨hj,ey⟩:=List.getElem?_eq_some_iff.1 hy
 have hp:=List.pairwise_iff_getElem.1 h
 rcases Nat.lt_or_gt_of_ne hij with hl | hl
 ·have:=hp i j hi hj hl
  rw [ex,ey] at this
  exact plt_ne this
 ·have:=hp j i hj hi hl
  rw [ex,ey] at this
  exact (plt_ne this).symm
theorem sor_set {t:List α} (h:SorH key t) {n:Nat} {x v:α} (hx:t[n]?=some x) (hk:key v=key x):SorH key (t.set n v):=by
 rw [← sor_keys] at h ⊢
 have:(t.set n v).map key=t.map key:=by
  rw [List.map_set,hk]
  apply List.ext_getElem?
  intro i
  by_cases hin:n=i
  ·subst hin
   obtain ⟨hl,-⟩:=List.getElem?_eq_some_iff.1 hx
   rw [List.getElem?_set_self (by rw [List.length_map]; exact hl),List.getElem?_map,hx]
   rfl
  ·rw [List.getElem?_set_ne hin]
 rw [this]
 exact h
theorem set_put {t:List α} (h:SorH key t) {n:Nat} {x v:α} (hx:t[n]?=some x) (hk:key v=key x):t.set n v=putGH key v t:=by
 obtain ⟨hl,-⟩:=List.getElem?_eq_some_iff.1 hx
 refine sor_extH key (sor_set key h hx hk) (sor_putGH key h) (fun z=>?_)
 rw [mem_putGH]
 constructor
 ·intro hz
  obtain ⟨i,hi⟩:=List.getElem?_of_mem hz
  by_cases hin:n=i
  ·subst hin
   rw [List.getElem?_set_self hl] at hi
   cases hi
   exact .inl rfl
  ·rw [List.getElem?_set_ne hin] at hi
   exact .inr ⟨List.mem_of_getElem? hi,by rw [hk]; exact sor_at key h hi hx (fun e=>hin e.symm)⟩
 ·rintro (rfl | ⟨hz,hne⟩)
  ·exact List.mem_of_getElem? (List.getElem?_set_self hl)
  ·obtain ⟨i,hi⟩:=List.getElem?_of_mem hz
   have hin:n ≠ i:=fun e=>by
    subst e
    rw [hx] at hi
    cases hi
    exact hne hk.symm
   exact List.mem_of_getElem? (i:=i) (by rw [List.getElem?_set_ne hin]; exact hi)
theorem ins_put {t:List α} (h:SorH key t) {m:Nat} {v:α} (hm:m≤t.length) (hlo:∀ i x,i < m→t[i]?=some x→plt (key x) (key v)=true) (hhi:∀ i x,m≤i→t[i]?=some x→plt (key v) (key x)=true):t.take m ++ v :: t.drop m=putGH key v t:=by
 have hne:∀ x ∈ t,key x ≠ key v:=by
  intro x hx
  obtain ⟨i,hi⟩:=List.getElem?_of_mem hx
  by_cases hl:i < m
  ·exact plt_ne (hlo i x hl hi)
  ·exact (plt_ne (hhi i x (by omega) hi)).symm
 have h1:∀ x ∈ t.take m,plt (key x) (key v)=true:=by
  intro x hx
  obtain ⟨i,hi⟩:=List.getElem?_of_mem hx
  obtain ⟨hl,-⟩:=List.getElem?_eq_some_iff.1 hi
  rw [List.length_take] at hl
  rw [List.getElem?_take_of_lt (by omega)] at hi
  exact hlo i x (by omega) hi
 have h2:∀ x ∈ t.drop m,plt (key v) (key x)=true:=by
  intro x hx
  obtain ⟨i,hi⟩:=List.getElem?_of_mem hx
  rw [List.getElem?_drop] at hi
  exact hhi _ x (by omega) hi
 have hsp:t.take m ++ t.drop m=t:=List.take_append_drop m t
 refine sor_extH key ?_ (sor_putGH key h) (fun z=>?_)
 ·have hh:=h
  unfold SorH at hh ⊢
  rw [← hsp,List.pairwise_append] at hh
  rw [List.pairwise_append,List.pairwise_cons]
  refine ⟨hh.1,⟨h2,hh.2.1⟩,fun a ha b hb=>?_⟩
  rcases List.mem_cons.1 hb with rfl | hb
  ·exact h1 a ha
  ·exact hh.2.2 a ha b hb
 ·rw [mem_putGH,List.mem_append,List.mem_cons]
  constructor
  ·rintro (h | h | h)
   ·exact .inr ⟨List.mem_of_mem_take h,hne z (List.mem_of_mem_take h)⟩
   ·exact .inl h
   ·exact .inr ⟨List.mem_of_mem_drop h,hne z (List.mem_of_mem_drop h)⟩
  ·rintro (rfl | ⟨hz,-⟩)
   ·exact .inr (.inl rfl)
   ·rw [← hsp,List.mem_append] at hz
    rcases hz with h | h
    ·exact .inl h
    ·exact .inr (.inr h)
end
section
variable {α:Type} (key:α→NK)
def delG (k:NK) (t:List α):List α:=t.filter fun y=>!smkH (key y) k
theorem mem_delG {k:NK} {t:List α} {z:α}:z ∈ delG key k t↔z ∈ t∧key z ≠ k:=by
 unfold delG
 rw [List.mem_filter,Bool.not_eq_true',smk_noH]
theorem sor_delG {k:NK} {t:List α} (h:SorH key t):SorH key (delG key k t):=List.Pairwise.sublist List.filter_sublist h
theorem len_delG {k:NK} {t:List α}:(delG key k t).length≤t.length:=List.length_filter_le _ _
theorem erase_del {t:List α} (h:SorH key t) {n:Nat} {x:α} (hx:t[n]?=some x):t.take n ++ t.drop (n + 1)=delG key (key x) t:=by
 obtain ⟨hl,ex⟩:=List.getElem?_eq_some_iff.1 hx
 have hsp:t=t.take n ++ x :: t.drop (n + 1):=by
  rw [← ex,List.getElem_cons_drop,List.take_append_drop]
 have h1:∀ z ∈ t.take n,key z ≠ key x:=fun z hz=>by
  obtain ⟨i,hi⟩:=List.getElem?_of_mem hz
  obtain ⟨hil,-⟩:=List.getElem?_eq_some_iff.1 hi
  rw [List.length_take] at hil
  rw [List.getElem?_take_of_lt (by omega)] at hi
  exact sor_at key h hi hx (by omega)
 have h2:∀ z ∈ t.drop (n + 1),key z ≠ key x:=fun z hz=>by
  obtain ⟨i,hi⟩:=List.getElem?_of_mem hz
  rw [List.getElem?_drop] at hi
  exact sor_at key h hi hx (by omega)
 unfold delG
 conv=>rhs; rw [hsp]
 have f1:(t.take n).filter (fun y=>!smkH (key y) (key x))=t.take n:=List.filter_eq_self.2 (fun z hz=>by rw [Bool.not_eq_true',smk_noH]; exact h1 z hz)
 have f2:(t.drop (n + 1)).filter (fun y=>!smkH (key y) (key x))=t.drop (n + 1):=List.filter_eq_self.2 (fun z hz=>by rw [Bool.not_eq_true',smk_noH]; exact h2 z hz)
 rw [List.filter_append,f1,List.filter_cons]
 have:smkH (key x) (key x)=true:=smk_iffH.2 rfl
 rw [this,f2]
 simp
variable {key} {β:Type} {key':β→NK} {g:α→β}
theorem map_delG (hg:∀ x,key' (g x)=key x) (k:NK) (t:List α):(delG key k t).map g=delG key' k (t.map g):=by
 unfold delG
 rw [List.filter_map]
 simp only [Function.comp_def,hg]
end
structure H where
 node:Int
 e:E
structure HK where
 node:Int
 k:K
def H.nk (h:H):NK:=(h.node,h.e.key)
def HK.nk (h:HK):NK:=(h.node,h.k.key)
def H.abs (h:H):HK:=⟨h.node,h.e.abs⟩
def absH (t:List H):List HK:=t.map H.abs
theorem absH_len (t:List H):(absH t).length=t.length:=by simp [absH]
theorem absH_nk (h:H):h.abs.nk=h.nk:=rfl
theorem absH_put (x:H) (t:List H):absH (putGH H.nk x t)=putGH HK.nk x.abs (absH t):=map_putGH absH_nk x t
theorem absH_fnd (k:NK) (t:List H):(fndGH H.nk k t).map H.abs=fndGH HK.nk k (absH t):=map_fndGH absH_nk k t
theorem absH_sor {t:List H}:SorH HK.nk (absH t)↔SorH H.nk t:=map_sorH absH_nk
theorem absH_del (k:NK) (t:List H):absH (delG H.nk k t)=delG HK.nk k (absH t):=map_delG absH_nk k t
def Nrm (f:Nat→Int):Prop:=∀ j,8≤j→f j=0
def nrm (f:Nat→Int):Nat→Int:=fun j=>if j < 8 then f j else 0
theorem nrm_ok (f:Nat→Int):Nrm (nrm f):=fun j hj=>by simp [nrm]; omega
theorem nrm_zer:Nrm zer:=fun _ _=>rfl
theorem nrm_join {f g:Nat→Int} (hf:Nrm f) (hg:Nrm g) (l k:List A):Nrm (joinV f g l k):=by
 intro j hj
 unfold joinV
 split
 ·simp [maxV,hf j hj,hg j hj]
 ·rfl
theorem same_eq {f g:Nat→Int} (hf:Nrm f) (hg:Nrm g) {l k:List A} (h:sameS f g l k=true):f=g∧l=k:=by
 obtain ⟨h1,h2⟩:=same_iff.1 h
 refine ⟨?_,h2⟩
 funext j
 by_cases hj:j < 8
 ·exact h1 j hj
 ·rw [hf j (by omega),hg j (by omega)]
theorem join_zero {f:Nat→Int} {l:List A} (h:MayP f l) (hf:Nrm f):joinV zer f [] l=f∧joinL zer f [] l=l:=by
 have h0:leqS zer f [] l=true:=less_zero h
 obtain ⟨hz,-,-,-⟩:=leq_iff.1 h0
 rw [leq_yes (may_yes hz) (may_yes h)] at h0
 exact same_eq (nrm_join nrm_zer hf [] l) hf h0
def nodeOk (n:Int):Bool:=decide (0≤n) && decide (n < 8)
structure PR where
 x:List HK
 ch:Bool
 er:Int
def okH (h:HK):Bool:=nodeOk h.node && (keyB h.k.key && mayS h.k.f h.k.l)
def jnH (u h:HK):HK:=⟨h.node,⟨h.k.key,joinV u.k.f h.k.f u.k.l h.k.l,joinL u.k.f h.k.f u.k.l h.k.l⟩⟩
def hpR (X:List HK) (h:HK):PR :=
 if okH h=false then ⟨X,false,1⟩
 else match fndGH HK.nk h.nk X with
 | none=>if 64≤X.length then ⟨X,false,11⟩ else ⟨putGH HK.nk h X,true,0⟩
 | some u=>⟨putGH HK.nk (jnH u h) X,!sameS u.k.f (jnH u h).k.f u.k.l (jnH u h).k.l,0⟩
theorem hpR_arg {X:List HK} {h:HK} (e:okH h=false):hpR X h=⟨X,false,1⟩:=by
 unfold hpR
 rw [if_pos e]
theorem hpR_full {X:List HK} {h:HK} (e:okH h=true) (hf:fndGH HK.nk h.nk X=none) (hn:64≤X.length):hpR X h=⟨X,false,11⟩:=by
 unfold hpR
 rw [e,if_neg (by simp),hf]
 simp [hn]
theorem hpR_new {X:List HK} {h:HK} (e:okH h=true) (hf:fndGH HK.nk h.nk X=none) (hn:¬ 64≤X.length):hpR X h=⟨putGH HK.nk h X,true,0⟩:=by
 unfold hpR
 rw [e,if_neg (by simp),hf]
 simp [hn]
theorem hpR_old {X:List HK} {h:HK} (e:okH h=true) {u:HK} (hf:fndGH HK.nk h.nk X=some u):hpR X h=⟨putGH HK.nk (jnH u h) X,!sameS u.k.f (jnH u h).k.f u.k.l (jnH u h).k.l,0⟩:=by
 unfold hpR
 rw [e,if_neg (by simp),hf]
theorem okH_iff {h:HK}:okH h=true↔nodeOk h.node=true∧keyB h.k.key=true∧MayP h.k.f h.k.l:=by
 unfold okH
 rw [Bool.and_eq_true,Bool.and_eq_true,may_iff]
structure OkS (X:List HK):Prop where
 ok:∀ x ∈ X,okH x=true
 nrm:∀ x ∈ X,Nrm x.k.f
 sor:SorH HK.nk X
 few:X.length≤64
theorem OkS.nil:OkS []:=⟨fun _ h=>by simp at h,fun _ h=>by simp at h,List.Pairwise.nil,by simp⟩
theorem OkS.may {X:List HK} (h:OkS X) {x:HK} (hx:x ∈ X):MayP x.k.f x.k.l:=(okH_iff.1 (h.ok x hx)).2.2
theorem jn_ok {u h:HK} (hu:okH u=true) (hh:okH h=true):okH (jnH u h)=true:=by
 rw [okH_iff] at hu hh ⊢
 exact ⟨hh.1,hh.2.1,join_ok hu.2.2 hh.2.2⟩
theorem OkS.put {X:List HK} (h:OkS X) {x:HK} (hx:okH x=true) (hn:Nrm x.k.f) (hl:(putGH HK.nk x X).length≤64):OkS (putGH HK.nk x X) :=
 ⟨fun y hy=>by
  rcases (mem_putGH HK.nk).1 hy with rfl | ⟨hy,-⟩
  ·exact hx
  ·exact h.ok y hy,fun y hy=>by
  rcases (mem_putGH HK.nk).1 hy with rfl | ⟨hy,-⟩
  ·exact hn
  ·exact h.nrm y hy,sor_putGH HK.nk h.sor,hl⟩
theorem OkS.del {X:List HK} (h:OkS X) (k:NK):OkS (delG HK.nk k X) :=
 ⟨fun y hy=>h.ok y ((mem_delG HK.nk).1 hy).1,fun y hy=>h.nrm y ((mem_delG HK.nk).1 hy).1,sor_delG HK.nk h.sor,Nat.le_trans (len_delG HK.nk) h.few⟩
theorem put_lenH {X:List HK} (h:SorH HK.nk X) {x u:HK} (hf:fndGH HK.nk x.nk X=some u):(putGH HK.nk x X).length=X.length:=by
 rw [len_putGH HK.nk h,hf]
 simp
theorem put_len1 {X:List HK} (h:SorH HK.nk X) {x:HK} (hf:fndGH HK.nk x.nk X=none):(putGH HK.nk x X).length=X.length + 1:=by
 rw [len_putGH HK.nk h,hf]
 simp
theorem hpR_ways {X:List HK} (h:HK):(okH h=false∧hpR X h=⟨X,false,1⟩)∨(okH h=true∧fndGH HK.nk h.nk X=none∧64≤X.length∧hpR X h=⟨X,false,11⟩) ∨
  (okH h=true∧fndGH HK.nk h.nk X=none∧¬ 64≤X.length∧hpR X h=⟨putGH HK.nk h X,true,0⟩) ∨
  ∃ u,okH h=true∧fndGH HK.nk h.nk X=some u∧hpR X h=⟨putGH HK.nk (jnH u h) X,!sameS u.k.f (jnH u h).k.f u.k.l (jnH u h).k.l,0⟩:=by
 cases e:okH h
 ·exact .inl ⟨rfl,hpR_arg e⟩
 ·right
  cases hf:fndGH HK.nk h.nk X with
  | none =>
   by_cases hn:64≤X.length
   ·exact .inl ⟨rfl,rfl,hn,hpR_full e hf hn⟩
   ·exact .inr (.inl ⟨rfl,rfl,hn,hpR_new e hf hn⟩)
  | some u=>exact .inr (.inr ⟨u,rfl,rfl,hpR_old e hf⟩)
theorem OkS.hpR {X:List HK} (h:OkS X) {x:HK} (hn:Nrm x.k.f):OkS (hpR X x).x:=by
 rcases hpR_ways (X:=X) x with ⟨-,e⟩ | ⟨-,-,-,e⟩ | ⟨ho,hf,hl,e⟩ | ⟨u,ho,hf,e⟩
 ·rw [e]; exact h
 ·rw [e]; exact h
 ·rw [e]
  exact h.put ho hn (by rw [put_len1 h.sor hf]; omega)
 ·rw [e]
  obtain ⟨hm,-⟩:=fnd_memH HK.nk hf
  refine h.put (jn_ok (h.ok u hm) ho) (nrm_join (h.nrm u hm) hn _ _) ?_
  rw [put_lenH h.sor (x:=jnH u x) (u:=u) hf]
  exact h.few
def drpB (X:List HK) (k:NK) (f:Nat→Int) (l:List A):Bool:=match fndGH HK.nk k X with | none=>false | some u=>leqS u.k.f f u.k.l l
def drpT (X:List HK) (k:NK) (f:Nat→Int) (l:List A):List HK:=if drpB X k f l=true then delG HK.nk k X else X
theorem OkS.len16 {t:List H} (h:OkS (absH t)):∀ x ∈ t,x.e.l.length≤16:=by
 intro x hx
 have:=(h.may (x:=x.abs) (List.mem_map.2 ⟨x,hx,rfl⟩)).few
 have e2:x.abs.k.l.length=x.e.l.length:=cont_len x.e.l
 omega
end Go.Proofs.YthjbnpaghiojlaaGreat
