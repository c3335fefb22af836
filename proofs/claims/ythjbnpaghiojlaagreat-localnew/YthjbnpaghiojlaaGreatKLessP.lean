/- Items of several texts. -/
import Derived.Test.YthjbnpaghiojlaaGreatKRea
import Derived.Test.YthjbnpaghiojlaaGreatKGMay
namespace Go.Proofs.YthjbnpaghiojlaaGreat
theorem first_self (x:A):firstA x x=x:=by unfold firstA; split <;> rfl
theorem take_may {f:Nat→Int} {l:List A} (h:MayP f l):l.take 16=l:=List.take_of_length_le h.few
theorem same_iff {f g:Nat→Int} {l k:List A}:sameS f g l k=true↔(∀ j,j < 8→f j=g j)∧l=k:=by simp [sameS,eqB,sameR]
theorem leq_iff {f g:Nat→Int} {l k:List A}:leqS f g l k=true↔MayP f l∧MayP g k∧(∀ j,j < 8→f j≤g j)∧(mergeA (nc g) (nc f) l k).take 16=k:=by
 constructor
 ·intro h
  have h0:=h
  simp only [leqS,Bool.and_eq_true] at h
  obtain ⟨⟨h1,h2⟩,h3⟩:=h
  have hv:joinV f g l k=maxV f g:=by simp [joinV,h1,h2]
  have hl:joinL f g l k=(mergeA (nc g) (nc f) l k).take 16:=by simp [joinL,h1,h2]
  rw [hv,hl,same_iff] at h3
  refine ⟨may_iff.1 h1,may_iff.1 h2,fun j hj=>?_,h3.2⟩
  have:=h3.1 j hj
  simp only [maxV] at this
  omega
 ·rintro ⟨h1,h2,h3,h4⟩
  have e1:=may_yes h1
  have e2:=may_yes h2
  have hv:joinV f g l k=maxV f g:=by simp [joinV,e1,e2]
  have hl:joinL f g l k=(mergeA (nc g) (nc f) l k).take 16:=by simp [joinL,e1,e2]
  rw [leq_yes e1 e2,hv,hl,same_iff]
  refine ⟨fun j hj=>?_,h4⟩
  have:=h3 j hj
  simp only [maxV]
  omega
theorem less_zero {f:Nat→Int} {l:List A} (h:MayP f l):leqS zer f [] l=true:=by
 refine leq_iff.2 ⟨may_zer,h,fun j hj=>(h.seen j hj).1,?_⟩
 have e:l.filter (nc zer)=l:=List.filter_eq_self.2 (fun x _=>by
  rw [nc_iff,cov_iff]
  simp only [zer]
  omega)
 rw [mergeA_nil _ _ _ _ (.inl rfl),e]
 simpa using take_may h
end Go.Proofs.YthjbnpaghiojlaaGreat
