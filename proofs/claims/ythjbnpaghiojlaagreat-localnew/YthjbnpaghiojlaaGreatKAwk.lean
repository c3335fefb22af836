/- Items of several texts. -/
import Derived.Lib.SlBytesConst
import Derived.Test.YthjbnpaghiojlaaGreatKLiv
namespace Go.Proofs.YthjbnpaghiojlaaGreat
open Go.RowKit
def dot1 (n:Int) (b:Nat):A:=⟨n,1,[b],false⟩
theorem maxz:maxV zer zer=zer:=by funext j; simp [maxV,zer]
theorem next_one {n:Int} (h:nodeB n=true):nextV zer n=(n,1,0):=by simp [nextV,h,zer]
theorem may_zer:MayP zer []:=⟨fun j _=>by simp [zer],by simp,by simp,by simp⟩
theorem put_one {n:Int} (h:nodeB n=true) (b:Nat):putE zer zer [] n [b] false=0∧putL zer zer [] n [b] false=[dot1 n b]∧putV zer zer [] n [b] false=withV zer n 1:=by
 have hb:mayB zer=true:=by simp [mayB,zer]
 have hr:putR zer zer [] n [b] false=[dot1 n b]:=by
  have hc:coversB zer n 1=false:=by simp [coversB,zer]
  simp only [putR,putN,maxz,next_one h]
  rw [mergeA_nil _ _ _ _ (.inl rfl)]
  simp [nc,hc,dot1]
 have he:putE zer zer [] n [b] false=0:=by simp [putE,may_yes may_zer,hb,okData,maxz,next_one h,hr]
 refine ⟨he,by simp [putL,he,hr],?_⟩
 simp only [putV,he,if_true,maxz,next_one h]
theorem src_mark (w:World) (b:Nat) (x:Int) (hx:x=(b:Int)) (p:Nat × Nat):Src (w.alloc (.cells #[.int .u8 x] 5 p)) (some ⟨w.heap.size,0,none⟩) 1 [b]:=by
 refine ⟨.inr ⟨_,rfl,fun j u hj=>?_⟩⟩
 match j,hj with
 | 0,hj =>
  simp [vl] at hj
  subst hj hx
  rw [add_lit]
  have h:=heap_alloc_new w (.cells #[.int .u8 (b:Int)] 5 p)
  simp only [World.cell?]
  rw [h]
  rfl
end Go.Proofs.YthjbnpaghiojlaaGreat
