/- Items of several texts. -/
import Derived.Laws.OwnMore
import Derived.Deep.RegionHeld
import Derived.BigRegion
import Derived.BigQuiet
import Derived.Deep.Cut
import Derived.Test.YthjbnpaghiojlaaGreatKMem
import Derived.Test.YthjbnpaghiojlaaGreatKTake
import Derived.Test.YthjbnpaghiojlaaGreatKCpy
namespace Go.Proofs.YthjbnpaghiojlaaGreat
open Go.RowKit
structure Inp (w:World) (tad:Option Addr) (cap:Nat) (bs:List Nat):Prop where
 src:Src w tad cap bs
 cap:bs.length≤cap
 lt:∀ x ∈ bs,x < 256
theorem Inp.off {D:Nat→Prop} {w w':World} {tad:Option Addr} {cap:Nat} {bs:List Nat} (h:Inp w tad cap bs) (k:Off D w w') (hD:∀ c,c < w.heap.size→blk tad=some c→¬ D c):Inp w' tad cap bs :=
 ⟨h.src.off k hD,h.cap,h.lt⟩
theorem Inp.free {w w':World} {tad:Option Addr} {cap:Nat} {bs:List Nat} (h:Inp w tad cap bs) (k:Off (fun _=>False) w w'):Inp w' tad cap bs:=h.off k (fun _ _ _ h=>h)
theorem OwnR.cap {w:World} {tad:Option Addr} {cap:Nat} {bs:List Nat} (h:OwnR w tad cap bs):bs.length≤cap:=by
 rcases h.shape with ⟨-,rfl,rfl⟩ | ⟨_,-,-,h,-⟩
 ·simp
 ·exact h
theorem OwnR.inp {w:World} {tad:Option Addr} {cap:Nat} {bs:List Nat} (h:OwnR w tad cap bs) (hl:∀ x ∈ bs,x < 256):Inp w tad cap bs:=⟨h.src,h.cap,hl⟩
theorem Inp.lie {w:World} {tad:Option Addr} {cap:Nat} {bs:List Nat} (h:Inp w tad cap bs) (hn:0 < bs.length):Lie (fun c=>blk tad=some c) w tad cap bs:=by
 rcases h.src.is with ⟨-,rfl,-⟩ | ⟨ad,rfl,hc⟩
 ·simp at hn
 ·have h0:=hc 0 _ (vl_get bs 0 hn)
  obtain ⟨b,off,spot⟩:=ad
  have hs:spot=none:=by
   have:=World.cell?_spot h0
   simpa [Addr.add] using this
  subst hs
  exact ⟨.inr ⟨b,off,rfl,rfl,h.cap,fun j u hj=>by have:=hc j u hj; rwa [add_lit] at this⟩⟩
theorem Inp.old {w:World} {tad:Option Addr} {cap:Nat} {bs:List Nat} (h:Inp w tad cap bs):bs=[]∨∀ c,blk tad=some c→c < w.heap.size:=by
 rcases Nat.eq_zero_or_pos bs.length with h0 | h0
 ·exact .inl (List.eq_nil_of_length_eq_zero h0)
 ·refine .inr fun c hc=>?_
  rcases (h.lie h0).is with ⟨-,rfl,-⟩ | ⟨g,off,rfl,-,-,h2⟩
  ·simp at h0
  ·have:=cell_lt (h2 0 _ (vl_get bs 0 h0))
   simp [blk] at hc
   simp only at this
   omega
theorem Inp.at_ {w:World} {tad:Option Addr} {cap:Nat} {bs:List Nat} (h:Inp w tad cap bs) {i:Nat} (hi:i < bs.length):bs.getD i 0 < 256∧∃ b off,tad=some ⟨b,off,none⟩∧w.cell? ⟨b,off + i,none⟩=some (.int .u8 ((bs.getD i 0:Nat):Int)):=by
 have hx:bs.getD i 0=bs[i]:=by simp [hi]
 refine ⟨by rw [hx]; exact h.lt _ (List.getElem_mem hi),?_⟩
 rcases (h.lie (by omega)).is with ⟨-,rfl,-⟩ | ⟨g,off,rfl,-,-,hc⟩
 ·simp at hi
 ·exact ⟨g,off,rfl,hc i _ (vl_get bs i hi)⟩
theorem blk_drop (tad:Option Addr) (cap k:Nat):blk (if cap=k then tad else tad.map (·.add (k * 1)))=blk tad:=by
 split
 ·rfl
 ·cases tad with
  | none=>rfl
  | some a=>simp [blk,add_block]
theorem sz1 (W:World):(sizeOf (Tryz.prog.elem 44)).run Tryz.prog W=.ok 1 W:=by
 have:Tryz.prog.elem 44=5:=by kernel_rfl
 rw [this]
 obtain ⟨i0,hi,hz0,hz1,hz2⟩:=info_parts Tryz.infoB
 simp [sizeOf,typeInfo,hi,hz1]
theorem Inp.drop {w:World} {tad:Option Addr} {cap:Nat} {bs:List Nat} (h:Inp w tad cap bs) {k:Nat} (hk:k≤bs.length) :
  ∃ t',(∀ W,(Instr.slice 44 (.slice tad bs.length cap) (some (.int .i64 (k:Int))) none none).run Tryz.prog W=.ok (.slice t' (bs.drop k).length (cap - k)) W)∧Inp w t' (cap - k) (bs.drop k)∧blk t'=blk tad:=by
 have hc:=h.cap
 refine ⟨if cap=k then tad else tad.map (·.add (k * 1)),fun W=>?_,⟨⟨?_⟩,by rw [List.length_drop]; omega,fun x hx=>h.lt x (List.mem_of_mem_drop hx)⟩,blk_drop _ _ _⟩
 ·rw [run_slice_l (P:=Tryz.prog) (t:=44) (ht:=by kernel_rfl) (h0:=by omega) (h1:=by omega),sz1]
  simp [Result.andThen,sliced]
 ·rcases h.src.is with ⟨rfl,rfl,rfl⟩ | ⟨ad,rfl,hs⟩
  ·left
   simp
  ·right
   by_cases e:cap=k
   ·refine ⟨ad,by simp [e],fun j u hj=>?_⟩
    have:=vl_lt hj
    simp at this
    omega
   ·refine ⟨ad.add (k * 1),by simp [e],fun j u hj=>?_⟩
    have hj':=vl_lt hj
    simp at hj'
    rcases (h.lie (by omega)).is with ⟨h1,-⟩ | ⟨g,off,h1,-,-,hc2⟩
    ·simp at h1
    ·simp only [Option.some.injEq] at h1
     subst h1
     rw [add_lit,add_lit,Nat.mul_one,Nat.add_assoc]
     refine hc2 (k + j) u ?_
     simpa [vl,List.getElem?_drop] using hj
theorem add_zero (a:Addr):a.add 0=a:=by unfold Addr.add; split <;> simp_all
theorem Inp.take {w:World} {tad:Option Addr} {cap:Nat} {bs:List Nat} (h:Inp w tad cap bs) {k:Nat} (hk:k≤bs.length) (ik:IntKind) :
  (∀ W,(Instr.slice 44 (.slice tad bs.length cap) none (some (.int ik (k:Int))) none).run Tryz.prog W=.ok (.slice tad (bs.take k).length cap) W)∧Inp w tad cap (bs.take k):=by
 have hc:=h.cap
 refine ⟨fun W=>?_,⟨⟨?_⟩,by rw [List.length_take]; omega,fun x hx=>h.lt x (List.mem_of_mem_take hx)⟩⟩
 ·rw [run_slice_h (P:=Tryz.prog) (t:=44) (ht:=by kernel_rfl) (h0:=by omega) (h2:=by omega),sz1]
  rcases h.src.is with ⟨rfl,rfl,rfl⟩ | ⟨ad,rfl,-⟩
  ·simp at hk; subst hk
   simp [Result.andThen,sliced]
  ·simp [Result.andThen,sliced,add_zero]
   omega
 ·rcases h.src.is with ⟨rfl,rfl,rfl⟩ | ⟨ad,rfl,hs⟩
  ·left
   simp
  ·refine .inr ⟨ad,rfl,fun j u hj=>hs j u ?_⟩
   have hj':=vl_lt hj
   rw [← hj]
   simp at hj'
   simp [vl,List.getElem?_take]
   omega
theorem wpList_fit {w:World} {ops:Array Oper} {rest:List Oper} {o:Oper} {a:Act} {Q:Exit→Act→World→Prop} (hgd:o.guard=none) (s x:Operand)
  (ho:o.op=.call { callee:=.builtin .append,args:=#[s,x],argTypes:=#[44,44] })
  (g cap:Nat) (bs:List Nat) (hs:a.eval s=.slice (some ⟨g,0,none⟩) bs.length cap) (hown:OwnR w (some ⟨g,0,none⟩) cap bs)
  (xt:Option Addr) (xc:Nat) (xs:List Nat) (hx:a.eval x=.slice xt xs.length xc) (hsrc:Src w xt xc xs) (hb:bs.length + xs.length≤cap)
  (h:∀ w' ys,Hid (ys=bs ++ xs)→OwnR w' (some ⟨g,0,none⟩) cap ys→Off (fun c=>c=g) w w'→wpList Tryz.prog ops Q rest (a.put o.dst (.slice (some ⟨g,0,none⟩) ys.length cap)) w') :
  wpList Tryz.prog ops Q (o :: rest) a w:=by
 obtain ⟨i0,hi,hz0,hz1,hz2⟩:=info_parts Tryz.infoB
 rcases hsrc.is with ⟨rfl,rfl,rfl⟩ | ⟨ad,rfl,hc⟩
 ·refine wpList_append_own_none hgd s x 44 ho 0 5 i0 1 Tryz.underlying44 hi _ _ _ hs hown.row hx ?_
  exact h w bs (show bs=bs ++ [] by simp) hown (Off.refl _ w)
 ·refine wpList_plain hgd fun K hK=>?_
  obtain ⟨w',hr,own',grow'⟩:=run_append_fits (P:=Tryz.prog) w 0 44 o.type 5 i0 1 Tryz.underlying44 hi hz1 g bs.length cap (vl bs) hown.row ad xs.length xc (vl xs) (by simp [vl_len]) hc (vl_one xs) hb
  rw [← vl_append,← List.length_append] at own'
  unfold Oper.wp execOp
  simp only [ho,resolve,invoke,builtin,Sem.run_bind,Sem.run_pure,Result.andThen_ok,List.map_toArray,List.map_cons,List.map_nil,hs,hx,hr]
  have:=h w' _ (show bs ++ xs=bs ++ xs from rfl) ⟨own'⟩ ((Off.refl _ w).grown grow' (fun k hk=>.inl (by simp at hk; exact hk.symm)))
  rw [List.length_append] at this
  exact hK _ _ this
theorem OwnR.take {w:World} {tad:Option Addr} {cap:Nat} {bs:List Nat} (h:OwnR w tad cap bs) {k:Nat} (hk:k≤bs.length) :
  (∀ W,(Instr.slice 44 (.slice tad bs.length cap) none (some (.int .i64 (k:Int))) none).run Tryz.prog W=.ok (.slice tad k cap) W)∧OwnR w tad cap (bs.take k):=by
 have e:(bs.take k).length=k:=by simp; omega
 refine ⟨by have:=((h.lie (D:=fun _=>True) (fun _ _=>trivial)).take hk).1; rwa [e] at this,?_⟩
 clear e
 obtain ⟨h1,h2⟩:=h
 refine ⟨by simp [vl],?_⟩
 rcases h2 with ⟨hv,h0⟩ | ⟨g,c,cur,hv,hb,hh,hc,hm,hs,ht⟩
 ·simp only [Value.slice.injEq] at hv
  have:bs=[]:=List.eq_nil_of_length_eq_zero h0
  subst this
  exact .inl ⟨by simp [hv.1,hv.2.2],by simp⟩
 ·simp only [Value.slice.injEq] at hv
  obtain ⟨rfl,-,rfl⟩:=hv
  refine .inr ⟨g,_,cur,rfl,hb,hh,by simp; omega,hm,hs,?_⟩
  have e:(vl bs).take k=vl (bs.take k):=by simp [vl,List.map_take]
  rw [← e,← ht,List.take_take]
  congr 1
  simp
end Go.Proofs.YthjbnpaghiojlaaGreat
