/- Items of several texts. -/
import Derived.Test.YthjbnpaghiojlaaGreatKHm
namespace Go.Proofs.YthjbnpaghiojlaaGreat
open Go.RowKit
def spl (l:List Value) (o:Nat) (cs:List Value):List Value:=l.take o ++ cs ++ l.drop (o + cs.length)
theorem spl_len {l:List Value} {o:Nat} {cs:List Value} (h:o + cs.length≤l.length):(spl l o cs).length=l.length:=by
 simp [spl]
 omega
theorem spl_lo {l:List Value} {o k:Nat} {cs:List Value} (h:o≤l.length) (hk:k≤o):(spl l o cs).take k=l.take k:=by
 unfold spl
 rw [List.append_assoc,List.take_append_of_le_length (by rw [List.length_take]; omega),List.take_take,Nat.min_eq_left hk]
theorem spl_in {l:List Value} {o n:Nat} {cs:List Value} (h:o≤l.length) (hn:o + cs.length=n):(spl l o cs).take n=l.take o ++ cs:=by
 unfold spl
 rw [List.take_append_of_le_length (by rw [List.length_append,List.length_take]; omega),List.take_of_length_le (by rw [List.length_append,List.length_take]; omega)]
theorem spl_up {l:List Value} {o n:Nat} {cs:List Value} (h:o≤l.length) (hn:o + cs.length≤n):(spl l o cs).take n=l.take o ++ cs ++ (l.drop (o + cs.length)).take (n - (o + cs.length)):=by
 unfold spl
 rw [List.take_append,List.take_of_length_le (by rw [List.length_append,List.length_take]; omega),List.length_append,List.length_take,Nat.min_eq_left h]
theorem off_setRow {w:World} {g:Nat} (cs:Array Value):Off (fun c=>c=g) w (w.setRow g cs) :=
 ⟨rfl,rfl,rfl,by simp,fun k _ hk=>setRow_other w g k cs hk⟩
theorem Cel.setRow {w:World} {g:Nat} {t:TypeId} {cur:Array Value} (h:Cel g t cur w) (cs:Array Value):Cel g t cs (w.setRow g cs):=⟨setRow_heap w g cur cs t _ h.is⟩
theorem copy_run {w:World} {g o dLen dCap:Nat} {a:Addr} {sLen sCap:Nat} {cur:Array Value} {cs:List Value} (hg:Cel g 75 cur w) (n:Nat) (hm:Nat.min sLen dLen=n) (hn:cs.length=n * 11)
  (hsrc:∀ j v,cs[j]?=some v→w.cell? (a.add j)=some v) (hfit:o + cs.length≤cur.size) (h1:∀ v ∈ cs,v.oneCell'=true) (ty:TypeId) :
  ∃ w',(Builtin.copy_ #[36,36] ty #[.slice (some ⟨g,o,none⟩) dLen dCap,.slice (some a) sLen sCap]).run Tryz.prog w=.ok (goInt n) w'∧Cel g 75 (spl cur.toList o cs).toArray w'∧Off (fun c=>c=g) w w':=by
 obtain ⟨i0,hi,hz0,hz1,hz2⟩:=info_parts Tryz.infoH
 have hl:=run_loadCells_list (P:=Tryz.prog) w a cs hsrc
 have hst:=run_storeCells_at Tryz.prog g o 75 cs 0 cur w hg.is (by simpa using hfit) h1
 refine ⟨_,?_,hg.setRow _,off_setRow _⟩
 rw [hn] at hl
 simp [Builtin.copy_,run_underlying Tryz.underlying36,Builtin.lenOf,Builtin.firstCells,sizeOf,typeInfo,hi,hz1,hm,hl,hst,spl]
theorem room_run {w:World} {g i cap:Nat} {a:Addr} {sLen sCap:Nat} {cur:Array Value} {cs:List Value} (hg:Cel g 75 cur w) (hn:cs.length=sLen * 11) (hroom:i + sLen≤cap) (hs:cur.size=cap * 11)
  (hsrc:∀ j v,cs[j]?=some v→w.cell? (a.add j)=some v) (h1:∀ v ∈ cs,v.oneCell'=true) (ty:TypeId) :
  ∃ w',(Builtin.append_ #[36,36] ty #[.slice (some ⟨g,0,none⟩) i cap,.slice (some a) sLen sCap]).run Tryz.prog w=.ok (.slice (some ⟨g,0,none⟩) (i + sLen) cap) w'∧Cel g 75 (spl cur.toList (i * 11) cs).toArray w'∧Off (fun c=>c=g) w w':=by
 obtain ⟨i0,hi,hz0,hz1,hz2⟩:=info_parts Tryz.infoH
 have hl:=run_loadCells_list (P:=Tryz.prog) w a cs hsrc
 have hst:=run_storeCells_at Tryz.prog g (i * 11) 75 cs 0 cur w hg.is (by omega) h1
 refine ⟨_,?_,hg.setRow _,off_setRow _⟩
 rw [hn] at hl
 have ha:(⟨g,0,none⟩:Addr).add (i * 11)=⟨g,i * 11,none⟩:=by rw [add_lit,Nat.zero_add]
 simp [Builtin.append_,run_underlying Tryz.underlying36,Builtin.lenOf,Builtin.firstCells,sizeOf,typeInfo,hi,hz1,hroom,hl,ha,hst,spl]
def zH:List Value:=[.int .i64 0,.string ⟨#[]⟩,.int .i64 0,.int .i64 0,.int .i64 0,.int .i64 0,.int .i64 0,.int .i64 0,.int .i64 0,.int .i64 0,.slice none 0 0]
theorem clear_run {w:World} {g o c:Nat} {cur:Array Value} (hg:Cel g 75 cur w) (hfit:o + 11≤cur.size) (ty:TypeId) :
  ∃ w',(Builtin.clear_ #[36] ty #[.slice (some ⟨g,o,none⟩) 1 c]).run Tryz.prog w=.ok (.tuple #[]) w'∧Cel g 75 (spl cur.toList o zH).toArray w'∧Off (fun c=>c=g) w w':=by
 obtain ⟨i0,hi,hz0,hz1,hz2⟩:=info_parts Tryz.infoH
 have hst:=run_storeCells_at Tryz.prog g o 75 zH 0 cur w hg.is (by simpa [zH] using hfit) (by simp [zH,Value.oneCell'])
 refine ⟨_,?_,hg.setRow _,off_setRow _⟩
 have hz:(Builtin.zeroCells (Value.agg #[.int .i64 0,.string ⟨#[]⟩,.int .i64 0,.int .i64 0,.int .i64 0,.int .i64 0,.int .i64 0,.int .i64 0,.int .i64 0,.int .i64 0,.slice none 0 0]).cells 1).toList=zH:=by kernel_rfl
 simp [Builtin.clear_,run_underlying Tryz.underlying36,zeroValue,typeInfo,hi,hz0,hz,hst]
 rw [spl,List.append_assoc]
theorem zeros_run {w:World} {g i cap k:Nat} {olds:List Value} (hl:olds.length=i * 11) (hold:∀ j v,olds[j]?=some v→w.cell? ⟨g,j,none⟩=some v) (h0:0 < k) (hg:cap < i + k) (hb:i + k≤1000) (ty:TypeId) :
  ∃ g' c' cur w',(Builtin.append_ #[36,3] ty #[.slice (some ⟨g,0,none⟩) i cap,.int .i64 (k:Int)]).run Tryz.prog w=.ok (.slice (some ⟨g',0,none⟩) (i + k) c') w'∧Cel g' 75 cur w'∧cur.toList.take (i * 11)=olds∧i + k≤c'∧c'≤maxLen∧cur.size=c' * 11∧g'=w.heap.size∧Off (fun _=>False) w w':=by
 obtain ⟨i0,hi,hz0,hz1,hz2⟩:=info_parts Tryz.infoH
 have hld:(Builtin.firstCells i0.size i (.slice (some ⟨g,0,none⟩) i cap)).run Tryz.prog w.drew=.ok olds.toArray w.drew:=by
  have:=run_loadCells_list (P:=Tryz.prog) w.drew ⟨g,0,none⟩ olds (fun j v hj=>by rw [add_lit,Nat.zero_add]; exact hold j v hj)
  rw [hl] at this
  simp only [Builtin.firstCells,hz1]
  exact this
 have hnc:Builtin.nextslicecap (i + k) cap≤2000:=by
  unfold Builtin.nextslicecap
  split
  ·omega
  ·split
   ·omega
   ·have:∀ r c,c≤2000→Builtin.growBy (i + k) r c≤2000:=by
     intro r
     induction r with
     | zero=>intro c hc; exact hc
     | succ r ih =>
      intro c hc
      unfold Builtin.growBy
      split
      ·exact hc
      ·exact ih _ (by omega)
    exact this _ _ (by omega)
 have hr:=Lib.run_append_grow_zeros (P:=Tryz.prog) w 36 3 ty 75 i0 _ .i64 .i64 Tryz.underlying36 Tryz.underlying3 hi hz0 (some ⟨g,0,none⟩) i cap olds hld k h0 (by omega) hg (by omega) (by rw [hz2]; omega) (by rw [hz2]; omega)
 have hgc:i + k≤grownCap w (i + k) cap 75∧grownCap w (i + k) cap 75≤maxLen:=⟨grownCap_ge w _ _ _,grownCap_le_maxLen w _ _ _ (by unfold maxLen; omega)⟩
 refine ⟨_,_,_,_,hr,⟨heap_alloc_new _ _⟩,?_,hgc.1,hgc.2,?_,rfl,((Off.refl _ w).drew).alloc _⟩
 ·simp
  rw [List.take_append_of_le_length (by omega),List.take_of_length_le (by omega)]
 ·simp [Builtin.zeroCells,hl,Value.cells]
  omega
theorem app_runH {w:World} {a:Option Addr} {cap:Nat} {l:List H} (hown:OwnG 75 11 hcs w a cap l) {b:Option Addr} {cb:Nat} {k:List H} (hr:Hns w b cb k) (hz:b=none→cb=0) (hb:l.length + k.length≤1000000) (ty:TypeId) :
  ∃ a' c' w',(Builtin.append_ #[36,36] ty #[.slice a l.length cap,.slice b k.length cb]).run Tryz.prog w=.ok (.slice a' (l ++ k).length c') w'∧OwnG 75 11 hcs w' a' c' (l ++ k)∧Off (fun c=>blk a=some c) w w'∧(blk a'=blk a∨blk a'=some w.heap.size):=by
 obtain ⟨i0,hi,hz0,hz1,hz2⟩:=info_parts Tryz.infoH
 cases b with
 | none =>
  obtain rfl:cb=0:=hz rfl
  obtain rfl:k=[]:=List.eq_nil_of_length_eq_zero (by have:=hr.len; omega)
  refine ⟨a,cap,w,?_,by rw [List.append_nil]; exact hown,Off.refl _ w,.inl rfl⟩
  rw [List.append_nil]
  exact run_append_owned_none (P:=Tryz.prog) (w:=w) 0 36 ty 75 i0 11 Tryz.underlying36 hi _ _ _ hown.row
 | some ad =>
  obtain ⟨v',w',hrun,own',grow',-,hat⟩:=run_append_own_at (P:=Tryz.prog) w 0 36 ty 75 i0 _ 11 112 Tryz.underlying36 hi hz0 hz1 hz2 rfl (by decide) _ _ _ hown.row ad k.length cb (k.flatMap hcs) (flat_len hcs_len k) hr.news (flat_one hcs_one k) (by unfold maxLen; omega) (by omega) (Nat.zero_le _)
  rw [← List.flatMap_append,← List.length_append] at own'
  obtain ⟨t',c',rfl⟩:∃ t' c',v'=.slice t' (l ++ k).length c':=by
   rcases own'.2 with ⟨rfl,h0⟩ | ⟨g,c,cur,hv,-⟩
   ·exact ⟨none,0,by rw [h0]⟩
   ·exact ⟨_,_,hv⟩
  rw [blk_own,blk_own] at hat
  rw [blk_own] at grow'
  exact ⟨t',c',w',hrun,⟨own'⟩,(Off.refl _ w).grown grow' (fun k hk=>.inl hk),hat⟩
theorem wpList_appH {w:World} {ops:Array Oper} {rest:List Oper} {o:Oper} {a:Act} {Q:Exit→Act→World→Prop} (hgd:o.guard=none) (s x:Operand)
  (ho:o.op=.call { callee:=.builtin .append,args:=#[s,x],argTypes:=#[36,36] })
  (tad:Option Addr) (cap:Nat) (l:List H) (hs:a.eval s=.slice tad l.length cap) (hown:OwnG 75 11 hcs w tad cap l)
  (xt:Option Addr) (xc:Nat) (k:List H) (hx:a.eval x=.slice xt k.length xc) (hr:Hns w xt xc k) (hz:xt=none→xc=0) (hb:l.length + k.length≤1000000)
  (h:∀ t' c' w' ys,Hid (ys=l ++ k)→OwnG 75 11 hcs w' t' c' ys→Off (fun c=>blk tad=some c) w w'→(blk t'=blk tad∨blk t'=some w.heap.size)→wpList Tryz.prog ops Q rest (a.put o.dst (.slice t' ys.length c')) w') :
  wpList Tryz.prog ops Q (o :: rest) a w:=by
 obtain ⟨a',c',w',hrun,own,off,hat⟩:=app_runH hown hr hz hb o.type
 refine wpList_plain hgd fun K' hK'=>?_
 unfold Oper.wp
 simp only [execOp,ho,resolve,invoke,builtin,Sem.run_bind,Sem.run_pure,Result.andThen_ok,List.map_toArray,List.map_cons,List.map_nil,hs,hx,hrun]
 exact hK' _ _ (h a' c' w' _ (show l ++ k=l ++ k from rfl) own off hat)
structure Ent (w:World) (a:Option Addr) (cap:Nat) (l:List E):Prop where
 len:l.length≤cap
 bound:cap≤9223372036854775807
 at_:∀ i v,l[i]?=some v→∃ b off,a=some ⟨b,off,none⟩∧∀ j u,(ecs v)[j]?=some u→w.cell? ⟨b,off + i * 10 + j,none⟩=some u
theorem Ent.news {w:World} {b:Addr} {cap:Nat} {l:List E} (h:Ent w (some b) cap l):∀ j u,(l.flatMap ecs)[j]?=some u→w.cell? (b.add j)=some u:=by
 intro j u hj
 obtain ⟨i,r,x,hx,rfl,hu⟩:=flat_inv ecs_len hj
 obtain ⟨bb,off,e,h1⟩:=h.at_ i x hx
 simp only [Option.some.injEq] at e
 subst e
 rw [add_lit,← Nat.add_assoc]
 exact h1 r u hu
theorem OwnG.ent {w:World} {a:Option Addr} {cap:Nat} {l:List E} (h:OwnG 68 10 ecs w a cap l):Ent w a cap l:=by
 have hb:l.length≤cap∧cap≤9223372036854775807:=by
  rcases h.row.2 with ⟨hv,h0⟩ | ⟨g,c,cur,hv,hb,hh,hc,hm,-⟩
  ·simp only [Value.slice.injEq] at hv
   omega
  ·simp only [Value.slice.injEq] at hv
   unfold maxLen at hm
   omega
 refine ⟨hb.1,hb.2,fun i v hi=>?_⟩
 obtain ⟨g,e,h1⟩:=h.at_ ecs_len hi
 exact ⟨g,0,e,fun j u hj=>by rw [Nat.zero_add]; exact h1 j u hj⟩
theorem app_runE {w:World} {a:Option Addr} {cap:Nat} {l:List E} (hown:OwnG 68 10 ecs w a cap l) {b:Option Addr} {cb:Nat} {k:List E} (hr:Ent w b cb k) (hz:b=none→cb=0) (hb:l.length + k.length≤1000000) (ty:TypeId) :
  ∃ a' c' w',(Builtin.append_ #[33,33] ty #[.slice a l.length cap,.slice b k.length cb]).run Tryz.prog w=.ok (.slice a' (l ++ k).length c') w'∧OwnG 68 10 ecs w' a' c' (l ++ k)∧Off (fun c=>blk a=some c) w w'∧(blk a'=blk a∨blk a'=some w.heap.size):=by
 obtain ⟨i0,hi,hz0,hz1,hz2⟩:=info_parts Tryz.infoE
 cases b with
 | none =>
  obtain rfl:cb=0:=hz rfl
  obtain rfl:k=[]:=List.eq_nil_of_length_eq_zero (by have:=hr.len; omega)
  refine ⟨a,cap,w,?_,by rw [List.append_nil]; exact hown,Off.refl _ w,.inl rfl⟩
  rw [List.append_nil]
  exact run_append_owned_none (P:=Tryz.prog) (w:=w) 0 33 ty 68 i0 10 Tryz.underlying33 hi _ _ _ hown.row
 | some ad =>
  obtain ⟨v',w',hrun,own',grow',-,hat⟩:=run_append_own_at (P:=Tryz.prog) w 0 33 ty 68 i0 _ 10 104 Tryz.underlying33 hi hz0 hz1 hz2 rfl (by decide) _ _ _ hown.row ad k.length cb (k.flatMap ecs) (flat_len ecs_len k) hr.news (flat_one ecs_one k) (by unfold maxLen; omega) (by omega) (Nat.zero_le _)
  rw [← List.flatMap_append,← List.length_append] at own'
  obtain ⟨t',c',rfl⟩:∃ t' c',v'=.slice t' (l ++ k).length c':=by
   rcases own'.2 with ⟨rfl,h0⟩ | ⟨g,c,cur,hv,-⟩
   ·exact ⟨none,0,by rw [h0]⟩
   ·exact ⟨_,_,hv⟩
  rw [blk_own,blk_own] at hat
  rw [blk_own] at grow'
  exact ⟨t',c',w',hrun,⟨own'⟩,(Off.refl _ w).grown grow' (fun k hk=>.inl hk),hat⟩
theorem wpList_appE {w:World} {ops:Array Oper} {rest:List Oper} {o:Oper} {a:Act} {Q:Exit→Act→World→Prop} (hgd:o.guard=none) (s x:Operand)
  (ho:o.op=.call { callee:=.builtin .append,args:=#[s,x],argTypes:=#[33,33] })
  (tad:Option Addr) (cap:Nat) (l:List E) (hs:a.eval s=.slice tad l.length cap) (hown:OwnG 68 10 ecs w tad cap l)
  (xt:Option Addr) (xc:Nat) (k:List E) (hx:a.eval x=.slice xt k.length xc) (hr:Ent w xt xc k) (hz:xt=none→xc=0) (hb:l.length + k.length≤1000000)
  (h:∀ t' c' w' ys,Hid (ys=l ++ k)→OwnG 68 10 ecs w' t' c' ys→Off (fun c=>blk tad=some c) w w'→(blk t'=blk tad∨blk t'=some w.heap.size)→wpList Tryz.prog ops Q rest (a.put o.dst (.slice t' ys.length c')) w') :
  wpList Tryz.prog ops Q (o :: rest) a w:=by
 obtain ⟨a',c',w',hrun,own,off,hat⟩:=app_runE hown hr hz hb o.type
 refine wpList_plain hgd fun K' hK'=>?_
 unfold Oper.wp
 simp only [execOp,ho,resolve,invoke,builtin,Sem.run_bind,Sem.run_pure,Result.andThen_ok,List.map_toArray,List.map_cons,List.map_nil,hs,hx,hrun]
 exact hK' _ _ (h a' c' w' _ (show l ++ k=l ++ k from rfl) own off hat)
end Go.Proofs.YthjbnpaghiojlaaGreat

namespace Go.Proofs.YthjbnpaghiojlaaGreat
open Go.RowKit
theorem flat_take {α:Type} {cs:α→List Value} {size:Nat} (hcs:∀ x,(cs x).length=size) (l:List α) (i:Nat):(l.take i).flatMap cs=(l.flatMap cs).take (i * size):=by
 induction l generalizing i with
 | nil=>simp
 | cons x l ih =>
  cases i with
  | zero=>simp
  | succ i =>
   rw [List.take_succ_cons,List.flatMap_cons,List.flatMap_cons,ih,List.take_append,hcs,Nat.succ_mul,Nat.add_sub_cancel]
   rw [List.take_of_length_le (l:=cs x) (by rw [hcs]; omega)]
theorem flat_drop {α:Type} {cs:α→List Value} {size:Nat} (hcs:∀ x,(cs x).length=size) (l:List α) (i:Nat):(l.drop i).flatMap cs=(l.flatMap cs).drop (i * size):=by
 induction l generalizing i with
 | nil=>simp
 | cons x l ih =>
  cases i with
  | zero=>simp
  | succ i =>
   rw [List.drop_succ_cons,List.flatMap_cons,ih,List.drop_append,hcs,Nat.succ_mul,Nat.add_sub_cancel]
   rw [List.drop_of_length_le (l:=cs x) (by rw [hcs]; omega),List.nil_append]
theorem sizeH (W:World):(sizeOf (Tryz.prog.elem 36)).run Tryz.prog W=.ok 11 W:=by
 have:Tryz.prog.elem 36=75:=by kernel_rfl
 rw [this]
 obtain ⟨i0,hi,hz0,hz1,hz2⟩:=info_parts Tryz.infoH
 simp [sizeOf,typeInfo,hi,hz1]
theorem slh (g n cap k:Nat) (hk:k≤cap) (W:World):(Instr.slice 36 (.slice (some ⟨g,0,none⟩) n cap) none (some (.int .i64 (k:Int))) none).run Tryz.prog W=.ok (.slice (some ⟨g,0,none⟩) k cap) W:=by
 rw [run_slice_h (P:=Tryz.prog) (t:=36) (ht:=by kernel_rfl) (h0:=by omega) (h2:=by omega),sizeH]
 simp [Result.andThen,sliced,Addr.add]
theorem sll (g n cap k:Nat) (kk:Int) (hkk:kk=(k:Int)) (hk:k≤n):∃ o,(∀ W,(Instr.slice 36 (.slice (some ⟨g,0,none⟩) n cap) (some (.int .i64 kk)) none none).run Tryz.prog W=.ok (.slice (some ⟨g,o,none⟩) (n - k) (cap - k)) W)∧(k < cap→o=k * 11):=by
 subst hkk
 refine ⟨if cap=k then 0 else k * 11,fun W=>?_,fun h=>by rw [if_neg (by omega)]⟩
 rw [run_slice_l (P:=Tryz.prog) (t:=36) (ht:=by kernel_rfl) (h0:=by omega) (h1:=by omega),sizeH]
 by_cases e:cap=k
 ·simp [Result.andThen,sliced,e]
 ·simp [Result.andThen,sliced,e,Addr.add]
  omega
set_option maxHeartbeats 1000000 in
set_option maxRecDepth 100000 in
theorem hdel_any (a:Option Addr) (cap:Nat) (xs:List H) (i:Nat) (w:World) (own:OwnG 75 11 hcs w a cap xs) (hi:i < xs.length) (hf:xs.length≤1000) (ys:List H) (hys:ys=xs.take i ++ xs.drop (i + 1)) :
  Calls Tryz.prog 164 #[.slice a xs.length cap,.int .i64 (i:Int),.int .i64 ((i:Int) + 1)] w fun e w'=>∃ n,e=.returned (.slice a n cap)∧n=ys.length∧OwnG 75 11 hcs w' a cap ys∧Off (fun c=>blk a=some c) w w':=by
 obtain ⟨g,cur,rfl,hcel,hlc,hcm,hcs0,htk⟩:=own.cel (fun e=>by have:=own.nn e; rw [this] at hi; simp at hi)
 obtain ⟨m,hm⟩:∃ m,xs.length=m + 1:=⟨xs.length - 1,by omega⟩
 rw [hm] at hlc htk hi hf ⊢
 have hsplit:ys.length=m:=by rw [hys]; simp; omega
 have HYS:Hid _:=hys
 clear hys
 have HM:Hid (xs.length=m + 1):=hm
 have HSP:Hid _:=hsplit
 have HC:Hid _:=hcel
 have HCS:Hid _:=hcs0
 have HTK:Hid _:=htk
 have HOW:Hid _:=own
 have hcm2:cap≤9223372036854775807:=by unfold maxLen at hcm; omega
 have HDL:Hid (((xs.drop (i + 1)).flatMap hcs).length=(m - i) * 11):=by show _=_; rw [flat_len hcs_len,List.length_drop,hm]; congr 1; omega
 obtain ⟨o,hs2,ho⟩:=sll g (m + 1) cap (i + 1) ((i:Int) + 1) (by simp) (by omega)
 have hs1:=slh g (m + 1) cap i (by omega)
 obtain ⟨co,hco⟩:∃ co,co=cap - (i + 1):=⟨_,rfl⟩
 rw [← hco,show m + 1 - (i + 1)=m - i by omega] at hs2
 have HSRC:Hid (∀ j v,((xs.drop (i + 1)).flatMap hcs)[j]?=some v→w.drew.cell? ((⟨g,o,none⟩:Addr).add j)=some v):=fun j v hj=>by
  have hlt:j < (m - i) * 11:=by
   obtain ⟨h,-⟩:=List.getElem?_eq_some_iff.1 hj
   rwa [HDL.out] at h
  rw [flat_drop hcs_len,List.getElem?_drop,← HTK.out,List.getElem?_take] at hj
  split at hj
  ·rw [ho (by omega),add_lit]
   show w.cell? _=_
   rw [HC.out.cell]
   simpa using hj
  ·simp at hj
 clear own hcel hcs0 htk hm hsplit hco ho hcm
 have d1:(((i:Int)) == ((i:Int) + 1))=false:=by rw [beq_eq_false_iff_ne]; omega
 have b1:(i:Int) + 1≤(m:Int) + 1:=by omega
 have b2:m + 1≤cap:=hlc
 have b3:¬ (m + 1=i):=by omega
 have b4:¬ (cap=m):=by omega
 go_enter Tryz.func164,Tryz.ntmps164
 go_upto_region 5 with fail
 refine wp_region_held_drew (S:=fun w'=>Off (fun c=>c=g) w w') (by kernel_rfl) ((Off.refl _ w).drew) (fun hS=>?_)
 refine take_q 0 20 (.slice (some ⟨g,0,none⟩) (m + 1) cap) hS ?_
 simp only [Act.put,lsA,lsZ,lsS]
 refine take_q 1 21 (.int .i64 (i:Int)) hS ?_
 simp only [Act.put,lsA,lsZ,lsS]
 refine take_r 2 22 (.slice (some ⟨g,0,none⟩) i cap) rfl (Or.inl ⟨by rfl,fun w' hw'=>by have:=hs1 w'; go_simp⟩) hS ?_
 simp only [Act.put,lsA,lsZ,lsS]
 refine take_q 3 23 (.slice (some ⟨g,0,none⟩) (m + 1) cap) hS ?_
 simp only [Act.put,lsA,lsZ,lsS]
 refine take_q 4 24 (.int .i64 ((i:Int) + 1)) hS ?_
 simp only [Act.put,lsA,lsZ,lsS]
 refine take_r 5 25 (.slice (some ⟨g,o,none⟩) (m - i) co) rfl (Or.inl ⟨by rfl,fun w' hw'=>by have:=hs2 w'; go_simp⟩) hS ?_
 simp only [Act.put,lsA,lsZ,lsS]
 obtain ⟨w1,hr,hc1,o1⟩:=room_run (i:=i) (cap:=cap) (a:=⟨g,o,none⟩) (sLen:=m - i) (sCap:=co) (cs:=(xs.drop (i + 1)).flatMap hcs) (HC.out.drew) HDL.out (by omega) HCS.out HSRC.out (flat_one hcs_one _) 36
 rw [show i + (m - i)=m by omega] at hr
 refine wpAnyH_ready (rs:=[6]) (by kernel_rfl) (by simp) ?_
 refine AllReadyH.cons rfl (fun K' hK'=>?_) AllReadyH.nil
 refine wp_append_if rfl (.tmp 22) (.tmp 25) rfl rfl rfl hr 26 rfl ?_
 simp only [Act.put,lsA,lsZ,lsS]
 refine hK'.out _ _ (((Off.refl (fun c=>c=g) w).drew).trans o1 (fun _ _ h=>h)) (fun hS=>?_)
 clear hK' K' hr
 have HC1:Hid _:=hc1
 clear hc1 o1
 refine take_q 7 0 (.slice (some ⟨g,0,none⟩) m cap) hS ?_
 simp only [Act.put,List.setIfInBounds_toArray,List.set_cons_zero]
 refine wpAnyH_done (by kernel_rfl) ?_ _
 have HO1:Hid _:=hS
 clear hS
 obtain ⟨w2,hr,hc2,o2⟩:=clear_run (o:=m * 11) (c:=cap - m) HC1.out (by have h1:=HDL.out; have h2:=HCS.out; rw [List.size_toArray,spl_len (by rw [HDL.out,Array.length_toList]; omega),Array.length_toList]; omega) 0
 have HC2:Hid _:=hc2
 have HO2:Hid _:=HO1.out.trans o2 (fun _ _ h=>h)
 clear hc2 o2
 go_wp2_with fail
 go_ret
 refine ⟨m,rfl,HSP.out.symm,?_,HO2.out.mono (fun _ _ h=>by rw [h]; rfl)⟩
 have hl:cur.toList.length=cap * 11:=by rw [Array.length_toList]; exact HCS.out
 have hd:=HDL.out
 have s1:(spl cur.toList (i * 11) ((xs.drop (i + 1)).flatMap hcs)).length=cap * 11:=by rw [spl_len (by omega),hl]
 refine own_of hcs_len HC2.out (by rw [HSP.out]; omega) (by unfold maxLen; omega) ?_ ?_
 ·rw [List.size_toArray,spl_len (by rw [List.toList_toArray,s1]; show m * 11 + 11≤_; omega),List.toList_toArray,s1]
 ·rw [HSP.out,List.toList_toArray,List.toList_toArray,spl_lo (by rw [s1]; omega) (Nat.le_refl _),spl_in (by omega) (by omega),HYS.out,List.flatMap_append,flat_take hcs_len,← HTK.out,List.take_take]
  congr 2
  omega
end Go.Proofs.YthjbnpaghiojlaaGreat
