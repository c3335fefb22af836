/- Items of several texts. -/
import Derived.Deep.RegionHeld
import Derived.Deep.Cut
import Derived.Laws.CopyRow
import Derived.Lib.AppendZerosOnto
import Derived.Lib.Overlaps
import Derived.Test.YthjbnpaghiojlaaGreatKInsP
import Derived.Test.YthjbnpaghiojlaaGreatKKee
import Derived.Test.YthjbnpaghiojlaaGreatKTbJ
import Derived.Test.YthjbnpaghiojlaaGreatKHP
import Derived.Test.YthjbnpaghiojlaaGreatKEnt
namespace Go.Proofs.YthjbnpaghiojlaaGreat
open Go.RowKit
def hcs (h:H):List Value:=[.int .i64 h.node,.string h.e.key,.int .i64 (h.e.f 0),.int .i64 (h.e.f 1),.int .i64 (h.e.f 2),.int .i64 (h.e.f 3),.int .i64 (h.e.f 4),.int .i64 (h.e.f 5),.int .i64 (h.e.f 6),.int .i64 (h.e.f 7),.slice h.e.a h.e.l.length h.e.cap]
theorem hcs_len (h:H):(hcs h).length=11:=rfl
theorem hcs_one (h:H):∀ u ∈ hcs h,u.oneCell'=true:=by simp [hcs,Value.oneCell']
theorem Tryz.infoH:(Tryz.prog.info? 75).map (fun i=>(i.zero,i.size,i.bytes))=some (some (.agg #[.int .i64 0,.string ⟨#[]⟩,.int .i64 0,.int .i64 0,.int .i64 0,.int .i64 0,.int .i64 0,.int .i64 0,.int .i64 0,.int .i64 0,.slice none 0 0]),11,112):=by kernel_rfl
theorem cel11 {b:Nat} {t:TypeId} {s0 s1 s2 s3 s4 s5 s6 s7 s8 s9 s10:Value} {w:World} (h:Cel b t #[s0,s1,s2,s3,s4,s5,s6,s7,s8,s9,s10] w):w.cell? ⟨b,0,none⟩=some s0∧w.cell? ⟨b,1,none⟩=some s1∧w.cell? ⟨b,2,none⟩=some s2∧w.cell? ⟨b,3,none⟩=some s3∧w.cell? ⟨b,4,none⟩=some s4∧w.cell? ⟨b,5,none⟩=some s5∧w.cell? ⟨b,6,none⟩=some s6∧w.cell? ⟨b,7,none⟩=some s7∧w.cell? ⟨b,8,none⟩=some s8∧w.cell? ⟨b,9,none⟩=some s9∧w.cell? ⟨b,10,none⟩=some s10 :=
 ⟨h.cell 0,h.cell 1,h.cell 2,h.cell 3,h.cell 4,h.cell 5,h.cell 6,h.cell 7,h.cell 8,h.cell 9,h.cell 10⟩
structure AtH (w:World) (b o:Nat) (h:H):Prop where
 at_:∀ j u,(hcs h)[j]?=some u→w.cell? ⟨b,o + j,none⟩=some u
theorem AtH.cells {w:World} {b o:Nat} {h:H} (k:AtH w b o h):w.cell? ⟨b,o,none⟩=some (.int .i64 h.node)∧w.cell? ⟨b,o + 1,none⟩=some (.string h.e.key)∧w.cell? ⟨b,o + 2,none⟩=some (.int .i64 (h.e.f 0))∧w.cell? ⟨b,o + 3,none⟩=some (.int .i64 (h.e.f 1))∧w.cell? ⟨b,o + 4,none⟩=some (.int .i64 (h.e.f 2))∧w.cell? ⟨b,o + 5,none⟩=some (.int .i64 (h.e.f 3))∧w.cell? ⟨b,o + 6,none⟩=some (.int .i64 (h.e.f 4))∧w.cell? ⟨b,o + 7,none⟩=some (.int .i64 (h.e.f 5))∧w.cell? ⟨b,o + 8,none⟩=some (.int .i64 (h.e.f 6))∧w.cell? ⟨b,o + 9,none⟩=some (.int .i64 (h.e.f 7))∧w.cell? ⟨b,o + 10,none⟩=some (.slice h.e.a h.e.l.length h.e.cap) :=
 ⟨k.at_ 0 _ rfl,k.at_ 1 _ rfl,k.at_ 2 _ rfl,k.at_ 3 _ rfl,k.at_ 4 _ rfl,k.at_ 5 _ rfl,k.at_ 6 _ rfl,k.at_ 7 _ rfl,k.at_ 8 _ rfl,k.at_ 9 _ rfl,k.at_ 10 _ rfl⟩
theorem AtH.lt {w:World} {b o:Nat} {h:H} (k:AtH w b o h):b < w.heap.size:=cell_lt (k.at_ 0 _ rfl)
theorem AtH.off {D:Nat→Prop} {w w':World} {b o:Nat} {h:H} (k:AtH w b o h) (i:Off D w w') (hD:b < w.heap.size→¬ D b):AtH w' b o h :=
 ⟨fun j u e=>by
  have h1:=k.at_ j u e
  rw [← h1]
  exact World.cell?_of_block (a:=⟨b,o + j,none⟩) (i.block b k.lt (hD k.lt))⟩
structure Hns (w:World) (a:Option Addr) (cap:Nat) (l:List H):Prop where
 len:l.length≤cap
 bound:cap≤9223372036854775807
 at_:∀ i v,l[i]?=some v→∃ b off,a=some ⟨b,off,none⟩∧AtH w b (off + i * 11) v
structure Ter (D:Nat→Prop) (a:Option Addr) (l:List V):Prop where
 row:l ≠ []→∀ x,blk a=some x→D x
 val:∀ v ∈ l,v.data ≠ []→∀ x,blk v.ad=some x→D x
theorem Ter.mono {D E:Nat→Prop} {a:Option Addr} {l:List V} (h:Ter D a l) (hE:∀ x,D x→E x):Ter E a l:=⟨fun hn x hx=>hE x (h.row hn x hx),fun v hv hd x hx=>hE x (h.val v hv hd x hx)⟩
theorem Ter.nil (D:Nat→Prop) (a:Option Addr):Ter D a []:=⟨fun h=>absurd rfl h,fun v hv=>by simp at hv⟩
theorem Ter.and {D E:Nat→Prop} {a:Option Addr} {l:List V} (h:Ter D a l) (k:Ter E a l):Ter (fun x=>D x∧E x) a l:=⟨fun hn x hx=>⟨h.row hn x hx,k.row hn x hx⟩,fun v hv hd x hx=>⟨h.val v hv hd x hx,k.val v hv hd x hx⟩⟩
theorem Made.ter {N:Nat} {w:World} {a:Option Addr} {cap:Nat} {l:List V} (h:Made N w a cap l):Ter (fun x=>N≤x) a l:=⟨fun _=>h.lo,fun v hv _ x hx=>((h.own v hv).2 x hx).1⟩
theorem Row.below {w:World} {a:Option Addr} {cap:Nat} {l:List V} (h:Row w a cap l):Ter (fun x=>x < w.heap.size) a l :=
 ⟨fun hn x hx=>by
  cases l with
  | nil=>exact absurd rfl hn
  | cons v r =>
   obtain ⟨b,off,e,h1,-⟩:=h.at_ 0 v rfl
   have:=h1.lt
   rw [e] at hx
   simp [blk] at hx
   omega,fun v hv hd=>src_lt (h.ok v hv).src hd⟩
theorem Row.offT {D E:Nat→Prop} {w w':World} {a:Option Addr} {cap:Nat} {l:List V} (h:Row w a cap l) (t:Ter E a l) (o:Off D w w') (hD:∀ x,x < w.heap.size→E x→¬ D x):Row w' a cap l:=by
 have tb:=t.and h.below
 exact ⟨h.len,h.bound,fun i v hi=>by
  obtain ⟨b,off,e,h1,h2⟩:=h.at_ i v hi
  refine ⟨b,off,e,h1.off o (fun hb=>hD b hb (t.row (fun e=>by rw [e] at hi; simp at hi) b (by rw [e]; rfl))),⟨h2.src.offX o (fun hd x hx=>?_),h2.lt,h2.n0,h2.n1,h2.m0,h2.m1,h2.len⟩⟩
  have:=tb.val v (List.mem_of_getElem? hi) hd x hx
  exact hD x this.2 this.1⟩
theorem flat_inv {α:Type} {cs:α→List Value} {size:Nat} (hcs:∀ x,(cs x).length=size):∀ {l:List α} {j:Nat} {u:Value},(l.flatMap cs)[j]?=some u→∃ i r x,l[i]?=some x∧j=i * size + r∧(cs x)[r]?=some u
 | [],j,u,h=>by simp at h
 | x :: l,j,u,h=>by
  rw [List.flatMap_cons] at h
  by_cases hj:j < size
  ·rw [List.getElem?_append_left (by rw [hcs]; exact hj)] at h
   exact ⟨0,j,x,rfl,by omega,h⟩
  ·rw [List.getElem?_append_right (by rw [hcs]; omega),hcs] at h
   obtain ⟨i,r,y,hy,e,hu⟩:=flat_inv hcs h
   refine ⟨i + 1,r,y,by simpa using hy,?_,hu⟩
   rw [Nat.succ_mul]
   omega
theorem Hns.news {w:World} {b:Addr} {cap:Nat} {l:List H} (h:Hns w (some b) cap l):∀ j u,(l.flatMap hcs)[j]?=some u→w.cell? (b.add j)=some u:=by
 intro j u hj
 obtain ⟨i,r,x,hx,rfl,hu⟩:=flat_inv hcs_len hj
 obtain ⟨bb,off,e,h1⟩:=h.at_ i x hx
 simp only [Option.some.injEq] at e
 subst e
 rw [add_lit,← Nat.add_assoc]
 exact h1.at_ r u hu
theorem flat_one {α:Type} {cs:α→List Value} (hc:∀ x,∀ u ∈ cs x,u.oneCell'=true) (l:List α):∀ u ∈ l.flatMap cs,u.oneCell'=true:=by
 intro u hu
 obtain ⟨x,-,hx⟩:=List.mem_flatMap.1 hu
 exact hc x u hx
theorem flat_len {α:Type} {cs:α→List Value} {size:Nat} (hcs:∀ x,(cs x).length=size) (l:List α):(l.flatMap cs).length=l.length * size:=by
 induction l with
 | nil=>simp
 | cons x l ih=>rw [List.flatMap_cons,List.length_append,ih,hcs,List.length_cons,Nat.succ_mul]; omega
theorem OwnG.zero {α:Type} {e:TypeId} {size:Nat} {cs:α→List Value} {w:World} {a:Option Addr} {cap:Nat} {l:List α} (h:OwnG e size cs w a cap l):a=none→cap=0:=by
 intro ea
 rcases h.row.2 with ⟨hv,-⟩ | ⟨g,c,cur,hv,-⟩
 ·simp only [Value.slice.injEq] at hv
  exact hv.2.2
 ·simp only [Value.slice.injEq] at hv
  rw [ea] at hv
  simp at hv
theorem OwnG.nn {α:Type} {e:TypeId} {size:Nat} {cs:α→List Value} {w:World} {a:Option Addr} {cap:Nat} {l:List α} (h:OwnG e size cs w a cap l):a=none→l=[]:=by
 intro ea
 rcases h.row.2 with ⟨hv,h0⟩ | ⟨g,c,cur,hv,-⟩
 ·exact List.eq_nil_of_length_eq_zero h0
 ·simp only [Value.slice.injEq] at hv
  rw [ea] at hv
  simp at hv
theorem OwnG.cel {α:Type} {e:TypeId} {size:Nat} {cs:α→List Value} {w:World} {a:Option Addr} {cap:Nat} {l:List α} (h:OwnG e size cs w a cap l) (hl:a ≠ none):∃ g cur,a=some ⟨g,0,none⟩∧Cel g e cur w∧l.length≤cap∧cap≤maxLen∧cur.size=cap * size∧cur.toList.take (l.length * size)=l.flatMap cs:=by
 rcases h.row.2 with ⟨hv,h0⟩ | ⟨g,c,cur,hv,hb,hh,hc,hm,hs,ht⟩
 ·simp only [Value.slice.injEq] at hv
  exact absurd hv.1 hl
 ·simp only [Value.slice.injEq] at hv
  obtain ⟨rfl,-,rfl⟩:=hv
  exact ⟨g,cur,rfl,⟨hh⟩,hc,hm,hs,ht⟩
theorem own_of {α:Type} {e:TypeId} {size:Nat} {cs:α→List Value} (hcs:∀ x,(cs x).length=size) {w:World} {g cap:Nat} {l:List α} {cur:Array Value} (hc:Cel g e cur w) (hl:l.length≤cap) (hm:cap≤maxLen) (hs:cur.size=cap * size) (ht:cur.toList.take (l.length * size)=l.flatMap cs):OwnG e size cs w (some ⟨g,0,none⟩) cap l :=
 ⟨⟨flat_len hcs l,.inr ⟨g,cap,cur,rfl,Nat.zero_le _,hc.is,hl,hm,hs,ht⟩⟩⟩
theorem OwnG.hns {w:World} {a:Option Addr} {cap:Nat} {l:List H} (h:OwnG 75 11 hcs w a cap l):Hns w a cap l:=by
 have hb:l.length≤cap∧cap≤9223372036854775807:=by
  rcases h.row.2 with ⟨hv,h0⟩ | ⟨g,c,cur,hv,hb,hh,hc,hm,-⟩
  ·simp only [Value.slice.injEq] at hv
   omega
  ·simp only [Value.slice.injEq] at hv
   unfold maxLen at hm
   omega
 refine ⟨hb.1,hb.2,fun i v hi=>?_⟩
 obtain ⟨g,e,h1⟩:=h.at_ hcs_len hi
 exact ⟨g,0,e,⟨fun j u hj=>by rw [Nat.zero_add]; exact h1 j u hj⟩⟩
theorem OwnG.atH {w:World} {a:Option Addr} {cap:Nat} {l:List H} (h:OwnG 75 11 hcs w a cap l) {i:Nat} {x:H} (hi:l[i]?=some x):∃ g,a=some ⟨g,0,none⟩∧AtH w g (i * 11) x:=by
 obtain ⟨g,e,h1⟩:=h.at_ hcs_len hi
 exact ⟨g,e,⟨h1⟩⟩
theorem idx_hin {m n:Nat} (h:n < m) (c g:Nat) (W:World):(Instr.indexAt 36 (.slice (some ⟨g,0,none⟩) m c) (.int .i64 (n:Int))).run Tryz.prog W=.ok (.pointer (some ⟨g,n * 11,none⟩)) W:=by
 go_simp
theorem idx_hins {m n:Nat} (h:n < m) (c g o:Nat) (W:World):(Instr.indexAt 36 (.slice (some ⟨g,o,none⟩) m c) (.int .i64 (n:Int))).run Tryz.prog W=.ok (.pointer (some ⟨g,o + n * 11,none⟩)) W:=by
 go_simp
structure HSt (D:Nat→Prop) (p:Nat) (xs:List H) (w:World):Prop where
 dp:D p
 dlt:∀ c,D c→c < w.heap.size
 is:∃ a cap,Cel p 144 #[.slice a xs.length cap] w∧OwnG 75 11 hcs w a cap xs∧(∀ g,blk a=some g→D g∧g ≠ p)∧∀ x ∈ xs,Ter (fun c=>blk a ≠ some c) x.e.a x.e.l
 row:∀ x ∈ xs,Row w x.e.a x.e.cap x.e.l
 ter:∀ x ∈ xs,Ter (fun c=>D c∧c ≠ p) x.e.a x.e.l
 ok:OkS (absH xs)
theorem HSt.off {D E:Nat→Prop} {p:Nat} {xs:List H} {w w':World} (h:HSt D p xs w) (o:Off E w w') (hE:∀ c,c < w.heap.size→D c→¬ E c):HSt D p xs w':=by
 obtain ⟨a,cap,h1,h2,h3,h4⟩:=h.is
 exact ⟨h.dp,fun c hc=>Nat.lt_of_lt_of_le (h.dlt c hc) o.size,⟨a,cap,h1.off o (hE p h1.lt h.dp),h2.off o (fun c hc e=>hE c hc (h3 c e).1),h3,h4⟩,fun x hx=>(h.row x hx).offT (h.ter x hx) o (fun c hc hd=>hE c hc hd.1),h.ter,h.ok⟩
theorem HSt.free {D:Nat→Prop} {p:Nat} {xs:List H} {w w':World} (h:HSt D p xs w) (o:Off (fun _=>False) w w'):HSt D p xs w':=h.off o (fun _ _ _ h=>h)
theorem HSt.lt {D:Nat→Prop} {p:Nat} {xs:List H} {w:World} (h:HSt D p xs w):p < w.heap.size:=by
 obtain ⟨a,cap,h1,-,-,-⟩:=h.is
 exact h1.lt
theorem HSt.sor {D:Nat→Prop} {p:Nat} {xs:List H} {w:World} (h:HSt D p xs w):SorH H.nk xs:=absH_sor.1 h.ok.sor
theorem HSt.few {D:Nat→Prop} {p:Nat} {xs:List H} {w:World} (h:HSt D p xs w):xs.length≤64:=by
 have:=h.ok.few
 rwa [absH_len] at this
theorem eql_set (a:Option Addr) (W:World):(binOp .eql 98 (.pointer a) (.pointer none)).run Tryz.prog W=.ok (.bool a.isNone) W:=by
 cases a <;> kernel_rfl
theorem hnew_any (w:World):Calls Tryz.prog 40 #[] w fun e w'=>∃ p,e=.returned (.pointer (some ⟨p,0,none⟩))∧HSt (fun c=>c=p) p [] w'∧w.heap.size≤p∧Off (fun _=>False) w w':=by
 have C:Cel w.heap.size 144 #[.slice none 0 0] (w.alloc (.cells #[.slice none 0 0] 144)):=Cel.new w _ _
 have O:Off (fun _=>False) w (w.alloc (.cells #[.slice none 0 0] 144)):=(Off.refl _ w).alloc _
 go_enter Tryz.func40,Tryz.ntmps40
 go_wp2_with fail
 go_ret
 exact ⟨w.heap.size,rfl,⟨rfl,fun c hc=>by rw [hc]; exact C.lt,⟨none,0,C,OwnG.nil _ _ _ _,fun g hg=>by simp [blk] at hg,fun x hx=>by simp at hx⟩,fun x hx=>by simp at hx,fun x hx=>by simp at hx,OkS.nil⟩,Nat.le_refl _,O⟩
theorem isnode_any (n:Int) (w:World):Calls Tryz.prog 161 #[.int .i64 n] w fun e w'=>e=.returned (.bool (nodeOk n))∧w'=w:=by
 by_cases h1:0≤n
 ·have e1:decide (0≤n)=true:=decide_eq_true h1
  by_cases h2:n < 8
  ·have e2:decide (n < 8)=true:=decide_eq_true h2
   go_enter Tryz.func161,Tryz.ntmps161
   go_wp2_with fail
   go_ret
   exact ⟨by simp [nodeOk,e1,e2],rfl⟩
  ·have e2:decide (n < 8)=false:=decide_eq_false h2
   go_enter Tryz.func161,Tryz.ntmps161
   go_wp2_with fail
   go_ret
   exact ⟨by simp [nodeOk,e2],rfl⟩
 ·have e1:decide (0≤n)=false:=decide_eq_false h1
  go_enter Tryz.func161,Tryz.ntmps161
  go_wp2_with fail
  go_ret
  exact ⟨by simp [nodeOk,e1],rfl⟩
end Go.Proofs.YthjbnpaghiojlaaGreat
