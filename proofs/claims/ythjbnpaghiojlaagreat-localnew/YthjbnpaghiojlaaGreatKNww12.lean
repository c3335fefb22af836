/- Items of several texts. -/
import Derived.Deep.Cut
import Derived.Lib.SlBytesConst
import Derived.Test.YthjbnpaghiojlaaGreatKLiv
import Derived.Test.YthjbnpaghiojlaaGreatKRefA
import Derived.Test.YthjbnpaghiojlaaGreatKLeq5
import Derived.Test.YthjbnpaghiojlaaGreatKRea
import Derived.Test.YthjbnpaghiojlaaGreatKGMay
import Derived.Test.YthjbnpaghiojlaaGreatKGSame
import Derived.Test.YthjbnpaghiojlaaGreatKArg12
import Derived.Test.YthjbnpaghiojlaaGreatKGJoin
namespace Go.Proofs.YthjbnpaghiojlaaGreat
open Go.RowKit
structure Lw (w0:World) (p b most:Nat) (rs:List (List Nat)) (s:PS) (w:World):Prop where
 ex:∃ (lb:Nat) (D S:Nat→Prop),Hol D S p lb b most rs s w∧(∀ c,D c∨S c→w0.heap.size≤c)
 off:Off (fun _=>False) w0 w
theorem Lw.free {w0:World} {p b most:Nat} {rs:List (List Nat)} {s:PS} {w w':World} (h:Lw w0 p b most rs s w) (o:Off (fun _=>False) w w'):Lw w0 p b most rs s w':=by
 obtain ⟨lb,D,S,h1,h2⟩:=h.ex
 exact ⟨⟨lb,D,S,h1.free o,h2⟩,h.off.trans o (fun _ _ h=>h)⟩
theorem Lw.inv {w0:World} {p b most:Nat} {rs:List (List Nat)} {s:PS} {w:World} (h:Lw w0 p b most rs s w):Inv rs s:=by
 obtain ⟨lb,D,S,h1,h2⟩:=h.ex
 exact h1.inv
theorem Lw.mov {w0:World} {p b most:Nat} {rs':List (List Nat)} {s':PS} {w w':World} {lb:Nat} {D S D' S':Nat→Prop} (h2:∀ c,D c∨S c→w0.heap.size≤c) (o:Off (fun _=>False) w0 w) (h1:Hol D' S' p lb b most rs' s' w') (m:Mov D S D' S' w w'):Lw w0 p b most rs' s' w':=by
 obtain ⟨o',n'⟩:=m.new o h2
 exact ⟨⟨lb,D',S',h1,n'⟩,o'⟩
theorem ter_in {w0:World} {D S:Nat→Prop} {a:Option Addr} {c:Nat} {l:List V} (hr:Row w0 a c l) (h2:∀ c,D c∨S c→w0.heap.size≤c):Ter (fun c=>¬ D c∧¬ S c) a l:=hr.below.mono (fun x hx=>⟨fun e=>by have:=h2 x (.inl e); omega,fun e=>by have:=h2 x (.inr e); omega⟩)
def C.e (x:C):E:=⟨x.key,x.f,x.a,x.cap,x.l⟩
structure Fil (w0:World) (b most:Nat) (rs:List (List Nat)) (w:World):Prop where
 ex:∃ D,Dsk D b most (frs rs) (frs rs).length w∧(∀ c,D c→w0.heap.size≤c)
 off:Off (fun _=>False) w0 w
theorem Lw.fil {w0:World} {p b most:Nat} {rs:List (List Nat)} {s:PS} {w:World} (h:Lw w0 p b most rs s w):Fil w0 b most rs w:=by
 obtain ⟨lb,D,S,h1,h2⟩:=h.ex
 obtain ⟨D0,k1,k2,-⟩:=h1.std.lg.dsk
 exact ⟨⟨D0,k1,fun c hc=>h2 c (.inl (k2 c hc))⟩,h.off⟩
theorem keep_all (n:Nat) (k:Int):keepN n n k=n:=by
 unfold keepN
 rw [Nat.sub_self,Nat.zero_add,Nat.mod_one,Nat.add_zero]
theorem fnew_any (m:Int) (w:World):Calls Tryz.prog 11 #[.int .i64 m] w fun e w'=>∃ b,e=.returned (.pointer (some ⟨b,0,none⟩))∧Fil w b (roomOf m) [] w':=by
 refine (dnew_any m w).mono ?_
 rintro e w' ⟨b,rfl,hb,k,o⟩
 exact ⟨b,rfl,⟨⟨fun c=>c=b,k,fun c hc=>by rw [show c=b from hc]; exact hb⟩,o⟩⟩
theorem fcrash_any {w0:World} {b most:Nat} {rs:List (List Nat)} {w:World} (h:Fil w0 b most rs w) (k:Int) :
  Calls Tryz.prog 14 #[.pointer (some ⟨b,0,none⟩),.int .i64 k] w fun e w'=>e=.returned (.tuple #[])∧Fil w0 b most rs w':=by
 obtain ⟨D,h1,h2⟩:=h.ex
 refine (dcrash_any h1 k).mono ?_
 rintro e w' ⟨rfl,k1,o1⟩
 rw [keep_all,List.take_length] at k1
 exact ⟨rfl,⟨⟨D,k1,h2⟩,((h.off.mono (fun _ _ h=>h.elim)).trans o1 (fun _ _ h=>h)).mono (fun i hi e=>by have:=h2 i e; omega)⟩⟩
theorem fopen_any {w0:World} {b most:Nat} {rs:List (List Nat)} {s:PS} {w:World} (h:Fil w0 b most rs w) (hi:Inv rs s) :
  Calls Tryz.prog 12 #[.pointer (some ⟨b,0,none⟩)] w fun e w'=>∃ p,e=.returned (.tuple #[.pointer (some ⟨p,0,none⟩),.int .i64 0])∧Lw w0 p b most rs s w':=by
 obtain ⟨D,h1,h2⟩:=h.ex
 refine (lopen_any (xs:=[]) (by rw [List.append_nil]; exact h1) tk_nil (by simp) (fun _=>rfl) hi.rec_).mono ?_
 rintro e w' ⟨q,er,rfl,op⟩
 rcases op.is with ⟨s',p,hr,rfl,rfl,⟨lb,D',S',hol,o,n1,n2⟩⟩ | ⟨hr,-⟩
 ·rw [hi.run] at hr
  obtain rfl:s=s':=Option.some.inj hr
  have hsz:=h.off.size
  refine ⟨p,rfl,⟨⟨lb,D',S',hol,fun c hc=>?_⟩,((h.off.mono (fun _ _ h=>h.elim)).trans o (fun _ _ h=>h)).mono (fun i hi e=>by have:=h2 i e; omega)⟩⟩
  rcases hc with hc | hc
  ·rcases n1 c hc with e | e
   ·exact h2 c e
   ·omega
  ·have:=n2 c hc
   omega
 ·rw [hi.run] at hr
  cases hr
theorem wget_any {w0:World} {p b most:Nat} {rs:List (List Nat)} {s:PS} {w:World} (h:Lw w0 p b most rs s w) (key:ByteArray) (hk:key.size≤9223372036854775807) :
  Calls Tryz.prog 26 #[.pointer (some ⟨p,0,none⟩),.string key] w fun e w'=>∃ (f:Nat→Int) (a:Option Addr) (c:Nat) (l:List V),e=.returned (.tuple #[.agg #[.int .i64 (f 0),.int .i64 (f 1),.int .i64 (f 2),.int .i64 (f 3),.int .i64 (f 4),.int .i64 (f 5),.int .i64 (f 6),.int .i64 (f 7),.slice a l.length c],.bool (fndG K.key key s.1).isSome])∧f=(getK s.1 key).f∧cont l=(getK s.1 key).l∧Row w' a c l∧Far w.heap.size a l∧Off (fun _=>False) w w':=by
 obtain ⟨lb,D,S,h1,h2⟩:=h.ex
 refine (lget_any h1.cor key hk).mono ?_
 rintro e w' h
 exact h
def awK:K:=(⟨⟨#[107]⟩,withV zer 0 1,[dot1 0 120]⟩:K)
theorem aw_putK:putK ([],[]) 0 ⟨#[107]⟩ zer [120] false=awK:=by
 obtain ⟨-,h2,h3⟩:=put_one (n:=0) (by decide) 120
 have hz:getK ([]:List K) ⟨#[107]⟩=⟨⟨#[107]⟩,zer,[]⟩:=rfl
 unfold putK
 simp only [hz]
 rw [h2,h3]
 rfl
theorem aw_putC:putC ([],[]) 0 ⟨#[107]⟩ zer [120] false=0:=by
 obtain ⟨h1,-,-⟩:=put_one (n:=0) (by decide) 120
 have hz:getK ([]:List K) ⟨#[107]⟩=⟨⟨#[107]⟩,zer,[]⟩:=rfl
 unfold putC
 simp only [hz]
 rw [h1]
 rfl
theorem aw_okK:OkK awK:=by
 rw [← aw_putK]
 exact put_okK OkP.nil nrm_zer (by simp) (by simp) aw_putC
theorem aw_len:(enc ⟨1,0,awK⟩).length≤900:=by decide +kernel
theorem aw_putA:putA 1000 [] ([],[]) 0 ⟨#[107]⟩ zer [120] false=⟨0,[enc ⟨1,0,awK⟩],([awK],[])⟩:=by
 have hd:=put_do OkP.nil (by rw [aw_putK]; exact aw_okK) aw_putC
 rw [aw_putK] at hd
 have hl:=aw_len
 have e0:layE 1000 [] ([],[]) (enc ⟨1,0,awK⟩)=0:=by
  unfold layE
  rw [if_pos (by simp [frs]; omega)]
 have e1:layL 1000 [] ([],[]) (enc ⟨1,0,awK⟩)=[enc ⟨1,0,awK⟩]:=by
  unfold layL
  rw [if_pos (by simp [frs]; omega)]
  rfl
 unfold putA
 rw [if_pos aw_putC,aw_putK]
 unfold chA chE chL chS chE
 rw [e0,e1,if_pos rfl,hd]
 rfl
theorem aw_get:getK [awK] ⟨#[107]⟩=awK∧(fndG K.key ⟨#[107]⟩ [awK]).isSome=true:=⟨rfl,rfl⟩
theorem one_cont {l:List V} {x:A} (h:cont l=[x]):∃ v:V,l=[v]∧v.abs=x:=by
 match l,h with
 | [v],h=>exact ⟨v,rfl,by simpa [cont] using h⟩
set_option maxRecDepth 100000 in
set_option maxHeartbeats 2000000 in
theorem awake_any (w:World):Calls Tryz.prog 10 #[] w fun e w'=>e=.returned (.bool true)∧Off (fun _=>False) w w':=by
 have hq:=eql_sto
 have hcv:=fun (w:World) (C:Array Value) (n c:Nat)=>Lib.run_convert_bytes_const (P:=Tryz.prog) w 44 5 C n c Tryz.underlying44 Tryz.underlying5
 go_enter Tryz.func10,Tryz.ntmps10
 go_wp2_with fail
 refine (fnew_any 1000 w).mono ?_
 rintro e w1 ⟨b,rfl,fl⟩
 rw [show roomOf 1000=1000 from rfl] at fl
 have HF:Hid _:=fl
 clear fl
 go_wp2_with fail
 refine (fopen_any HF.out Inv.nil).mono ?_
 rintro e w2 ⟨p,rfl,lw⟩
 have HL:Hid _:=lw
 clear lw
 have HPUT:Hid (Calls Tryz.prog 22 #[.pointer (some ⟨p,0,none⟩),.int .i64 0,.string ⟨#[107]⟩,.agg #[.int .i64 0,.int .i64 0,.int .i64 0,.int .i64 0,.int .i64 0,.int .i64 0,.int .i64 0,.int .i64 0],.slice (some ⟨w2.heap.size,0,none⟩) 1 1,.bool false] (w2.alloc (.cells #[.int .u8 120] 5 (1,2))) fun e w'=>∃ (f:Nat→Int) (a:Option Addr) (c:Nat) (l:List V),e=.returned (.tuple #[.agg #[.int .i64 (f 0),.int .i64 (f 1),.int .i64 (f 2),.int .i64 (f 3),.int .i64 (f 4),.int .i64 (f 5),.int .i64 (f 6),.int .i64 (f 7),.slice a l.length c],.int .i64 0])∧Lw w p b 1000 [enc ⟨1,0,awK⟩] ([awK],[]) w'):=by
  show Calls _ _ _ _ _
  have OA:Off (fun _=>False) w2 (w2.alloc (.cells #[.int .u8 120] 5 (1,2))):=(Off.refl _ w2).alloc _
  obtain ⟨lb,D,S,h1,h2⟩:=(HL.out.free OA).ex
  have hs:=src_mark w2 120 120 rfl (1,2)
  refine (lput_any h1 0 (by decide) ⟨#[107]⟩ (by decide) zer nrm_zer (some ⟨w2.heap.size,0,none⟩) 1 [120] false hs (by simp) (by simp)).mono ?_
  rw [aw_putA]
  rintro e w' ⟨f,a,c,l,rfl,-,-,-,-,D',S',hol,mv⟩
  exact ⟨f,a,c,l,rfl,Lw.mov h2 (HL.out.free OA).off hol mv⟩
 go_wp2_with fail
 refine Calls.mono HPUT.out ?_
 rintro e w3 ⟨f3,a3,c3,l3,rfl,lw⟩
 have HL3:Hid _:=lw
 clear lw HPUT
 go_wp2_with fail
 refine (fcrash_any HL3.out.fil 0).mono ?_
 rintro e w4 ⟨rfl,fl⟩
 have HF4:Hid _:=fl
 clear fl
 go_wp2_with fail
 refine (fopen_any HF4.out HL3.out.inv).mono ?_
 rintro e w5 ⟨p5,rfl,lw⟩
 have HL5:Hid _:=lw
 clear lw
 go_wp2_with fail
 refine (wget_any HL5.out ⟨#[107]⟩ (by decide)).mono ?_
 rw [aw_get.1,aw_get.2]
 rintro e w6 ⟨f,a,c,l,rfl,hf,hl,row,far,o6⟩
 obtain ⟨v,rfl,hv⟩:=one_cont hl
 obtain ⟨bb,off,rfl,k,-⟩:=row.at_ 0 v rfl
 rw [Nat.zero_mul,Nat.add_zero] at k
 have hn:v.node=0:=congrArg A.node hv
 have hm:v.num=1:=congrArg A.num hv
 have kc0:=k.c0
 have kc1:=k.c1
 rw [hn] at kc0
 rw [hm] at kc1
 have HO6:Hid (Off (fun _=>False) w w6):=HL5.out.off.trans o6 (fun _ _ h=>h)
 clear hf hl hv row far o6 k hn hm
 go_upto_region 9 with fail
 have CQ:=Cel.new w6 47 #[.int .i64 (f 0),.int .i64 (f 1),.int .i64 (f 2),.int .i64 (f 3),.int .i64 (f 4),.int .i64 (f 5),.int .i64 (f 6),.int .i64 (f 7),.slice (some ⟨bb,off,none⟩) 1 c]
 have OA:Off (fun _=>False) w6 (w6.alloc (.cells #[.int .i64 (f 0),.int .i64 (f 1),.int .i64 (f 2),.int .i64 (f 3),.int .i64 (f 4),.int .i64 (f 5),.int .i64 (f 6),.int .i64 (f 7),.slice (some ⟨bb,off,none⟩) 1 c] 47)):=(Off.refl _ w6).alloc _
 have q0:(w6.alloc (.cells #[.int .i64 (f 0),.int .i64 (f 1),.int .i64 (f 2),.int .i64 (f 3),.int .i64 (f 4),.int .i64 (f 5),.int .i64 (f 6),.int .i64 (f 7),.slice (some ⟨bb,off,none⟩) 1 c] 47)).cell? ⟨bb,off,none⟩=some (.int .i64 0):=by
  rw [← kc0]
  exact World.cell?_of_block (a:=⟨bb,off,none⟩) (OA.block bb (cell_lt kc0) (fun h=>h))
 have q1:(w6.alloc (.cells #[.int .i64 (f 0),.int .i64 (f 1),.int .i64 (f 2),.int .i64 (f 3),.int .i64 (f 4),.int .i64 (f 5),.int .i64 (f 6),.int .i64 (f 7),.slice (some ⟨bb,off,none⟩) 1 c] 47)).cell? ⟨bb,off + 1,none⟩=some (.int .i64 1):=by
  rw [← kc1]
  exact World.cell?_of_block (a:=⟨bb,off + 1,none⟩) (OA.block bb (cell_lt kc0) (fun h=>h))
 have c8:(w6.alloc (.cells #[.int .i64 (f 0),.int .i64 (f 1),.int .i64 (f 2),.int .i64 (f 3),.int .i64 (f 4),.int .i64 (f 5),.int .i64 (f 6),.int .i64 (f 7),.slice (some ⟨bb,off,none⟩) 1 c] 47)).cell? ⟨w6.heap.size,8,none⟩=some (.slice (some ⟨bb,off,none⟩) 1 c):=CQ.cell 8
 have HO7:Hid _:=HO6.out.trans OA (fun _ _ h=>h)
 generalize hv:w6.alloc (.cells #[.int .i64 (f 0),.int .i64 (f 1),.int .i64 (f 2),.int .i64 (f 3),.int .i64 (f 4),.int .i64 (f 5),.int .i64 (f 6),.int .i64 (f 7),.slice (some ⟨bb,off,none⟩) 1 c] 47)=V at q0 q1 c8 HO7 ⊢
 generalize hqq:w6.heap.size=q at c8 ⊢
 clear hv hqq CQ OA kc0 kc1
 go_wp2_with fail
 go_ret
 exact ⟨rfl,HO7.out⟩
end Go.Proofs.YthjbnpaghiojlaaGreat

namespace Go.Proofs.YthjbnpaghiojlaaGreat
open Go.RowKit
def hitB (f g:Nat→Int) (node:Int) (data:List Nat) (dead:Bool) (z:A):Bool:=decide (z.node=node) && (!coversB f z.node z.num && (!coversB g z.node z.num && (decide (z.data=data) && (z.dead == dead))))
theorem count_one {p:A→Bool} {n:A}:∀ {l:List A},Srt l→n ∈ l→p n=true→(∀ z ∈ l,p z=true→z=n)→l.countP p=1
 | [],_,h,_,_=>by simp at h
 | x :: l,hs,h,hp,hu=>by
  obtain ⟨h1,h2⟩:=List.pairwise_cons.1 hs
  rcases List.mem_cons.1 h with rfl | h
  ·rw [List.countP_cons_of_pos hp]
   have e:l.countP p=0:=by
    rw [List.countP_eq_zero]
    intro z hz hz2
    have e2:=hu z (List.mem_cons_of_mem _ hz) hz2
    subst e2
    exact LT.irr z (h1 z hz)
   omega
  ·have hx:¬ p x=true:=fun e=>by
    have e2:=hu x List.mem_cons_self e
    subst e2
    exact LT.irr x (h1 x h)
   rw [List.countP_cons_of_neg hx]
   exact count_one h2 h hp (fun z hz=>hu z (List.mem_cons_of_mem _ hz))
structure NewP (f g:Nat→Int) (node:Int) (data:List Nat) (dead:Bool) (k:List A):Prop where
 each:∀ z ∈ k,(z.node=node∧coversB f z.node z.num=false∧coversB g z.node z.num=false∧z.data=data∧z.dead=dead)∨coversB f z.node z.num=true
 one:k.countP (hitB f g node data dead)=1
theorem put_new {f g:Nat→Int} {l:List A} {node:Int} {data:List Nat} {dead:Bool} (h1:MayP f l) (h:putE f g l node data dead=0):NewP f g node data dead (putL f g l node data dead)∧leqS f (putV f g l node data dead) l (putL f g l node data dead)=true:=by
 obtain ⟨n,n1,n2,n3,c1,c2,c3,c4,c5,-,c7,-⟩:=put_tells h1 h
 have each:∀ z ∈ putL f g l node data dead,(z.node=node∧coversB f z.node z.num=false∧coversB g z.node z.num=false∧z.data=data∧z.dead=dead)∨coversB f z.node z.num=true:=fun z hz=>by
  rcases (c7 z).1 hz with rfl | ⟨hz,-⟩
  ·exact .inl ⟨n1,c1,c2,n2,n3⟩
  ·exact .inr (h1.cov z hz).1
 refine ⟨⟨each,count_one (may_srt c4) ((c7 n).2 (.inl rfl)) ?_ (fun z hz hh=>?_)⟩,put_leq h1 c4 c5 c1 c3 c7⟩
 ·unfold hitB
  rw [c1,c2,n2,n3,decide_eq_true n1]
  simp
 ·rcases (c7 z).1 hz with e | ⟨hz2,-⟩
  ·exact e
  ·have hc:=(h1.cov z hz2).1
   unfold hitB at hh
   rw [hc] at hh
   simp at hh
theorem hit_yes {f g:Nat→Int} {node:Int} {data:List Nat} {dead:Bool} {z:A} (h:z.node=node∧coversB f z.node z.num=false∧coversB g z.node z.num=false∧z.data=data∧z.dead=dead):hitB f g node data dead z=true:=by
 obtain ⟨h1,h2,h3,h4,h5⟩:=h
 unfold hitB
 rw [h2,h3,h4,h5,decide_eq_true h1]
 simp
theorem hit_no {f g:Nat→Int} {node:Int} {data:List Nat} {dead:Bool} {z:A} (h:coversB f z.node z.num=true):hitB f g node data dead z=false:=by
 unfold hitB
 rw [h]
 simp
end Go.Proofs.YthjbnpaghiojlaaGreat

namespace Go.Proofs.YthjbnpaghiojlaaGreat
open Go.RowKit
set_option maxRecDepth 100000 in
set_option maxHeartbeats 2000000 in
theorem gleq_any (f g:Nat→Int) (a b:Option Addr) (ca cb:Nat) (l k:List V) (w:World) (h1:Row w a ca l) (h2:Row w b cb k) :
  Calls Tryz.prog 36 #[.agg #[.int .i64 (f 0),.int .i64 (f 1),.int .i64 (f 2),.int .i64 (f 3),.int .i64 (f 4),.int .i64 (f 5),.int .i64 (f 6),.int .i64 (f 7),.slice a l.length ca],.agg #[.int .i64 (g 0),.int .i64 (g 1),.int .i64 (g 2),.int .i64 (g 3),.int .i64 (g 4),.int .i64 (g 5),.int .i64 (g 6),.int .i64 (g 7),.slice b k.length cb]] w fun e w'=>e=.returned (.bool (leqS f g (cont l) (cont k)))∧Off (fun _=>False) w w':=by
 obtain ⟨W,hW⟩:∃ W,W=((w.alloc (.cells #[.int .i64 (f 0),.int .i64 (f 1),.int .i64 (f 2),.int .i64 (f 3),.int .i64 (f 4),.int .i64 (f 5),.int .i64 (f 6),.int .i64 (f 7),.slice a l.length ca] 47)).alloc (.cells #[.int .i64 (g 0),.int .i64 (g 1),.int .i64 (g 2),.int .i64 (g 3),.int .i64 (g 4),.int .i64 (g 5),.int .i64 (g 6),.int .i64 (g 7),.slice b k.length cb] 47)):=⟨_,rfl⟩
 have O:Off (fun _=>False) w W:=by rw [hW]; exact ((Off.refl _ w).alloc _).alloc _
 have C0:Cel w.heap.size 47 #[.int .i64 (f 0),.int .i64 (f 1),.int .i64 (f 2),.int .i64 (f 3),.int .i64 (f 4),.int .i64 (f 5),.int .i64 (f 6),.int .i64 (f 7),.slice a l.length ca] W:=by rw [hW]; exact (Cel.new w _ _).alloc _
 have C1:Cel (w.heap.size + 1) 47 #[.int .i64 (g 0),.int .i64 (g 1),.int .i64 (g 2),.int .i64 (g 3),.int .i64 (g 4),.int .i64 (g 5),.int .i64 (g 6),.int .i64 (g 7),.slice b k.length cb] W:=by rw [hW]; exact Cel.new1 w _ _ _
 have HW:Hid _:=hW.symm
 have H0:Hid _:=C0
 have H1:Hid _:=C1
 have HO:Hid _:=O
 have HRA:Hid _:=h1.off O
 have HRB:Hid _:=h2.off O
 clear hW C0 C1 O h1 h2
 cases m1:mayS f (cont l)
 ·have HRES:Hid (leqS f g (cont l) (cont k)=false):=leq_no (.inl m1)
  go_enter Tryz.func36,Tryz.ntmps36
  go_upto_region 1 with fail
  rw [HW.out]
  generalize hq1:w.heap.size + 1=q1 at H1 ⊢
  generalize hq0:w.heap.size=q0 at H0 ⊢
  clear hq0 hq1
  refine wp_region_held_drew (S:=fun w'=>Off (fun _=>False) W w') (by kernel_rfl) ((Off.refl _ W).drew) (fun hS=>?_)
  refine take_r 0 5 (.agg #[.int .i64 (f 0),.int .i64 (f 1),.int .i64 (f 2),.int .i64 (f 3),.int .i64 (f 4),.int .i64 (f 5),.int .i64 (f 6),.int .i64 (f 7),.slice a l.length ca]) rfl (Or.inl ⟨by rfl,fun w' hw'=>by obtain ⟨x0,x1,x2,x3,x4,x5,x6,x7,x8⟩:=cel9 (H0.out.off hw' (fun h=>h)); go_simp⟩) hS ?_
  simp only [Act.put,lsA,lsZ,lsS]
  refine wpAnyH_ready (rs:=[1]) (by kernel_rfl) (by simp) ?_
  refine AllReadyH.cons rfl (fun K' hK'=>?_) AllReadyH.nil
  go_simp
  refine (gmay_any f a ca l _ (HRA.out.off hS)).mono ?_
  rw [m1]
  rintro e v1 ⟨rfl,o1⟩
  have hS1:=hS.trans o1 (fun _ _ h=>h)
  refine hK'.out _ _ hS1 (fun hS=>?_)
  clear hK' K' hS1
  refine take_q 2 7 (.bool false) hS ?_
  simp only [Act.put,lsA,lsZ,lsS]
  refine take_r 3 8 (undef) rfl (Or.inr ⟨by rfl,rfl⟩) hS ?_
  simp only [Act.put,lsA,lsZ,lsS]
  refine take_r 4 9 (undef) rfl (Or.inr ⟨by rfl,rfl⟩) hS ?_
  simp only [Act.put,lsA,lsZ,lsS]
  refine take_q 5 10 (.bool false) hS ?_
  simp only [Act.put,lsA,lsZ,lsS]
  refine take_q 6 11 (.bool false) hS ?_
  simp only [Act.put,lsA,lsZ,lsS]
  refine take_r 7 12 (undef) rfl (Or.inr ⟨by rfl,rfl⟩) hS ?_
  simp only [Act.put,lsA,lsZ,lsS]
  refine take_r 8 13 (undef) rfl (Or.inr ⟨by rfl,rfl⟩) hS ?_
  simp only [Act.put,lsA,lsZ,lsS]
  refine take_r 9 14 (undef) rfl (Or.inr ⟨by rfl,rfl⟩) hS ?_
  simp only [Act.put,lsA,lsZ,lsS]
  refine take_r 10 15 (undef) rfl (Or.inr ⟨by rfl,rfl⟩) hS ?_
  simp only [Act.put,lsA,lsZ,lsS]
  refine take_r 11 16 (undef) rfl (Or.inr ⟨by rfl,rfl⟩) hS ?_
  simp only [Act.put,lsA,lsZ,lsS]
  refine take_q 12 17 (.bool false) hS ?_
  simp only [Act.put,lsA,lsZ,lsS]
  refine take_q 13 4 (.bool false) hS ?_
  simp only [Act.put,lsA,lsZ,lsS]
  refine wpAnyH_done (by kernel_rfl) ?_ _
  go_wp2_with fail
  go_ret
  exact ⟨by rw [HRES.out]; rfl,HO.out.trans hS (fun _ _ h=>h)⟩
 cases m2:mayS g (cont k)
 ·have HRES:Hid (leqS f g (cont l) (cont k)=false):=leq_no (.inr m2)
  go_enter Tryz.func36,Tryz.ntmps36
  go_upto_region 1 with fail
  rw [HW.out]
  generalize hq1:w.heap.size + 1=q1 at H1 ⊢
  generalize hq0:w.heap.size=q0 at H0 ⊢
  clear hq0 hq1
  refine wp_region_held_drew (S:=fun w'=>Off (fun _=>False) W w') (by kernel_rfl) ((Off.refl _ W).drew) (fun hS=>?_)
  refine take_r 0 5 (.agg #[.int .i64 (f 0),.int .i64 (f 1),.int .i64 (f 2),.int .i64 (f 3),.int .i64 (f 4),.int .i64 (f 5),.int .i64 (f 6),.int .i64 (f 7),.slice a l.length ca]) rfl (Or.inl ⟨by rfl,fun w' hw'=>by obtain ⟨x0,x1,x2,x3,x4,x5,x6,x7,x8⟩:=cel9 (H0.out.off hw' (fun h=>h)); go_simp⟩) hS ?_
  simp only [Act.put,lsA,lsZ,lsS]
  refine wpAnyH_ready (rs:=[1]) (by kernel_rfl) (by simp) ?_
  refine AllReadyH.cons rfl (fun K' hK'=>?_) AllReadyH.nil
  go_simp
  refine (gmay_any f a ca l _ (HRA.out.off hS)).mono ?_
  rw [m1]
  rintro e v1 ⟨rfl,o1⟩
  have hS1:=hS.trans o1 (fun _ _ h=>h)
  refine hK'.out _ _ hS1 (fun hS=>?_)
  clear hK' K' hS1
  refine take_q 2 7 (.bool true) hS ?_
  simp only [Act.put,lsA,lsZ,lsS]
  refine take_r 3 8 (.agg #[.int .i64 (g 0),.int .i64 (g 1),.int .i64 (g 2),.int .i64 (g 3),.int .i64 (g 4),.int .i64 (g 5),.int .i64 (g 6),.int .i64 (g 7),.slice b k.length cb]) rfl (Or.inl ⟨by rfl,fun w' hw'=>by obtain ⟨x0,x1,x2,x3,x4,x5,x6,x7,x8⟩:=cel9 (H1.out.off hw' (fun h=>h)); go_simp⟩) hS ?_
  simp only [Act.put,lsA,lsZ,lsS]
  refine wpAnyH_ready (rs:=[4]) (by kernel_rfl) (by simp) ?_
  refine AllReadyH.cons rfl (fun K' hK'=>?_) AllReadyH.nil
  go_simp
  refine (gmay_any g b cb k _ (HRB.out.off hS)).mono ?_
  rw [m2]
  rintro e v2 ⟨rfl,o2⟩
  have hS1:=hS.trans o2 (fun _ _ h=>h)
  refine hK'.out _ _ hS1 (fun hS=>?_)
  clear hK' K' hS1
  refine take_q 5 10 (.bool false) hS ?_
  simp only [Act.put,lsA,lsZ,lsS]
  refine take_q 6 11 (.bool false) hS ?_
  simp only [Act.put,lsA,lsZ,lsS]
  refine take_r 7 12 (undef) rfl (Or.inr ⟨by rfl,rfl⟩) hS ?_
  simp only [Act.put,lsA,lsZ,lsS]
  refine take_r 8 13 (undef) rfl (Or.inr ⟨by rfl,rfl⟩) hS ?_
  simp only [Act.put,lsA,lsZ,lsS]
  refine take_r 9 14 (undef) rfl (Or.inr ⟨by rfl,rfl⟩) hS ?_
  simp only [Act.put,lsA,lsZ,lsS]
  refine take_r 10 15 (undef) rfl (Or.inr ⟨by rfl,rfl⟩) hS ?_
  simp only [Act.put,lsA,lsZ,lsS]
  refine take_r 11 16 (undef) rfl (Or.inr ⟨by rfl,rfl⟩) hS ?_
  simp only [Act.put,lsA,lsZ,lsS]
  refine take_q 12 17 (.bool false) hS ?_
  simp only [Act.put,lsA,lsZ,lsS]
  refine take_q 13 4 (.bool false) hS ?_
  simp only [Act.put,lsA,lsZ,lsS]
  refine wpAnyH_done (by kernel_rfl) ?_ _
  go_wp2_with fail
  go_ret
  exact ⟨by rw [HRES.out]; rfl,HO.out.trans hS (fun _ _ h=>h)⟩
 cases m3:sameS (joinV f g (cont l) (cont k)) g (joinL f g (cont l) (cont k)) (cont k)
 ·have HRES:Hid (leqS f g (cont l) (cont k)=false):=by show _=_; simp [leqS,m1,m2,m3]
  go_enter Tryz.func36,Tryz.ntmps36
  go_upto_region 1 with fail
  rw [HW.out]
  generalize hq1:w.heap.size + 1=q1 at H1 ⊢
  generalize hq0:w.heap.size=q0 at H0 ⊢
  clear hq0 hq1
  refine wp_region_held_drew (S:=fun w'=>Off (fun _=>False) W w') (by kernel_rfl) ((Off.refl _ W).drew) (fun hS=>?_)
  refine take_r 0 5 (.agg #[.int .i64 (f 0),.int .i64 (f 1),.int .i64 (f 2),.int .i64 (f 3),.int .i64 (f 4),.int .i64 (f 5),.int .i64 (f 6),.int .i64 (f 7),.slice a l.length ca]) rfl (Or.inl ⟨by rfl,fun w' hw'=>by obtain ⟨x0,x1,x2,x3,x4,x5,x6,x7,x8⟩:=cel9 (H0.out.off hw' (fun h=>h)); go_simp⟩) hS ?_
  simp only [Act.put,lsA,lsZ,lsS]
  refine wpAnyH_ready (rs:=[1]) (by kernel_rfl) (by simp) ?_
  refine AllReadyH.cons rfl (fun K' hK'=>?_) AllReadyH.nil
  go_simp
  refine (gmay_any f a ca l _ (HRA.out.off hS)).mono ?_
  rw [m1]
  rintro e v1 ⟨rfl,o1⟩
  have hS1:=hS.trans o1 (fun _ _ h=>h)
  refine hK'.out _ _ hS1 (fun hS=>?_)
  clear hK' K' hS1
  refine take_q 2 7 (.bool true) hS ?_
  simp only [Act.put,lsA,lsZ,lsS]
  refine take_r 3 8 (.agg #[.int .i64 (g 0),.int .i64 (g 1),.int .i64 (g 2),.int .i64 (g 3),.int .i64 (g 4),.int .i64 (g 5),.int .i64 (g 6),.int .i64 (g 7),.slice b k.length cb]) rfl (Or.inl ⟨by rfl,fun w' hw'=>by obtain ⟨x0,x1,x2,x3,x4,x5,x6,x7,x8⟩:=cel9 (H1.out.off hw' (fun h=>h)); go_simp⟩) hS ?_
  simp only [Act.put,lsA,lsZ,lsS]
  refine wpAnyH_ready (rs:=[4]) (by kernel_rfl) (by simp) ?_
  refine AllReadyH.cons rfl (fun K' hK'=>?_) AllReadyH.nil
  go_simp
  refine (gmay_any g b cb k _ (HRB.out.off hS)).mono ?_
  rw [m2]
  rintro e v2 ⟨rfl,o2⟩
  have hS1:=hS.trans o2 (fun _ _ h=>h)
  refine hK'.out _ _ hS1 (fun hS=>?_)
  clear hK' K' hS1
  refine take_q 5 10 (.bool true) hS ?_
  simp only [Act.put,lsA,lsZ,lsS]
  refine take_q 6 11 (.bool true) hS ?_
  simp only [Act.put,lsA,lsZ,lsS]
  refine take_r 7 12 (.agg #[.int .i64 (f 0),.int .i64 (f 1),.int .i64 (f 2),.int .i64 (f 3),.int .i64 (f 4),.int .i64 (f 5),.int .i64 (f 6),.int .i64 (f 7),.slice a l.length ca]) rfl (Or.inl ⟨by rfl,fun w' hw'=>by obtain ⟨x0,x1,x2,x3,x4,x5,x6,x7,x8⟩:=cel9 (H0.out.off hw' (fun h=>h)); go_simp⟩) hS ?_
  simp only [Act.put,lsA,lsZ,lsS]
  refine take_r 8 13 (.agg #[.int .i64 (g 0),.int .i64 (g 1),.int .i64 (g 2),.int .i64 (g 3),.int .i64 (g 4),.int .i64 (g 5),.int .i64 (g 6),.int .i64 (g 7),.slice b k.length cb]) rfl (Or.inl ⟨by rfl,fun w' hw'=>by obtain ⟨x0,x1,x2,x3,x4,x5,x6,x7,x8⟩:=cel9 (H1.out.off hw' (fun h=>h)); go_simp⟩) hS ?_
  simp only [Act.put,lsA,lsZ,lsS]
  refine take_r 10 15 (.agg #[.int .i64 (g 0),.int .i64 (g 1),.int .i64 (g 2),.int .i64 (g 3),.int .i64 (g 4),.int .i64 (g 5),.int .i64 (g 6),.int .i64 (g 7),.slice b k.length cb]) rfl (Or.inl ⟨by rfl,fun w' hw'=>by obtain ⟨x0,x1,x2,x3,x4,x5,x6,x7,x8⟩:=cel9 (H1.out.off hw' (fun h=>h)); go_simp⟩) hS ?_
  simp only [Act.put,lsA,lsZ,lsS]
  refine wpAnyH_ready (rs:=[9]) (by kernel_rfl) (by simp) ?_
  refine AllReadyH.cons rfl (fun K' hK'=>?_) AllReadyH.nil
  go_simp
  refine (gjoin_any f g a b ca cb l k _ (HRA.out.off hS) (HRB.out.off hS)).mono ?_
  rintro e v3 ⟨hg,ag,cg,lg,rfl,hhg,hlg,RG,o3⟩
  have hS1:=hS.trans o3 (fun _ _ h=>h)
  refine hK'.out _ _ hS1 (fun hS=>?_)
  clear hK' K' hS1
  have HGH:Hid _:=hhg
  have HGL:Hid _:=hlg
  clear hhg hlg
  refine wpAnyH_ready (rs:=[11]) (by kernel_rfl) (by simp) ?_
  refine AllReadyH.cons rfl (fun K' hK'=>?_) AllReadyH.nil
  go_simp
  refine (gsame_any hg g ag b cg cb lg k _ RG (HRB.out.off hS)).mono ?_
  rw [show sameS hg g (cont lg) (cont k)=false by rw [HGH.out,HGL.out]; exact m3]
  rintro e v4 ⟨rfl,o4⟩
  have hS1:=hS.trans o4 (fun _ _ h=>h)
  refine hK'.out _ _ hS1 (fun hS=>?_)
  clear hK' K' hS1
  refine take_q 12 17 (.bool false) hS ?_
  simp only [Act.put,lsA,lsZ,lsS]
  refine take_q 13 4 (.bool false) hS ?_
  simp only [Act.put,lsA,lsZ,lsS]
  refine wpAnyH_done (by kernel_rfl) ?_ _
  go_wp2_with fail
  go_ret
  exact ⟨by rw [HRES.out]; rfl,HO.out.trans hS (fun _ _ h=>h)⟩
 ·have HRES:Hid (leqS f g (cont l) (cont k)=true):=by show _=_; simp [leqS,m1,m2,m3]
  go_enter Tryz.func36,Tryz.ntmps36
  go_upto_region 1 with fail
  rw [HW.out]
  generalize hq1:w.heap.size + 1=q1 at H1 ⊢
  generalize hq0:w.heap.size=q0 at H0 ⊢
  clear hq0 hq1
  refine wp_region_held_drew (S:=fun w'=>Off (fun _=>False) W w') (by kernel_rfl) ((Off.refl _ W).drew) (fun hS=>?_)
  refine take_r 0 5 (.agg #[.int .i64 (f 0),.int .i64 (f 1),.int .i64 (f 2),.int .i64 (f 3),.int .i64 (f 4),.int .i64 (f 5),.int .i64 (f 6),.int .i64 (f 7),.slice a l.length ca]) rfl (Or.inl ⟨by rfl,fun w' hw'=>by obtain ⟨x0,x1,x2,x3,x4,x5,x6,x7,x8⟩:=cel9 (H0.out.off hw' (fun h=>h)); go_simp⟩) hS ?_
  simp only [Act.put,lsA,lsZ,lsS]
  refine wpAnyH_ready (rs:=[1]) (by kernel_rfl) (by simp) ?_
  refine AllReadyH.cons rfl (fun K' hK'=>?_) AllReadyH.nil
  go_simp
  refine (gmay_any f a ca l _ (HRA.out.off hS)).mono ?_
  rw [m1]
  rintro e v1 ⟨rfl,o1⟩
  have hS1:=hS.trans o1 (fun _ _ h=>h)
  refine hK'.out _ _ hS1 (fun hS=>?_)
  clear hK' K' hS1
  refine take_q 2 7 (.bool true) hS ?_
  simp only [Act.put,lsA,lsZ,lsS]
  refine take_r 3 8 (.agg #[.int .i64 (g 0),.int .i64 (g 1),.int .i64 (g 2),.int .i64 (g 3),.int .i64 (g 4),.int .i64 (g 5),.int .i64 (g 6),.int .i64 (g 7),.slice b k.length cb]) rfl (Or.inl ⟨by rfl,fun w' hw'=>by obtain ⟨x0,x1,x2,x3,x4,x5,x6,x7,x8⟩:=cel9 (H1.out.off hw' (fun h=>h)); go_simp⟩) hS ?_
  simp only [Act.put,lsA,lsZ,lsS]
  refine wpAnyH_ready (rs:=[4]) (by kernel_rfl) (by simp) ?_
  refine AllReadyH.cons rfl (fun K' hK'=>?_) AllReadyH.nil
  go_simp
  refine (gmay_any g b cb k _ (HRB.out.off hS)).mono ?_
  rw [m2]
  rintro e v2 ⟨rfl,o2⟩
  have hS1:=hS.trans o2 (fun _ _ h=>h)
  refine hK'.out _ _ hS1 (fun hS=>?_)
  clear hK' K' hS1
  refine take_q 5 10 (.bool true) hS ?_
  simp only [Act.put,lsA,lsZ,lsS]
  refine take_q 6 11 (.bool true) hS ?_
  simp only [Act.put,lsA,lsZ,lsS]
  refine take_r 7 12 (.agg #[.int .i64 (f 0),.int .i64 (f 1),.int .i64 (f 2),.int .i64 (f 3),.int .i64 (f 4),.int .i64 (f 5),.int .i64 (f 6),.int .i64 (f 7),.slice a l.length ca]) rfl (Or.inl ⟨by rfl,fun w' hw'=>by obtain ⟨x0,x1,x2,x3,x4,x5,x6,x7,x8⟩:=cel9 (H0.out.off hw' (fun h=>h)); go_simp⟩) hS ?_
  simp only [Act.put,lsA,lsZ,lsS]
  refine take_r 8 13 (.agg #[.int .i64 (g 0),.int .i64 (g 1),.int .i64 (g 2),.int .i64 (g 3),.int .i64 (g 4),.int .i64 (g 5),.int .i64 (g 6),.int .i64 (g 7),.slice b k.length cb]) rfl (Or.inl ⟨by rfl,fun w' hw'=>by obtain ⟨x0,x1,x2,x3,x4,x5,x6,x7,x8⟩:=cel9 (H1.out.off hw' (fun h=>h)); go_simp⟩) hS ?_
  simp only [Act.put,lsA,lsZ,lsS]
  refine take_r 10 15 (.agg #[.int .i64 (g 0),.int .i64 (g 1),.int .i64 (g 2),.int .i64 (g 3),.int .i64 (g 4),.int .i64 (g 5),.int .i64 (g 6),.int .i64 (g 7),.slice b k.length cb]) rfl (Or.inl ⟨by rfl,fun w' hw'=>by obtain ⟨x0,x1,x2,x3,x4,x5,x6,x7,x8⟩:=cel9 (H1.out.off hw' (fun h=>h)); go_simp⟩) hS ?_
  simp only [Act.put,lsA,lsZ,lsS]
  refine wpAnyH_ready (rs:=[9]) (by kernel_rfl) (by simp) ?_
  refine AllReadyH.cons rfl (fun K' hK'=>?_) AllReadyH.nil
  go_simp
  refine (gjoin_any f g a b ca cb l k _ (HRA.out.off hS) (HRB.out.off hS)).mono ?_
  rintro e v3 ⟨hg,ag,cg,lg,rfl,hhg,hlg,RG,o3⟩
  have hS1:=hS.trans o3 (fun _ _ h=>h)
  refine hK'.out _ _ hS1 (fun hS=>?_)
  clear hK' K' hS1
  have HGH:Hid _:=hhg
  have HGL:Hid _:=hlg
  clear hhg hlg
  refine wpAnyH_ready (rs:=[11]) (by kernel_rfl) (by simp) ?_
  refine AllReadyH.cons rfl (fun K' hK'=>?_) AllReadyH.nil
  go_simp
  refine (gsame_any hg g ag b cg cb lg k _ RG (HRB.out.off hS)).mono ?_
  rw [show sameS hg g (cont lg) (cont k)=true by rw [HGH.out,HGL.out]; exact m3]
  rintro e v4 ⟨rfl,o4⟩
  have hS1:=hS.trans o4 (fun _ _ h=>h)
  refine hK'.out _ _ hS1 (fun hS=>?_)
  clear hK' K' hS1
  refine take_q 12 17 (.bool true) hS ?_
  simp only [Act.put,lsA,lsZ,lsS]
  refine take_q 13 4 (.bool true) hS ?_
  simp only [Act.put,lsA,lsZ,lsS]
  refine wpAnyH_done (by kernel_rfl) ?_ _
  go_wp2_with fail
  go_ret
  exact ⟨by rw [HRES.out]; rfl,HO.out.trans hS (fun _ _ h=>h)⟩
end Go.Proofs.YthjbnpaghiojlaaGreat

namespace Go.Proofs.YthjbnpaghiojlaaGreat
open Go.RowKit
theorem putC_E {s:PS} {node:Int} {key:ByteArray} {g:Nat→Int} {data:List Nat} {dead:Bool} (h:putC s node key g data dead=0):putE (getK s.1 key).f g (getK s.1 key).l node data dead=0:=by
 unfold putC at h
 split at h
 ·omega
 ·split at h
  ·rename_i h2
   exact absurd h h2
  ·rename_i h2
   exact Decidable.of_not_not h2
theorem putA_ok {most:Nat} {rs:List (List Nat)} {s:PS} (ho:OkP s) {x:C} (hx:COk x):(putA most rs s x.node x.key x.g x.data x.dead).er=0→putC s x.node x.key x.g x.data x.dead=0∧(putA most rs s x.node x.key x.g x.data x.dead).s=(putG K.key (putK s x.node x.key x.g x.data x.dead) s.1,s.2):=by
 unfold putA
 split
 ·rename_i hc
  intro h
  refine ⟨hc,?_⟩
  have hd:=put_do ho (put_okK ho hx.g hx.len hx.lt hc) hc
  unfold chA chS at *
  simp only at h ⊢
  rw [if_pos h,hd]
  rfl
 ·rename_i hc
  intro h
  exact absurd h hc
set_option maxRecDepth 100000 in
set_option maxHeartbeats 3000000 in
theorem new_walk (a:Option Addr) (cap:Nat) (cs:List C) (w:World) (hE:Cas w a cap cs):Calls Tryz.prog 7 #[.slice a cs.length cap] w fun e w'=>e=.returned (.bool true)∧Off (fun _=>False) w w':=by
 have hnot:=not_any
 have hq:=eql_sto
 have hbb:cs.length≤9223372036854775807:=Nat.le_trans hE.len hE.bound
 have HE:Hid _:=hE
 clear hE
 go_enter Tryz.func7,Tryz.ntmps7
 go_wp2_with fail
 refine (light_any a cap cs w HE.out).mono ?_
 rintro e w1 ⟨bl,rfl,-,o1⟩
 have HO1:Hid _:=o1
 have HE1:Hid _:=HE.out.off o1
 clear o1
 cases bl
 ·go_wp2_with fail
  refine (awake_any _).mono ?_
  rintro e w2 ⟨rfl,o2⟩
  have HO2:Hid _:=HO1.out.trans o2 (fun _ _ h=>h)
  clear o2
  go_wp2_with fail
  go_ret
  exact ⟨rfl,HO2.out⟩
 ·go_wp2_with fail
  refine (fnew_any _ w1).mono ?_
  rintro e w2 ⟨b,rfl,fl⟩
  obtain ⟨most,hmost⟩:∃ k,Fil w1 b k [] w2:=⟨_,fl⟩
  have HF:Hid _:=hmost
  clear fl hmost
  go_wp2_with fail
  refine (fopen_any HF.out Inv.nil).mono ?_
  rintro e w3 ⟨p0,rfl,lw⟩
  have HL0:Hid _:=lw
  clear lw HF
  go_wp2_with fail
  go_loopw [4,37] (fun g y wr=>∃ (n p:Nat) (rs:List (List Nat)) (s:PS),g=.pointer (some ⟨p,0,none⟩)∧y=.int .i64 (n:Int)∧n≤cs.length∧Lw w1 p b most rs s wr) (fun _ y _=>(cs.length - intOf y).toNat)
  case atStart=>exact ⟨0,p0,[],([],[]),rfl,rfl,by omega,HL0.out⟩
  case round =>
   obtain ⟨n,p,rs,s,rfl,rfl,hn,lw⟩:=hrel
   have HL:Hid _:=lw
   clear lw
   by_cases hlt:n < cs.length
   ·have e1:decide ((n:Int) < (cs.length:Int))=true:=decide_eq_true (by omega)
    have e2:decide (n < cs.length)=true:=decide_eq_true hlt
    obtain ⟨x,hx⟩:∃ x,cs[n]?=some x:=⟨_,List.getElem?_eq_getElem hlt⟩
    obtain ⟨bx,ox,rfl,kx,rx,sx⟩:=(HE1.out.off HL.out.off).at_ n x hx
    have HOK:Hid _:=HE1.out.ok x (List.mem_of_getElem? hx)
    have HSRC:Hid (∀ v,Off (fun _=>False) w1 v→Src v x.da x.dc x.data):=fun v o=>by
     obtain ⟨-,-,-,-,-,hs⟩:=(HE1.out.off o).at_ n x hx
     exact hs
    have HBEL:Hid (Ter (fun c=>c < w1.heap.size) x.a x.l):=by
     obtain ⟨-,-,-,-,hr,-⟩:=HE1.out.at_ n x hx
     exact hr.below
    go_upto_region 9 with fail
    refine wp_region_list ?_
    refine wpList_exec 39 rfl rfl (exec_idx10 rfl (idx_calls hlt _ _ _ _)) ?_
    simp only [Act.put,lsA,lsZ,lsS]
    refine wpList_exec 40 rfl rfl (exec_load rfl (run_loadAt_mid wr bx (ox + n * 22) 49 (ccs x) _ kx Tryz.underlying49 rfl (by kernel_rfl))) ?_
    simp only [Act.put,lsA,lsZ,lsS]
    refine wpList_exec 7 rfl rfl (exec_alloc rfl (allocC wr)) ?_
    simp only [Act.put,lsA,lsZ,lsS]
    refine wpList_skip rfl rfl (exec_store rfl (storeC wr x)) ?_
    have Cq4:=Cel.new wr 49 (ccs x).toArray
    have OA:Off (fun _=>False) wr (wr.alloc (.cells (ccs x).toArray 49)):=(Off.refl _ wr).alloc _
    have HN0:Hid _:=(fun c hc=>by obtain ⟨lb,D,S,h1,h2⟩:=HL.out.ex; exact hc:∀ c,wr.heap.size≤c→wr.heap.size≤c)
    obtain ⟨lb,D,S,h1,h2⟩:=HL.out.ex
    have HQ7:Hid (¬ D wr.heap.size∧¬ S wr.heap.size):=h1.ns _ (Nat.le_refl _)
    have HNS:Hid _:=(h1.free OA).ns
    have HOL:Hid _:=h1.free OA
    have HAGE:Hid _:=h2
    clear h1 h2 HN0
    generalize hq:wr.heap.size=q4 at Cq4 HQ7 ⊢
    generalize hv:wr.alloc (.cells (ccs x).toArray 49)=V4 at Cq4 OA HNS HOL ⊢
    clear hq hv kx
    have HC4:Hid (Cel q4 49 #[.int .i64 x.d,.int .i64 x.node,.string x.key,.int .i64 (x.g 0),.int .i64 (x.g 1),.int .i64 (x.g 2),.int .i64 (x.g 3),.int .i64 (x.g 4),.int .i64 (x.g 5),.int .i64 (x.g 6),.int .i64 (x.g 7),.slice x.da x.data.length x.dc,.bool x.dead,.int .i64 (x.f 0),.int .i64 (x.f 1),.int .i64 (x.f 2),.int .i64 (x.f 3),.int .i64 (x.f 4),.int .i64 (x.f 5),.int .i64 (x.f 6),.int .i64 (x.f 7),.slice x.a x.l.length x.cap] V4):=Cq4
    have HL4:Hid _:=HL.out.free OA
    have HR4:Hid (Row V4 x.a x.cap x.l):=rx.off OA
    have HX4:Hid (Src V4 x.da x.dc x.data):=sx.off OA (fun _ _ _ h=>h)
    have HTER:Hid (Ter (fun c=>¬ D c∧¬ S c) x.a x.l):=HBEL.out.mono (fun c hc=>⟨fun e=>by have:=HAGE.out c (.inl e); omega,fun e=>by have:=HAGE.out c (.inr e); omega⟩)
    clear Cq4 OA rx sx hx HL HBEL
    obtain ⟨u0,u1,u2,u3,u4,u5,u6,u7,u8,u9,u10,u11,u12,u13,u14,u15,u16,u17,u18,u19,u20,u21⟩:=cel22 HC4.out
    by_cases h0:x.d=0
    ·have g0:(x.d == 0)=true:=by rw [h0]; rfl
     have g0':decide (x.d=0)=true:=decide_eq_true h0
     go_wp2_with fail
     clear u0 u1 u2 u3 u4 u5 u6 u7 u8 u9 u10 u11 u12 u13 u14 u15 u16 u17 u18 u19 u20 u21
     refine (wget_any HL4.out x.key HOK.out.key).mono ?_
     rintro e w5 ⟨f1,a1,c1,l1,rfl,hf1,hl1,row1,far1,o5⟩
     have HF1:Hid _:=hf1
     have HL1:Hid _:=hl1
     clear hf1 hl1
     go_upto_region 13 with fail
     have C8:=Cel.new w5 47 #[.int .i64 (f1 0),.int .i64 (f1 1),.int .i64 (f1 2),.int .i64 (f1 3),.int .i64 (f1 4),.int .i64 (f1 5),.int .i64 (f1 6),.int .i64 (f1 7),.slice a1 l1.length c1]
     have OA:Off (fun _=>False) w5 (w5.alloc (.cells #[.int .i64 (f1 0),.int .i64 (f1 1),.int .i64 (f1 2),.int .i64 (f1 3),.int .i64 (f1 4),.int .i64 (f1 5),.int .i64 (f1 6),.int .i64 (f1 7),.slice a1 l1.length c1] 47)):=(Off.refl _ w5).alloc _
     have HQ8:Hid (¬ D w5.heap.size∧¬ S w5.heap.size):=HNS.out _ o5.size
     generalize hq:w5.heap.size=q8 at C8 HQ8 ⊢
     generalize hv:w5.alloc (.cells #[.int .i64 (f1 0),.int .i64 (f1 1),.int .i64 (f1 2),.int .i64 (f1 3),.int .i64 (f1 4),.int .i64 (f1 5),.int .i64 (f1 6),.int .i64 (f1 7),.slice a1 l1.length c1] 47)=V5 at C8 OA ⊢
     clear hq hv
     have HR1a:Hid _:=row1.off OA
     have HO5:Hid _:=o5.trans OA (fun _ _ h=>h)
     have HB8a:Hid _:=C8
     have HOL5:Hid _:=HOL.out.free HO5.out
     have HC75:Hid _:=HC4.out.off HO5.out (fun h=>h)
     have HT1:Hid (Ter (fun c=>¬ D c∧¬ S c) a1 l1):=far1.ter.mono (fun c hc=>HNS.out c hc)
     clear row1 o5 OA C8 far1
     obtain ⟨u0,u1,u2,u3,u4,u5,u6,u7,u8,u9,u10,u11,u12,u13,u14,u15,u16,u17,u18,u19,u20,u21⟩:=cel22 HC75.out
     go_wp2_with fail
     clear u0 u1 u2 u3 u4 u5 u6 u7 u8 u9 u10 u11 u12 u13 u14 u15 u16 u17 u18 u19 u20 u21
     refine (lput_any HOL5.out x.node HOK.out.no x.key HOK.out.key x.g HOK.out.g x.da x.dc x.data x.dead (HX4.out.off HO5.out (fun _ _ _ h=>h)) HOK.out.lt HOK.out.len).mono ?_
     rintro e w6 ⟨f2,a2,c2,l2,rfl,hf2,hl2,row2,-,D2,S2,hol,mv⟩
     have HF2a:Hid _:=hf2
     have HCLa:Hid _:=hl2
     have HMV:Hid _:=mv
     have HL6a:Hid _:=Lw.mov HAGE.out (HL4.out.free HO5.out).off hol mv
     have HR2a:Hid _:=row2
     clear hf2 hl2 hol mv row2
     have HPO:Hid ((putA most rs s x.node x.key x.g x.data x.dead).er=0→putC s x.node x.key x.g x.data x.dead=0∧(putA most rs s x.node x.key x.g x.data x.dead).s=(putG K.key (putK s x.node x.key x.g x.data x.dead) s.1,s.2)):=putA_ok HL4.out.inv.ok HOK.out
     obtain ⟨⟨er,rs2,s2⟩,hz⟩:∃ z,z=putA most rs s x.node x.key x.g x.data x.dead:=⟨_,rfl⟩
     rw [← hz] at HF2a HCLa HL6a HPO ⊢
     clear hz
     simp only
     go_upto_region 14 with fail
     have C10:=Cel.new w6 47 #[.int .i64 (f2 0),.int .i64 (f2 1),.int .i64 (f2 2),.int .i64 (f2 3),.int .i64 (f2 4),.int .i64 (f2 5),.int .i64 (f2 6),.int .i64 (f2 7),.slice a2 l2.length c2]
     have OA:Off (fun _=>False) w6 (w6.alloc (.cells #[.int .i64 (f2 0),.int .i64 (f2 1),.int .i64 (f2 2),.int .i64 (f2 3),.int .i64 (f2 4),.int .i64 (f2 5),.int .i64 (f2 6),.int .i64 (f2 7),.slice a2 l2.length c2] 47)):=(Off.refl _ w6).alloc _
     generalize hq:w6.heap.size=q10 at C10 ⊢
     generalize hv:w6.alloc (.cells #[.int .i64 (f2 0),.int .i64 (f2 1),.int .i64 (f2 2),.int .i64 (f2 3),.int .i64 (f2 4),.int .i64 (f2 5),.int .i64 (f2 6),.int .i64 (f2 7),.slice a2 l2.length c2] 47)=V6 at C10 OA ⊢
     clear hq hv
     have HL6:Hid _:=HL6a.out.free OA
     have HR2:Hid _:=HR2a.out.off OA
     have HB10:Hid _:=C10
     have HR1:Hid _:=(HMV.out.row HR1a.out HT1.out).off OA
     have HB8:Hid _:=(HMV.out.cel HB8a.out HQ8.out).off OA (fun h=>h)
     have HC7:Hid _:=(HMV.out.cel HC75.out HQ7.out).off OA (fun h=>h)
     have HXS:Hid _:=HSRC.out V6 HL6.out.off
     clear OA C10 HL6a HR2a HR1a HB8a HC75
     by_cases her:er=0
     ·obtain ⟨pc,ps⟩:=HPO.out her
      subst her
      have ps2:s2=(putG K.key (putK s x.node x.key x.g x.data x.dead) s.1,s.2):=ps
      obtain ⟨gm,gn,gr⟩:=get_ok HL4.out.inv.ok x.key
      have pe:=putC_E pc
      obtain ⟨pn,pl⟩:=put_new gm pe
      have HF2:Hid (f2=(putK s x.node x.key x.g x.data x.dead).f):=HF2a.out
      have HCL:Hid (cont l2=(putK s x.node x.key x.g x.data x.dead).l):=HCLa.out
      have HNEW:Hid (NewP f1 x.g x.node x.data x.dead (putK s x.node x.key x.g x.data x.dead).l):=by show NewP _ _ _ _ _ _; rw [HF1.out]; exact pn
      have HLEQ:Hid (leqS f1 f2 (cont l1) (cont l2)=true):=by show _=_; rw [HF1.out,HL1.out,HF2.out,HCL.out]; exact pl
      have HGET:Hid (getK s2.1 x.key=putK s x.node x.key x.g x.data x.dead∧(fndG K.key x.key s2.1).isSome=true):=by
       have e:fndG K.key x.key s2.1=some (putK s x.node x.key x.g x.data x.dead):=by rw [ps2]; exact fnd_put_same K.key (x:=putK s x.node x.key x.g x.data x.dead) HL4.out.inv.ok.sor
       refine ⟨?_,by rw [e]; rfl⟩
       unfold getK
       rw [e]
       rfl
      clear pc ps ps2 gm gn gr pe pn pl HF2a HCLa HPO
      have HRB:Hid (l2.length≤9223372036854775807):=Nat.le_trans HR2.out.len HR2.out.bound
      have hrb:=HRB.out
      clear HRB
      obtain ⟨t0,t1,t2,t3,t4,t5,t6,t7,t8⟩:=cel9 HB10.out
      go_wp2_with fail
      clear t0 t1 t2 t3 t4 t5 t6 t7 t8
      go_loopw [12,72] (fun c y wr=>∃ j:Nat,c=.int .i64 (((cont (l2.take j)).countP (hitB f1 x.g x.node x.data x.dead):Nat):Int)∧y=.int .i64 (j:Int)∧j≤l2.length∧Off (fun _=>False) V6 wr) (fun _ y _=>(l2.length - intOf y).toNat)
      case atStart=>exact ⟨0,rfl,rfl,by omega,Off.refl _ V6⟩
      case round =>
       obtain ⟨j,rfl,rfl,hj,hoj⟩:=hrel
       have HOJ:Hid _:=hoj
       clear hoj
       by_cases hlj:j < l2.length
       ·have e3:decide ((j:Int) < (l2.length:Int))=true:=decide_eq_true (by omega)
        have e4:decide (j < l2.length)=true:=decide_eq_true hlj
        obtain ⟨v,hv⟩:∃ v,l2[j]?=some v:=⟨_,List.getElem?_eq_getElem hlj⟩
        have HVJ:Hid _:=hv
        obtain ⟨bv,ov,rfl,k,vok⟩:=(HR2.out.off HOJ.out).at_ j v hv
        have HVO:Hid _:=vok
        have hit:=HNEW.out.each v.abs (by rw [← HCL.out]; exact List.mem_map_of_mem (List.mem_of_getElem? hv))
        obtain ⟨z0,z1,z2,z3⟩:=k
        clear hv vok
        go_upto_region 19 with fail
        have CW:=Cel.new wr 87 #[.int .i64 v.node,.int .i64 v.num,.slice v.ad v.data.length v.cap,.bool v.dead]
        have OW:Off (fun _=>False) wr (wr.alloc (.cells #[.int .i64 v.node,.int .i64 v.num,.slice v.ad v.data.length v.cap,.bool v.dead] 87)):=(Off.refl _ wr).alloc _
        generalize hZ:wr.heap.size=Z at CW ⊢
        generalize hW:wr.alloc (.cells #[.int .i64 v.node,.int .i64 v.num,.slice v.ad v.data.length v.cap,.bool v.dead] 87)=W at CW OW ⊢
        clear hZ hW z0 z1 z2 z3
        have CV:Hid _:=CW
        have HOW:Hid _:=HOJ.out.trans OW (fun _ _ h=>h)
        have HVS:Hid _:=(HVO.out.src.off OW (fun _ _ _ h=>h))
        clear CW OW
        obtain ⟨u0,u1,u2,u3,u4,u5,u6,u7,u8,u9,u10,u11,u12,u13,u14,u15,u16,u17,u18,u19,u20,u21⟩:=cel22 (HC7.out.off HOW.out (fun h=>h))
        obtain ⟨s0,s1,s2,s3,s4,s5,s6,s7,s8⟩:=cel9 (HB8.out.off HOW.out (fun h=>h))
        obtain ⟨z0,z1,z2,z3⟩:=cel4 CV.out
        rcases hit with hit | hit
        ·obtain ⟨i1,i2,i3,i4,i5⟩:=hit
         have HY:Hid _:=hit_yes (f:=f1) (g:=x.g) ⟨i1,i2,i3,i4,i5⟩
         have HI2:Hid (coversB f1 x.node v.num=false):=by show _=_; rw [← i1]; exact i2
         have HI3:Hid (coversB x.g x.node v.num=false):=by show _=_; rw [← i1]; exact i3
         have HI4:Hid (v.data=x.data):=i4
         have HI5:Hid (v.dead=x.dead):=i5
         clear i2 i3 i4 i5
         go_wp2_with fail
         clear u0 u1 u2 u3 u4 u5 u6 u7 u8 u9 u10 u11 u12 u13 u14 u15 u16 u17 u18 u19 u20 u21
         clear s0 s1 s2 s3 s4 s5 s6 s7 s8
         clear z0 z1 z2 z3
         refine (fcovers_any f1 x.node v.num _).mono ?_
         rw [HI2.out]
         rintro e y1 ⟨rfl,oy⟩
         have HOy:Hid _:=HOW.out.trans oy (fun _ _ h=>h)
         have HWy:Hid _:=oy
         obtain ⟨u0,u1,u2,u3,u4,u5,u6,u7,u8,u9,u10,u11,u12,u13,u14,u15,u16,u17,u18,u19,u20,u21⟩:=cel22 (HC7.out.off HOy.out (fun h=>h))
         obtain ⟨s0,s1,s2,s3,s4,s5,s6,s7,s8⟩:=cel9 (HB8.out.off HOy.out (fun h=>h))
         obtain ⟨z0,z1,z2,z3⟩:=cel4 (CV.out.off oy (fun h=>h))
         have HVy:Hid _:=CV.out.off oy (fun h=>h)
         clear oy
         go_wp2_with fail
         clear u0 u1 u2 u3 u4 u5 u6 u7 u8 u9 u10 u11 u12 u13 u14 u15 u16 u17 u18 u19 u20 u21
         clear s0 s1 s2 s3 s4 s5 s6 s7 s8
         clear z0 z1 z2 z3
         refine (fcovers_any x.g x.node v.num _).mono ?_
         rw [HI3.out]
         rintro e y2 ⟨rfl,oy⟩
         have HOz:Hid _:=HOy.out.trans oy (fun _ _ h=>h)
         have HWz:Hid _:=HWy.out.trans oy (fun _ _ h=>h)
         obtain ⟨u0,u1,u2,u3,u4,u5,u6,u7,u8,u9,u10,u11,u12,u13,u14,u15,u16,u17,u18,u19,u20,u21⟩:=cel22 (HC7.out.off HOz.out (fun h=>h))
         obtain ⟨z0,z1,z2,z3⟩:=cel4 (HVy.out.off oy (fun h=>h))
         clear oy
         have hcs1:=conv_src (HVS.out.off HWz.out (fun _ _ _ h=>h))
         have hcs2:=conv_src (HXS.out.off HOz.out (fun _ _ _ h=>h))
         have hse:((strOf v.data).toList == (strOf x.data).toList)=true:=by rw [HI4.out]; simp
         have hse':(strOf v.data).toList=(strOf x.data).toList:=by rw [HI4.out]
         have hde:(v.dead == x.dead)=true:=by rw [HI5.out]; simp
         have hde':decide (v.dead=x.dead)=true:=by rw [HI5.out]; simp
         have hcb:(cont (l2.take j)).countP (hitB f1 x.g x.node x.data x.dead)≤j:=Nat.le_trans List.countP_le_length (by rw [cont_len,List.length_take]; omega)
         go_wp2_with fail
         go_roundw
         case rel =>
          refine ⟨j + 1,?_,by go_num,by omega,HOz.out⟩
          rw [List.take_add_one,HVJ.out,Option.toList_some]
          unfold cont
          rw [List.map_append,List.countP_append]
          show _=Value.int .i64 (((List.countP _ (List.map V.abs (l2.take j))) + List.countP _ [v.abs]:Nat):Int)
          rw [List.countP_singleton,HY.out,if_pos rfl]
          have hcb2:(List.map V.abs (l2.take j)).countP (hitB f1 x.g x.node x.data x.dead)≤j:=hcb
          go_num
         case measure=>simp [intOf]; omega
        ·have HY:Hid _:=hit_no (f:=f1) (g:=x.g) (node:=x.node) (data:=x.data) (dead:=x.dead) hit
         have HI2:Hid (coversB f1 v.node v.num=true):=hit
         by_cases i1:v.node=x.node
         ·have HI2b:Hid (coversB f1 x.node v.num=true):=by show _=_; rw [← i1]; exact HI2.out
          go_wp2_with fail
          clear u0 u1 u2 u3 u4 u5 u6 u7 u8 u9 u10 u11 u12 u13 u14 u15 u16 u17 u18 u19 u20 u21
          clear s0 s1 s2 s3 s4 s5 s6 s7 s8
          clear z0 z1 z2 z3
          refine (fcovers_any f1 x.node v.num _).mono ?_
          rw [HI2b.out]
          rintro e y1 ⟨rfl,oy⟩
          have HOy:Hid _:=HOW.out.trans oy (fun _ _ h=>h)
          clear oy
          go_wp2_with fail
          go_roundw
          case rel =>
           refine ⟨j + 1,?_,by go_num,by omega,HOy.out⟩
           rw [List.take_add_one,HVJ.out,Option.toList_some]
           unfold cont
           rw [List.map_append,List.countP_append]
           show _=Value.int .i64 (((List.countP _ (List.map V.abs (l2.take j))) + List.countP _ [v.abs]:Nat):Int)
           rw [List.countP_singleton,HY.out]
           rfl
          case measure=>simp [intOf]; omega
         ·have d1:(v.node == x.node)=false:=by rw [beq_eq_false_iff_ne]; exact i1
          have d1':decide (v.node=x.node)=false:=decide_eq_false i1
          go_wp2_with fail
          go_roundw
          case rel =>
           refine ⟨j + 1,?_,by go_num,by omega,HOW.out⟩
           rw [List.take_add_one,HVJ.out,Option.toList_some]
           unfold cont
           rw [List.map_append,List.countP_append]
           show _=Value.int .i64 (((List.countP _ (List.map V.abs (l2.take j))) + List.countP _ [v.abs]:Nat):Int)
           rw [List.countP_singleton,HY.out]
           rfl
          case measure=>simp [intOf]; omega
       ·obtain rfl:j=l2.length:=by omega
        have e3:decide ((l2.length:Int) < (l2.length:Int))=false:=decide_eq_false (by omega)
        have e4:decide (l2.length < l2.length)=false:=decide_eq_false (by omega)
        rw [List.take_length,HCL.out,HNEW.out.one]
        have HC9:Hid _:=HC7.out.off HOJ.out (fun h=>h)
        obtain ⟨u0,u1,u2,u3,u4,u5,u6,u7,u8,u9,u10,u11,u12,u13,u14,u15,u16,u17,u18,u19,u20,u21⟩:=cel22 HC9.out
        go_wp2_with fail
        clear u0 u1 u2 u3 u4 u5 u6 u7 u8 u9 u10 u11 u12 u13 u14 u15 u16 u17 u18 u19 u20 u21
        refine (wget_any (HL6.out.free HOJ.out) x.key HOK.out.key).mono ?_
        rw [HGET.out.1,HGET.out.2]
        rintro e w9 ⟨f3,a3,c3,l3,rfl,hf3,hl3,row3,-,o9⟩
        have HF3:Hid _:=hf3
        have HL3:Hid _:=hl3
        clear hf3 hl3
        go_upto_region 23 with fail
        have C15:=Cel.new w9 47 #[.int .i64 (f3 0),.int .i64 (f3 1),.int .i64 (f3 2),.int .i64 (f3 3),.int .i64 (f3 4),.int .i64 (f3 5),.int .i64 (f3 6),.int .i64 (f3 7),.slice a3 l3.length c3]
        have OA:Off (fun _=>False) w9 (w9.alloc (.cells #[.int .i64 (f3 0),.int .i64 (f3 1),.int .i64 (f3 2),.int .i64 (f3 3),.int .i64 (f3 4),.int .i64 (f3 5),.int .i64 (f3 6),.int .i64 (f3 7),.slice a3 l3.length c3] 47)):=(Off.refl _ w9).alloc _
        generalize hq:w9.heap.size=q15 at C15 ⊢
        generalize hv:w9.alloc (.cells #[.int .i64 (f3 0),.int .i64 (f3 1),.int .i64 (f3 2),.int .i64 (f3 3),.int .i64 (f3 4),.int .i64 (f3 5),.int .i64 (f3 6),.int .i64 (f3 7),.slice a3 l3.length c3] 47)=V9 at C15 OA ⊢
        clear hq hv
        have HR3:Hid _:=row3.off OA
        have HO9:Hid _:=(HOJ.out.trans o9 (fun _ _ h=>h)).trans OA (fun _ _ h=>h)
        have HB15:Hid _:=C15
        clear row3 o9 OA C15
        obtain ⟨s0,s1,s2,s3,s4,s5,s6,s7,s8⟩:=cel9 HB15.out
        obtain ⟨t0,t1,t2,t3,t4,t5,t6,t7,t8⟩:=cel9 (HB10.out.off HO9.out (fun h=>h))
        go_wp2_with fail
        clear s0 s1 s2 s3 s4 s5 s6 s7 s8
        clear t0 t1 t2 t3 t4 t5 t6 t7 t8
        refine (gsame_any f3 f2 a3 a2 c3 c2 l3 l2 _ HR3.out (HR2.out.off HO9.out)).mono ?_
        rw [HF3.out,HL3.out,HF2.out,HCL.out,same_iff.2 ⟨fun _ _=>rfl,rfl⟩]
        rintro e y1 ⟨rfl,oy⟩
        have HOy:Hid _:=HO9.out.trans oy (fun _ _ h=>h)
        clear oy
        obtain ⟨s0,s1,s2,s3,s4,s5,s6,s7,s8⟩:=cel9 (HB8.out.off HOy.out (fun h=>h))
        obtain ⟨t0,t1,t2,t3,t4,t5,t6,t7,t8⟩:=cel9 (HB10.out.off HOy.out (fun h=>h))
        go_wp2_with fail
        clear s0 s1 s2 s3 s4 s5 s6 s7 s8
        clear t0 t1 t2 t3 t4 t5 t6 t7 t8
        refine (gleq_any f1 f2 a1 a2 c1 c2 l1 l2 _ (HR1.out.off HOy.out) (HR2.out.off HOy.out)).mono ?_
        rw [HLEQ.out]
        rintro e y2 ⟨rfl,oy⟩
        have HOz:Hid _:=HOy.out.trans oy (fun _ _ h=>h)
        clear oy
        go_wp2_with fail
        go_roundw
        case rel=>exact ⟨n + 1,p,rs2,s2,rfl,by go_num,by omega,HL6.out.free HOz.out⟩
        case measure=>simp [intOf]; omega
     ·have d9:(er != 0)=true:=bne_iff_ne.2 her
      go_wp2_with fail
      go_roundw
      case rel=>exact ⟨n + 1,p,rs2,s2,rfl,by go_num,by omega,HL6.out⟩
      case measure=>simp [intOf]; omega
    ·have g0:(x.d == 0)=false:=by rw [beq_eq_false_iff_ne]; exact h0
     have g0':decide (x.d=0)=false:=decide_eq_false h0
     by_cases h1:x.d=1
     ·have g1:(x.d == 1)=true:=by rw [h1]; rfl
      have g1':decide (x.d=1)=true:=decide_eq_true h1
      go_wp2_with fail
      clear u0 u1 u2 u3 u4 u5 u6 u7 u8 u9 u10 u11 u12 u13 u14 u15 u16 u17 u18 u19 u20 u21
      refine (ljoin_any HOL.out x.e HR4.out HOK.out.f HTER.out HOK.out.key).mono ?_
      rintro e w6 ⟨rfl,D2,S2,hol,mv⟩
      have HL6:Hid _:=Lw.mov HAGE.out HL4.out.off hol mv
      clear hol mv
      go_wp2_with fail
      go_roundw
      case rel=>exact ⟨n + 1,p,_,_,rfl,by go_num,by omega,HL6.out⟩
      case measure=>simp [intOf]; omega
     ·have g1:(x.d == 1)=false:=by rw [beq_eq_false_iff_ne]; exact h1
      have g1':decide (x.d=1)=false:=decide_eq_false h1
      by_cases h5:x.d=5
      ·have g5:(x.d == 5)=true:=by rw [h5]; rfl
       have g5':decide (x.d=5)=true:=decide_eq_true h5
       go_wp2_with fail
       clear u0 u1 u2 u3 u4 u5 u6 u7 u8 u9 u10 u11 u12 u13 u14 u15 u16 u17 u18 u19 u20 u21
       refine (fcrash_any HL4.out.fil x.node).mono ?_
       rintro e w5 ⟨rfl,fl⟩
       have HF5:Hid _:=fl
       clear fl
       go_wp2_with fail
       refine (fopen_any HF5.out HL4.out.inv).mono ?_
       rintro e w6 ⟨p2,rfl,lw⟩
       have HL6:Hid _:=lw
       clear lw
       go_wp2_with fail
       go_roundw
       case rel=>exact ⟨n + 1,p2,rs,s,rfl,by go_num,by omega,HL6.out⟩
       case measure=>simp [intOf]; omega
      ·have g5:(x.d == 5)=false:=by rw [beq_eq_false_iff_ne]; exact h5
       have g5':decide (x.d=5)=false:=decide_eq_false h5
       go_wp2_with fail
       go_roundw
       case rel=>exact ⟨n + 1,p,rs,s,rfl,by go_num,by omega,HL4.out⟩
       case measure=>simp [intOf]; omega
   ·obtain rfl:n=cs.length:=by omega
    have e1:decide ((cs.length:Int) < (cs.length:Int))=false:=decide_eq_false (by omega)
    have e2:decide (cs.length < cs.length)=false:=decide_eq_false (by omega)
    go_wp2_with fail
    refine (awake_any _).mono ?_
    rintro e w11 ⟨rfl,o11⟩
    have HOZ:Hid _:=(HO1.out.trans HL.out.off (fun _ _ h=>h)).trans o11 (fun _ _ h=>h)
    clear o11
    go_wp2_with fail
    go_ret
    exact ⟨rfl,HOZ.out⟩
end Go.Proofs.YthjbnpaghiojlaaGreat
