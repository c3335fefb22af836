/- Items of several texts. -/
import Derived.Test.YthjbnpaghiojlaaGreatKPut
import Derived.Test.YthjbnpaghiojlaaGreatKLeq5
import Derived.Test.YthjbnpaghiojlaaGreatKGSm
import Derived.Test.YthjbnpaghiojlaaGreatKLlg
import Derived.Test.YthjbnpaghiojlaaGreatKLpr
namespace Go.Proofs.YthjbnpaghiojlaaGreat
open Go.RowKit
structure Ans where
 er:Int
 rs:List (List Nat)
 s:PS
def chA (most:Nat) (rs:List (List Nat)) (s:PS) (r:RD):Ans:=⟨chE most rs s r,chL most rs s r,chS most rs s r⟩
def putK (s:PS) (node:Int) (key:ByteArray) (g:Nat→Int) (data:List Nat) (dead:Bool):K:=⟨key,putV (getK s.1 key).f g (getK s.1 key).l node data dead,putL (getK s.1 key).f g (getK s.1 key).l node data dead⟩
def putC (s:PS) (node:Int) (key:ByteArray) (g:Nat→Int) (data:List Nat) (dead:Bool):Int :=
 if keyB key=false then 1 else if putE (getK s.1 key).f g (getK s.1 key).l node data dead ≠ 0 then putE (getK s.1 key).f g (getK s.1 key).l node data dead else if (fndG K.key key s.1).isSome=false∧256≤s.1.length then 11 else 0
def putA (most:Nat) (rs:List (List Nat)) (s:PS) (node:Int) (key:ByteArray) (g:Nat→Int) (data:List Nat) (dead:Bool):Ans :=
 if putC s node key g data dead=0 then chA most rs s ⟨1,0,putK s node key g data dead⟩ else ⟨putC s node key g data dead,rs,s⟩
def joinC (s:PS) (k:K):Int :=
 if (keyB k.key && mayS k.f k.l)=false then 1 else if (fndG K.key k.key s.1).isSome=false∧256≤s.1.length then 11 else if (fndG K.key k.key s.1).isSome=true∧leqS k.f (getK s.1 k.key).f k.l (getK s.1 k.key).l=true then -1 else 0
def joinA (most:Nat) (rs:List (List Nat)) (s:PS) (k:K):Ans :=
 if joinC s k=0 then chA most rs s ⟨1,0,k⟩ else if joinC s k=-1 then ⟨0,rs,s⟩ else ⟨joinC s k,rs,s⟩
theorem get_ok {s:PS} (h:OkP s) (key:ByteArray):MayP (getK s.1 key).f (getK s.1 key).l∧Nrm (getK s.1 key).f∧∀ x ∈ (getK s.1 key).l,Rng x:=by
 unfold getK
 cases e:fndG K.key key s.1 with
 | none=>exact zer_ok
 | some u =>
  have hu:=h.ok u (fnd_mem K.key e).1
  exact ⟨hu.may,hu.nrm,hu.rng⟩
theorem rng_put {f g:Nat→Int} {l:List A} {node:Int} {data:List Nat} {dead:Bool} (h1:MayP f l) (hr:∀ x ∈ l,Rng x) (hd:data.length≤140737488351232) (hlt:∀ x ∈ data,x < 256) (h:putE f g l node data dead=0):∀ x ∈ putL f g l node data dead,Rng x:=by
 obtain ⟨n,-,hn2,-,-,-,-,c3,-,-,c6,-⟩:=put_tells h1 h
 intro x hx
 rcases (c6 x).1 hx with rfl | ⟨h,-⟩
 ·have hc:=(c3.cov x hx).1
  rw [cov_iff] at hc
  have hs:=c3.seen x.node.toNat (by omega)
  exact ⟨by omega,by omega,by omega,by omega,by rw [hn2]; exact hd,by rw [hn2]; exact hlt⟩
 ·exact hr x h
theorem put_okK {s:PS} (h:OkP s) {node:Int} {key:ByteArray} {g:Nat→Int} {data:List Nat} {dead:Bool} (hg:Nrm g) (hd:data.length≤140737488351232) (hlt:∀ x ∈ data,x < 256) (hc:putC s node key g data dead=0):OkK (putK s node key g data dead):=by
 obtain ⟨m,n,r⟩:=get_ok h key
 unfold putC at hc
 split at hc
 ·simp at hc
 ·rename_i hk
  split at hc
  ·rename_i he
   exact absurd hc he
  ·rename_i he
   have he:putE (getK s.1 key).f g (getK s.1 key).l node data dead=0:=Decidable.not_not.1 he
   obtain ⟨n1,-,-,-,-,-,-,c3,-⟩:=put_tells m he
   exact ⟨by simpa [putK] using hk,c3,nrm_put n hg,rng_put m r hd hlt he⟩
theorem put_do {s:PS} (h:OkP s) {node:Int} {key:ByteArray} {g:Nat→Int} {data:List Nat} {dead:Bool} (hk:OkK (putK s node key g data dead)) (hc:putC s node key g data dead=0):doR s ⟨1,0,putK s node key g data dead⟩=some (putG K.key (putK s node key g data dead) s.1,s.2):=by
 obtain ⟨m,n,r⟩:=get_ok h key
 have hkk:keyB key=true:=hk.key
 have hcc:=hc
 unfold putC at hc
 rw [if_neg (by rw [hkk]; simp)] at hc
 split at hc
 ·rename_i he
  exact absurd hc he
 ·rename_i he
  have he:putE (getK s.1 key).f g (getK s.1 key).l node data dead=0:=Decidable.not_not.1 he
  obtain ⟨j1,j2⟩:=put_join n m hk.nrm he
  unfold doR
  simp only [if_true]
  rcases joinR_ways s.1 key (putK s node key g data dead).f (putK s node key g data dead).l with ⟨e0,-⟩ | ⟨-,-,hf,hl,-⟩ | ⟨-,-,hf,hl,e⟩ | ⟨u,-,-,hf,e⟩
  ·rw [hkk,may_yes hk.may] at e0
   simp at e0
  ·rw [if_pos ⟨by rw [hf]; rfl,hl⟩] at hc
   simp at hc
  ·have hz:getK s.1 key=⟨key,zer,[]⟩:=by unfold getK; rw [hf]; rfl
   rw [hz] at j1 j2
   have j1':joinV zer (putK s node key g data dead).f [] (putK s node key g data dead).l=(putK s node key g data dead).f:=by
    have e1:(putK s node key g data dead).f=putV zer g [] node data dead:=by unfold putK; rw [hz]
    have e2:(putK s node key g data dead).l=putL zer g [] node data dead:=by unfold putK; rw [hz]
    rw [e1,e2]
    exact j1
   have j2':joinL zer (putK s node key g data dead).f [] (putK s node key g data dead).l=(putK s node key g data dead).l:=by
    have e1:(putK s node key g data dead).f=putV zer g [] node data dead:=by unfold putK; rw [hz]
    have e2:(putK s node key g data dead).l=putL zer g [] node data dead:=by unfold putK; rw [hz]
    rw [e1,e2]
    exact j2
   have e':joinR s.1 (putK s node key g data dead).key (putK s node key g data dead).f (putK s node key g data dead).l=⟨putG K.key (putK s node key g data dead) s.1,(putK s node key g data dead).f,(putK s node key g data dead).l,false,0⟩:=by
    rw [j1',j2'] at e
    exact e
   rw [e']
   rfl
  ·have hz:getK s.1 key=u:=by unfold getK; rw [hf]; rfl
   rw [hz] at j1 j2
   have e1:(putK s node key g data dead).f=putV u.f g u.l node data dead:=by unfold putK; rw [hz]
   have e2:(putK s node key g data dead).l=putL u.f g u.l node data dead:=by unfold putK; rw [hz]
   rw [← e1,← e2] at j1 j2
   have e':joinR s.1 (putK s node key g data dead).key (putK s node key g data dead).f (putK s node key g data dead).l=⟨putG K.key (putK s node key g data dead) s.1,(putK s node key g data dead).f,(putK s node key g data dead).l,sameS u.f (putK s node key g data dead).f u.l (putK s node key g data dead).l,0⟩:=by
    rw [j1,j2] at e
    exact e
   rw [e']
   rfl
theorem join_do {s:PS} {k:K} (hc:joinC s k=0∨joinC s k=-1):(doR s ⟨1,0,k⟩).isSome=true:=by
 have h1:(keyB k.key && mayS k.f k.l)=true∧¬ ((fndG K.key k.key s.1).isSome=false∧256≤s.1.length):=by
  unfold joinC at hc
  split at hc
  ·omega
  ·rename_i h
   split at hc
   ·omega
   ·rename_i h2
    exact ⟨by simpa using h,h2⟩
 unfold doR
 simp only [if_true]
 rcases joinR_ways s.1 k.key k.f k.l with ⟨e0,-⟩ | ⟨-,-,hf,hl,-⟩ | ⟨-,-,-,-,e⟩ | ⟨u,-,-,-,e⟩
 ·rw [h1.1] at e0
  cases e0
 ·exact absurd ⟨by rw [hf]; rfl,hl⟩ h1.2
 ·rw [e]; rfl
 ·rw [e]; rfl
theorem Cor.tab {S:Nat→Prop} {p:Nat} {lg:Value} {s:PS} {w:World} (h:Cor S p lg s w):∃ tp tb t,w.cell? ⟨p,1,none⟩=some (.pointer (some ⟨tp,0,none⟩))∧Tab tp tb t w∧absE t=s.1∧(∀ e ∈ t,e.l.length≤1000):=by
 obtain ⟨tp,tb,hp,T,H,t,xs,c0,tab,ht,-⟩:=h.is
 exact ⟨tp,tb,t,c0.cell 1,tab,ht,okT_few h.ok.tab ht⟩
theorem getE_of {t:List E} {s:PS} (h:absE t=s.1) (key:ByteArray):(getE t key).f=(getK s.1 key).f∧cont (getE t key).l=(getK s.1 key).l∧(fndG E.key key t).isSome=(fndG K.key key s.1).isSome:=by
 have e:=getE_abs t key
 rw [h] at e
 refine ⟨congrArg K.f e,congrArg K.l e,?_⟩
 rw [fnd_isSome,h]
theorem kget_any {t:List E} {tp tb:Nat} {s:PS} {w:World} (tab:Tab tp tb t w) (ht:absE t=s.1) (hf:∀ e ∈ t,e.l.length≤1000) (key:ByteArray) (hk:key.size≤9223372036854775807) :
  Calls Tryz.prog 63 #[.pointer (some ⟨tp,0,none⟩),.string key] w fun e w'=>∃ (f:Nat→Int) (a:Option Addr) (c:Nat) (l:List V),e=.returned (.tuple #[.agg #[.int .i64 (f 0),.int .i64 (f 1),.int .i64 (f 2),.int .i64 (f 3),.int .i64 (f 4),.int .i64 (f 5),.int .i64 (f 6),.int .i64 (f 7),.slice a l.length c],.bool (fndG K.key key s.1).isSome])∧f=(getK s.1 key).f∧cont l=(getK s.1 key).l∧Row w' a c l∧Far w.heap.size a l∧Off (fun _=>False) w w':=by
 obtain ⟨g1,g2,g3⟩:=getE_of ht key
 have h16:(getE t key).l.length≤1000:=by
  unfold getE
  cases e:fndG E.key key t with
  | none=>exact Nat.zero_le _
  | some x=>exact hf x (fnd_mem E.key e).1
 refine (tget_any tp tb t key (by unfold maxLen; exact hk) w tab h16).mono ?_
 rintro e w' ⟨a,c,l,rfl,hl,row,far,o⟩
 exact ⟨(getE t key).f,a,c,l,by rw [g3],g1,hl.trans g2,row,far,o⟩
set_option maxRecDepth 100000 in
set_option maxHeartbeats 2000000 in
theorem lget_any {S:Nat→Prop} {p:Nat} {lg:Value} {s:PS} {w:World} (h:Cor S p lg s w) (key:ByteArray) (hk:key.size≤9223372036854775807) :
  Calls Tryz.prog 26 #[.pointer (some ⟨p,0,none⟩),.string key] w fun e w'=>∃ (f:Nat→Int) (a:Option Addr) (c:Nat) (l:List V),e=.returned (.tuple #[.agg #[.int .i64 (f 0),.int .i64 (f 1),.int .i64 (f 2),.int .i64 (f 3),.int .i64 (f 4),.int .i64 (f 5),.int .i64 (f 6),.int .i64 (f 7),.slice a l.length c],.bool (fndG K.key key s.1).isSome])∧f=(getK s.1 key).f∧cont l=(getK s.1 key).l∧Row w' a c l∧Far w.heap.size a l∧Off (fun _=>False) w w':=by
 have hq:=eql_sto
 obtain ⟨tp,tb,t,c1,tab,ht,hf⟩:=h.tab
 obtain ⟨W,hW⟩:∃ W,W=w.alloc (.cells #[.int .i64 (zer 0),.int .i64 (zer 1),.int .i64 (zer 2),.int .i64 (zer 3),.int .i64 (zer 4),.int .i64 (zer 5),.int .i64 (zer 6),.int .i64 (zer 7),.slice none 0 0] 47):=⟨_,rfl⟩
 have O:Off (fun _=>False) w W:=by rw [hW]; exact (Off.refl _ w).alloc _
 have C:Cel w.heap.size 47 #[.int .i64 (zer 0),.int .i64 (zer 1),.int .i64 (zer 2),.int .i64 (zer 3),.int .i64 (zer 4),.int .i64 (zer 5),.int .i64 (zer 6),.int .i64 (zer 7),.slice none 0 0] W:=by rw [hW]; exact Cel.new w _ _
 obtain ⟨tp',tb',t',c1',-,-,-⟩:=(h.free O).tab
 have c2:W.cell? ⟨p,1,none⟩=some (.pointer (some ⟨tp,0,none⟩)):=by
  rw [← c1]
  exact World.cell?_of_block (a:=⟨p,1,none⟩) (O.block p (cell_lt c1) (fun h=>h))
 have HT:Hid _:=kget_any (tab.free O) ht hf key hk
 have HW:Hid _:=hW
 have HC:Hid _:=C
 have HO:Hid _:=O
 clear h c1 c1' tab ht hf hW O C
 go_enter Tryz.func26,Tryz.ntmps26
 go_upto_region 1 with fail
 rw [show (w.alloc (.cells #[.int .i64 0,.int .i64 0,.int .i64 0,.int .i64 0,.int .i64 0,.int .i64 0,.int .i64 0,.int .i64 0,.slice none 0 0] 47))=W from HW.out.symm]
 go_wp2_with fail
 refine Calls.mono HT.out ?_
 rintro e w1 ⟨f,a,c,l,rfl,hf,hl,row,far,o1⟩
 have HC1:Hid _:=HC.out.off o1 (fun h=>h)
 have HF:Hid _:=hf
 have HL:Hid _:=hl
 have HR:Hid _:=row
 have HFA:Hid _:=far
 have HO1:Hid _:=HO.out.trans o1 (fun _ _ h=>h)
 have HZ:Hid (w.heap.size < W.heap.size):=HC.out.lt
 obtain ⟨th,hth⟩:∃ th,th=(fndG K.key key s.1).isSome:=⟨_,rfl⟩
 rw [← hth]
 have HTH:Hid _:=hth
 clear hf hl row far o1 HT hth
 obtain ⟨z0,z1,z2,z3,z4,z5,z6,z7,z8⟩:=cel9 HC1.out
 have fr:=HC1.out.free
 go_wp2_with fail
 refine bodyPost_ret (results_sibs2 rfl rfl rfl (HC1.out.st9 f (.slice a l.length c))) rfl ?_
 refine ⟨f,a,c,l,by rw [← HTH.out]; rfl,HF.out,HL.out,?_,HFA.out.mono (by have:=HZ.out; omega),HO1.out.st9 (.inr (Nat.le_refl _)) f (.slice a l.length c)⟩
 exact HR.out.offF HFA.out ((Off.refl (fun x=>x=w.heap.size) w1).st9 (.inl rfl) f (.slice a l.length c)) (fun x hx e=>by have:=HZ.out; omega)
end Go.Proofs.YthjbnpaghiojlaaGreat

namespace Go.Proofs.YthjbnpaghiojlaaGreat
open Go.RowKit
theorem Hol.ns {D S:Nat→Prop} {p lb b most:Nat} {rs:List (List Nat)} {s:PS} {w:World} (h:Hol D S p lb b most rs s w):∀ c,w.heap.size≤c→¬ D c∧¬ S c:=fun c hc=>⟨fun e=>by have:=h.std.lg.lt c e; omega,fun e=>by have:=h.cor.lt c e; omega⟩
theorem Mov.cel {D S D' S':Nat→Prop} {u v:World} (h:Mov D S D' S' u v) {b:Nat} {t:TypeId} {cs:Array Value} (k:Cel b t cs u) (hb:¬ D b∧¬ S b):Cel b t cs v:=k.off h.off (fun e=>e.elim hb.1 hb.2)
theorem Mov.row {D S D' S':Nat→Prop} {u v:World} (h:Mov D S D' S' u v) {a:Option Addr} {c:Nat} {l:List V} (k:Row u a c l) (ht:Ter (fun c=>¬ D c∧¬ S c) a l):Row v a c l:=k.offT ht h.off (fun _ _ h1 h2=>h2.elim h1.1 h1.2)
theorem Mov.box {D S D' S':Nat→Prop} {u v x:World} {b:Nat} (h:Mov D S D' S' u v) (k:Off (fun c=>c=b) v x) (hb:u.heap.size≤b):Mov D S D' S' u x :=
 ⟨h.off.trans (k.mono (E:=fun c=>u.heap.size≤c) (fun i _ e=>by rw [show i=b from e]; exact hb)) (fun i hi e=>by omega),h.d,h.s⟩
theorem Lg.off {D E:Nat→Prop} {lb b most:Nat} {ds:List Nat} {s k m:Nat} {w w':World} (h:Lg D lb b most ds s k m w) (o:Off E w w') (hE:∀ c,D c→¬ E c):Lg D lb b most ds s k m w':=by
 obtain ⟨D0,h1,h2,h3⟩:=h.dsk
 exact ⟨h.here,fun c hc=>Nat.lt_of_lt_of_le (h.lt c hc) o.size,⟨D0,h1.off o (fun c _ hc=>hE c (h2 c hc)),h2,h3⟩,h.log.off o (hE lb h.here)⟩
theorem Hol.box {D S:Nat→Prop} {p lb b most:Nat} {rs:List (List Nat)} {s:PS} {w w':World} {q:Nat} (h:Hol D S p lb b most rs s w) (o:Off (fun c=>c=q) w w') (hq:¬ D q∧¬ S q):Hol D S p lb b most rs s w' :=
 ⟨h.cor.off o (fun c _ hc e=>hq.2 (by rw [← show c=q from e]; exact hc)),⟨h.std.lg.off o (fun c hc e=>hq.1 (by rw [← show c=q from e]; exact hc)),h.std.rec_⟩,h.sep,h.inv⟩
def putT (er:Int) (k:K):K:=if er=0 then k else ⟨k.key,zer,[]⟩
set_option maxRecDepth 100000 in
set_option maxHeartbeats 2000000 in
theorem lput_any {D S:Nat→Prop} {p lb b most:Nat} {rs:List (List Nat)} {s:PS} {w:World} (h:Hol D S p lb b most rs s w) (node:Int) (hno:-9223372036854775808≤node∧node≤9223372036854775807) (key:ByteArray) (hks:key.size≤9223372036854775807) (g:Nat→Int) (hg:Nrm g) (da:Option Addr) (dc:Nat) (data:List Nat) (dead:Bool) (hd:Src w da dc data) (hlt:∀ x ∈ data,x < 256) (hdl:data.length≤140737488351232) :
  Calls Tryz.prog 22 #[.pointer (some ⟨p,0,none⟩),.int .i64 node,.string key,.agg #[.int .i64 (g 0),.int .i64 (g 1),.int .i64 (g 2),.int .i64 (g 3),.int .i64 (g 4),.int .i64 (g 5),.int .i64 (g 6),.int .i64 (g 7)],.slice da data.length dc,.bool dead] w fun e w'=>∃ (f:Nat→Int) (a:Option Addr) (c:Nat) (l:List V),e=.returned (.tuple #[.agg #[.int .i64 (f 0),.int .i64 (f 1),.int .i64 (f 2),.int .i64 (f 3),.int .i64 (f 4),.int .i64 (f 5),.int .i64 (f 6),.int .i64 (f 7),.slice a l.length c],.int .i64 (putA most rs s node key g data dead).er])∧f=(putT (putA most rs s node key g data dead).er (putK s node key g data dead)).f∧cont l=(putT (putA most rs s node key g data dead).er (putK s node key g data dead)).l∧Row w' a c l∧Far w.heap.size a l∧∃ D' S',Hol D' S' p lb b most (putA most rs s node key g data dead).rs (putA most rs s node key g data dead).s w'∧Mov D S D' S' w w':=by
 have hq:=eql_sto
 obtain ⟨tp,tb,t,c1,tab,ht,hf⟩:=h.cor.tab
 obtain ⟨W,hW⟩:∃ W,W=((w.alloc (.cells #[.int .i64 (g 0),.int .i64 (g 1),.int .i64 (g 2),.int .i64 (g 3),.int .i64 (g 4),.int .i64 (g 5),.int .i64 (g 6),.int .i64 (g 7)] 43)).alloc (.cells #[.int .i64 (zer 0),.int .i64 (zer 1),.int .i64 (zer 2),.int .i64 (zer 3),.int .i64 (zer 4),.int .i64 (zer 5),.int .i64 (zer 6),.int .i64 (zer 7),.slice none 0 0] 47)):=⟨_,rfl⟩
 have O:Off (fun _=>False) w W:=by rw [hW]; exact ((Off.refl _ w).alloc _).alloc _
 have C0:Cel w.heap.size 43 #[.int .i64 (g 0),.int .i64 (g 1),.int .i64 (g 2),.int .i64 (g 3),.int .i64 (g 4),.int .i64 (g 5),.int .i64 (g 6),.int .i64 (g 7)] W:=by rw [hW]; exact (Cel.new w _ _).alloc _
 have C1:Cel (w.heap.size + 1) 47 #[.int .i64 (zer 0),.int .i64 (zer 1),.int .i64 (zer 2),.int .i64 (zer 3),.int .i64 (zer 4),.int .i64 (zer 5),.int .i64 (zer 6),.int .i64 (zer 7),.slice none 0 0] W:=by rw [hW]; exact Cel.new1 w _ _ _
 have cP:W.cell? ⟨p,1,none⟩=some (.pointer (some ⟨tp,0,none⟩)):=by
  rw [← c1]
  exact World.cell?_of_block (a:=⟨p,1,none⟩) (O.block p (cell_lt c1) (fun h=>h))
 have HGET:Hid _:=kget_any (tab.free O) ht hf key hks
 have HNS:Hid _:=h.ns
 have HH0:Hid _:=h
 have HH:Hid _:=h.free O
 have HSD:Hid _:=hd.off O (fun _ _ _ h=>h)
 have HW:Hid _:=hW
 have HC0:Hid _:=C0
 have HC1:Hid _:=C1
 have HO:Hid _:=O
 have HG:Hid _:=hg
 have HLT:Hid _:=hlt
 clear h hd tab ht hf hW C0 C1 O c1 hg hlt
 go_enter Tryz.func22,Tryz.ntmps22
 go_upto_region 1 with fail
 rw [show ((w.alloc (.cells #[.int .i64 (g 0),.int .i64 (g 1),.int .i64 (g 2),.int .i64 (g 3),.int .i64 (g 4),.int .i64 (g 5),.int .i64 (g 6),.int .i64 (g 7)] 43)).alloc (.cells #[.int .i64 0,.int .i64 0,.int .i64 0,.int .i64 0,.int .i64 0,.int .i64 0,.int .i64 0,.int .i64 0,.slice none 0 0] 47))=W from HW.out.symm]
 go_wp2_with fail
 refine (kmay_any key _).mono ?_
 rintro e W1 ⟨rfl,hw⟩
 rw [hw]
 clear hw W1
 cases hk:keyB key
 ·have HKF:Hid _:=hk
  clear hk
  obtain ⟨z0,z1,z2,z3,z4,z5,z6,z7,z8⟩:=cel9 HC1.out
  have fr:=HC1.out.free
  go_wp2_with fail
  refine bodyPost_ret (results_err9 rfl rfl rfl HC1.out.clr9) rfl ?_
  have hc:putC s node key g data dead=1:=by unfold putC; rw [if_pos HKF.out]
  have ha:putA most rs s node key g data dead=⟨1,rs,s⟩:=by unfold putA; rw [if_neg (by rw [hc]; decide),hc]
  have OZ:=HO.out.clr9 (b:=w.heap.size + 1) (.inr (by omega))
  rw [ha]
  exact ⟨zer,none,0,[],rfl,rfl,rfl,Row.nil _ none 0 (by omega),Far.nil _,D,S,HH0.out.free OZ,⟨OZ.mono (fun _ _ h=>h.elim),fun _ h=>.inl h,fun _ h=>.inl h⟩⟩
 ·have HKT:Hid _:=hk
  clear hk
  go_wp2_with fail
  clear cP
  refine Calls.mono HGET.out ?_
  rintro e w1 ⟨f,a,c,l,rfl,hf,hl,row,far,o1⟩
  have HF:Hid _:=hf
  have HL:Hid _:=hl
  obtain ⟨th,hth⟩:∃ th,th=(fndG K.key key s.1).isSome:=⟨_,rfl⟩
  rw [← hth]
  have HTH:Hid _:=hth
  clear hf hl hth HGET
  go_upto_region 4 with fail
  have CQ:=Cel.new w1 47 #[.int .i64 (f 0),.int .i64 (f 1),.int .i64 (f 2),.int .i64 (f 3),.int .i64 (f 4),.int .i64 (f 5),.int .i64 (f 6),.int .i64 (f 7),.slice a l.length c]
  have OA:Off (fun _=>False) w1 (w1.alloc (.cells #[.int .i64 (f 0),.int .i64 (f 1),.int .i64 (f 2),.int .i64 (f 3),.int .i64 (f 4),.int .i64 (f 5),.int .i64 (f 6),.int .i64 (f 7),.slice a l.length c] 47)):=(Off.refl _ w1).alloc _
  generalize hv:w1.alloc (.cells #[.int .i64 (f 0),.int .i64 (f 1),.int .i64 (f 2),.int .i64 (f 3),.int .i64 (f 4),.int .i64 (f 5),.int .i64 (f 6),.int .i64 (f 7),.slice a l.length c] 47)=V at CQ OA ⊢
  generalize hqq:w1.heap.size=q at CQ ⊢
  have OV:Off (fun _=>False) W V:=o1.trans OA (fun _ _ h=>h)
  have HCQ:Hid _:=CQ
  have HRV:Hid _:=row.off OA
  have HV0:Hid _:=HC0.out.off OV (fun h=>h)
  have HV1:Hid _:=HC1.out.off OV (fun h=>h)
  have HVD:Hid _:=HSD.out.off OV (fun _ _ _ h=>h)
  have HOV:Hid _:=HO.out.trans OV (fun _ _ h=>h)
  clear hv hqq CQ OA OV o1 row far HC0 HC1 HSD
  obtain ⟨x0,x1,x2,x3,x4,x5,x6,x7,x8⟩:=cel9 HCQ.out
  obtain ⟨y0,y1,y2,y3,y4,y5,y6,y7⟩:=cel8 HV0.out
  go_wp2_with fail
  clear x0 x1 x2 x3 x4 x5 x6 x7 x8 y0 y1 y2 y3 y4 y5 y6 y7
  refine (sput_any f g a c l node hno da dc data dead V HRV.out HVD.out HLT.out hdl).mono ?_
  rintro e w2 ⟨h2,a2,c2,l2,er,rfl,her,hh2,hl2,mk,o2⟩
  rw [HF.out,HL.out] at her hh2 hl2
  have HER:Hid _:=her
  have HH2:Hid _:=hh2
  have HL2:Hid _:=hl2
  clear her hh2 hl2
  go_upto_region 5 with fail
  have CQ:=Cel.new w2 47 #[.int .i64 (h2 0),.int .i64 (h2 1),.int .i64 (h2 2),.int .i64 (h2 3),.int .i64 (h2 4),.int .i64 (h2 5),.int .i64 (h2 6),.int .i64 (h2 7),.slice a2 l2.length c2]
  have OA:Off (fun _=>False) w2 (w2.alloc (.cells #[.int .i64 (h2 0),.int .i64 (h2 1),.int .i64 (h2 2),.int .i64 (h2 3),.int .i64 (h2 4),.int .i64 (h2 5),.int .i64 (h2 6),.int .i64 (h2 7),.slice a2 l2.length c2] 47)):=(Off.refl _ w2).alloc _
  generalize hv:w2.alloc (.cells #[.int .i64 (h2 0),.int .i64 (h2 1),.int .i64 (h2 2),.int .i64 (h2 3),.int .i64 (h2 4),.int .i64 (h2 5),.int .i64 (h2 6),.int .i64 (h2 7),.slice a2 l2.length c2] 47)=V2 at CQ OA ⊢
  generalize hqq:w2.heap.size=q2 at CQ ⊢
  have OV:Off (fun _=>False) V V2:=o2.trans OA (fun _ _ h=>h)
  have HCA:Hid _:=CQ
  have HMK:Hid _:=mk.off OA
  have HX1:Hid _:=HV1.out.off OV (fun h=>h)
  have HOX:Hid _:=HOV.out.trans OV (fun _ _ h=>h)
  have HSZ:Hid (w.heap.size≤V.heap.size∧w.heap.size≤q2∧w.heap.size + 1 < V.heap.size):=⟨HOV.out.size,by have h1:=HOV.out.size; have h2:=o2.size; omega,HV1.out.lt⟩
  clear hv hqq CQ OA OV o2 mk HV0 HV1 HVD HCQ HRV HOV
  by_cases he:er=0
  ·have HE0:Hid _:=he
   rw [he]
   clear he
   by_cases hfull:th=false∧256≤s.1.length
   ·obtain ⟨rfl,hful⟩:=hfull
    have HFU:Hid _:=hful
    clear hful
    go_wp2_with fail
    refine (full_any (HH0.out.cor.free HOX.out)).mono ?_
    rw [decide_eq_true HFU.out]
    rintro e W3 ⟨rfl,hw⟩
    rw [hw]
    clear hw W3
    obtain ⟨z0,z1,z2,z3,z4,z5,z6,z7,z8⟩:=cel9 HX1.out
    have fr:=HX1.out.free
    go_wp2_with fail
    refine bodyPost_ret (results_err9 rfl rfl rfl HX1.out.clr9) rfl ?_
    have hc:putC s node key g data dead=11:=by
     unfold putC
     rw [if_neg (by rw [HKT.out]; simp),if_neg (by rw [← HER.out,HE0.out]; simp),if_pos ⟨HTH.out.symm,HFU.out⟩]
    have ha:putA most rs s node key g data dead=⟨11,rs,s⟩:=by unfold putA; rw [if_neg (by rw [hc]; decide),hc]
    have OZ:=HOX.out.clr9 (b:=w.heap.size + 1) (.inr (by omega))
    rw [ha]
    exact ⟨zer,none,0,[],rfl,rfl,rfl,Row.nil _ none 0 (by omega),Far.nil _,D,S,HH0.out.free OZ,⟨OZ.mono (fun _ _ h=>h.elim),fun _ h=>.inl h,fun _ h=>.inl h⟩⟩
   ·have HC0:Hid (putC s node key g data dead=0):=by
     show _=_
     unfold putC
     rw [if_neg (by rw [HKT.out]; simp),if_neg (by rw [← HER.out,HE0.out]; simp),if_neg (by rw [← HTH.out]; exact hfull)]
    have HOKK:Hid (OkK (putK s node key g data dead)):=put_okK HH0.out.inv.ok HG.out hdl HLT.out HC0.out
    have HDO:Hid _:=put_do HH0.out.inv.ok HOKK.out HC0.out
    obtain ⟨xe,hxe⟩:∃ xe:E,xe=⟨key,h2,a2,c2,l2⟩:=⟨_,rfl⟩
    have HXA:Hid (xe.abs=putK s node key g data dead):=by
     show _=_
     rw [hxe]
     unfold E.abs putK
     simp only
     rw [HH2.out,HL2.out]
    have HXE:Hid _:=hxe
    have HFX:Hid (Far V.heap.size xe.a xe.l):=by rw [hxe]; exact HMK.out.far
    have HRX:Hid (Row V2 xe.a xe.cap xe.l):=by rw [hxe]; exact HMK.out.row
    have HKEY:Hid (xe.key=key∧xe.f=h2∧xe.a=a2∧xe.cap=c2∧xe.l=l2):=by rw [hxe]; exact ⟨rfl,rfl,rfl,rfl,rfl⟩
    have HOKR:Hid (OkR ⟨1,0,xe.abs⟩):=by rw [HXA.out]; exact ⟨.inl ⟨rfl,rfl,HOKK.out⟩⟩
    have HDS:Hid ((doR s ⟨1,0,xe.abs⟩).isSome=true):=by rw [HXA.out,HDO.out]; rfl
    obtain ⟨rfl,rfl,rfl,rfl,rfl⟩:=HKEY.out
    clear hxe HXE HKEY HMK
    have tail:∀ (K0:Act→World→Prop),True:=fun _=>trivial
    clear tail
    cases th with
    | true =>
     obtain ⟨x0,x1,x2,x3,x4,x5,x6,x7,x8⟩:=cel9 HCA.out
     go_wp2_with fail
     clear x0 x1 x2 x3 x4 x5 x6 x7 x8
     refine (joins_any xe V2).mono ?_
     rintro e w3 ⟨rfl,o3⟩
     have HA3:Hid _:=HCA.out.off o3 (fun h=>h)
     have HX3:Hid _:=HX1.out.off o3 (fun h=>h)
     have HO3:Hid _:=HOX.out.trans o3 (fun _ _ h=>h)
     have HR3:Hid _:=HRX.out.off o3
     have HTE:Hid (Ter (fun c=>¬ D c∧¬ S c) xe.a xe.l):=HFX.out.ter.mono (fun c hc=>HNS.out c (by have:=HSZ.out.1; omega))
     have HHS:Hid (w.heap.size + 1 < w3.heap.size):=HX3.out.lt
     clear o3
     go_wp2_with fail
     refine (change_any 1 0 xe (HH0.out.free HO3.out) HR3.out HTE.out HOKR.out HDS.out).mono ?_
     rintro e w4 ⟨rfl,D',S',hol,mv⟩
     have ha:putA most rs s node xe.key g data dead=chA most rs s ⟨1,0,putK s node xe.key g data dead⟩:=by unfold putA; rw [if_pos HC0.out]
     have HHOL:Hid _:=hol
     have HMV:Hid _:=mv
     have HA4:Hid _:=mv.cel HA3.out (HNS.out q2 HSZ.out.2.1)
     have HX4:Hid _:=mv.cel HX3.out (HNS.out _ (by omega))
     have HR4:Hid _:=mv.row HR3.out HTE.out
     have HAA:Hid _:=ha
     obtain ⟨ce,hce⟩:∃ ce,ce=chE most rs s ⟨1,0,xe.abs⟩:=⟨_,rfl⟩
     rw [← hce]
     have HCE:Hid _:=hce
     clear hol mv ha hce HA3 HX3 HR3
     have HN1:Hid (¬ D' (w.heap.size + 1)∧¬ S' (w.heap.size + 1)):=HMV.out.not (HHS.out) (HNS.out _ (by omega))
     by_cases hz:ce=0
     ·have HZ:Hid _:=hz
      rw [hz]
      clear hz
      obtain ⟨x0,x1,x2,x3,x4,x5,x6,x7,x8⟩:=cel9 HA4.out
      obtain ⟨z0,z1,z2,z3,z4,z5,z6,z7,z8⟩:=cel9 HX4.out
      have fr:=HX4.out.free
      go_wp2_with fail
      refine bodyPost_ret (results_sibs2 rfl rfl rfl (HX4.out.st9 xe.f (.slice xe.a xe.l.length xe.cap))) rfl ?_
      have OB:=(Off.refl (fun x=>x=w.heap.size + 1) w4).st9 (.inl rfl) xe.f (.slice xe.a xe.l.length xe.cap)
      have er0:(putA most rs s node xe.key g data dead).er=0:=by rw [HAA.out,← HXA.out]; show chE _ _ _ _=0; rw [← HCE.out]; exact HZ.out
      refine ⟨xe.f,xe.a,xe.cap,xe.l,by rw [er0]; rfl,?_,?_,HR4.out.offF HFX.out OB (fun x hx e=>by have:=HSZ.out.2.2; omega),HFX.out.mono (by have:=HSZ.out.1; omega),D',S',?_,?_⟩
      ·unfold putT
       rw [if_pos er0,← HXA.out]
       rfl
      ·unfold putT
       rw [if_pos er0,← HXA.out]
       rfl
      ·have e2:(putA most rs s node xe.key g data dead).rs=chL most rs s ⟨1,0,xe.abs⟩:=by rw [HAA.out,← HXA.out]; rfl
       have e3:(putA most rs s node xe.key g data dead).s=chS most rs s ⟨1,0,xe.abs⟩:=by rw [HAA.out,← HXA.out]; rfl
       rw [e2,e3]
       exact HHOL.out.box OB HN1.out
      ·exact (Mov.after HO3.out HMV.out).box OB (by omega)
     ·have HZ:Hid _:=hz
      have e1:(ce != 0)=true:=by simpa using hz
      clear hz
      obtain ⟨z0,z1,z2,z3,z4,z5,z6,z7,z8⟩:=cel9 HX4.out
      have fr:=HX4.out.free
      go_wp2_with fail
      refine bodyPost_ret (results_err9 rfl rfl rfl HX4.out.clr9) rfl ?_
      have OB:=(Off.refl (fun x=>x=w.heap.size + 1) w4).clr9 (.inl rfl)
      have er0:(putA most rs s node xe.key g data dead).er=ce:=by rw [HAA.out,← HXA.out,HCE.out]; rfl
      refine ⟨zer,none,0,[],by rw [er0]; rfl,?_,?_,Row.nil _ none 0 (by omega),Far.nil _,D',S',?_,?_⟩
      ·unfold putT
       rw [er0,if_neg HZ.out]
      ·unfold putT
       rw [er0,if_neg HZ.out]
       rfl
      ·have e2:(putA most rs s node xe.key g data dead).rs=chL most rs s ⟨1,0,xe.abs⟩:=by rw [HAA.out,← HXA.out]; rfl
       have e3:(putA most rs s node xe.key g data dead).s=chS most rs s ⟨1,0,xe.abs⟩:=by rw [HAA.out,← HXA.out]; rfl
       rw [e2,e3]
       exact HHOL.out.box OB HN1.out
      ·exact (Mov.after HO3.out HMV.out).box OB (by omega)
    | false =>
     have HNF:Hid (decide (256≤s.1.length)=false):=decide_eq_false (fun h=>hfull ⟨rfl,h⟩)
     go_wp2_with fail
     refine (full_any (HH0.out.cor.free HOX.out)).mono ?_
     rw [HNF.out]
     rintro e W3 ⟨rfl,hw⟩
     rw [hw]
     clear hw W3
     obtain ⟨x0,x1,x2,x3,x4,x5,x6,x7,x8⟩:=cel9 HCA.out
     go_wp2_with fail
     clear x0 x1 x2 x3 x4 x5 x6 x7 x8
     refine (joins_any xe V2).mono ?_
     rintro e w3 ⟨rfl,o3⟩
     have HA3:Hid _:=HCA.out.off o3 (fun h=>h)
     have HX3:Hid _:=HX1.out.off o3 (fun h=>h)
     have HO3:Hid _:=HOX.out.trans o3 (fun _ _ h=>h)
     have HR3:Hid _:=HRX.out.off o3
     have HTE:Hid (Ter (fun c=>¬ D c∧¬ S c) xe.a xe.l):=HFX.out.ter.mono (fun c hc=>HNS.out c (by have:=HSZ.out.1; omega))
     have HHS:Hid (w.heap.size + 1 < w3.heap.size):=HX3.out.lt
     clear o3
     go_wp2_with fail
     refine (change_any 1 0 xe (HH0.out.free HO3.out) HR3.out HTE.out HOKR.out HDS.out).mono ?_
     rintro e w4 ⟨rfl,D',S',hol,mv⟩
     have ha:putA most rs s node xe.key g data dead=chA most rs s ⟨1,0,putK s node xe.key g data dead⟩:=by unfold putA; rw [if_pos HC0.out]
     have HHOL:Hid _:=hol
     have HMV:Hid _:=mv
     have HA4:Hid _:=mv.cel HA3.out (HNS.out q2 HSZ.out.2.1)
     have HX4:Hid _:=mv.cel HX3.out (HNS.out _ (by omega))
     have HR4:Hid _:=mv.row HR3.out HTE.out
     have HAA:Hid _:=ha
     obtain ⟨ce,hce⟩:∃ ce,ce=chE most rs s ⟨1,0,xe.abs⟩:=⟨_,rfl⟩
     rw [← hce]
     have HCE:Hid _:=hce
     clear hol mv ha hce HA3 HX3 HR3
     have HN1:Hid (¬ D' (w.heap.size + 1)∧¬ S' (w.heap.size + 1)):=HMV.out.not (HHS.out) (HNS.out _ (by omega))
     by_cases hz:ce=0
     ·have HZ:Hid _:=hz
      rw [hz]
      clear hz
      obtain ⟨x0,x1,x2,x3,x4,x5,x6,x7,x8⟩:=cel9 HA4.out
      obtain ⟨z0,z1,z2,z3,z4,z5,z6,z7,z8⟩:=cel9 HX4.out
      have fr:=HX4.out.free
      go_wp2_with fail
      refine bodyPost_ret (results_sibs2 rfl rfl rfl (HX4.out.st9 xe.f (.slice xe.a xe.l.length xe.cap))) rfl ?_
      have OB:=(Off.refl (fun x=>x=w.heap.size + 1) w4).st9 (.inl rfl) xe.f (.slice xe.a xe.l.length xe.cap)
      have er0:(putA most rs s node xe.key g data dead).er=0:=by rw [HAA.out,← HXA.out]; show chE _ _ _ _=0; rw [← HCE.out]; exact HZ.out
      refine ⟨xe.f,xe.a,xe.cap,xe.l,by rw [er0]; rfl,?_,?_,HR4.out.offF HFX.out OB (fun x hx e=>by have:=HSZ.out.2.2; omega),HFX.out.mono (by have:=HSZ.out.1; omega),D',S',?_,?_⟩
      ·unfold putT
       rw [if_pos er0,← HXA.out]
       rfl
      ·unfold putT
       rw [if_pos er0,← HXA.out]
       rfl
      ·have e2:(putA most rs s node xe.key g data dead).rs=chL most rs s ⟨1,0,xe.abs⟩:=by rw [HAA.out,← HXA.out]; rfl
       have e3:(putA most rs s node xe.key g data dead).s=chS most rs s ⟨1,0,xe.abs⟩:=by rw [HAA.out,← HXA.out]; rfl
       rw [e2,e3]
       exact HHOL.out.box OB HN1.out
      ·exact (Mov.after HO3.out HMV.out).box OB (by omega)
     ·have HZ:Hid _:=hz
      have e1:(ce != 0)=true:=by simpa using hz
      clear hz
      obtain ⟨z0,z1,z2,z3,z4,z5,z6,z7,z8⟩:=cel9 HX4.out
      have fr:=HX4.out.free
      go_wp2_with fail
      refine bodyPost_ret (results_err9 rfl rfl rfl HX4.out.clr9) rfl ?_
      have OB:=(Off.refl (fun x=>x=w.heap.size + 1) w4).clr9 (.inl rfl)
      have er0:(putA most rs s node xe.key g data dead).er=ce:=by rw [HAA.out,← HXA.out,HCE.out]; rfl
      refine ⟨zer,none,0,[],by rw [er0]; rfl,?_,?_,Row.nil _ none 0 (by omega),Far.nil _,D',S',?_,?_⟩
      ·unfold putT
       rw [er0,if_neg HZ.out]
      ·unfold putT
       rw [er0,if_neg HZ.out]
       rfl
      ·have e2:(putA most rs s node xe.key g data dead).rs=chL most rs s ⟨1,0,xe.abs⟩:=by rw [HAA.out,← HXA.out]; rfl
       have e3:(putA most rs s node xe.key g data dead).s=chS most rs s ⟨1,0,xe.abs⟩:=by rw [HAA.out,← HXA.out]; rfl
       rw [e2,e3]
       exact HHOL.out.box OB HN1.out
      ·exact (Mov.after HO3.out HMV.out).box OB (by omega)
  ·have HE1:Hid _:=he
   have e1:(er != 0)=true:=by simpa using he
   clear he
   obtain ⟨z0,z1,z2,z3,z4,z5,z6,z7,z8⟩:=cel9 HX1.out
   have fr:=HX1.out.free
   go_wp2_with fail
   refine bodyPost_ret (results_err9 rfl rfl rfl HX1.out.clr9) rfl ?_
   have hc:putC s node key g data dead=er:=by
    unfold putC
    rw [if_neg (by rw [HKT.out]; simp),← HER.out,if_pos HE1.out]
   have ha:putA most rs s node key g data dead=⟨er,rs,s⟩:=by unfold putA; rw [if_neg (by rw [hc]; exact HE1.out),hc]
   have OZ:=HOX.out.clr9 (b:=w.heap.size + 1) (.inr (by omega))
   rw [ha]
   exact ⟨zer,none,0,[],rfl,by unfold putT; rw [if_neg HE1.out],by unfold putT; rw [if_neg HE1.out]; rfl,Row.nil _ none 0 (by omega),Far.nil _,D,S,HH0.out.free OZ,⟨OZ.mono (fun _ _ h=>h.elim),fun _ h=>.inl h,fun _ h=>.inl h⟩⟩
end Go.Proofs.YthjbnpaghiojlaaGreat

namespace Go.Proofs.YthjbnpaghiojlaaGreat
open Go.RowKit
def joinB (most:Nat) (rs:List (List Nat)) (s:PS) (k:K):Bool:=decide (joinC s k=0) && (chE most rs s ⟨1,0,k⟩ == 0)
theorem may_okK {x:E} {w:World} (hn:Nrm x.f) (hr:Row w x.a x.cap x.l) (hm:(keyB x.key && mayS x.f (cont x.l))=true):OkK x.abs:=by
 rw [Bool.and_eq_true] at hm
 exact ⟨hm.1,may_iff.1 hm.2,hn,hr.rng⟩
set_option maxRecDepth 100000 in
set_option maxHeartbeats 2000000 in
theorem ljoin_any {D S:Nat→Prop} {p lb b most:Nat} {rs:List (List Nat)} {s:PS} {w:World} (h:Hol D S p lb b most rs s w) (x:E) (hr:Row w x.a x.cap x.l) (hn:Nrm x.f) (htr:Ter (fun c=>¬ D c∧¬ S c) x.a x.l) (hks:x.key.size≤9223372036854775807) :
  Calls Tryz.prog 23 #[.pointer (some ⟨p,0,none⟩),(.agg #[.string x.key,.int .i64 (x.f 0),.int .i64 (x.f 1),.int .i64 (x.f 2),.int .i64 (x.f 3),.int .i64 (x.f 4),.int .i64 (x.f 5),.int .i64 (x.f 6),.int .i64 (x.f 7),.slice x.a x.l.length x.cap])] w fun e w'=>e=.returned (.tuple #[.bool (joinB most rs s x.abs),.int .i64 (joinA most rs s x.abs).er])∧∃ D' S',Hol D' S' p lb b most (joinA most rs s x.abs).rs (joinA most rs s x.abs).s w'∧Mov D S D' S' w w':=by
 have hq:=eql_sto
 obtain ⟨tp,tb,hp,T0,H0,t,xs,c0,tab,ht,-⟩:=h.cor.is
 have hf:∀ e ∈ t,e.l.length≤1000:=okT_few h.cor.ok.tab ht
 obtain ⟨W,hW⟩:∃ W,W=(w.alloc (.cells #[.string x.key,.int .i64 (x.f 0),.int .i64 (x.f 1),.int .i64 (x.f 2),.int .i64 (x.f 3),.int .i64 (x.f 4),.int .i64 (x.f 5),.int .i64 (x.f 6),.int .i64 (x.f 7),.slice x.a x.l.length x.cap] 68)):=⟨_,rfl⟩
 have O:Off (fun _=>False) w W:=by rw [hW]; exact (Off.refl _ w).alloc _
 have C:Cel w.heap.size 68 #[.string x.key,.int .i64 (x.f 0),.int .i64 (x.f 1),.int .i64 (x.f 2),.int .i64 (x.f 3),.int .i64 (x.f 4),.int .i64 (x.f 5),.int .i64 (x.f 6),.int .i64 (x.f 7),.slice x.a x.l.length x.cap] W:=by rw [hW]; exact Cel.new w _ _
 have HGET:Hid (∀ v,Off (fun _=>False) W v→Calls Tryz.prog 63 #[.pointer (some ⟨tp,0,none⟩),.string x.key] v fun e w'=>∃ (f:Nat→Int) (a:Option Addr) (c:Nat) (l:List V),e=.returned (.tuple #[.agg #[.int .i64 (f 0),.int .i64 (f 1),.int .i64 (f 2),.int .i64 (f 3),.int .i64 (f 4),.int .i64 (f 5),.int .i64 (f 6),.int .i64 (f 7),.slice a l.length c],.bool (fndG K.key x.key s.1).isSome])∧f=(getK s.1 x.key).f∧cont l=(getK s.1 x.key).l∧Row w' a c l∧Far v.heap.size a l∧Off (fun _=>False) v w'):=fun v ov=>kget_any ((tab.free O).free ov) ht hf x.key hks
 have HH0:Hid _:=h
 have HR0:Hid _:=hr
 have HTR:Hid _:=htr
 have HN:Hid _:=hn
 have HW:Hid _:=hW
 have HC:Hid _:=C
 have HO:Hid _:=O
 have HP:Hid _:=c0.off O (fun h=>h)
 obtain ⟨u0,u1,u2,u3,u4,u5,u6,u7,u8,u9⟩:=cel10 C
 clear h tab ht hf hW C O c0 hr htr hn
 go_enter Tryz.func23,Tryz.ntmps23
 go_upto_region 1 with fail
 rw [show (w.alloc (.cells #[.string x.key,.int .i64 (x.f 0),.int .i64 (x.f 1),.int .i64 (x.f 2),.int .i64 (x.f 3),.int .i64 (x.f 4),.int .i64 (x.f 5),.int .i64 (x.f 6),.int .i64 (x.f 7),.slice x.a x.l.length x.cap] 68))=W from HW.out.symm]
 go_wp2_with fail
 clear u0 u1 u2 u3 u4 u5 u6 u7 u8 u9
 refine (smayentry_any x.key x.f x.a x.cap x.l _ (HR0.out.off HO.out)).mono ?_
 cases hm:(keyB x.key && mayS x.f (cont x.l))
 ·rintro e W1 ⟨rfl,o1⟩
  have HM:Hid _:=hm
  have HOX:Hid _:=HO.out.trans o1 (fun _ _ h=>h)
  clear hm o1
  go_wp2_with fail
  go_ret2
  have hc:joinC s x.abs=1:=by unfold joinC; rw [if_pos (show (keyB x.abs.key && mayS x.abs.f x.abs.l)=false from HM.out)]
  have ha:joinA most rs s x.abs=⟨1,rs,s⟩:=by unfold joinA; rw [hc]; rfl
  have hb:joinB most rs s x.abs=false:=by unfold joinB; rw [hc]; rfl
  rw [ha,hb]
  exact ⟨rfl,D,S,HH0.out.free HOX.out,⟨HOX.out.mono (fun _ _ h=>h.elim),fun _ h=>.inl h,fun _ h=>.inl h⟩⟩
 ·rintro e W1 ⟨rfl,o1⟩
  have HM:Hid _:=hm
  replace HC:Hid (Cel w.heap.size 68 #[.string x.key,.int .i64 (x.f 0),.int .i64 (x.f 1),.int .i64 (x.f 2),.int .i64 (x.f 3),.int .i64 (x.f 4),.int .i64 (x.f 5),.int .i64 (x.f 6),.int .i64 (x.f 7),.slice x.a x.l.length x.cap] W1):=HC.out.off o1 (fun h=>h)
  replace HP:Hid (Cel p 101 #[.pointer (some ⟨lb,0,none⟩),.pointer (some ⟨tp,0,none⟩),.pointer (some ⟨hp,0,none⟩)] W1):=HP.out.off o1 (fun h=>h)
  replace HO:Hid (Off (fun _=>False) w W1):=HO.out.trans o1 (fun _ _ h=>h)
  replace HGET:Hid (∀ v,Off (fun _=>False) W1 v→Calls Tryz.prog 63 #[.pointer (some ⟨tp,0,none⟩),.string x.key] v fun e w'=>∃ (f:Nat→Int) (a:Option Addr) (c:Nat) (l:List V),e=.returned (.tuple #[.agg #[.int .i64 (f 0),.int .i64 (f 1),.int .i64 (f 2),.int .i64 (f 3),.int .i64 (f 4),.int .i64 (f 5),.int .i64 (f 6),.int .i64 (f 7),.slice a l.length c],.bool (fndG K.key x.key s.1).isSome])∧f=(getK s.1 x.key).f∧cont l=(getK s.1 x.key).l∧Row w' a c l∧Far v.heap.size a l∧Off (fun _=>False) v w'):=fun v ov=>HGET.out v (o1.trans ov (fun _ _ h=>h))
  clear hm o1 HW
  clear W
  obtain ⟨W,hWW⟩:∃ W,W=W1:=⟨_,rfl⟩
  rw [← hWW] at HC HP HO HGET ⊢
  clear hWW
  have HSZ:Hid (W.heap.size≤W.drew.heap.size):=Nat.le_refl _
  go_wp2_with fail
  refine wp_region_held_drew (S:=fun w'=>Off (fun _=>False) W w') (by kernel_rfl) ((Off.refl _ W).drew) (fun hS=>?_)
  refine take_q 0 16 (.pointer (some ⟨p,0,none⟩)) hS ?_
  simp only [Act.put,lsA,lsZ,lsS]
  refine take_q 1 17 (.pointer (some ⟨p,0,none⟩)) hS ?_
  simp only [Act.put,lsA,lsZ,lsS]
  refine take_q 2 18 (.pointer (some ⟨p,1,none⟩)) hS ?_
  simp only [Act.put,lsA,lsZ,lsS]
  refine take_r 3 19 (.pointer (some ⟨tp,0,none⟩)) rfl (Or.inl ⟨by rfl,fun w' hw'=>by have e:=(HP.out.off hw' (fun h=>h)).cell 1; simp only [List.getElem?_toArray,List.getElem?_cons_zero,List.getElem?_cons_succ] at e; go_simp⟩) hS ?_
  simp only [Act.put,lsA,lsZ,lsS]
  refine take_q 4 20 (.pointer (some ⟨w.heap.size,0,none⟩)) hS ?_
  simp only [Act.put,lsA,lsZ,lsS]
  refine take_r 5 21 (.string x.key) rfl (Or.inl ⟨by rfl,fun w' hw'=>by obtain ⟨u0,u1,u2,u3,u4,u5,u6,u7,u8,u9⟩:=cel10 (HC.out.off hw' (fun h=>h)); go_simp⟩) hS ?_
  simp only [Act.put,lsA,lsZ,lsS]
  refine wpAnyH_ready (rs:=[6,10]) (by kernel_rfl) (by simp) ?_
  refine AllReadyH.cons rfl (fun K' hK'=>?_) (AllReadyH.cons rfl (fun K' hK'=>?_) AllReadyH.nil)
  ·go_simp
   refine Calls.mono (HGET.out _ hS) ?_
   rintro e w1 ⟨f,a,c,l,rfl,hf,hl,row,far,o1⟩
   refine hK'.out _ _ (hS.trans o1 (fun _ _ h=>h)) (fun hS=>?_)
   clear hK' K'
   have HF:Hid _:=hf
   have HL:Hid _:=hl
   have HR1:Hid _:=row
   have HFA:Hid _:=far
   have HO1:Hid _:=o1
   obtain ⟨th,hth⟩:∃ th,th=(fndG K.key x.key s.1).isSome:=⟨_,rfl⟩
   rw [← hth]
   have HTH:Hid _:=hth
   clear hf hl row far o1 hth
   refine take_q 7 15 (.tuple #[.agg #[(.int .i64 (f 0)),(.int .i64 (f 1)),(.int .i64 (f 2)),(.int .i64 (f 3)),(.int .i64 (f 4)),(.int .i64 (f 5)),(.int .i64 (f 6)),(.int .i64 (f 7)),(.slice a l.length c)],.bool th]) hS ?_
   simp only [Act.put,lsA,lsZ,lsS]
   refine take_q 8 23 (.agg #[(.int .i64 (f 0)),(.int .i64 (f 1)),(.int .i64 (f 2)),(.int .i64 (f 3)),(.int .i64 (f 4)),(.int .i64 (f 5)),(.int .i64 (f 6)),(.int .i64 (f 7)),(.slice a l.length c)]) hS ?_
   simp only [Act.put,lsA,lsZ,lsS]
   refine take_q 9 24 (.bool th) hS ?_
   simp only [Act.put,lsA,lsZ,lsS]
   refine wpAnyH_ready (rs:=[10]) (by kernel_rfl) (by simp) ?_
   refine AllReadyH.cons rfl (fun K' hK'=>?_) AllReadyH.nil
   go_simp
   refine hK'.out _ _ (hS.alloc _) (fun hS=>?_)
   clear hK' K'
   have DQ:Cel w1.heap.size 47 #[.int .i64 (zer 0),.int .i64 (zer 1),.int .i64 (zer 2),.int .i64 (zer 3),.int .i64 (zer 4),.int .i64 (zer 5),.int .i64 (zer 6),.int .i64 (zer 7),.slice none 0 0] (w1.alloc (.cells #[.int .i64 0,.int .i64 0,.int .i64 0,.int .i64 0,.int .i64 0,.int .i64 0,.int .i64 0,.int .i64 0,.slice none 0 0] 47)):=Cel.new w1 _ _
   generalize hv:w1.alloc (.cells #[.int .i64 0,.int .i64 0,.int .i64 0,.int .i64 0,.int .i64 0,.int .i64 0,.int .i64 0,.int .i64 0,.slice none 0 0] 47)=v at DQ hS ⊢
   generalize hqq:w1.heap.size=q at DQ ⊢
   have HQL:Hid (W.heap.size≤q):=by have h1:=HO1.out.size; show _≤_; rw [← hqq]; exact Nat.le_trans HSZ.out h1
   have HRQ:Hid (∀ {V:World},Off (fun x=>x=q) v V→Row V a c l):=fun {V} ob=>((HR1.out.off (by rw [← hv]; exact (Off.refl _ w1).alloc _)).offT ((HR1.out.below)) ob (fun x _ h1 h2=>by omega))
   have HDQ:Hid _:=DQ
   clear DQ hv hqq
   obtain ⟨x0,x1,x2,x3,x4,x5,x6,x7,x8⟩:=cel9 HDQ.out
   have fz:=HDQ.out.free
   refine wpAnyH_ready (rs:=[11]) (by kernel_rfl) (by simp) ?_
   refine AllReadyH.cons rfl (fun K' hK'=>?_) AllReadyH.nil
   go_simp
   refine hK'.out _ _ (hS.st9 (b:=q) (.inr HQL.out) f (.slice a l.length c)) (fun hS=>?_)
   clear hK' K'
   have ZQ:=HDQ.out.st9 f (.slice a l.length c)
   clear fz x0 x1 x2 x3 x4 x5 x6 x7 x8
   have OB:=(Off.refl (fun x=>x=q) v).st9 (.inl rfl) f (.slice a l.length c)
   generalize hV:(((((((((v.setCell ⟨q,0,none⟩ (.int .i64 (f 0))).setCell ⟨q,1,none⟩ (.int .i64 (f 1))).setCell ⟨q,2,none⟩ (.int .i64 (f 2))).setCell ⟨q,3,none⟩ (.int .i64 (f 3))).setCell ⟨q,4,none⟩ (.int .i64 (f 4))).setCell ⟨q,5,none⟩ (.int .i64 (f 5))).setCell ⟨q,6,none⟩ (.int .i64 (f 6))).setCell ⟨q,7,none⟩ (.int .i64 (f 7))).setCell ⟨q,8,none⟩ (.slice a l.length c))=V at ZQ hS OB ⊢
   clear hV
   refine take_q 12 7 (.bool th) hS ?_
   simp only [Act.put,lsA,lsZ,lsS]
   refine wpAnyH_done (by kernel_rfl) ?_ _
   have HZQ:Hid _:=ZQ
   have HOV:Hid _:=hS
   have HOX:Hid _:=HO.out.trans hS (fun _ _ h=>h)
   have HXE:Hid _:=HC.out.off hS (fun h=>h)
   have HRV:Hid (Row V a c l):=HRQ.out OB
   clear ZQ hS OB HDQ HRQ
   cases th with
   | false =>
    by_cases hful:256≤s.1.length
    ·have HFU:Hid (256≤s.1.length):=hful
     clear hful
     go_wp2_with fail
     refine (full_any (HH0.out.cor.free HOX.out)).mono ?_
     rw [decide_eq_true HFU.out]
     rintro e W3 ⟨rfl,hw⟩
     rw [hw]
     clear hw W3
     go_wp2_with fail
     go_ret2
     have hc:joinC s x.abs=11:=by
      unfold joinC
      rw [if_neg (by rw [show (keyB x.abs.key && mayS x.abs.f x.abs.l)=true from HM.out]; simp),if_pos ⟨HTH.out.symm,HFU.out⟩]
     have ha:joinA most rs s x.abs=⟨11,rs,s⟩:=by unfold joinA; rw [hc]; rfl
     have hb:joinB most rs s x.abs=false:=by unfold joinB; rw [hc]; rfl
     rw [ha,hb]
     exact ⟨rfl,D,S,HH0.out.free HOX.out,⟨HOX.out.mono (fun _ _ h=>h.elim),fun _ h=>.inl h,fun _ h=>.inl h⟩⟩
    ·have HNF:Hid (decide (256≤s.1.length)=false):=decide_eq_false hful
     have HC0:Hid (joinC s x.abs=0):=by
      show _=_
      unfold joinC
      rw [if_neg (by rw [show (keyB x.abs.key && mayS x.abs.f x.abs.l)=true from HM.out]; simp),if_neg (fun h=>hful h.2),if_neg (fun h=>by rw [show (fndG K.key x.abs.key s.1).isSome=false from HTH.out.symm] at h; cases h.1)]
     clear hful
     go_wp2_with fail
     refine (full_any (HH0.out.cor.free HOX.out)).mono ?_
     rw [HNF.out]
     rintro e W3 ⟨rfl,hw⟩
     rw [hw]
     clear hw W3
     obtain ⟨u0,u1,u2,u3,u4,u5,u6,u7,u8,u9⟩:=cel10 HXE.out
     go_wp2_with fail
     clear u0 u1 u2 u3 u4 u5 u6 u7 u8 u9
     refine (joins_any x _).mono ?_
     rintro e w3 ⟨rfl,o3⟩
     have HO3:Hid _:=HOX.out.trans o3 (fun _ _ h=>h)
     clear o3
     go_wp2_with fail
     refine (changed_any 1 0 x (HH0.out.free HO3.out) (HR0.out.off HO3.out) HTR.out ⟨.inl ⟨rfl,rfl,may_okK HN.out HR0.out HM.out⟩⟩ (join_do (.inl HC0.out))).mono ?_
     rintro e w4 ⟨rfl,D',S',hol,mv⟩
     have HHOL:Hid _:=hol
     have HMV:Hid _:=mv
     clear hol mv
     obtain ⟨ce,hce⟩:∃ ce,ce=chE most rs s ⟨1,0,x.abs⟩:=⟨_,rfl⟩
     rw [← hce]
     have HCE:Hid _:=hce
     clear hce
     go_wp2_with fail
     go_ret2
     have ha:joinA most rs s x.abs=chA most rs s ⟨1,0,x.abs⟩:=by unfold joinA; rw [if_pos HC0.out]
     have hb:joinB most rs s x.abs=(ce == 0):=by unfold joinB; rw [HC0.out,HCE.out]; rfl
     rw [ha,hb]
     refine ⟨?_,D',S',HHOL.out,Mov.after HO3.out HMV.out⟩
     show _=Ending.returned (Value.tuple #[_,.int .i64 (chE most rs s ⟨1,0,x.abs⟩)])
     rw [← HCE.out]
     rfl
   | true =>
    obtain ⟨y0,y1,y2,y3,y4,y5,y6,y7,y8⟩:=cel9 HZQ.out
    obtain ⟨u0,u1,u2,u3,u4,u5,u6,u7,u8,u9⟩:=cel10 HXE.out
    go_wp2_with fail
    clear y0 y1 y2 y3 y4 y5 y6 y7 y8 u0 u1 u2 u3 u4 u5 u6 u7 u8 u9
    refine (sleq_any x.f f x.a a x.cap c x.l l _ (HR0.out.off HOX.out) HRV.out).mono ?_
    rw [HF.out,HL.out]
    cases hle:leqS x.f (getK s.1 x.key).f (cont x.l) (getK s.1 x.key).l
    ·have HLE:Hid _:=hle
     clear hle
     rintro e w2 ⟨rfl,o2⟩
     have HOX2:Hid _:=HOX.out.trans o2 (fun _ _ h=>h)
     have HXE2:Hid _:=HXE.out.off o2 (fun h=>h)
     clear o2 HOX HXE
     have HC0:Hid (joinC s x.abs=0):=by
      show _=_
      unfold joinC
      rw [if_neg (by rw [show (keyB x.abs.key && mayS x.abs.f x.abs.l)=true from HM.out]; simp),if_neg (fun h=>by rw [show (fndG K.key x.abs.key s.1).isSome=true from HTH.out.symm] at h; cases h.1),if_neg (fun h=>by rw [show leqS x.abs.f (getK s.1 x.abs.key).f x.abs.l (getK s.1 x.abs.key).l=false from HLE.out] at h; cases h.2)]
     obtain ⟨u0,u1,u2,u3,u4,u5,u6,u7,u8,u9⟩:=cel10 HXE2.out
     go_wp2_with fail
     clear u0 u1 u2 u3 u4 u5 u6 u7 u8 u9
     refine (joins_any x _).mono ?_
     rintro e w3 ⟨rfl,o3⟩
     have HO3:Hid _:=HOX2.out.trans o3 (fun _ _ h=>h)
     clear o3
     go_wp2_with fail
     refine (changed_any 1 0 x (HH0.out.free HO3.out) (HR0.out.off HO3.out) HTR.out ⟨.inl ⟨rfl,rfl,may_okK HN.out HR0.out HM.out⟩⟩ (join_do (.inl HC0.out))).mono ?_
     rintro e w4 ⟨rfl,D',S',hol,mv⟩
     have HHOL:Hid _:=hol
     have HMV:Hid _:=mv
     clear hol mv
     obtain ⟨ce,hce⟩:∃ ce,ce=chE most rs s ⟨1,0,x.abs⟩:=⟨_,rfl⟩
     rw [← hce]
     have HCE:Hid _:=hce
     clear hce
     go_wp2_with fail
     go_ret2
     have ha:joinA most rs s x.abs=chA most rs s ⟨1,0,x.abs⟩:=by unfold joinA; rw [if_pos HC0.out]
     have hb:joinB most rs s x.abs=(ce == 0):=by unfold joinB; rw [HC0.out,HCE.out]; rfl
     rw [ha,hb]
     refine ⟨?_,D',S',HHOL.out,Mov.after HO3.out HMV.out⟩
     show _=Ending.returned (Value.tuple #[_,.int .i64 (chE most rs s ⟨1,0,x.abs⟩)])
     rw [← HCE.out]
     rfl
    ·have HLE:Hid _:=hle
     clear hle
     rintro e w2 ⟨rfl,o2⟩
     have HOX2:Hid _:=HOX.out.trans o2 (fun _ _ h=>h)
     clear o2 HOX
     go_wp2_with fail
     go_ret2
     have hc:joinC s x.abs=-1:=by
      unfold joinC
      rw [if_neg (by rw [show (keyB x.abs.key && mayS x.abs.f x.abs.l)=true from HM.out]; simp),if_neg (fun h=>by rw [show (fndG K.key x.abs.key s.1).isSome=true from HTH.out.symm] at h; cases h.1),if_pos ⟨HTH.out.symm,HLE.out⟩]
     have ha:joinA most rs s x.abs=⟨0,rs,s⟩:=by unfold joinA; rw [hc]; rfl
     have hb:joinB most rs s x.abs=false:=by unfold joinB; rw [hc]; rfl
     rw [ha,hb]
     exact ⟨rfl,D,S,HH0.out.free HOX2.out,⟨HOX2.out.mono (fun _ _ h=>h.elim),fun _ h=>.inl h,fun _ h=>.inl h⟩⟩
  ·go_simp
   refine hK'.out _ _ (hS.alloc _) (fun hS=>?_)
   clear hK' K'
   have DQ:Cel W.heap.size 47 #[.int .i64 (zer 0),.int .i64 (zer 1),.int .i64 (zer 2),.int .i64 (zer 3),.int .i64 (zer 4),.int .i64 (zer 5),.int .i64 (zer 6),.int .i64 (zer 7),.slice none 0 0] (W.alloc (.cells #[.int .i64 0,.int .i64 0,.int .i64 0,.int .i64 0,.int .i64 0,.int .i64 0,.int .i64 0,.int .i64 0,.slice none 0 0] 47)).drew:=(Cel.new W _ _).drew
   generalize hv:(W.alloc (.cells #[.int .i64 0,.int .i64 0,.int .i64 0,.int .i64 0,.int .i64 0,.int .i64 0,.int .i64 0,.int .i64 0,.slice none 0 0] 47)).drew=v0 at DQ hS ⊢
   generalize hqq:W.heap.size=q at DQ ⊢
   have HQL:Hid (W.heap.size≤q):=by show _≤_; rw [← hqq]; exact Nat.le_refl _
   have HQ0:Hid _:=DQ
   clear DQ hv hqq
   refine wpAnyH_ready (rs:=[6]) (by kernel_rfl) (by simp) ?_
   refine AllReadyH.cons rfl (fun K' hK'=>?_) AllReadyH.nil
   go_simp
   refine Calls.mono (HGET.out _ hS) ?_
   rintro e w1 ⟨f,a,c,l,rfl,hf,hl,row,far,o1⟩
   refine hK'.out _ _ (hS.trans o1 (fun _ _ h=>h)) (fun hS=>?_)
   clear hK' K'
   have HF:Hid _:=hf
   have HL:Hid _:=hl
   have HR1:Hid _:=row
   have HFA:Hid _:=far
   have HO1:Hid _:=o1
   obtain ⟨th,hth⟩:∃ th,th=(fndG K.key x.key s.1).isSome:=⟨_,rfl⟩
   rw [← hth]
   have HTH:Hid _:=hth
   clear hf hl row far o1 hth
   have HDQ:Hid (Cel q 47 #[.int .i64 (zer 0),.int .i64 (zer 1),.int .i64 (zer 2),.int .i64 (zer 3),.int .i64 (zer 4),.int .i64 (zer 5),.int .i64 (zer 6),.int .i64 (zer 7),.slice none 0 0] w1):=Cel.off (D:=fun _=>False) HQ0.out HO1.out (fun h=>h)
   have HRQ:Hid (∀ {V:World},Off (fun x=>x=q) w1 V→Row V a c l):=fun {V} ob=>HR1.out.offF HFA.out ob (fun x hx e=>by have h1:=HQ0.out.lt; omega)
   clear HQ0
   refine take_q 7 15 (.tuple #[.agg #[(.int .i64 (f 0)),(.int .i64 (f 1)),(.int .i64 (f 2)),(.int .i64 (f 3)),(.int .i64 (f 4)),(.int .i64 (f 5)),(.int .i64 (f 6)),(.int .i64 (f 7)),(.slice a l.length c)],.bool th]) hS ?_
   simp only [Act.put,lsA,lsZ,lsS]
   refine take_q 8 23 (.agg #[(.int .i64 (f 0)),(.int .i64 (f 1)),(.int .i64 (f 2)),(.int .i64 (f 3)),(.int .i64 (f 4)),(.int .i64 (f 5)),(.int .i64 (f 6)),(.int .i64 (f 7)),(.slice a l.length c)]) hS ?_
   simp only [Act.put,lsA,lsZ,lsS]
   refine take_q 9 24 (.bool th) hS ?_
   simp only [Act.put,lsA,lsZ,lsS]
   obtain ⟨x0,x1,x2,x3,x4,x5,x6,x7,x8⟩:=cel9 HDQ.out
   have fz:=HDQ.out.free
   refine wpAnyH_ready (rs:=[11]) (by kernel_rfl) (by simp) ?_
   refine AllReadyH.cons rfl (fun K' hK'=>?_) AllReadyH.nil
   go_simp
   refine hK'.out _ _ (hS.st9 (b:=q) (.inr HQL.out) f (.slice a l.length c)) (fun hS=>?_)
   clear hK' K'
   have ZQ:=HDQ.out.st9 f (.slice a l.length c)
   clear fz x0 x1 x2 x3 x4 x5 x6 x7 x8
   have OB:=(Off.refl (fun x=>x=q) w1).st9 (.inl rfl) f (.slice a l.length c)
   generalize hV:(((((((((w1.setCell ⟨q,0,none⟩ (.int .i64 (f 0))).setCell ⟨q,1,none⟩ (.int .i64 (f 1))).setCell ⟨q,2,none⟩ (.int .i64 (f 2))).setCell ⟨q,3,none⟩ (.int .i64 (f 3))).setCell ⟨q,4,none⟩ (.int .i64 (f 4))).setCell ⟨q,5,none⟩ (.int .i64 (f 5))).setCell ⟨q,6,none⟩ (.int .i64 (f 6))).setCell ⟨q,7,none⟩ (.int .i64 (f 7))).setCell ⟨q,8,none⟩ (.slice a l.length c))=V at ZQ hS OB ⊢
   clear hV
   refine take_q 12 7 (.bool th) hS ?_
   simp only [Act.put,lsA,lsZ,lsS]
   refine wpAnyH_done (by kernel_rfl) ?_ _
   have HZQ:Hid _:=ZQ
   have HOV:Hid _:=hS
   have HOX:Hid _:=HO.out.trans hS (fun _ _ h=>h)
   have HXE:Hid _:=HC.out.off hS (fun h=>h)
   have HRV:Hid (Row V a c l):=HRQ.out OB
   clear ZQ hS OB HDQ HRQ
   cases th with
   | false =>
    by_cases hful:256≤s.1.length
    ·have HFU:Hid (256≤s.1.length):=hful
     clear hful
     go_wp2_with fail
     refine (full_any (HH0.out.cor.free HOX.out)).mono ?_
     rw [decide_eq_true HFU.out]
     rintro e W3 ⟨rfl,hw⟩
     rw [hw]
     clear hw W3
     go_wp2_with fail
     go_ret2
     have hc:joinC s x.abs=11:=by
      unfold joinC
      rw [if_neg (by rw [show (keyB x.abs.key && mayS x.abs.f x.abs.l)=true from HM.out]; simp),if_pos ⟨HTH.out.symm,HFU.out⟩]
     have ha:joinA most rs s x.abs=⟨11,rs,s⟩:=by unfold joinA; rw [hc]; rfl
     have hb:joinB most rs s x.abs=false:=by unfold joinB; rw [hc]; rfl
     rw [ha,hb]
     exact ⟨rfl,D,S,HH0.out.free HOX.out,⟨HOX.out.mono (fun _ _ h=>h.elim),fun _ h=>.inl h,fun _ h=>.inl h⟩⟩
    ·have HNF:Hid (decide (256≤s.1.length)=false):=decide_eq_false hful
     have HC0:Hid (joinC s x.abs=0):=by
      show _=_
      unfold joinC
      rw [if_neg (by rw [show (keyB x.abs.key && mayS x.abs.f x.abs.l)=true from HM.out]; simp),if_neg (fun h=>hful h.2),if_neg (fun h=>by rw [show (fndG K.key x.abs.key s.1).isSome=false from HTH.out.symm] at h; cases h.1)]
     clear hful
     go_wp2_with fail
     refine (full_any (HH0.out.cor.free HOX.out)).mono ?_
     rw [HNF.out]
     rintro e W3 ⟨rfl,hw⟩
     rw [hw]
     clear hw W3
     obtain ⟨u0,u1,u2,u3,u4,u5,u6,u7,u8,u9⟩:=cel10 HXE.out
     go_wp2_with fail
     clear u0 u1 u2 u3 u4 u5 u6 u7 u8 u9
     refine (joins_any x _).mono ?_
     rintro e w3 ⟨rfl,o3⟩
     have HO3:Hid _:=HOX.out.trans o3 (fun _ _ h=>h)
     clear o3
     go_wp2_with fail
     refine (changed_any 1 0 x (HH0.out.free HO3.out) (HR0.out.off HO3.out) HTR.out ⟨.inl ⟨rfl,rfl,may_okK HN.out HR0.out HM.out⟩⟩ (join_do (.inl HC0.out))).mono ?_
     rintro e w4 ⟨rfl,D',S',hol,mv⟩
     have HHOL:Hid _:=hol
     have HMV:Hid _:=mv
     clear hol mv
     obtain ⟨ce,hce⟩:∃ ce,ce=chE most rs s ⟨1,0,x.abs⟩:=⟨_,rfl⟩
     rw [← hce]
     have HCE:Hid _:=hce
     clear hce
     go_wp2_with fail
     go_ret2
     have ha:joinA most rs s x.abs=chA most rs s ⟨1,0,x.abs⟩:=by unfold joinA; rw [if_pos HC0.out]
     have hb:joinB most rs s x.abs=(ce == 0):=by unfold joinB; rw [HC0.out,HCE.out]; rfl
     rw [ha,hb]
     refine ⟨?_,D',S',HHOL.out,Mov.after HO3.out HMV.out⟩
     show _=Ending.returned (Value.tuple #[_,.int .i64 (chE most rs s ⟨1,0,x.abs⟩)])
     rw [← HCE.out]
     rfl
   | true =>
    obtain ⟨y0,y1,y2,y3,y4,y5,y6,y7,y8⟩:=cel9 HZQ.out
    obtain ⟨u0,u1,u2,u3,u4,u5,u6,u7,u8,u9⟩:=cel10 HXE.out
    go_wp2_with fail
    clear y0 y1 y2 y3 y4 y5 y6 y7 y8 u0 u1 u2 u3 u4 u5 u6 u7 u8 u9
    refine (sleq_any x.f f x.a a x.cap c x.l l _ (HR0.out.off HOX.out) HRV.out).mono ?_
    rw [HF.out,HL.out]
    cases hle:leqS x.f (getK s.1 x.key).f (cont x.l) (getK s.1 x.key).l
    ·have HLE:Hid _:=hle
     clear hle
     rintro e w2 ⟨rfl,o2⟩
     have HOX2:Hid _:=HOX.out.trans o2 (fun _ _ h=>h)
     have HXE2:Hid _:=HXE.out.off o2 (fun h=>h)
     clear o2 HOX HXE
     have HC0:Hid (joinC s x.abs=0):=by
      show _=_
      unfold joinC
      rw [if_neg (by rw [show (keyB x.abs.key && mayS x.abs.f x.abs.l)=true from HM.out]; simp),if_neg (fun h=>by rw [show (fndG K.key x.abs.key s.1).isSome=true from HTH.out.symm] at h; cases h.1),if_neg (fun h=>by rw [show leqS x.abs.f (getK s.1 x.abs.key).f x.abs.l (getK s.1 x.abs.key).l=false from HLE.out] at h; cases h.2)]
     obtain ⟨u0,u1,u2,u3,u4,u5,u6,u7,u8,u9⟩:=cel10 HXE2.out
     go_wp2_with fail
     clear u0 u1 u2 u3 u4 u5 u6 u7 u8 u9
     refine (joins_any x _).mono ?_
     rintro e w3 ⟨rfl,o3⟩
     have HO3:Hid _:=HOX2.out.trans o3 (fun _ _ h=>h)
     clear o3
     go_wp2_with fail
     refine (changed_any 1 0 x (HH0.out.free HO3.out) (HR0.out.off HO3.out) HTR.out ⟨.inl ⟨rfl,rfl,may_okK HN.out HR0.out HM.out⟩⟩ (join_do (.inl HC0.out))).mono ?_
     rintro e w4 ⟨rfl,D',S',hol,mv⟩
     have HHOL:Hid _:=hol
     have HMV:Hid _:=mv
     clear hol mv
     obtain ⟨ce,hce⟩:∃ ce,ce=chE most rs s ⟨1,0,x.abs⟩:=⟨_,rfl⟩
     rw [← hce]
     have HCE:Hid _:=hce
     clear hce
     go_wp2_with fail
     go_ret2
     have ha:joinA most rs s x.abs=chA most rs s ⟨1,0,x.abs⟩:=by unfold joinA; rw [if_pos HC0.out]
     have hb:joinB most rs s x.abs=(ce == 0):=by unfold joinB; rw [HC0.out,HCE.out]; rfl
     rw [ha,hb]
     refine ⟨?_,D',S',HHOL.out,Mov.after HO3.out HMV.out⟩
     show _=Ending.returned (Value.tuple #[_,.int .i64 (chE most rs s ⟨1,0,x.abs⟩)])
     rw [← HCE.out]
     rfl
    ·have HLE:Hid _:=hle
     clear hle
     rintro e w2 ⟨rfl,o2⟩
     have HOX2:Hid _:=HOX.out.trans o2 (fun _ _ h=>h)
     clear o2 HOX
     go_wp2_with fail
     go_ret2
     have hc:joinC s x.abs=-1:=by
      unfold joinC
      rw [if_neg (by rw [show (keyB x.abs.key && mayS x.abs.f x.abs.l)=true from HM.out]; simp),if_neg (fun h=>by rw [show (fndG K.key x.abs.key s.1).isSome=true from HTH.out.symm] at h; cases h.1),if_pos ⟨HTH.out.symm,HLE.out⟩]
     have ha:joinA most rs s x.abs=⟨0,rs,s⟩:=by unfold joinA; rw [hc]; rfl
     have hb:joinB most rs s x.abs=false:=by unfold joinB; rw [hc]; rfl
     rw [ha,hb]
     exact ⟨rfl,D,S,HH0.out.free HOX2.out,⟨HOX2.out.mono (fun _ _ h=>h.elim),fun _ h=>.inl h,fun _ h=>.inl h⟩⟩
end Go.Proofs.YthjbnpaghiojlaaGreat
