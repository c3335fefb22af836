/- Items of several texts. -/
import Derived.Deep.RegionHeld
import Derived.Deep.Cut
import Derived.Test.YthjbnpaghiojlaaGreatKInsP
import Derived.Test.YthjbnpaghiojlaaGreatKTbP
namespace Go.Proofs.YthjbnpaghiojlaaGreat
open Go.RowKit
theorem Tryz.lawK:Maps.Keyed Tryz.prog 9:=Maps.string_keyed Tryz.underlying9
theorem Tryz.zeroS (k:ByteArray) (w:World):(zeroValue 47).run Tryz.prog w=.ok (zE k).val w:=by kernel_rfl
structure NoI (D:Nat→Prop) (w:World):Prop where
 no:∀ x:Addr,D x.block→∀ k n,w.cell? x ≠ some (.int k n)
theorem Src.offN {D:Nat→Prop} {w w':World} {tad:Option Addr} {cap:Nat} {bs:List Nat} (h:Src w tad cap bs) (o:Off D w w') (hN:NoI D w):Src w' tad cap bs:=by
 rcases h.is with h0 | ⟨ad,rfl,h0⟩
 ·exact ⟨.inl h0⟩
 ·refine ⟨.inr ⟨ad,rfl,fun j u hj=>?_⟩⟩
  have h1:=h0 j u hj
  obtain ⟨x,hx⟩:∃ x,u=.int .u8 x:=by
   simp only [vl,List.getElem?_map,Option.map_eq_some_iff] at hj
   obtain ⟨x,-,hx⟩:=hj
   exact ⟨_,hx.symm⟩
  rw [← h1]
  exact World.cell?_of_block (o.block _ (cell_lt h1) (fun e=>hN.no _ e _ _ (hx ▸ h1)))
theorem Row.offN {D:Nat→Prop} {w w':World} {a:Option Addr} {cap:Nat} {l:List V} (h:Row w a cap l) (o:Off D w w') (hN:NoI D w):Row w' a cap l :=
 ⟨h.len,h.bound,fun i v hi=>by
  obtain ⟨b,off,e,h1,h2⟩:=h.at_ i v hi
  exact ⟨b,off,e,h1.off o (fun _ hd=>hN.no ⟨b,off + i * 4,none⟩ hd _ _ h1.c0),⟨h2.src.offN o hN,h2.lt,h2.n0,h2.n1,h2.m0,h2.m1,h2.len⟩⟩⟩
theorem NoI.none (w:World):NoI (fun _=>False) w:=⟨fun _ h=>h.elim⟩
theorem om_noI {H:Type} {k:TypeId} {R:Value→Option (DataW H × List MemPlace)} {b n:Nat} {D:DataW H} {w:World} (h:w.ownsMap Tryz.prog k R b n D):NoI (fun c=>c=b) w:=by
 obtain ⟨es,clock,hb,-⟩:=h
 refine ⟨fun x hx k n e=>?_⟩
 have hx:x.block=b:=hx
 unfold World.cell? at e
 rw [hx,hb] at e
 simp at e
theorem om_ncel {H:Type} {k:TypeId} {R:Value→Option (DataW H × List MemPlace)} {b n:Nat} {D:DataW H} {w:World} (h:w.ownsMap Tryz.prog k R b n D) {p:Nat} {t:TypeId} {cs:Array Value} (hp:Cel p t cs w):p ≠ b:=by
 obtain ⟨es,clock,hb,-⟩:=h
 intro e
 subst e
 rw [hp.is] at hb
 cases hb
theorem om_off {H:Type} {k:TypeId} {R:Value→Option (DataW H × List MemPlace)} {b n:Nat} {D:DataW H} {w w':World} {X:Nat→Prop} (h:w.ownsMap Tryz.prog k R b n D) (o:Off X w w') (hb:¬ X b):w'.ownsMap Tryz.prog k R b n D:=by
 have hlt:=h.lt
 obtain ⟨es,clock,hh,r⟩:=h
 exact ⟨es,clock,(o.block b hlt hb).trans hh,r⟩
structure Tab (p b:Nat) (t:List E) (w:World):Prop where
 cel:Cel p 142 #[.map (some b)] w
 own:w.ownsMap Tryz.prog 9 hR b t.length (datum t)
 sor:Sor E.key t
 row:∀ e ∈ t,Row w e.a e.cap e.l
 len:∀ e ∈ t,e.key.size≤32
 few:t.length≤256
theorem Tab.off {p b:Nat} {t:List E} {w w':World} {D:Nat→Prop} (h:Tab p b t w) (o:Off D w w') (hp:¬ D p) (hb:¬ D b) (hN:NoI D w):Tab p b t w' :=
 ⟨h.cel.off o hp,om_off h.own o hb,h.sor,fun e he=>(h.row e he).offN o hN,h.len,h.few⟩
theorem Tab.free {p b:Nat} {t:List E} {w w':World} (h:Tab p b t w) (o:Off (fun _=>False) w w'):Tab p b t w':=h.off o (fun h=>h) (fun h=>h) (NoI.none w)
theorem Tab.noI {p b:Nat} {t:List E} {w:World} (h:Tab p b t w):NoI (fun c=>c=b) w:=om_noI h.own
theorem Tab.ne {p b:Nat} {t:List E} {w:World} (h:Tab p b t w) {q:Nat} {ty:TypeId} {cs:Array Value} (hq:Cel q ty cs w):q ≠ b:=om_ncel h.own hq
theorem Tab.ltb {p b:Nat} {t:List E} {w:World} (h:Tab p b t w):b < w.heap.size:=h.own.lt
theorem getE_row {p b:Nat} {t:List E} {w:World} (h:Tab p b t w) (k:ByteArray):Row w (getE t k).a (getE t k).cap (getE t k).l:=by
 unfold getE
 cases e:fndG E.key k t with
 | none=>exact Row.nil w none 0 (by omega)
 | some x=>exact h.row x (fnd_mem E.key e).1
theorem kl_key {k:ByteArray} (hk:k.size≤maxLen):keyOf Tryz.prog 9 (.string k)=some (kl k):=WideMaps.keyOf_string_mk Tryz.underlying9 hk
theorem Tab.look {p b:Nat} {t:List E} {w:World} (h:Tab p b t w) {k:ByteArray} (hk:k.size≤maxLen) :
  (Instr.lookup 140 (.map (some b)) (.string k) true).run Tryz.prog w=.ok (.tuple #[(getE t k).val,.bool (fndG E.key k t).isSome]) w:=by
 obtain ⟨v,ps,hr,hv⟩:=h.own.look_ok Tryz.lawK Tryz.underlying140 (Tryz.zeroS k w) (zd:=.held (zE k).val) (zp:=[]) rfl (kl_key hk)
 rw [has_datum] at hr
 rw [at_datum] at hv
 have e:v=(getE t k).val:=by
  simp only [hR,Option.some.injEq,Prod.mk.injEq,DataW.held.injEq] at hv
  exact hv.1
 rw [e] at hr
 exact hr
theorem Tab.look1 {p b:Nat} {t:List E} {w:World} (h:Tab p b t w) {k:ByteArray} (hk:k.size≤maxLen) :
  (Instr.lookup 140 (.map (some b)) (.string k) false).run Tryz.prog w=.ok (getE t k).val w:=by
 obtain ⟨v,ps,hr,hv⟩:=h.own.lookup Tryz.lawK Tryz.underlying140 (Tryz.zeroS k w) (zd:=.held (zE k).val) (zp:=[]) rfl (kl_key hk)
 rw [at_datum] at hv
 have e:v=(getE t k).val:=by
  simp only [hR,Option.some.injEq,Prod.mk.injEq,DataW.held.injEq] at hv
  exact hv.1
 rw [e] at hr
 exact hr
theorem Tab.len_ {p b:Nat} {t:List E} {w:World} (h:Tab p b t w) (ty:TypeId):(Builtin.len_ #[140] ty #[.map (some b)]).run Tryz.prog w=.ok (.int .i64 (t.length:Int)) w:=by
 have:=h.own.len Tryz.underlying140 ty
 rw [size_datum] at this
 exact this
theorem om_tight {H:Type} {k:TypeId} {R:Value→Option (DataW H × List MemPlace)} {b n:Nat} {D:DataW H} {w:World} (h:w.ownsMap Tryz.prog k R b n D):w.ownsMap Tryz.prog k R b (Maps.size D) D:=by
 obtain ⟨es,clock,hb,F,hs,hD⟩:=h
 refine ⟨es,clock,hb,F,?_,hD⟩
 rw [hD]
 show es.size≤((es.toList.map _).foldr DataW.insert []).length
 rw [length_sorted]
 simp
theorem Tab.put {p b:Nat} {t:List E} {w:World} (h:Tab p b t w) (x:E) (hr:Row w x.a x.cap x.l) (hk:x.key.size≤32) (hn:(putG E.key x t).length≤256) :
  ∃ w',(Instr.mapUpdate 140 (.map (some b)) (.string x.key) x.val).run Tryz.prog w=.ok () w'∧Tab p b (putG E.key x t) w'∧Off (fun c=>c=b) w w':=by
 obtain ⟨w',h1,h2,h3⟩:=h.own.update Tryz.lawK Tryz.underlying140 (by have:=h.few; unfold maxLen; omega) (kl_key (k:=x.key) (by unfold maxLen; omega)) (val:=x.val) (d:=.held x.val) (ps:=[]) rfl
 have o:Off (fun c=>c=b) w w':=(Off.refl _ w).grown h3 (fun k hk=>.inl (by simpa using hk.symm))
 refine ⟨w',h1,⟨h.cel.off o (h.ne h.cel),?_,sor_putG E.key h.sor,fun e he=>?_,fun e he=>?_,hn⟩,o⟩
 ·rw [put_datum] at h2
  have:=om_tight h2
  rw [size_datum] at this
  exact this
 ·rcases (mem_putG E.key).1 he with rfl | ⟨he,-⟩
  ·exact hr.offN o h.noI
  ·exact (h.row e he).offN o h.noI
 ·rcases (mem_putG E.key).1 he with rfl | ⟨he,-⟩
  ·exact hk
  ·exact h.len e he
theorem put_len {t:List E} (h:Sor E.key t) (x:E):(putG E.key x t).length≤t.length + 1:=by
 rw [len_putG E.key h]
 split <;> omega
theorem eql_map (b:Option Nat) (W:World):(binOp .eql 140 (.map b) (.map none)).run Tryz.prog W=.ok (.bool b.isNone) W:=by
 cases b <;> kernel_rfl
theorem eql_ptr (a:Option Addr) (W:World):(binOp .eql 96 (.pointer a) (.pointer none)).run Tryz.prog W=.ok (.bool a.isNone) W:=by
 cases a <;> kernel_rfl
theorem tnew_any (w:World):Calls Tryz.prog 39 #[] w fun e w'=>∃ p b,e=.returned (.pointer (some ⟨p,0,none⟩))∧Tab p b [] w'∧w.heap.size≤p∧w.heap.size≤b∧Off (fun _=>False) w w':=by
 have hmm:=@run_makeMap Tryz.prog
 have C:Cel (w.heap.size + 1) 142 #[.map (some w.heap.size)] ((w.alloc (.map #[] 0)).alloc (.cells #[.map (some w.heap.size)] 142)):=by
  have:=Cel.new (w.alloc (.map #[] 0)) 142 #[.map (some w.heap.size)]
  simpa using this
 have O:Off (fun _=>False) w ((w.alloc (.map #[] 0)).alloc (.cells #[.map (some w.heap.size)] 142)):=((Off.refl _ w).alloc _).alloc _
 have M:(w.alloc (.map #[] 0)).ownsMap Tryz.prog 9 hR w.heap.size 0 (datum []):=World.ownsMap_made w Tryz.prog 9 hR
 go_enter Tryz.func39,Tryz.ntmps39
 go_wp2_with fail
 go_ret
 refine ⟨w.heap.size + 1,w.heap.size,rfl,⟨C,M.alloc _,List.Pairwise.nil,fun e he=>by simp at he,fun e he=>by simp at he,by simp⟩,by omega,by omega,O⟩
end Go.Proofs.YthjbnpaghiojlaaGreat

namespace Go.Proofs.YthjbnpaghiojlaaGreat
open Go.RowKit
set_option maxRecDepth 100000 in
set_option maxHeartbeats 1000000 in
theorem keep_any (p b:Nat) (t:List E) (x:E) (w:World) (h:Tab p b t w) (hr:Row w x.a x.cap x.l) (hk:x.key.size≤32) (hn:(putG E.key x t).length≤256) :
  Calls Tryz.prog 160 #[.pointer (some ⟨p,0,none⟩),.string x.key,.agg #[.int .i64 (x.f 0),.int .i64 (x.f 1),.int .i64 (x.f 2),.int .i64 (x.f 3),.int .i64 (x.f 4),.int .i64 (x.f 5),.int .i64 (x.f 6),.int .i64 (x.f 7),.slice x.a x.l.length x.cap]] w fun e w'=>e=.returned (.tuple #[])∧Tab p b (putG E.key x t) w'∧Off (fun c=>c=b) w w':=by
 have hq:=eql_map
 obtain ⟨W,hW⟩:∃ W,W=w.alloc (.cells #[.int .i64 (x.f 0),.int .i64 (x.f 1),.int .i64 (x.f 2),.int .i64 (x.f 3),.int .i64 (x.f 4),.int .i64 (x.f 5),.int .i64 (x.f 6),.int .i64 (x.f 7),.slice x.a x.l.length x.cap] 47):=⟨_,rfl⟩
 have O:Off (fun _=>False) w W:=by rw [hW]; exact (Off.refl _ w).alloc _
 have C:Cel w.heap.size 47 #[.int .i64 (x.f 0),.int .i64 (x.f 1),.int .i64 (x.f 2),.int .i64 (x.f 3),.int .i64 (x.f 4),.int .i64 (x.f 5),.int .i64 (x.f 6),.int .i64 (x.f 7),.slice x.a x.l.length x.cap] W:=by rw [hW]; exact Cel.new w _ _
 have T0:=h.free O
 have c0:W.cell? ⟨p,0,none⟩=some (.map (some b)):=T0.cel.cell 0
 have HPB:Hid (¬ p=b):=T0.ne T0.cel
 have HQB:Hid (¬ w.heap.size=b):=T0.ne C
 have HP:Hid _:=T0.cel
 have HT:Hid _:=T0
 have HC:Hid _:=C
 have HR:Hid _:=hr.off O
 have HO:Hid _:=O
 have HW:Hid _:=hW
 clear h hr O C T0 hW
 go_enter Tryz.func160,Tryz.ntmps160
 go_upto_region 1 with fail
 rw [← HW.out]
 go_wp2_with fail
 refine wp_region_held_drew (S:=fun w'=>Off (fun c=>c=b) W w') (by kernel_rfl) ((Off.refl _ W).drew) (fun hS=>?_)
 refine take_q 0 15 (.pointer (some ⟨p,0,none⟩)) hS ?_
 simp only [Act.put,lsA,lsZ,lsS]
 refine take_q 1 16 (.pointer (some ⟨p,0,none⟩)) hS ?_
 simp only [Act.put,lsA,lsZ,lsS]
 refine take_q 2 17 (.pointer (some ⟨p,0,none⟩)) hS ?_
 simp only [Act.put,lsA,lsZ,lsS]
 refine take_r 3 18 (.map (some b)) rfl (Or.inl ⟨by rfl,fun w' hw'=>by have e:=(HP.out.off hw' HPB.out).cell 0; simp only [List.getElem?_toArray,List.getElem?_cons_zero] at e; go_simp⟩) hS ?_
 simp only [Act.put,lsA,lsZ,lsS]
 refine take_q 4 19 (.string x.key) hS ?_
 simp only [Act.put,lsA,lsZ,lsS]
 refine take_r 5 20 (.agg #[.int .i64 (x.f 0),.int .i64 (x.f 1),.int .i64 (x.f 2),.int .i64 (x.f 3),.int .i64 (x.f 4),.int .i64 (x.f 5),.int .i64 (x.f 6),.int .i64 (x.f 7),.slice x.a x.l.length x.cap]) rfl (Or.inl ⟨by rfl,fun w' hw'=>by obtain ⟨x0,x1,x2,x3,x4,x5,x6,x7,x8⟩:=cel9 (HC.out.off hw' HQB.out); go_simp⟩) hS ?_
 simp only [Act.put,lsA,lsZ,lsS]
 obtain ⟨w6,hrun,tb6,o6⟩:=(HT.out.free ((Off.refl _ W).drew)).put x (HR.out.off ((Off.refl _ W).drew)) hk hn
 unfold E.val at hrun
 have HT6:Hid _:=tb6
 have HO6:Hid _:=o6
 clear tb6 o6
 refine wpAnyH_ready (rs:=[6]) (by kernel_rfl) (by simp) ?_
 refine AllReadyH.cons rfl (fun K' hK'=>?_) AllReadyH.nil
 go_simp
 refine hK'.out _ _ (show Off (fun c=>c=b) W w6 from ((Off.refl _ W).drew).trans HO6.out (fun _ _ h=>h)) (fun hS=>?_)
 clear hK' K'
 refine wpAnyH_done (by kernel_rfl) ?_ _
 go_wp2_with fail
 go_end0
 exact ⟨rfl,HT6.out,HO.out.mono (fun _ _ h=>h.elim) |>.trans (((Off.refl (fun c=>c=b) W).drew).trans HO6.out (fun _ _ h=>h)) (fun _ _ h=>h)⟩
structure Far (N:Nat) (a:Option Addr) (l:List V):Prop where
 row:∀ x,blk a=some x→N≤x
 val:∀ v ∈ l,∀ x,blk v.ad=some x→N≤x
theorem Far.mono {N M:Nat} {a:Option Addr} {l:List V} (h:Far N a l) (hM:M≤N):Far M a l:=⟨fun x hx=>Nat.le_trans hM (h.row x hx),fun v hv x hx=>Nat.le_trans hM (h.val v hv x hx)⟩
theorem Row.offF {D:Nat→Prop} {w w':World} {N:Nat} {a:Option Addr} {cap:Nat} {l:List V} (h:Row w a cap l) (f:Far N a l) (o:Off D w w') (hD:∀ x,N≤x→¬ D x):Row w' a cap l :=
 h.offD o (fun x _ hx=>hD x (f.row x hx)) (fun v hv x _ hx=>hD x (f.val v hv x hx))
theorem Made.far {N:Nat} {w:World} {a:Option Addr} {cap:Nat} {l:List V} (h:Made N w a cap l):Far N a l:=⟨h.lo,fun v hv x hx=>((h.own v hv).2 x hx).1⟩
theorem Far.nil (N:Nat):Far N none []:=⟨fun x hx=>by simp [blk] at hx,fun v hv=>by simp at hv⟩
theorem eql_nilV (a:Option Addr) (l c:Nat) (W:World):(binOp .eql 45 (.slice a l c) (.slice none 0 0)).run Tryz.prog W=.ok (.bool a.isNone) W:=by
 have h:binOp .eql 45 (.slice a l c) (.slice none 0 0)=(do pure (.bool (← Op.equal 45 (.slice a l c) (.slice none 0 0)))):=rfl
 rw [h]
 simp [run_equal_slice_nil W 45 87 a l c Tryz.underlying45,Result.andThen]
theorem wpList_appV {w:World} {ops:Array Oper} {rest:List Oper} {o:Oper} {a:Act} {Q:Exit→Act→World→Prop} (hgd:o.guard=none) (s x:Operand)
  (ho:o.op=.call { callee:=.builtin .append,args:=#[s,x],argTypes:=#[45,45] })
  (tad:Option Addr) (cap:Nat) (l:List V) (hs:a.eval s=.slice tad l.length cap) (hown:OwnV w tad cap l)
  (xt:Option Addr) (xc:Nat) (k:List V) (hx:a.eval x=.slice xt k.length xc) (hr:Row w xt xc k) (hz:xt=none→xc=0) (hb:l.length + k.length≤1000000)
  (h:∀ t' c' w' ys,Hid (ys=l ++ k)→OwnV w' t' c' ys→Off (fun c=>blk tad=some c) w w'→(blk t'=blk tad∨blk t'=some w.heap.size)→wpList Tryz.prog ops Q rest (a.put o.dst (.slice t' ys.length c')) w') :
  wpList Tryz.prog ops Q (o :: rest) a w:=by
 obtain ⟨a',c',w',hrun,own,off,hat⟩:=app_runV hown hr hz hb o.type
 refine wpList_plain hgd fun K' hK'=>?_
 unfold Oper.wp
 simp only [execOp,ho,resolve,invoke,builtin,Sem.run_bind,Sem.run_pure,Result.andThen_ok,List.map_toArray,List.map_cons,List.map_nil,hs,hx,hrun]
 exact hK' _ _ (h a' c' w' _ (show l ++ k=l ++ k from rfl) own off hat)
theorem vclone_any (t:Option Addr) (c:Nat) (l:List V) (hb:l.length≤1000) (w:World) (hs:Row w t c l) :
  Calls Tryz.prog 175 #[.slice t l.length c] w fun e w'=>∃ t' c',e=.returned (.slice t' l.length c')∧OwnV w' t' c' l∧(∀ k,blk t'=some k→w.heap.size≤k)∧Off (fun _=>False) w w':=by
 have hq:=eql_nilV
 cases t with
 | none =>
  obtain rfl:l=[]:=by
   cases l with
   | nil=>rfl
   | cons v l=>obtain ⟨b,off,e,-⟩:=hs.at_ 0 v rfl; cases e
  go_enter Tryz.func175,Tryz.ntmps175
  go_wp2
  go_ret
  exact ⟨none,0,rfl,OwnV.nil w,fun k hk=>by simp [blk] at hk,Off.refl _ w⟩
 | some ad =>
  have HS:Hid (Row w (some ad) c l):=hs
  clear hs
  have L0:OwnV (w.alloc (.cells #[] 87)) (some ⟨w.heap.size,0,none⟩) 0 []:=⟨World.ownsRow_lit w #[] 0 (Nat.zero_le _) (by decide) rfl⟩
  have O0:Off (fun _=>False) w (w.alloc (.cells #[] 87)):=(Off.refl _ w).alloc _
  go_enter Tryz.func175,Tryz.ntmps175
  go_wp2_with (at_builtin; refine wpList_appV rfl (.tmp 5) (.tmp 6) rfl _ 0 [] rfl L0 _ c l rfl (HS.out.off O0) (fun h=>by cases h) (by simp; omega) ?_; intro t' c' w' ys hys own' off' at')
  go_ret
  obtain rfl:ys=l:=hys.out
  refine ⟨t',c',rfl,own',fun k hk=>?_,O0.trans off' (fun i hi hb=>?_)⟩
  ·rcases at' with a | a
   ·rw [a] at hk
    simp [blk] at hk
    omega
   ·rw [a] at hk
    simp at hk
    omega
  ·simp [blk] at hb
   omega
theorem cell_other {w:World} {a b:Addr} {v:Value} (h:a ≠ b):(w.setCell a v).cell? b=w.cell? b:=World.cell?_setCell_other w a b v h
theorem cell_same {w:World} {a:Addr} {u v:Value} (h:w.cell? a=some u):(w.setCell a v).cell? a=some v:=World.cell?_setCell_same w a v h
theorem exec_idx10 {P:Program} {ρ:Operand→Value} {o:Oper} {t:TypeId} {x ix:Operand} {v:Value} {w:World} (ho:o.op=.indexAddr t x ix) (h:(Instr.indexAt t (ρ x) (ρ ix)).run P w=.ok v w):Sem.run P (execOp ρ o) w=.ok (.value v) w:=by
 have e:execOp ρ o=(do pure (.value (← Instr.indexAt t (ρ x) (ρ ix)))):=by unfold execOp; rw [ho]
 rw [e,Sem.run_bind,h]
 rfl
theorem idx_row {m n:Nat} (h:n < m) (c g:Nat) (W:World):(Instr.indexAt 45 (.slice (some ⟨g,0,none⟩) m c) (.int .i64 (n:Int))).run Tryz.prog W=.ok (.pointer (some ⟨g,n * 4,none⟩)) W:=by
 go_simp
theorem Row.at0 {w:World} {g:Nat} {cap:Nat} {l:List V} (h:Row w (some ⟨g,0,none⟩) cap l) {n:Nat} {v:V} (hv:l[n]?=some v):At4 w g (n * 4) v:=by
 obtain ⟨b,off,e,h1,-⟩:=h.at_ n v hv
 simp only [Option.some.injEq,Addr.mk.injEq,and_true] at e
 obtain ⟨rfl,rfl⟩:=e
 rw [Nat.zero_add] at h1
 exact h1
theorem Src.setN {w:World} {tad:Option Addr} {cap:Nat} {bs:List Nat} (h:Src w tad cap bs) {p:Addr} (hp:∀ k n,w.cell? p ≠ some (.int k n)) (u:Value):Src (w.setCell p u) tad cap bs:=by
 rcases h.is with h0 | ⟨ad,rfl,h0⟩
 ·exact ⟨.inl h0⟩
 ·refine ⟨.inr ⟨ad,rfl,fun j x hj=>?_⟩⟩
  have h1:=h0 j x hj
  obtain ⟨y,hy⟩:∃ y,x=.int .u8 y:=by
   simp only [vl,List.getElem?_map,Option.map_eq_some_iff] at hj
   obtain ⟨y,-,hy⟩:=hj
   exact ⟨_,hy.symm⟩
  rw [cell_other (fun e=>hp _ _ (by rw [e,h1,hy]))]
  exact h1
theorem Row.setData {w:World} {g:Nat} {cap:Nat} {l:List V} (h:Row w (some ⟨g,0,none⟩) cap l) {n:Nat} {v:V} (hv:l[n]?=some v) {t:Option Addr} {c1:Nat} (hs:Src w t c1 v.data) :
  Row (w.setCell ⟨g,n * 4 + 2,none⟩ (.slice t v.data.length c1)) (some ⟨g,0,none⟩) cap (l.set n (⟨v.node,v.num,t,c1,v.data,v.dead⟩:V)):=by
 have hc:=(h.at0 hv).c2
 have hni:∀ k m,w.cell? ⟨g,n * 4 + 2,none⟩ ≠ some (.int k m):=fun k m e=>by rw [hc] at e; cases e
 refine ⟨by rw [List.length_set]; exact h.len,h.bound,fun i u hi=>⟨g,0,rfl,?_⟩⟩
 rw [Nat.zero_add]
 by_cases e:n=i
 ·subst e
  have hlt:n < l.length:=by
   obtain ⟨h,-⟩:=List.getElem?_eq_some_iff.1 hv
   exact h
  rw [List.getElem?_set_self hlt] at hi
  simp only [Option.some.injEq] at hi
  subst hi
  have k:=h.at0 hv
  have o:=(h.ok v (List.mem_of_getElem? hv))
  refine ⟨⟨?_,?_,cell_same hc,?_⟩,⟨hs.setN hni _,o.lt,o.n0,o.n1,o.m0,o.m1,o.len⟩⟩
  ·rw [cell_other (by simp)]; exact k.c0
  ·rw [cell_other (by simp)]; exact k.c1
  ·rw [cell_other (by simp)]; exact k.c3
 ·rw [List.getElem?_set_ne e] at hi
  have k:=h.at0 hi
  have o:=(h.ok u (List.mem_of_getElem? hi))
  refine ⟨⟨?_,?_,?_,?_⟩,⟨o.src.setN hni _,o.lt,o.n0,o.n1,o.m0,o.m1,o.len⟩⟩
  ·rw [cell_other (by simp <;> omega)]; exact k.c0
  ·rw [cell_other (by simp <;> omega)]; exact k.c1
  ·rw [cell_other (by simp <;> omega)]; exact k.c2
  ·rw [cell_other (by simp <;> omega)]; exact k.c3
theorem cont_set {l:List V} {n:Nat} {v:V} (hv:l[n]?=some v) (t:Option Addr) (c1:Nat):cont (l.set n (⟨v.node,v.num,t,c1,v.data,v.dead⟩:V))=cont l:=by
 unfold cont
 rw [List.map_set]
 have:((⟨v.node,v.num,t,c1,v.data,v.dead⟩:V)).abs=v.abs:=rfl
 rw [this]
 refine List.ext_getElem? (fun i=>?_)
 by_cases e:n=i
 ·subst e
  have hlt:n < l.length:=by
   obtain ⟨h,-⟩:=List.getElem?_eq_some_iff.1 hv
   exact h
  rw [List.getElem?_set_self (by simpa using hlt),List.getElem?_map,hv]
  rfl
 ·rw [List.getElem?_set_ne e]
theorem set_far {k:List V} {n:Nat} {v:V} {N:Nat} {t:Option Addr} {c1:Nat} (hv:k[n]?=some v) (h:∀ i v,i < n→k[i]?=some v→∀ x,blk v.ad=some x→N≤x) (ht:∀ x,blk t=some x→N≤x) :
  ∀ i u,i < n + 1→(k.set n (⟨v.node,v.num,t,c1,v.data,v.dead⟩:V))[i]?=some u→∀ x,blk u.ad=some x→N≤x:=by
 intro i u hi hu x hx
 by_cases e:n=i
 ·subst e
  have hlt:n < k.length:=by
   obtain ⟨h,-⟩:=List.getElem?_eq_some_iff.1 hv
   exact h
  rw [List.getElem?_set_self hlt] at hu
  simp only [Option.some.injEq] at hu
  subst hu
  exact ht x hx
 ·rw [List.getElem?_set_ne e] at hu
  exact h i u (by omega) hu x hx
set_option maxRecDepth 100000 in
set_option maxHeartbeats 1000000 in
theorem tcopy_any (f:Nat→Int) (a:Option Addr) (cap:Nat) (l:List V) (w:World) (hr:Row w a cap l) (hl:l.length≤1000) :
  Calls Tryz.prog 118 #[.agg #[.int .i64 (f 0),.int .i64 (f 1),.int .i64 (f 2),.int .i64 (f 3),.int .i64 (f 4),.int .i64 (f 5),.int .i64 (f 6),.int .i64 (f 7),.slice a l.length cap]] w fun e w'=>∃ (a':Option Addr) (c':Nat) (k:List V),e=.returned (.agg #[.int .i64 (f 0),.int .i64 (f 1),.int .i64 (f 2),.int .i64 (f 3),.int .i64 (f 4),.int .i64 (f 5),.int .i64 (f 6),.int .i64 (f 7),.slice a' k.length c'])∧cont k=cont l∧Row w' a' c' k∧Far w.heap.size a' k∧Off (fun _=>False) w w':=by
 obtain ⟨W,hW⟩:∃ W,W=((w.alloc (.cells #[.int .i64 (f 0),.int .i64 (f 1),.int .i64 (f 2),.int .i64 (f 3),.int .i64 (f 4),.int .i64 (f 5),.int .i64 (f 6),.int .i64 (f 7),.slice a l.length cap] 47)).alloc (.cells #[.int .i64 (zer 0),.int .i64 (zer 1),.int .i64 (zer 2),.int .i64 (zer 3),.int .i64 (zer 4),.int .i64 (zer 5),.int .i64 (zer 6),.int .i64 (zer 7),.slice none 0 0] 47)):=⟨_,rfl⟩
 have O:Off (fun _=>False) w W:=by rw [hW]; exact ((Off.refl _ w).alloc _).alloc _
 have C0:Cel w.heap.size 47 #[.int .i64 (f 0),.int .i64 (f 1),.int .i64 (f 2),.int .i64 (f 3),.int .i64 (f 4),.int .i64 (f 5),.int .i64 (f 6),.int .i64 (f 7),.slice a l.length cap] W:=by rw [hW]; exact (Cel.new w _ _).alloc _
 have C1:Cel (w.heap.size + 1) 47 #[.int .i64 (zer 0),.int .i64 (zer 1),.int .i64 (zer 2),.int .i64 (zer 3),.int .i64 (zer 4),.int .i64 (zer 5),.int .i64 (zer 6),.int .i64 (zer 7),.slice none 0 0] W:=by rw [hW]; exact Cel.new1 w _ _ _
 have c8:W.cell? ⟨w.heap.size,8,none⟩=some (.slice a l.length cap):=C0.cell 8
 have HC0:Hid _:=C0
 have HC1:Hid _:=C1
 have HR:Hid _:=hr.off O
 have HO:Hid _:=O
 have HW:Hid _:=hW
 clear hr O C0 C1 hW
 go_enter Tryz.func118,Tryz.ntmps118
 go_upto_region 1 with fail
 rw [show ((w.alloc (.cells #[.int .i64 (f 0),.int .i64 (f 1),.int .i64 (f 2),.int .i64 (f 3),.int .i64 (f 4),.int .i64 (f 5),.int .i64 (f 6),.int .i64 (f 7),.slice a l.length cap] 47)).alloc (.cells #[.int .i64 0,.int .i64 0,.int .i64 0,.int .i64 0,.int .i64 0,.int .i64 0,.int .i64 0,.int .i64 0,.slice none 0 0] 47))=W from HW.out.symm]
 go_wp2_with fail
 refine (vclone_any a cap l hl W HR.out).mono ?_
 rintro e w1 ⟨t,c,rfl,own,hnew,o1⟩
 have D0:=HC0.out.off o1 (fun h=>h)
 have D1:=HC1.out.off o1 (fun h=>h)
 have f0:=D0.free
 have d8:w1.cell? ⟨w.heap.size,8,none⟩=some (.slice a l.length cap):=D0.cell 8
 obtain ⟨W1,hW1⟩:∃ W1,W1=w1.setCell ⟨w.heap.size,8,none⟩ (.slice t l.length c):=⟨_,rfl⟩
 have hne:∀ k,blk t=some k→k ≠ w.heap.size∧k ≠ w.heap.size + 1:=fun k hk=>by
  have h1:=hnew k hk
  have h2:=HC1.out.lt
  constructor <;> omega
 have E0:Cel w.heap.size 47 #[.int .i64 (f 0),.int .i64 (f 1),.int .i64 (f 2),.int .i64 (f 3),.int .i64 (f 4),.int .i64 (f 5),.int .i64 (f 6),.int .i64 (f 7),.slice t l.length c] W1:=by
  rw [hW1]
  have:=D0.set 8 (.slice t l.length c)
  simpa using this
 have E1:Cel (w.heap.size + 1) 47 #[.int .i64 (zer 0),.int .i64 (zer 1),.int .i64 (zer 2),.int .i64 (zer 3),.int .i64 (zer 4),.int .i64 (zer 5),.int .i64 (zer 6),.int .i64 (zer 7),.slice none 0 0] W1:=by rw [hW1]; exact D1.other (by simp) _
 have OW:Off (fun _=>False) w W1:=by rw [hW1]; exact (HO.out.trans o1 (fun _ _ h=>h)).setCell (.inr (Nat.le_refl _)) _
 have own1:OwnV W1 t c l:=by
  rw [hW1]
  exact own.off (D:=fun k=>k=w.heap.size) ((Off.refl (fun k=>k=w.heap.size) w1).setCell (.inl rfl) _) (fun k hk=>(hne k hk).1)
 have row1:Row W1 t c l:=by
  refine own1.toRow (fun v hv=>?_)
  have:=((HR.out.off o1).ok v hv)
  rw [hW1]
  exact ⟨this.src.setN (fun k n e=>by rw [D0.cell 8] at e; simp at e) _,this.lt,this.n0,this.n1,this.m0,this.m1,this.len⟩
 have k8:W1.cell? ⟨w.heap.size,8,none⟩=some (.slice t l.length c):=E0.cell 8
 have hnew2:∀ k,blk t=some k→w.heap.size≤k:=fun k hk=>Nat.le_trans HO.out.size (hnew k hk)
 have HE0:Hid _:=E0
 have HE1:Hid _:=E1
 have HOW:Hid _:=OW
 have HOWN:Hid _:=own1
 have HROW:Hid _:=row1
 have HNE:Hid _:=hne
 have HNW:Hid _:=hnew2
 have HW1:Hid _:=hW1
 clear D0 D1 E0 E1 OW own1 row1 hne hnew hnew2 own o1 hW1 c8 HC0 HC1 HR HO HW
 have c8:(w1.setCell ⟨w.heap.size,8,none⟩ (.slice t l.length c)).cell? ⟨w.heap.size,8,none⟩=some (.slice t l.length c):=by rw [← HW1.out]; exact k8
 go_upto_region 2 with fail
 rw [← HW1.out]
 clear c8 f0 d8
 go_wp2_with fail
 go_loopw [11] (fun y wr=>∃ (n:Nat) (k:List V),y=.int .i64 (n:Int)∧n≤l.length∧k.length=l.length∧cont k=cont l∧(∀ i v,i < n→k[i]?=some v→∀ x,blk v.ad=some x→w.heap.size + 2≤x)∧Row wr t c k∧Cel w.heap.size 47 #[.int .i64 (f 0),.int .i64 (f 1),.int .i64 (f 2),.int .i64 (f 3),.int .i64 (f 4),.int .i64 (f 5),.int .i64 (f 6),.int .i64 (f 7),.slice t l.length c] wr∧Cel (w.heap.size + 1) 47 #[.int .i64 (zer 0),.int .i64 (zer 1),.int .i64 (zer 2),.int .i64 (zer 3),.int .i64 (zer 4),.int .i64 (zer 5),.int .i64 (zer 6),.int .i64 (zer 7),.slice none 0 0] wr∧(∀ v ∈ l,∃ g cur,t=some ⟨g,0,none⟩∧Cel g 87 cur wr)∧Off (fun _=>False) w wr) (fun y _=>(l.length - intOf y).toNat)
 case atStart =>
  refine ⟨0,l,rfl,by omega,rfl,rfl,fun i v hi=>by omega,HROW.out,HE0.out,HE1.out,fun v hv=>?_,HOW.out⟩
  rcases HOWN.out.row.2 with ⟨-,h0⟩ | ⟨g,c',cur,hvv,-,hh,-⟩
  ·rw [List.eq_nil_of_length_eq_zero h0] at hv
   simp at hv
  ·simp only [Value.slice.injEq] at hvv
   exact ⟨g,cur,hvv.1,⟨hh⟩⟩
 case round =>
  clear HE0 HE1 HOW HOWN HROW HW1 k8
  obtain ⟨n,k,rfl,hn,hkl,hck,hbb,rw1,cb,cr,hgg,O⟩:=hrel
  have HBB:Hid _:=hbb
  have CB:Hid _:=cb
  have CR:Hid _:=cr
  have HK:Hid (cont k=cont l):=hck
  have HL:Hid (k.length=l.length):=hkl
  have HRW:Hid _:=rw1
  have HGG:Hid _:=hgg
  have HO:Hid _:=O
  clear cb cr hck hkl rw1 hgg O hbb
  by_cases hlt:n < l.length
  ·have e1:decide ((n:Int) < (l.length:Int))=true:=decide_eq_true (by omega)
   have e2:decide (n < l.length)=true:=decide_eq_true hlt
   obtain ⟨v,hv⟩:∃ v,k[n]?=some v:=⟨_,List.getElem?_eq_getElem (by rw [HL.out]; exact hlt)⟩
   obtain ⟨g,cur,rfl,hg⟩:=HGG.out _ (List.getElem_mem hlt)
   have hgq:=HNE.out g rfl
   have HGQ:Hid (¬ w.heap.size=g):=fun e=>hgq.1 e.symm
   have hok:=(HRW.out.off ((Off.refl _ wr).drew)).ok v (List.mem_of_getElem? hv)
   have HR9:Hid _:=HRW.out.off ((Off.refl _ wr).drew)
   have c2:wr.drew.cell? ⟨g,n * 4 + 2,none⟩=some (.slice v.ad v.data.length v.cap):=(HR9.out.at0 hv).c2
   have HG:Hid _:=hg
   have HGN:Hid _:=HNW.out g rfl
   clear hg hgq
   go_wp2_with fail
   refine wp_region_held_drew (S:=fun w'=>Off (fun c=>c=g) wr w') (by kernel_rfl) ((Off.refl _ wr).drew) (fun hS=>?_)
   refine take_q 0 14 (.pointer (some ⟨w.heap.size,8,none⟩)) hS ?_
   simp only [Act.put,lsA,lsZ,lsS]
   refine take_r 1 15 (.slice (some ⟨g,0,none⟩) l.length c) rfl (Or.inl ⟨by rfl,fun w' hw'=>by obtain ⟨x0,x1,x2,x3,x4,x5,x6,x7,x8⟩:=cel9 (CB.out.off hw' HGQ.out); go_simp⟩) hS ?_
   simp only [Act.put,lsA,lsZ,lsS]
   refine take_q 2 16 (.int .i64 (n:Int)) hS ?_
   simp only [Act.put,lsA,lsZ,lsS]
   refine take_q 3 17 (.pointer (some ⟨w.heap.size,8,none⟩)) hS ?_
   simp only [Act.put,lsA,lsZ,lsS]
   refine take_r 4 18 (.slice (some ⟨g,0,none⟩) l.length c) rfl (Or.inl ⟨by rfl,fun w' hw'=>by obtain ⟨x0,x1,x2,x3,x4,x5,x6,x7,x8⟩:=cel9 (CB.out.off hw' HGQ.out); go_simp⟩) hS ?_
   simp only [Act.put,lsA,lsZ,lsS]
   refine take_q 5 19 (.int .i64 (n:Int)) hS ?_
   simp only [Act.put,lsA,lsZ,lsS]
   refine take_r 6 20 (.pointer (some ⟨g,n * 4,none⟩)) rfl (Or.inl ⟨by rfl,fun w' hw'=>exec_idx10 rfl (idx_row hlt c g w')⟩) hS ?_
   simp only [Act.put,lsA,lsZ,lsS]
   refine take_q 7 21 (.pointer (some ⟨g,n * 4 + 2,none⟩)) hS ?_
   simp only [Act.put,lsA,lsZ,lsS]
   refine wpAnyH_ready (rs:=[8]) (by kernel_rfl) (by simp) ?_
   refine AllReadyH.cons rfl (fun K' hK'=>?_) AllReadyH.nil
   go_simp
   refine hK'.out _ _ hS (fun hS=>?_)
   clear hK' K'
   refine wpAnyH_ready (rs:=[9]) (by kernel_rfl) (by simp) ?_
   refine AllReadyH.cons rfl (fun K' hK'=>?_) AllReadyH.nil
   go_simp
   refine (bclone_any v.ad v.cap v.data (by have:=hok.len; omega) _ hok.src).mono ?_
   rintro e w9 ⟨t,c1,rfl,own,hnw,o9⟩
   have hS9:Off (fun c=>c=g) wr w9:=hS.trans o9 (fun _ _ h=>h.elim)
   refine hK'.out _ _ hS9 (fun hS=>?_)
   clear hK' K' hS9
   refine take_r 10 24 (.pointer (some ⟨g,n * 4,none⟩)) rfl (Or.inl ⟨by rfl,fun w' hw'=>exec_idx10 rfl (idx_row hlt c g w')⟩) hS ?_
   simp only [Act.put,lsA,lsZ,lsS]
   refine take_q 11 25 (.pointer (some ⟨g,n * 4 + 2,none⟩)) hS ?_
   simp only [Act.put,lsA,lsZ,lsS]
   have R9:=HR9.out.off o9
   obtain ⟨cur9,hg9⟩:∃ cur,Cel g 87 cur w9:=⟨_,HG.out.off (((Off.refl _ wr).drew).trans o9 (fun _ _ h=>h)) (fun h=>h)⟩
   have f9:=hg9.free
   have hc2:w9.cell? ⟨g,n * 4 + 2,none⟩=some (.slice v.ad v.data.length v.cap):=(R9.at0 hv).c2
   have R10:=R9.setData hv own.src
   have HNW9:Hid (∀ x,blk t=some x→w.heap.size + 2≤x):=fun x hx=>by have h1:=hnw x hx; have h2:=CR.out.lt; have h3:wr.drew.heap.size=wr.heap.size:=rfl; omega
   clear hnw
   have HOW:Hid _:=own
   have HR10:Hid _:=R10
   have HG9:Hid _:=hg9
   have HO9:Hid _:=o9
   clear own R9 R10 hg9 o9
   refine wpAnyH_ready (rs:=[12]) (by kernel_rfl) (by simp) ?_
   refine AllReadyH.cons rfl (fun K' hK'=>?_) AllReadyH.nil
   go_simp
   refine hK'.out _ _ (hS.setCell (p:=⟨g,n * 4 + 2,none⟩) (.inl rfl) _) (fun hS=>?_)
   clear hK' K'
   refine wpAnyH_done (by kernel_rfl) ?_ _
   go_wp2_with fail
   go_roundw
   case rel =>
    have o12:Off (fun c=>c=g) wr (w9.setCell ⟨g,n * 4 + 2,none⟩ (.slice t v.data.length c1)):=hS
    refine ⟨n + 1,k.set n (⟨v.node,v.num,t,c1,v.data,v.dead⟩:V),by go_num,by omega,by rw [List.length_set]; exact HL.out,by rw [cont_set hv]; exact HK.out,set_far hv HBB.out HNW9.out,HR10.out,CB.out.off o12 HGQ.out,CR.out.off o12 (fun e=>(HNE.out g rfl).2 e.symm),fun u hu=>⟨g,_,rfl,HG9.out.set _ _⟩,HO.out.trans o12 (fun i hi h=>?_)⟩
    have:=HGN.out
    omega
   case measure=>simp [intOf]; omega
  ·obtain rfl:n=l.length:=by omega
   have e1:decide ((l.length:Int) < (l.length:Int))=false:=decide_eq_false (by omega)
   have e2:decide (l.length < l.length)=false:=decide_eq_false (by omega)
   obtain ⟨x0,x1,x2,x3,x4,x5,x6,x7,x8⟩:=cel9 CB.out
   obtain ⟨z0,z1,z2,z3,z4,z5,z6,z7,z8⟩:=cel9 CR.out
   have fr:=CR.out.free
   go_wp2_with fail
   refine bodyPost_ret (results_sibs rfl rfl (CR.out.st9 f (.slice t l.length c))) rfl ?_
   refine ⟨t,c,k,by rw [HL.out],HK.out,?_,⟨HNW.out,fun v hv x hx=>by
    obtain ⟨i,hi⟩:=List.getElem?_of_mem hv
    have hil:i < l.length:=by
     obtain ⟨h,-⟩:=List.getElem?_eq_some_iff.1 hi
     rw [HL.out] at h
     exact h
    have:=HBB.out i v hil hi x hx
    omega⟩,HO.out.st9 (.inr (by omega)) f (.slice t l.length c)⟩
   exact HRW.out.offD (D:=fun x=>x=w.heap.size + 1) ((Off.refl (fun x=>x=w.heap.size + 1) wr).st9 (.inl rfl) f (.slice t l.length c)) (fun x _ hx=>(HNE.out x hx).2) (fun v hv x _ hx=>by
    obtain ⟨i,hi⟩:=List.getElem?_of_mem hv
    have hil:i < l.length:=by
     obtain ⟨h,-⟩:=List.getElem?_eq_some_iff.1 hi
     rw [HL.out] at h
     exact h
    have:=HBB.out i v hil hi x hx
    omega)
end Go.Proofs.YthjbnpaghiojlaaGreat
