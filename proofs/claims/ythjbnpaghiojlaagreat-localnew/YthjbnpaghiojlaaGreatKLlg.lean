/- Items of several texts. -/
import Derived.Test.YthjbnpaghiojlaaGreatKHal
import Derived.Test.YthjbnpaghiojlaaGreatKLdo
import Derived.Test.YthjbnpaghiojlaaGreatKWal3
namespace Go.Proofs.YthjbnpaghiojlaaGreat
open Go.RowKit
structure Std (D:Nat→Prop) (lb b most:Nat) (rs:List (List Nat)) (v:World):Prop where
 lg:Lg D lb b most (frs rs) (frs rs).length rs.length (frs rs).length v
 rec_:∀ r ∈ rs,Rec r
theorem Std.free {D:Nat→Prop} {lb b most:Nat} {rs:List (List Nat)} {v v':World} (h:Std D lb b most rs v) (o:Off (fun _=>False) v v'):Std D lb b most rs v':=⟨h.lg.free o,h.rec_⟩
theorem frs_many (rs:List (List Nat)):rs.length * 8≤(frs rs).length:=by
 induction rs with
 | nil=>simp [frs]
 | cons r rs ih =>
  rw [frs_cons,List.length_append,frm_len,List.length_cons,Nat.succ_mul]
  omega
theorem Std.few {D:Nat→Prop} {lb b most:Nat} {rs:List (List Nat)} {v:World} (h:Std D lb b most rs v):(frs rs).length≤most∧most≤1048576∧rs.length * 8≤(frs rs).length:=⟨h.lg.fit.1,h.lg.fit.2,frs_many rs⟩
theorem append_ok {D:Nat→Prop} {lb b most:Nat} {rs:List (List Nat)} {v:World} (h:Std D lb b most rs v) {t:Option Addr} {c:Nat} {r:List Nat} (hi:Inp v t c r) (hl:r.length≤60000) (hfit:(frs rs).length + r.length + 8≤most) :
  Calls Tryz.prog 188 #[.pointer (some ⟨lb,0,none⟩),.slice t r.length c] v fun e v'=>e=.returned (.int .i64 0)∧∃ D',Std D' lb b most (rs ++ [r]) v'∧Chg D D' v v':=by
 have hf:=h.few
 refine (wappend_ok h.lg hi hl (by omega) (by omega) hfit).mono ?_
 rintro e v' ⟨rfl,D',lg,ch⟩
 refine ⟨rfl,D',⟨?_,fun x hx=>?_⟩,ch⟩
 ·have e1:frs (rs ++ [r])=frs rs ++ frm r:=frs_snoc rs r
  have e2:(frs rs ++ frm r).length=(frs rs).length + r.length + 8:=by rw [List.length_append,frm_len]; omega
  have e3:(rs ++ [r]).length=rs.length + 1:=by simp
  rw [e1,e2,e3]
  exact lg
 ·rcases List.mem_append.1 hx with hx | hx
  ·exact h.rec_ x hx
  ·rw [List.mem_singleton.1 hx]
   exact ⟨hl,hi.lt⟩
theorem append_no {D:Nat→Prop} {lb b most:Nat} {rs:List (List Nat)} {v:World} (h:Std D lb b most rs v) {t:Option Addr} {c:Nat} {r:List Nat} (hi:Inp v t c r) (hl:r.length≤60000) (hfit:most < (frs rs).length + r.length + 8) :
  Calls Tryz.prog 188 #[.pointer (some ⟨lb,0,none⟩),.slice t r.length c] v fun e v'=>e=.returned (.int .i64 5)∧∃ D',Std D' lb b most rs v'∧Chg D D' v v':=by
 refine (wappend_no h.lg hi hl hfit).mono ?_
 rintro e v' ⟨rfl,D',lg,ch⟩
 exact ⟨rfl,D',⟨lg,h.rec_⟩,ch⟩
structure Rc where
 kd:Nat
 node:Int
 e:E
def Rc.abs (r:Rc):RD:=⟨r.kd,r.node,r.e.abs⟩
def rcs (r:Rc):List Value:=[.int .u64 (r.kd:Int),.int .i64 r.node,.string r.e.key,.int .i64 (r.e.f 0),.int .i64 (r.e.f 1),.int .i64 (r.e.f 2),.int .i64 (r.e.f 3),.int .i64 (r.e.f 4),.int .i64 (r.e.f 5),.int .i64 (r.e.f 6),.int .i64 (r.e.f 7),.slice r.e.a r.e.l.length r.e.cap]
theorem rcs_len (r:Rc):(rcs r).length=12:=rfl
theorem rcs_one (r:Rc):∀ u ∈ rcs r,u.oneCell'=true:=by simp [rcs,Value.oneCell']
theorem Tryz.infoR:(Tryz.prog.info? 103).map (fun i=>(i.zero,i.size,i.bytes))=some (some (.agg #[.int .u64 0,.int .i64 0,.string ⟨#[]⟩,.int .i64 0,.int .i64 0,.int .i64 0,.int .i64 0,.int .i64 0,.int .i64 0,.int .i64 0,.int .i64 0,.slice none 0 0]),12,120):=by kernel_rfl
set_option maxRecDepth 100000 in
set_option maxHeartbeats 2000000 in
theorem records_any {S:Nat→Prop} {p:Nat} {lg:Value} {s:PS} {w:World} (h:Cor S p lg s w) :
  Calls Tryz.prog 215 #[.pointer (some ⟨p,0,none⟩)] w fun e w'=>∃ (a:Option Addr) (c:Nat) (rl:List Rc),e=.returned (.slice a rl.length c)∧rl.map Rc.abs=recs s∧OwnG 103 12 rcs w' a c rl∧(∀ r ∈ rl,Row w' r.e.a r.e.cap r.e.l)∧Off (fun _=>False) w w':=by
 have HCOR:Hid (Cor S p lg s w):=h
 obtain ⟨tp,tb,hp,T,H,t,xs,c0,tab,ht,hst,hh,-,-,-,-,-⟩:=h.is
 have p1:w.cell? ⟨p,1,none⟩=some (.pointer (some ⟨tp,0,none⟩)):=c0.cell 1
 have HP:Hid _:=c0
 have HTAB:Hid _:=tab
 have HST:Hid _:=hst
 have HT:Hid (absE t=s.1):=ht
 have HH:Hid (absH xs=s.2):=hh
 have HFW:Hid (∀ e ∈ t,e.l.length≤1000):=okT_few h.ok.tab ht
 clear h c0 tab hst ht hh
 go_enter Tryz.func215,Tryz.ntmps215
 go_wp2_with fail
 refine (tall_any tp tb t _ HTAB.out HFW.out).mono ?_
 rintro e wA ⟨ae,ce,es,rfl,hes,own,rws,-,oA⟩
 have HES:Hid _:=hes
 have HEN:Hid _:=own.ent
 have HRW:Hid (∀ e ∈ es,Row wA e.a e.cap e.l):=fun e he=>(rws e he).1
 have HOA0:Hid _:=oA
 have HEL:Hid (es.length≤256):=by
  have e1:=congrArg List.length hes
  rw [absE_len,absE_len] at e1
  have e2:=HTAB.out.few
  show _≤_
  omega
 have hel:=HEL.out
 clear hes own rws oA p1
 go_wp2_with fail
 go_loopw [3,14] (fun y z wr=>∃ (n:Nat) (to:Option Addr) (co:Nat) (rl:List Rc),y=.slice to rl.length co∧z=.int .i64 (n:Int)∧n≤es.length∧rl=(es.take n).map (fun e=>(⟨1,0,e⟩:Rc))∧OwnG 103 12 rcs wr to co rl∧(∀ c,blk to=some c→wA.heap.size≤c)∧Off (fun _=>False) wA wr) (fun _ z _=>(es.length - intOf z).toNat)
 case atStart=>exact ⟨0,none,0,[],rfl,rfl,by omega,rfl,OwnG.nil _ _ _ _,fun c hc=>by simp [blk] at hc,Off.refl _ wA⟩
 case round =>
  obtain ⟨n,to,co,rl,rfl,rfl,hn,hrl,hog,hnw,O⟩:=hrel
  have HRL:Hid (rl.length≤256):=by
   have e1:=congrArg List.length hrl
   rw [List.length_map,List.length_take] at e1
   show _≤_
   omega
  have HRQ:Hid _:=hrl
  have HOG:Hid _:=hog
  have HNW:Hid _:=hnw
  have HO:Hid _:=O
  clear hrl hog hnw O
  by_cases hlt:n < es.length
  ·have e1:decide ((n:Int) < (es.length:Int))=true:=decide_eq_true (by omega)
   have e2:decide (n < es.length)=true:=decide_eq_true hlt
   obtain ⟨x,hx⟩:∃ x,es[n]?=some x:=⟨_,List.getElem?_eq_getElem hlt⟩
   obtain ⟨b,off,rfl,k⟩:=HEN.out.at_ n x hx
   have hb:=HEN.out.bound
   have hl:=HEN.out.len
   have kk:∀ j u,(ecs x)[j]?=some u→wr.cell? ⟨b,off + n * 10 + j,none⟩=some u:=fun j u hj=>by
    have h1:=k j u hj
    rw [← h1]
    exact World.cell?_of_block (a:=⟨b,off + n * 10 + j,none⟩) (HO.out.block b (cell_lt h1) (fun h=>h))
   have k0:=kk 0 _ rfl
   have k1:=kk 1 _ rfl
   have k2:=kk 2 _ rfl
   have k3:=kk 3 _ rfl
   have k4:=kk 4 _ rfl
   have k5:=kk 5 _ rfl
   have k6:=kk 6 _ rfl
   have k7:=kk 7 _ rfl
   have k8:=kk 8 _ rfl
   have k9:=kk 9 _ rfl
   rw [Nat.add_zero] at k0
   have HX:Hid _:=hx
   clear hx k kk
   go_upto_region 5 with fail
   clear k0 k1 k2 k3 k4 k5 k6 k7 k8 k9
   have CQ:=Cel.new wr 68 #[.string x.key,.int .i64 (x.f 0),.int .i64 (x.f 1),.int .i64 (x.f 2),.int .i64 (x.f 3),.int .i64 (x.f 4),.int .i64 (x.f 5),.int .i64 (x.f 6),.int .i64 (x.f 7),.slice x.a x.l.length x.cap]
   have OQ:Off (fun _=>False) wr (wr.alloc (.cells #[.string x.key,.int .i64 (x.f 0),.int .i64 (x.f 1),.int .i64 (x.f 2),.int .i64 (x.f 3),.int .i64 (x.f 4),.int .i64 (x.f 5),.int .i64 (x.f 6),.int .i64 (x.f 7),.slice x.a x.l.length x.cap] 68)):=(Off.refl _ wr).alloc _
   generalize hv:wr.alloc (.cells #[.string x.key,.int .i64 (x.f 0),.int .i64 (x.f 1),.int .i64 (x.f 2),.int .i64 (x.f 3),.int .i64 (x.f 4),.int .i64 (x.f 5),.int .i64 (x.f 6),.int .i64 (x.f 7),.slice x.a x.l.length x.cap] 68)=V at CQ OQ ⊢
   generalize hq:wr.heap.size=q at CQ ⊢
   have HOG1:Hid _:=HOG.out.off OQ (fun _ _ _ h=>h)
   have HO1:Hid _:=HO.out.trans OQ (fun _ _ h=>h)
   obtain ⟨c0,c1,c2,c3,c4,c5,c6,c7,c8,c9⟩:=cel10 CQ
   clear hq hv CQ OQ
   go_wp2_with fail
   clear c0 c1 c2 c3 c4 c5 c6 c7 c8 c9
   refine (joins_any x V).mono ?_
   rintro e w2 ⟨rfl,o2⟩
   have HOG2:Hid _:=HOG1.out.off o2 (fun _ _ _ h=>h)
   have HO2:Hid _:=HO1.out.trans o2 (fun _ _ h=>h)
   clear o2
   have G:Cel w2.heap.size 103 #[.int .u64 1,.int .i64 0,.string x.key,.int .i64 (x.f 0),.int .i64 (x.f 1),.int .i64 (x.f 2),.int .i64 (x.f 3),.int .i64 (x.f 4),.int .i64 (x.f 5),.int .i64 (x.f 6),.int .i64 (x.f 7),.slice x.a x.l.length x.cap] (w2.alloc (.cells #[.int .u64 1,.int .i64 0,.string x.key,.int .i64 (x.f 0),.int .i64 (x.f 1),.int .i64 (x.f 2),.int .i64 (x.f 3),.int .i64 (x.f 4),.int .i64 (x.f 5),.int .i64 (x.f 6),.int .i64 (x.f 7),.slice x.a x.l.length x.cap] 103)):=Cel.new w2 _ _
   have OA:Off (fun _=>False) w2 (w2.alloc (.cells #[.int .u64 1,.int .i64 0,.string x.key,.int .i64 (x.f 0),.int .i64 (x.f 1),.int .i64 (x.f 2),.int .i64 (x.f 3),.int .i64 (x.f 4),.int .i64 (x.f 5),.int .i64 (x.f 6),.int .i64 (x.f 7),.slice x.a x.l.length x.cap] 103)):=(Off.refl _ w2).alloc _
   have G2:∀ j u,(rcs (⟨1,0,x⟩:Rc))[j]?=some u→(w2.alloc (.cells #[.int .u64 1,.int .i64 0,.string x.key,.int .i64 (x.f 0),.int .i64 (x.f 1),.int .i64 (x.f 2),.int .i64 (x.f 3),.int .i64 (x.f 4),.int .i64 (x.f 5),.int .i64 (x.f 6),.int .i64 (x.f 7),.slice x.a x.l.length x.cap] 103)).cell? ⟨w2.heap.size,j,none⟩=some u:=fun j u hj=>by
    rw [G.cell j,← hj,List.getElem?_toArray]
    rfl
   have HG2:Hid _:=G2
   have HOA:Hid _:=OA
   clear G G2 OA
   go_wp2_with (at_builtin; refine wpList_appG (cs:=rcs) rfl (.tmp 18) (.tmp 21) Tryz.underlying243 Tryz.infoR rfl (by decide) (by decide) rcs_len rcs_one rfl to co rl rfl (HOG2.out.off HOA.out (fun _ _ _ h=>h)) w2.heap.size 1 (⟨1,0,x⟩:Rc) rfl HG2.out (by have:=HRL.out; omega) ?_; intro to' co' w3 ys hys own3 o3 at3; have HOWN3:Hid _:=own3; have HO3:Hid _:=o3; have HAT:Hid _:=at3; clear own3 o3 at3)
   go_roundw
   case rel =>
    have fo:Off (fun c=>blk to=some c) w2 w3:=(HOA.out.mono (fun _ _ h=>h.elim)).trans HO3.out (fun _ _ h=>h)
    have hat:blk to'=blk to∨blk to'=some (w2.heap.size + 1):=by
     have e:=HAT.out
     simpa [World.size_alloc] using e
    have hsz:wA.heap.size≤w2.heap.size:=HO2.out.size
    refine ⟨n + 1,to',co',ys,rfl,by go_num,by omega,?_,HOWN3.out,?_,HO2.out.trans fo (fun i hi h=>by have:=HNW.out i h; omega)⟩
    ·rw [hys.out,HRQ.out,List.take_add_one,HX.out]
     simp
    ·intro c hc
     rcases hat with h | h
     ·exact HNW.out c (h ▸ hc)
     ·rw [h] at hc
      simp at hc
      omega
   case measure=>simp [intOf]; omega
  ·obtain rfl:n=es.length:=by omega
   have e1:decide ((es.length:Int) < (es.length:Int))=false:=decide_eq_false (by omega)
   have e2:decide (es.length < es.length)=false:=decide_eq_false (by omega)
   have HR1:Hid (rl=es.map fun e=>(⟨1,0,e⟩:Rc)):=by show _=_; rw [HRQ.out,List.take_length]
   have OW:Off (fun _=>False) w wr:=HOA0.out.trans HO.out (fun _ _ h=>h)
   have HSW:Hid _:=HST.out.free OW
   have q2:wr.cell? ⟨p,2,none⟩=some (.pointer (some ⟨hp,0,none⟩)):=(HP.out.off OW (fun h=>h)).cell 2
   have HOW:Hid _:=OW
   clear OW HRQ
   go_wp2_with fail
   clear q2
   refine (hall_any H hp xs _ HSW.out).mono ?_
   rintro e wB ⟨ah,kh,hs,rfl,hhs,own,rws,ters,hbl,oB⟩
   obtain ⟨N1,hN1⟩:∃ N,N=wr.heap.size:=⟨_,rfl⟩
   have HHS:Hid _:=hhs
   have HHN:Hid _:=own.hns
   have HLO:Hid _:=HOG.out.off oB (fun _ _ _ h=>h)
   have HTO:Hid (∀ c,blk to=some c→wA.heap.size≤c∧c < N1):=fun c hc=>⟨HNW.out c hc,by rw [hN1]; exact HOG.out.lt c hc⟩
   have HRWB:Hid (∀ y ∈ hs,Row wB y.e.a y.e.cap y.e.l∧Ter (fun c=>N1≤c) y.e.a y.e.l):=fun y hy=>⟨rws y hy,by rw [hN1]; exact ters y hy⟩
   have HBL:Hid (∀ c,blk ah=some c→N1≤c):=fun c hc=>by rw [hN1]; exact hbl c hc
   have HAB:Hid (Off (fun _=>False) wA wB):=HO.out.trans oB (fun _ _ h=>h)
   have HHL:Hid (hs.length≤64):=by
    have e1:=congrArg List.length hhs
    rw [absH_len,absH_len] at e1
    have e2:=HSW.out.few
    show _≤_
    omega
   have hhl:=HHL.out
   have HSZ:Hid (wA.heap.size≤N1∧N1≤wB.heap.size):=by rw [hN1]; exact ⟨HO.out.size,oB.size⟩
   clear hhs own rws ters oB hbl hN1
   go_wp2_with fail
   go_loopw [3,30] (fun y z v=>∃ (m:Nat) (t2:Option Addr) (c2:Nat) (r2:List Rc),y=.slice t2 r2.length c2∧z=.int .i64 (m:Int)∧m≤hs.length∧r2=rl ++ (hs.take m).map (fun h=>(⟨2,h.node,h.e⟩:Rc))∧OwnG 103 12 rcs v t2 c2 r2∧(∀ c,blk t2=some c→wA.heap.size≤c∧(c < N1∨wB.heap.size≤c))∧Off (fun c=>wA.heap.size≤c∧c < N1) wB v) (fun _ z _=>(hs.length - intOf z).toNat)
   case atStart=>exact ⟨0,to,co,rl,rfl,rfl,by omega,by simp,HLO.out,fun c hc=>⟨(HTO.out c hc).1,.inl (HTO.out c hc).2⟩,Off.refl _ wB⟩
   case round =>
    obtain ⟨m,t2,c2,r2,rfl,rfl,hm,hr2,hog,hnw,O⟩:=hrel
    have HRL2:Hid (r2.length≤320):=by
     have e1:=congrArg List.length hr2
     rw [List.length_append,List.length_map,List.length_take] at e1
     have e3:=HRL.out
     show _≤_
     omega
    have HRQ2:Hid _:=hr2
    have HOG3:Hid _:=hog
    have HNW3:Hid _:=hnw
    have HO3':Hid _:=O
    clear hr2 hog hnw O
    by_cases hlt2:m < hs.length
    ·have e3:decide ((m:Int) < (hs.length:Int))=true:=decide_eq_true (by omega)
     have e4:decide (m < hs.length)=true:=decide_eq_true hlt2
     obtain ⟨y,hy⟩:∃ y,hs[m]?=some y:=⟨_,List.getElem?_eq_getElem hlt2⟩
     obtain ⟨b,off,hah,k⟩:=HHN.out.at_ m y hy
     have hbb:=HHN.out.bound
     have hll:=HHN.out.len
     have hbl:N1≤b:=HBL.out b (by rw [hah]; rfl)
     rw [hah]
     have kk:∀ j u,(hcs y)[j]?=some u→wr.cell? ⟨b,off + m * 11 + j,none⟩=some u:=fun j u hj=>by
      have h1:=k.at_ j u hj
      rw [← h1]
      exact World.cell?_of_block (a:=⟨b,off + m * 11 + j,none⟩) (HO3'.out.block b (cell_lt h1) (fun h=>by omega))
     have k0:=kk 0 _ rfl
     have k1:=kk 1 _ rfl
     have k2:=kk 2 _ rfl
     have k3:=kk 3 _ rfl
     have k4:=kk 4 _ rfl
     have k5:=kk 5 _ rfl
     have k6:=kk 6 _ rfl
     have k7:=kk 7 _ rfl
     have k8:=kk 8 _ rfl
     have k9:=kk 9 _ rfl
     have k10:=kk 10 _ rfl
     rw [Nat.add_zero] at k0
     have HY:Hid _:=hy
     clear hy k kk hbl
     go_upto_region 10 with fail
     clear k0 k1 k2 k3 k4 k5 k6 k7 k8 k9 k10
     have CQ:=Cel.new wr 75 #[.int .i64 y.node,.string y.e.key,.int .i64 (y.e.f 0),.int .i64 (y.e.f 1),.int .i64 (y.e.f 2),.int .i64 (y.e.f 3),.int .i64 (y.e.f 4),.int .i64 (y.e.f 5),.int .i64 (y.e.f 6),.int .i64 (y.e.f 7),.slice y.e.a y.e.l.length y.e.cap]
     have OQ:Off (fun _=>False) wr (wr.alloc (.cells #[.int .i64 y.node,.string y.e.key,.int .i64 (y.e.f 0),.int .i64 (y.e.f 1),.int .i64 (y.e.f 2),.int .i64 (y.e.f 3),.int .i64 (y.e.f 4),.int .i64 (y.e.f 5),.int .i64 (y.e.f 6),.int .i64 (y.e.f 7),.slice y.e.a y.e.l.length y.e.cap] 75)):=(Off.refl _ wr).alloc _
     generalize hv:wr.alloc (.cells #[.int .i64 y.node,.string y.e.key,.int .i64 (y.e.f 0),.int .i64 (y.e.f 1),.int .i64 (y.e.f 2),.int .i64 (y.e.f 3),.int .i64 (y.e.f 4),.int .i64 (y.e.f 5),.int .i64 (y.e.f 6),.int .i64 (y.e.f 7),.slice y.e.a y.e.l.length y.e.cap] 75)=V at CQ OQ ⊢
     generalize hq:wr.heap.size=q at CQ ⊢
     have HOG4:Hid _:=HOG3.out.off OQ (fun _ _ _ h=>h)
     have HO4:Hid _:=HO3'.out.trans OQ (fun _ _ h=>h.elim)
     obtain ⟨c0,c1,c2,c3,c4,c5,c6,c7,c8,c9,c10⟩:=cel11 CQ
     clear hq hv CQ OQ
     go_wp2_with fail
     clear c0 c1 c2 c3 c4 c5 c6 c7 c8 c9 c10
     refine (keeps_any y V).mono ?_
     rintro e w2 ⟨rfl,o2⟩
     have HOG5:Hid _:=HOG4.out.off o2 (fun _ _ _ h=>h)
     have HO5:Hid _:=HO4.out.trans o2 (fun _ _ h=>h.elim)
     clear o2
     have G:Cel w2.heap.size 103 #[.int .u64 2,.int .i64 y.node,.string y.e.key,.int .i64 (y.e.f 0),.int .i64 (y.e.f 1),.int .i64 (y.e.f 2),.int .i64 (y.e.f 3),.int .i64 (y.e.f 4),.int .i64 (y.e.f 5),.int .i64 (y.e.f 6),.int .i64 (y.e.f 7),.slice y.e.a y.e.l.length y.e.cap] (w2.alloc (.cells #[.int .u64 2,.int .i64 y.node,.string y.e.key,.int .i64 (y.e.f 0),.int .i64 (y.e.f 1),.int .i64 (y.e.f 2),.int .i64 (y.e.f 3),.int .i64 (y.e.f 4),.int .i64 (y.e.f 5),.int .i64 (y.e.f 6),.int .i64 (y.e.f 7),.slice y.e.a y.e.l.length y.e.cap] 103)):=Cel.new w2 _ _
     have OA:Off (fun _=>False) w2 (w2.alloc (.cells #[.int .u64 2,.int .i64 y.node,.string y.e.key,.int .i64 (y.e.f 0),.int .i64 (y.e.f 1),.int .i64 (y.e.f 2),.int .i64 (y.e.f 3),.int .i64 (y.e.f 4),.int .i64 (y.e.f 5),.int .i64 (y.e.f 6),.int .i64 (y.e.f 7),.slice y.e.a y.e.l.length y.e.cap] 103)):=(Off.refl _ w2).alloc _
     have G2:∀ j u,(rcs (⟨2,y.node,y.e⟩:Rc))[j]?=some u→(w2.alloc (.cells #[.int .u64 2,.int .i64 y.node,.string y.e.key,.int .i64 (y.e.f 0),.int .i64 (y.e.f 1),.int .i64 (y.e.f 2),.int .i64 (y.e.f 3),.int .i64 (y.e.f 4),.int .i64 (y.e.f 5),.int .i64 (y.e.f 6),.int .i64 (y.e.f 7),.slice y.e.a y.e.l.length y.e.cap] 103)).cell? ⟨w2.heap.size,j,none⟩=some u:=fun j u hj=>by
      rw [G.cell j,← hj,List.getElem?_toArray]
      rfl
     have HG2:Hid _:=G2
     have HOA:Hid _:=OA
     clear G G2 OA
     go_wp2_with (at_builtin; refine wpList_appG (cs:=rcs) rfl (.tmp 34) (.tmp 37) Tryz.underlying243 Tryz.infoR rfl (by decide) (by decide) rcs_len rcs_one rfl t2 c2 r2 rfl (HOG5.out.off HOA.out (fun _ _ _ h=>h)) w2.heap.size 1 (⟨2,y.node,y.e⟩:Rc) rfl HG2.out (by have:=HRL2.out; omega) ?_; intro to' co' w3 ys hys own3 o3 at3; have HOWN3:Hid _:=own3; have HO3:Hid _:=o3; have HAT:Hid _:=at3; clear own3 o3 at3)
     go_roundw
     case rel =>
      have fo:Off (fun c=>blk t2=some c) w2 w3:=(HOA.out.mono (fun _ _ h=>h.elim)).trans HO3.out (fun _ _ h=>h)
      have hat:blk to'=blk t2∨blk to'=some (w2.heap.size + 1):=by
       have e:=HAT.out
       simpa [World.size_alloc] using e
      have hsz:wB.heap.size≤w2.heap.size:=HO5.out.size
      refine ⟨m + 1,to',co',ys,rfl,by go_num,by omega,?_,HOWN3.out,?_,HO5.out.trans fo (fun i hi h=>by have h1:=HNW3.out i h; omega)⟩
      ·rw [hys.out,HRQ2.out,List.take_add_one,HY.out]
       simp
      ·intro c hc
       rcases hat with h | h
       ·exact HNW3.out c (h ▸ hc)
       ·rw [h] at hc
        simp at hc
        have h1:=HSZ.out
        omega
     case measure=>simp [intOf]; omega
    ·obtain rfl:m=hs.length:=by omega
     have e3:decide ((hs.length:Int) < (hs.length:Int))=false:=decide_eq_false (by omega)
     have e4:decide (hs.length < hs.length)=false:=decide_eq_false (by omega)
     go_wp2_with fail
     go_ret
     have hz:=HSZ.out
     have oAv:Off (fun c=>wA.heap.size≤c) wA wr:=(HAB.out.mono (fun _ _ h=>h.elim)).trans HO3'.out (fun i _ h=>h.1)
     refine ⟨t2,c2,r2,rfl,?_,HOG3.out,fun r hr=>?_,(HOA0.out.trans oAv (fun i hi h=>by have:=HOA0.out.size; omega))⟩
     ·rw [HRQ2.out,List.take_length,HR1.out,List.map_append,List.map_map,List.map_map]
      unfold recs
      rw [← HT.out,← HES.out,← HH.out,← HHS.out]
      unfold absE absH
      rw [List.map_map,List.map_map]
      rfl
     ·rw [HRQ2.out,List.take_length,HR1.out] at hr
      rcases List.mem_append.1 hr with hr | hr
      ·obtain ⟨x,hx,rfl⟩:=List.mem_map.1 hr
       exact (HRW.out x hx).off (oAv.mono (fun i hi h=>by omega))
      ·obtain ⟨y,hy,rfl⟩:=List.mem_map.1 hr
       exact (HRWB.out y hy).1.offT (HRWB.out y hy).2 HO3'.out (fun c _ h1 h2=>by omega)
end Go.Proofs.YthjbnpaghiojlaaGreat

namespace Go.Proofs.YthjbnpaghiojlaaGreat
open Go.RowKit
def shE (most n:Nat):Int:=if most < n then 5 else 0
def shL (most n:Nat) (rs l:List (List Nat)):List (List Nat):=if most < n then rs else l
theorem compact_any {D:Nat→Prop} {lb b most:Nat} {rs:List (List Nat)} {v:World} (h:Std D lb b most rs v) {t:Option Addr} {c:Nat} {sl:List B} (hr:Rws v t c sl) :
  Calls Tryz.prog 216 #[.pointer (some ⟨lb,0,none⟩),.slice t sl.length c] v fun e v'=>e=.returned (.int .i64 (shE most (frs (sl.map B.data)).length))∧∃ D',Std D' lb b most (shL most (frs (sl.map B.data)).length rs (sl.map B.data)) v'∧Chg D D' v v':=by
 by_cases hf:most < (frs (sl.map B.data)).length
 ·rw [shE,shL,if_pos hf,if_pos hf]
  refine (wcompact_no h.lg hr hf).mono ?_
  rintro e v' ⟨rfl,D',lg,ch⟩
  exact ⟨rfl,D',⟨lg,h.rec_⟩,ch⟩
 ·rw [shE,shL,if_neg hf,if_neg hf]
  refine (wcompact_ok h.lg hr (by omega)).mono ?_
  rintro e v' ⟨rfl,D',lg,ch⟩
  have hl:(sl.map B.data).length=sl.length:=List.length_map _
  refine ⟨rfl,D',⟨by rw [hl]; exact lg,hr.rec_⟩,ch⟩
set_option maxRecDepth 100000 in
set_option maxHeartbeats 2000000 in
theorem shorten_any {S D:Nat→Prop} {p lb b most:Nat} {rs:List (List Nat)} {s:PS} {w:World} (h:Cor S p (.pointer (some ⟨lb,0,none⟩)) s w) (hs:Std D lb b most rs w) :
  Calls Tryz.prog 189 #[.pointer (some ⟨p,0,none⟩)] w fun e w'=>e=.returned (.int .i64 (shE most (frs (cmp s)).length))∧∃ D',Std D' lb b most (shL most (frs (cmp s)).length rs (cmp s)) w'∧Chg D D' w w':=by
 have HCOR:Hid (Cor S p (.pointer (some ⟨lb,0,none⟩)) s w):=h
 have HSTD:Hid _:=hs
 clear h hs
 go_enter Tryz.func189,Tryz.ntmps189
 go_wp2_with fail
 refine (records_any HCOR.out).mono ?_
 rintro e wR ⟨a,c,rl,rfl,hrl,own,rws,oR⟩
 have HRS:Hid _:=hrl
 have HOR:Hid _:=own
 have HRW:Hid _:=rws
 have HO0:Hid _:=oR
 have HOK:Hid (∀ r ∈ rl,OkR r.abs):=fun r hr=>HCOR.out.ok.recs r.abs (by rw [← hrl]; exact List.mem_map.2 ⟨r,hr,rfl⟩)
 have HRL:Hid (rl.length≤320):=by
  have e1:=recs_len HCOR.out.ok
  rw [← hrl,List.length_map] at e1
  exact e1
 have hrl3:=HRL.out
 clear hrl own rws oR
 go_wp2_with fail
 go_loopw [3,11] (fun y z wr=>∃ (n:Nat) (to:Option Addr) (co:Nat) (bl:List B),y=.slice to bl.length co∧z=.int .i64 (n:Int)∧n≤rl.length∧bl.map B.data=(rl.take n).map (fun r=>enc r.abs)∧OwnG 44 1 bcs wr to co bl∧(∀ x ∈ bl,OwnR wr x.ad x.cap x.data∧∀ k,blk x.ad=some k→blk to ≠ some k)∧(∀ k,blk to=some k→wR.heap.size≤k)∧Off (fun _=>False) wR wr) (fun _ z _=>(rl.length - intOf z).toNat)
 case atStart=>exact ⟨0,none,0,[],rfl,rfl,by omega,rfl,OwnG.nil _ _ _ _,fun x hx=>by simp at hx,fun k hk=>by simp [blk] at hk,Off.refl _ wR⟩
 case round =>
  obtain ⟨n,to,co,bl,rfl,rfl,hn,hbl,hog,hea,hnw,O⟩:=hrel
  have HBL:Hid (bl.length≤320):=by
   have e1:=congrArg List.length hbl
   rw [List.length_map,List.length_map,List.length_take] at e1
   show _≤_
   omega
  have HBQ:Hid _:=hbl
  have HOG:Hid _:=hog
  have HEA:Hid _:=hea
  have HNW:Hid _:=hnw
  have HO:Hid _:=O
  clear hbl hog hea hnw O
  by_cases hlt:n < rl.length
  ·have e1:decide ((n:Int) < (rl.length:Int))=true:=decide_eq_true (by omega)
   have e2:decide (n < rl.length)=true:=decide_eq_true hlt
   obtain ⟨r,hr⟩:∃ r,rl[n]?=some r:=⟨_,List.getElem?_eq_getElem hlt⟩
   obtain ⟨g,rfl,k⟩:=(HOR.out.off HO.out (fun _ _ _ h=>h)).at_ rcs_len hr
   have k0:=k 0 _ rfl
   have k1:=k 1 _ rfl
   have k2:=k 2 _ rfl
   have k3:=k 3 _ rfl
   have k4:=k 4 _ rfl
   have k5:=k 5 _ rfl
   have k6:=k 6 _ rfl
   have k7:=k 7 _ rfl
   have k8:=k 8 _ rfl
   have k9:=k 9 _ rfl
   have k10:=k 10 _ rfl
   have k11:=k 11 _ rfl
   rw [Nat.add_zero] at k0
   have HRM:Hid (r ∈ rl):=List.mem_of_getElem? hr
   have HR:Hid _:=hr
   clear hr k
   go_upto_region 5 with fail
   clear k0 k1 k2 k3 k4 k5 k6 k7 k8 k9 k10 k11
   have CQ:=Cel.new wr 103 #[.int .u64 (r.kd:Int),.int .i64 r.node,.string r.e.key,.int .i64 (r.e.f 0),.int .i64 (r.e.f 1),.int .i64 (r.e.f 2),.int .i64 (r.e.f 3),.int .i64 (r.e.f 4),.int .i64 (r.e.f 5),.int .i64 (r.e.f 6),.int .i64 (r.e.f 7),.slice r.e.a r.e.l.length r.e.cap]
   have OQ:Off (fun _=>False) wr (wr.alloc (.cells #[.int .u64 (r.kd:Int),.int .i64 r.node,.string r.e.key,.int .i64 (r.e.f 0),.int .i64 (r.e.f 1),.int .i64 (r.e.f 2),.int .i64 (r.e.f 3),.int .i64 (r.e.f 4),.int .i64 (r.e.f 5),.int .i64 (r.e.f 6),.int .i64 (r.e.f 7),.slice r.e.a r.e.l.length r.e.cap] 103)):=(Off.refl _ wr).alloc _
   generalize hv:wr.alloc (.cells #[.int .u64 (r.kd:Int),.int .i64 r.node,.string r.e.key,.int .i64 (r.e.f 0),.int .i64 (r.e.f 1),.int .i64 (r.e.f 2),.int .i64 (r.e.f 3),.int .i64 (r.e.f 4),.int .i64 (r.e.f 5),.int .i64 (r.e.f 6),.int .i64 (r.e.f 7),.slice r.e.a r.e.l.length r.e.cap] 103)=V at CQ OQ ⊢
   generalize hq:wr.heap.size=q at CQ ⊢
   have HOG1:Hid _:=HOG.out.off OQ (fun _ _ _ h=>h)
   have HEA1:Hid (∀ x ∈ bl,OwnR V x.ad x.cap x.data∧∀ k,blk x.ad=some k→blk to ≠ some k):=fun x hx=>⟨(HEA.out x hx).1.off OQ (fun _ _ _ h=>h),(HEA.out x hx).2⟩
   have HO1:Hid _:=HO.out.trans OQ (fun _ _ h=>h)
   have HRR:Hid (Row V r.e.a r.e.cap r.e.l):=(HRW.out r HRM.out).off HO1.out
   obtain ⟨c0,c1,c2,c3,c4,c5,c6,c7,c8,c9,c10,c11⟩:=cel12 CQ
   clear hq hv CQ OQ
   go_wp2_with fail
   clear c0 c1 c2 c3 c4 c5 c6 c7 c8 c9 c10 c11
   refine (bytes_any r.kd r.node r.e V HRR.out (HOK.out r HRM.out)).mono ?_
   rintro e w2 ⟨tb,cb,rfl,ownb,frb,o2⟩
   have hlen:(enc r.abs).length≤4000:=enc_len (HOK.out r HRM.out)
   rw [show (⟨r.kd,r.node,r.e.abs⟩:RD)=r.abs from rfl] at ownb ⊢
   obtain ⟨en,hen⟩:∃ en,en=enc r.abs:=⟨_,rfl⟩
   rw [← hen] at ownb hlen ⊢
   have HEN:Hid _:=hen
   have HOWB:Hid _:=ownb
   have HFRB:Hid _:=frb
   have HOG2:Hid _:=HOG1.out.off o2 (fun _ _ _ h=>h)
   have HEA2:Hid (∀ x ∈ bl,OwnR w2 x.ad x.cap x.data∧∀ k,blk x.ad=some k→blk to ≠ some k):=fun x hx=>⟨(HEA1.out x hx).1.off o2 (fun _ _ _ h=>h),(HEA1.out x hx).2⟩
   have HO2:Hid _:=HO1.out.trans o2 (fun _ _ h=>h)
   have HTL:Hid (∀ k,blk to=some k→k < V.heap.size):=HOG1.out.lt
   clear o2 ownb frb hen
   have G:Cel w2.heap.size 44 #[.slice tb en.length cb] (w2.alloc (.cells #[.slice tb en.length cb] 44)):=Cel.new w2 _ _
   have OA:Off (fun _=>False) w2 (w2.alloc (.cells #[.slice tb en.length cb] 44)):=(Off.refl _ w2).alloc _
   have G2:∀ j u,(bcs (⟨tb,cb,en⟩:B))[j]?=some u→(w2.alloc (.cells #[.slice tb en.length cb] 44)).cell? ⟨w2.heap.size,j,none⟩=some u:=fun j u hj=>by
    rw [G.cell j,← hj,List.getElem?_toArray]
    rfl
   have HG2:Hid _:=G2
   have HOA:Hid _:=OA
   clear G G2 OA
   go_wp2_with (at_builtin; refine wpList_appG (cs:=bcs) rfl (.tmp 23) (.tmp 25) Tryz.underlying39 Tryz.infoBs rfl (by decide) (by decide) bcs_len bcs_one rfl to co bl rfl (HOG2.out.off HOA.out (fun _ _ _ h=>h)) w2.heap.size 1 (⟨tb,cb,en⟩:B) rfl HG2.out (by have:=HBL.out; omega) ?_; intro to' co' w3 ys hys own3 o3 at3; have HOWN3:Hid _:=own3; have HO3:Hid _:=o3; have HAT:Hid _:=at3; clear own3 o3 at3)
   go_roundw
   case rel =>
    have fo:Off (fun c=>blk to=some c) w2 w3:=(HOA.out.mono (fun _ _ h=>h.elim)).trans HO3.out (fun _ _ h=>h)
    have hat:blk to'=blk to∨blk to'=some (w2.heap.size + 1):=by
     have e:=HAT.out
     simpa [World.size_alloc] using e
    have hsz:wR.heap.size≤w2.heap.size:=HO2.out.size
    have hne:∀ k,k < w2.heap.size→blk to ≠ some k→blk to' ≠ some k:=fun k hk h1 h2=>by
     rcases hat with h | h
     ·exact h1 (h ▸ h2)
     ·rw [h] at h2
      simp at h2
      omega
    refine ⟨n + 1,to',co',ys,rfl,by go_num,by omega,?_,HOWN3.out,?_,?_,HO2.out.trans fo (fun i hi h=>by have:=HNW.out i h; omega)⟩
    ·rw [hys.out,List.map_append,HBQ.out,List.take_add_one,HR.out,List.map_append]
     simp [HEN.out]
    ·intro x hx
     rw [hys.out,List.mem_append,List.mem_singleton] at hx
     rcases hx with hx | rfl
     ·exact ⟨(HEA2.out x hx).1.off fo (fun k _ hk e=>(HEA2.out x hx).2 k hk e),fun k hk=>hne k ((HEA2.out x hx).1.lt k hk) ((HEA2.out x hx).2 k hk)⟩
     ·have hn2:∀ k,blk tb=some k→blk to ≠ some k:=fun k hk e=>by have h1:=HFRB.out k hk; have h2:=HTL.out k e; omega
      exact ⟨HOWB.out.off fo (fun k _ hk e=>hn2 k hk e),fun k hk=>hne k (HOWB.out.lt k hk) (hn2 k hk)⟩
    ·intro c hc
     rcases hat with h | h
     ·exact HNW.out c (h ▸ hc)
     ·rw [h] at hc
      simp at hc
      omega
   case measure=>simp [intOf]; omega
  ·obtain rfl:n=rl.length:=by omega
   have e1:decide ((rl.length:Int) < (rl.length:Int))=false:=decide_eq_false (by omega)
   have e2:decide (rl.length < rl.length)=false:=decide_eq_false (by omega)
   have HBD:Hid (bl.map B.data=cmp s):=by
    show _=_
    rw [HBQ.out,List.take_length]
    unfold cmp
    rw [← HRS.out,List.map_map]
    rfl
   have HDT:Hid (∀ x ∈ bl,∃ r ∈ rl,x.data=enc r.abs):=fun x hx=>by
    have h1:x.data ∈ bl.map B.data:=List.mem_map.2 ⟨x,hx,rfl⟩
    rw [HBQ.out,List.take_length] at h1
    obtain ⟨r,hr,e⟩:=List.mem_map.1 h1
    exact ⟨r,hr,e.symm⟩
   have HRWS:Hid (Rws wr to co bl):=by
    refine ⟨HOG.out,fun x hx=>?_,by have:=HBL.out; omega,fun x hx=>?_⟩
    ·obtain ⟨r,hr,e⟩:=HDT.out x hx
     exact (HEA.out x hx).1.inp (by rw [e]; exact enc_lt (HOK.out r hr))
    ·obtain ⟨r,hr,e⟩:=HDT.out x hx
     have:=enc_len (HOK.out r hr)
     rw [e]
     omega
   have OW:Off (fun _=>False) w wr:=HO0.out.trans HO.out (fun _ _ h=>h)
   have HST2:Hid _:=HSTD.out.free OW
   obtain ⟨tp,tb,hp,T,H,t,xs,c0,-⟩:=HCOR.out.is
   have q0:wr.cell? ⟨p,0,none⟩=some (.pointer (some ⟨lb,0,none⟩)):=(c0.off OW (fun h=>h)).cell 0
   have HOW:Hid _:=OW
   clear OW c0 HBQ HDT
   go_wp2_with fail
   clear q0
   refine (compact_any HST2.out HRWS.out).mono ?_
   rw [HBD.out]
   rintro e w9 ⟨rfl,D',sd,ch⟩
   have HSD:Hid _:=sd
   have HCH:Hid _:=ch
   clear sd ch
   go_wp2_with fail
   go_ret
   exact ⟨rfl,D',HSD.out,Chg.after HOW.out HCH.out⟩
set_option maxRecDepth 100000 in
set_option maxHeartbeats 2000000 in
theorem lay_any {S D:Nat→Prop} {p lb b most:Nat} {rs:List (List Nat)} {s:PS} {w:World} (h:Cor S p (.pointer (some ⟨lb,0,none⟩)) s w) (hs:Std D lb b most rs w) (hd:∀ c,S c→¬ D c) {t:Option Addr} {c:Nat} {r:List Nat} (hi:Inp w t c r) (hl:r.length≤60000) (ht:∀ k,blk t=some k→¬ D k) :
  Calls Tryz.prog 129 #[.pointer (some ⟨p,0,none⟩),.slice t r.length c] w fun e w'=>e=.returned (.int .i64 (layE most rs s r))∧∃ D',Std D' lb b most (layL most rs s r) w'∧Chg D D' w w':=by
 have HCOR:Hid (Cor S p (.pointer (some ⟨lb,0,none⟩)) s w):=h
 have HSTD:Hid _:=hs
 have HI:Hid _:=hi
 have HTD:Hid _:=ht
 have HSD:Hid _:=hd
 obtain ⟨tp,tb,hp,T,H,tt,xs,c0,-⟩:=h.is
 have q0:w.cell? ⟨p,0,none⟩=some (.pointer (some ⟨lb,0,none⟩)):=c0.cell 0
 clear h hs hi ht hd c0
 by_cases hf:(frs rs).length + r.length + 8≤most
 ·have el:layE most rs s r=0:=by unfold layE; rw [if_pos hf]
  have er:layL most rs s r=rs ++ [r]:=by unfold layL; rw [if_pos hf]
  rw [el,er]
  have HF:Hid _:=hf
  clear el er hf
  go_enter Tryz.func129,Tryz.ntmps129
  go_wp2_with fail
  refine (append_ok HSTD.out HI.out hl HF.out).mono ?_
  rintro e w1 ⟨rfl,D',sd,ch⟩
  have H1:Hid _:=sd
  have H2:Hid _:=ch
  clear sd ch
  go_wp2_with fail
  go_ret
  exact ⟨rfl,D',H1.out,H2.out⟩
 ·obtain ⟨LE,hLE⟩:∃ LE,LE=layE most rs s r:=⟨_,rfl⟩
  obtain ⟨LL,hLL⟩:∃ LL,LL=layL most rs s r:=⟨_,rfl⟩
  rw [← hLE,← hLL]
  have HLE:Hid _:=hLE
  have HLL:Hid _:=hLL
  have HF:Hid (most < (frs rs).length + r.length + 8):=by show _ < _; omega
  clear hLE hLL hf
  go_enter Tryz.func129,Tryz.ntmps129
  go_wp2_with fail
  clear q0
  refine (append_no HSTD.out HI.out hl HF.out).mono ?_
  rintro e w1 ⟨rfl,D1,sd,ch⟩
  have HS1:Hid _:=sd
  have HC1:Hid _:=ch
  have HK1:Hid (Cor S p (.pointer (some ⟨lb,0,none⟩)) s w1):=HCOR.out.off ch.off (fun c _ hc=>HSD.out c hc)
  have HN1:Hid (∀ c,S c→¬ D1 c):=fun c hc hD=>by
   rcases ch.sub c hD with h | h
   ·exact HSD.out c hc h
   ·have:=HCOR.out.lt c hc
    omega
  have HI1:Hid (Inp w1 t c r):=HI.out.off ch.off (fun k _ hk=>HTD.out k hk)
  have HT1:Hid (r=[]∨∀ k,blk t=some k→¬ D1 k):=by
   rcases HI.out.old with h | h
   ·exact .inl h
   ·exact .inr fun k hk=>ch.not (h k hk) (HTD.out k hk)
  clear sd ch
  go_wp2_with fail
  refine (shorten_any HK1.out HS1.out).mono ?_
  rintro e w2 ⟨rfl,D2,sd,ch⟩
  by_cases hm:most < (frs (cmp s)).length
  ·rw [shL,if_pos hm] at sd
   rw [shE,if_pos hm]
   have HS2:Hid _:=sd
   have HC2:Hid _:=ch
   have HM:Hid _:=hm
   clear sd ch hm
   go_wp2_with fail
   go_ret
   have el:layE most rs s r=5:=by unfold layE; rw [if_neg (Nat.not_le.2 HF.out),if_pos HM.out]
   have er:layL most rs s r=rs:=by unfold layL; rw [if_neg (Nat.not_le.2 HF.out),if_pos HM.out]
   refine ⟨by rw [HLE.out,el]; rfl,D2,?_,HC1.out.trans HC2.out⟩
   rw [HLL.out,er]
   exact HS2.out
  ·rw [shL,if_neg hm] at sd
   rw [shE,if_neg hm]
   have HI2:Hid (Inp w2 t c r):=by
    rcases HT1.out with h | h
    ·refine ⟨?_,HI.out.cap,HI.out.lt⟩
     have h0:=HI1.out.src
     rw [h] at h0 ⊢
     rcases h0.is with h1 | ⟨ad,h1,-⟩
     ·exact ⟨.inl h1⟩
     ·exact ⟨.inr ⟨ad,h1,fun j u hj=>by simp [vl] at hj⟩⟩
    ·exact HI1.out.off ch.off (fun k _ hk=>h k hk)
   obtain ⟨tp2,tb2,hp2,T2,H2,tt2,xs2,c2,-⟩:=(HK1.out.off ch.off (fun c _ hc=>HN1.out c hc)).is
   have q2:w2.cell? ⟨p,0,none⟩=some (.pointer (some ⟨lb,0,none⟩)):=c2.cell 0
   have HS2:Hid _:=sd
   have HC2:Hid _:=ch
   have HM:Hid _:=hm
   clear sd ch hm c2
   go_wp2_with fail
   clear q2
   by_cases hg:(frs (cmp s)).length + r.length + 8≤most
   ·refine (append_ok HS2.out HI2.out hl hg).mono ?_
    rintro e w3 ⟨rfl,D3,sd,ch⟩
    have HS3:Hid _:=sd
    have HC3:Hid _:=ch
    have HG:Hid _:=hg
    clear sd ch hg
    go_wp2_with fail
    go_ret
    have el:layE most rs s r=0:=by unfold layE; rw [if_neg (Nat.not_le.2 HF.out),if_neg HM.out,if_pos HG.out]
    have er:layL most rs s r=cmp s ++ [r]:=by unfold layL; rw [if_neg (Nat.not_le.2 HF.out),if_neg HM.out,if_pos HG.out]
    refine ⟨by rw [HLE.out,el]; rfl,D3,?_,(HC1.out.trans HC2.out).trans HC3.out⟩
    rw [HLL.out,er]
    exact HS3.out
   ·refine (append_no HS2.out HI2.out hl (by omega)).mono ?_
    rintro e w3 ⟨rfl,D3,sd,ch⟩
    have HS3:Hid _:=sd
    have HC3:Hid _:=ch
    have HG:Hid _:=hg
    clear sd ch hg
    go_wp2_with fail
    go_ret
    have el:layE most rs s r=5:=by unfold layE; rw [if_neg (Nat.not_le.2 HF.out),if_neg HM.out,if_neg HG.out]
    have er:layL most rs s r=cmp s:=by unfold layL; rw [if_neg (Nat.not_le.2 HF.out),if_neg HM.out,if_neg HG.out]
    refine ⟨by rw [HLE.out,el]; rfl,D3,?_,(HC1.out.trans HC2.out).trans HC3.out⟩
    rw [HLL.out,er]
    exact HS3.out
structure Hol (D S:Nat→Prop) (p lb b most:Nat) (rs:List (List Nat)) (s:PS) (w:World):Prop where
 cor:Cor S p (.pointer (some ⟨lb,0,none⟩)) s w
 std:Std D lb b most rs w
 sep:∀ c,S c→¬ D c
 inv:Inv rs s
structure Mov (D S D' S':Nat→Prop) (w w':World):Prop where
 off:Off (fun c=>D c∨S c) w w'
 d:∀ c,D' c→D c∨w.heap.size≤c
 s:∀ c,S' c→S c∨w.heap.size≤c
theorem Mov.trans {D S D' S' D'' S'':Nat→Prop} {u v x:World} (h:Mov D S D' S' u v) (k:Mov D' S' D'' S'' v x):Mov D S D'' S'' u x:=by
 have hs:=h.off.size
 refine ⟨h.off.trans k.off (fun i hi e=>?_),fun c hc=>?_,fun c hc=>?_⟩
 ·rcases e with e | e
  ·exact (h.d i e).elim .inl (fun h=>by omega)
  ·exact (h.s i e).elim .inr (fun h=>by omega)
 ·rcases k.d c hc with e | e
  ·exact h.d c e
  ·exact .inr (by omega)
 ·rcases k.s c hc with e | e
  ·exact h.s c e
  ·exact .inr (by omega)
theorem Mov.after {D S D' S':Nat→Prop} {u v x:World} (k:Off (fun _=>False) u v) (h:Mov D S D' S' v x):Mov D S D' S' u x :=
 ⟨(k.mono (fun _ _ h=>h.elim)).trans h.off (fun _ _ h=>h),fun c hc=>(h.d c hc).imp id (fun e=>Nat.le_trans k.size e),fun c hc=>(h.s c hc).imp id (fun e=>Nat.le_trans k.size e)⟩
theorem Hol.free {D S:Nat→Prop} {p lb b most:Nat} {rs:List (List Nat)} {s:PS} {w w':World} (h:Hol D S p lb b most rs s w) (o:Off (fun _=>False) w w'):Hol D S p lb b most rs s w':=⟨h.cor.free o,h.std.free o,h.sep,h.inv⟩
theorem Mov.not {D S D' S':Nat→Prop} {u v:World} (h:Mov D S D' S' u v) {c:Nat} (hc:c < u.heap.size) (hD:¬ D c∧¬ S c):¬ D' c∧¬ S' c:=⟨fun e=>(h.d c e).elim hD.1 (fun h=>by omega),fun e=>(h.s c e).elim hD.2 (fun h=>by omega)⟩
theorem Mov.new {D S D' S':Nat→Prop} {w u v:World} (h:Mov D S D' S' u v) (o:Off (fun _=>False) w u) (hD:∀ c,D c∨S c→w.heap.size≤c):Off (fun _=>False) w v∧∀ c,D' c∨S' c→w.heap.size≤c:=by
 have hs:=o.size
 refine ⟨((o.mono (fun _ _ h=>h.elim)).trans h.off (fun _ _ h=>h)).mono (fun i hi e=>by have:=hD i e; omega),fun c hc=>?_⟩
 rcases hc with hc | hc
 ·rcases h.d c hc with e | e
  ·exact hD c (.inl e)
  ·omega
 ·rcases h.s c hc with e | e
  ·exact hD c (.inr e)
  ·omega
def chE (most:Nat) (rs:List (List Nat)) (s:PS) (r:RD):Int:=layE most rs s (enc r)
def chL (most:Nat) (rs:List (List Nat)) (s:PS) (r:RD):List (List Nat):=layL most rs s (enc r)
def chS (most:Nat) (rs:List (List Nat)) (s:PS) (r:RD):PS:=if chE most rs s r=0 then (doR s r).getD s else s
set_option maxRecDepth 100000 in
set_option maxHeartbeats 2000000 in
theorem change_any {D S:Nat→Prop} {p lb b most:Nat} {rs:List (List Nat)} {s:PS} (kd:Nat) (node:Int) (x:E) {w:World} (h:Hol D S p lb b most rs s w) (hr:Row w x.a x.cap x.l) (htr:Ter (fun c=>¬ D c∧¬ S c) x.a x.l) (hk:OkR ⟨kd,node,x.abs⟩) (hdo:(doR s ⟨kd,node,x.abs⟩).isSome=true) :
  Calls Tryz.prog 66 #[.pointer (some ⟨p,0,none⟩),(.agg #[.int .u64 (kd:Int),.int .i64 node,.string x.key,.int .i64 (x.f 0),.int .i64 (x.f 1),.int .i64 (x.f 2),.int .i64 (x.f 3),.int .i64 (x.f 4),.int .i64 (x.f 5),.int .i64 (x.f 6),.int .i64 (x.f 7),.slice x.a x.l.length x.cap])] w fun e w'=>e=.returned (.int .i64 (chE most rs s ⟨kd,node,x.abs⟩))∧∃ D' S',Hol D' S' p lb b most (chL most rs s ⟨kd,node,x.abs⟩) (chS most rs s ⟨kd,node,x.abs⟩) w'∧Mov D S D' S' w w':=by
 obtain ⟨s',hs'⟩:=Option.isSome_iff_exists.1 hdo
 have hinv:=h.inv.lay hk hs' most
 obtain ⟨W,hW⟩:∃ W,W=(w.alloc (.cells #[.int .u64 (kd:Int),.int .i64 node,.string x.key,.int .i64 (x.f 0),.int .i64 (x.f 1),.int .i64 (x.f 2),.int .i64 (x.f 3),.int .i64 (x.f 4),.int .i64 (x.f 5),.int .i64 (x.f 6),.int .i64 (x.f 7),.slice x.a x.l.length x.cap] 103)):=⟨_,rfl⟩
 have O:Off (fun _=>False) w W:=by rw [hW]; exact (Off.refl _ w).alloc _
 have C:Cel w.heap.size 103 #[.int .u64 (kd:Int),.int .i64 node,.string x.key,.int .i64 (x.f 0),.int .i64 (x.f 1),.int .i64 (x.f 2),.int .i64 (x.f 3),.int .i64 (x.f 4),.int .i64 (x.f 5),.int .i64 (x.f 6),.int .i64 (x.f 7),.slice x.a x.l.length x.cap] W:=by rw [hW]; exact Cel.new w _ _
 obtain ⟨x0,x1,x2,x3,x4,x5,x6,x7,x8,x9,x10,x11⟩:=cel12 C
 have HD:Hid _:=hs'
 have HINV:Hid _:=hinv
 have HW:Hid _:=hW
 have HO:Hid _:=O
 have HC:Hid _:=C
 have HH:Hid _:=h.free O
 have HR:Hid _:=hr.off O
 have HTR:Hid _:=htr.and hr.below
 have HKR:Hid _:=hk
 have HNC:Hid (¬ D w.heap.size∧¬ S w.heap.size):=⟨fun e=>by have:=h.std.lg.lt _ e; omega,fun e=>by have:=h.cor.lt _ e; omega⟩
 clear h hs' hdo hinv hW O C hr htr hk
 go_enter Tryz.func66,Tryz.ntmps66
 go_upto_region 1 with fail
 rw [show (w.alloc (.cells #[.int .u64 (kd:Int),.int .i64 node,.string x.key,.int .i64 (x.f 0),.int .i64 (x.f 1),.int .i64 (x.f 2),.int .i64 (x.f 3),.int .i64 (x.f 4),.int .i64 (x.f 5),.int .i64 (x.f 6),.int .i64 (x.f 7),.slice x.a x.l.length x.cap] 103))=W from HW.out.symm]
 go_wp2_with fail
 clear x0 x1 x2 x3 x4 x5 x6 x7 x8 x9 x10 x11
 refine (bytes_any kd node x W HR.out HKR.out).mono ?_
 rintro e w1 ⟨tb,cb,rfl,ownb,frb,o1⟩
 have hlen:=enc_len HKR.out
 have HI:Hid _:=ownb.inp (enc_lt HKR.out)
 have HTB:Hid (∀ k,blk tb=some k→¬ D k):=fun k hk hD=>by have h1:=frb k hk; have h2:=HH.out.std.lg.lt k hD; omega
 have H1:Hid _:=HH.out.free o1
 have HC1:Hid _:=HC.out.off o1 (fun h=>h)
 have HR1:Hid _:=HR.out.off o1
 have HO1:Hid _:=HO.out.trans o1 (fun _ _ h=>h)
 clear ownb frb o1 HC
 obtain ⟨en,hen⟩:∃ en,en=enc ⟨kd,node,x.abs⟩:=⟨_,rfl⟩
 rw [← hen] at hlen HI ⊢
 have HEN:Hid _:=hen
 clear hen
 go_wp2_with fail
 refine (lay_any H1.out.cor H1.out.std H1.out.sep HI.out (by omega) HTB.out).mono ?_
 rintro e w2 ⟨rfl,D2,sd,ch⟩
 have HS2:Hid _:=sd
 have HCH:Hid _:=ch
 have HK2:Hid (Cor S p (.pointer (some ⟨lb,0,none⟩)) s w2):=H1.out.cor.off ch.off (fun c _ hc=>H1.out.sep c hc)
 have HN2:Hid (∀ c,S c→¬ D2 c):=fun c hc hD=>by
  rcases ch.sub c hD with h | h
  ·exact H1.out.sep c hc h
  ·have:=H1.out.cor.lt c hc
   omega
 have HC2:Hid _:=HC1.out.off ch.off HNC.out.1
 have HR2:Hid (Row w2 x.a x.cap x.l):=HR1.out.offT HTR.out ch.off (fun c _ h1 h2=>h1.1.1 h2)
 clear sd ch HC1 HR1
 rcases layE_or most rs s en with he | he
 ·have HE:Hid _:=he
  rw [he]
  clear he
  obtain ⟨x0,x1,x2,x3,x4,x5,x6,x7,x8,x9,x10,x11⟩:=cel12 HC2.out
  go_wp2_with fail
  clear x0 x1 x2 x3 x4 x5 x6 x7 x8 x9 x10 x11
  refine (do_any kd node x HK2.out HR2.out HKR.out).mono ?_
  rintro e w3 ⟨rfl,hdo,o3⟩
  obtain ⟨S3,k3,hs3⟩:=hdo.get s' HD.out
  have HK3:Hid _:=k3
  have HS3:Hid _:=hs3
  have HO3:Hid _:=o3
  clear hdo k3 hs3 o3
  generalize (doR s ⟨kd,node,x.abs⟩).isSome=dd
  go_wp2_with fail
  go_ret
  have e0:chE most rs s ⟨kd,node,x.abs⟩=0:=by unfold chE; rw [← HEN.out]; exact HE.out
  have e1:chL most rs s ⟨kd,node,x.abs⟩=layL most rs s en:=by unfold chL; rw [← HEN.out]
  have e2:chS most rs s ⟨kd,node,x.abs⟩=s':=by unfold chS; rw [if_pos e0,HD.out]; rfl
  have hsz:=HCH.out.off.size
  have hsz1:=HO1.out.size
  have std3:Std D2 lb b most (layL most rs s en) w3:=by
   obtain ⟨D0,d1,d2,d3⟩:=HS2.out.lg.dsk
   exact ⟨⟨HS2.out.lg.here,fun c hc=>Nat.lt_of_lt_of_le (HS2.out.lg.lt c hc) HO3.out.size,⟨D0,d1.off HO3.out (fun c _ hc hS=>HN2.out c hS (d2 c hc)),d2,d3⟩,HS2.out.lg.log.off HO3.out (fun hS=>HN2.out lb hS HS2.out.lg.here)⟩,HS2.out.rec_⟩
  refine ⟨by rw [e0]; rfl,D2,S3,⟨by rw [e2]; exact HK3.out,by rw [e1]; exact std3,fun c hc hD=>?_,?_⟩,⟨?_,fun c hc=>?_,fun c hc=>?_⟩⟩
  ·rcases HS3.out c hc with h | h
   ·exact HN2.out c h hD
   ·have:=HS2.out.lg.lt c hD
    omega
  ·rw [e1,e2,HEN.out]
   exact HINV.out.1 (by rw [← HEN.out]; exact HE.out)
  ·exact (((HO1.out.mono (fun _ _ h=>h.elim)).trans HCH.out.off (fun i _ h=>.inl h)).trans HO3.out (fun i _ h=>.inr h))
  ·rcases HCH.out.sub c hc with h | h
   ·exact .inl h
   ·exact .inr (by omega)
  ·rcases HS3.out c hc with h | h
   ·exact .inl h
   ·exact .inr (by omega)
 ·have HE:Hid _:=he
  rw [he]
  clear he
  go_wp2_with fail
  go_ret
  have e0:chE most rs s ⟨kd,node,x.abs⟩=5:=by unfold chE; rw [← HEN.out]; exact HE.out
  have e1:chL most rs s ⟨kd,node,x.abs⟩=layL most rs s en:=by unfold chL; rw [← HEN.out]
  have e2:chS most rs s ⟨kd,node,x.abs⟩=s:=by unfold chS; rw [if_neg (by rw [e0]; decide)]
  have hsz1:=HO1.out.size
  refine ⟨by rw [e0]; rfl,D2,S,⟨by rw [e2]; exact HK2.out,by rw [e1]; exact HS2.out,HN2.out,?_⟩,⟨?_,fun c hc=>?_,fun c hc=>.inl hc⟩⟩
  ·rw [e1,e2,HEN.out]
   exact HINV.out.2 (by rw [← HEN.out,HE.out]; decide)
  ·exact (HO1.out.mono (fun _ _ h=>h.elim)).trans HCH.out.off (fun i _ h=>.inl h)
  ·rcases HCH.out.sub c hc with h | h
   ·exact .inl h
   ·exact .inr (by omega)
set_option maxRecDepth 100000 in
set_option maxHeartbeats 2000000 in
theorem changed_any {D S:Nat→Prop} {p lb b most:Nat} {rs:List (List Nat)} {s:PS} (kd:Nat) (node:Int) (x:E) {w:World} (h:Hol D S p lb b most rs s w) (hr:Row w x.a x.cap x.l) (htr:Ter (fun c=>¬ D c∧¬ S c) x.a x.l) (hk:OkR ⟨kd,node,x.abs⟩) (hdo:(doR s ⟨kd,node,x.abs⟩).isSome=true) :
  Calls Tryz.prog 70 #[.pointer (some ⟨p,0,none⟩),(.agg #[.int .u64 (kd:Int),.int .i64 node,.string x.key,.int .i64 (x.f 0),.int .i64 (x.f 1),.int .i64 (x.f 2),.int .i64 (x.f 3),.int .i64 (x.f 4),.int .i64 (x.f 5),.int .i64 (x.f 6),.int .i64 (x.f 7),.slice x.a x.l.length x.cap])] w fun e w'=>e=.returned (.tuple #[.bool (chE most rs s ⟨kd,node,x.abs⟩ == 0),.int .i64 (chE most rs s ⟨kd,node,x.abs⟩)])∧∃ D' S',Hol D' S' p lb b most (chL most rs s ⟨kd,node,x.abs⟩) (chS most rs s ⟨kd,node,x.abs⟩) w'∧Mov D S D' S' w w':=by
 obtain ⟨W,hW⟩:∃ W,W=(w.alloc (.cells #[.int .u64 (kd:Int),.int .i64 node,.string x.key,.int .i64 (x.f 0),.int .i64 (x.f 1),.int .i64 (x.f 2),.int .i64 (x.f 3),.int .i64 (x.f 4),.int .i64 (x.f 5),.int .i64 (x.f 6),.int .i64 (x.f 7),.slice x.a x.l.length x.cap] 103)):=⟨_,rfl⟩
 have O:Off (fun _=>False) w W:=by rw [hW]; exact (Off.refl _ w).alloc _
 have C:Cel w.heap.size 103 #[.int .u64 (kd:Int),.int .i64 node,.string x.key,.int .i64 (x.f 0),.int .i64 (x.f 1),.int .i64 (x.f 2),.int .i64 (x.f 3),.int .i64 (x.f 4),.int .i64 (x.f 5),.int .i64 (x.f 6),.int .i64 (x.f 7),.slice x.a x.l.length x.cap] W:=by rw [hW]; exact Cel.new w _ _
 obtain ⟨x0,x1,x2,x3,x4,x5,x6,x7,x8,x9,x10,x11⟩:=cel12 C
 have HW:Hid _:=hW
 have HO:Hid _:=O
 have HH:Hid _:=h.free O
 have HR:Hid _:=hr.off O
 have HTR:Hid _:=htr
 have HKR:Hid _:=hk
 have HD:Hid _:=hdo
 clear h hdo hW O C hr htr hk
 go_enter Tryz.func70,Tryz.ntmps70
 go_upto_region 1 with fail
 rw [show (w.alloc (.cells #[.int .u64 (kd:Int),.int .i64 node,.string x.key,.int .i64 (x.f 0),.int .i64 (x.f 1),.int .i64 (x.f 2),.int .i64 (x.f 3),.int .i64 (x.f 4),.int .i64 (x.f 5),.int .i64 (x.f 6),.int .i64 (x.f 7),.slice x.a x.l.length x.cap] 103))=W from HW.out.symm]
 go_wp2_with fail
 clear x0 x1 x2 x3 x4 x5 x6 x7 x8 x9 x10 x11
 refine (change_any kd node x HH.out HR.out HTR.out HKR.out HD.out).mono ?_
 rintro e w1 ⟨rfl,D1,S1,h1,m1⟩
 have H1:Hid _:=h1
 have M1:Hid _:=m1
 clear h1 m1
 obtain ⟨ce,hce⟩:∃ ce,ce=chE most rs s ⟨kd,node,x.abs⟩:=⟨_,rfl⟩
 rw [← hce]
 have HCE:Hid _:=hce
 clear hce
 go_wp2_with fail
 go_ret2
 exact ⟨by rw [← HCE.out]; rfl,D1,S1,H1.out,Mov.after HO.out M1.out⟩
end Go.Proofs.YthjbnpaghiojlaaGreat
