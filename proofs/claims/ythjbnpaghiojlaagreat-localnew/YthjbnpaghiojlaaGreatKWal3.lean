/- Items of several texts. -/
import Derived.RegionCalls
import Derived.Test.YthjbnpaghiojlaaGreatKLiv
import Derived.Test.YthjbnpaghiojlaaGreatKInp
import Derived.Test.YthjbnpaghiojlaaGreatKPut7
namespace Go.Proofs.YthjbnpaghiojlaaGreat
open Go.RowKit
structure Dsk0 (D:Nat→Prop) (b most:Nat) (bs:List Nat) (sure:Nat) (w:World):Prop where
 here:D b
 lt:∀ c,D c→c < w.heap.size
 bound:most≤1048576
 fit:bs.length≤most
 is:∃ tad cap,Cel b 91 #[.int .i64 (most:Int),.slice tad bs.length cap,.int .i64 (sure:Int)] w∧OwnR w tad cap bs∧∀ k,blk tad=some k→D k∧k ≠ b
structure Dsk (D:Nat→Prop) (b most:Nat) (bs:List Nat) (sure:Nat) (w:World):Prop extends Dsk0 D b most bs sure w where
 su:sure≤bs.length
theorem Dsk.off {D E:Nat→Prop} {b most:Nat} {bs:List Nat} {s:Nat} {w w':World} (h:Dsk D b most bs s w) (o:Off E w w') (hD:∀ c,c < w.heap.size→D c→¬ E c):Dsk D b most bs s w':=by
 obtain ⟨tad,cap,h1,h2,h3⟩:=h.is
 exact ⟨⟨h.here,fun c hc=>Nat.lt_of_lt_of_le (h.lt c hc) o.size,h.bound,h.fit,tad,cap,h1.off o (hD b h1.lt h.here),h2.off o (fun c hc hb=>hD c hc (h3 c hb).1),h3⟩,h.su⟩
theorem Dsk.free {D:Nat→Prop} {b most:Nat} {bs:List Nat} {s:Nat} {w w':World} (h:Dsk D b most bs s w) (o:Off (fun _=>False) w w'):Dsk D b most bs s w':=h.off o (fun _ _ _ h=>h)
def roomOf (m:Int):Nat:=min m.toNat 1048576
theorem dnew_any (m:Int) (w:World) :
  Calls Tryz.prog 11 #[.int .i64 m] w fun e w'=>∃ b,e=.returned (.pointer (some ⟨b,0,none⟩))∧w.heap.size≤b∧Dsk (fun c=>c=b) b (roomOf m) [] 0 w'∧Off (fun _=>False) w w':=by
 go_enter Tryz.func11,Tryz.ntmps11
 go_wp2
 all_goals go_ret
 all_goals refine ⟨_,rfl,Nat.le_refl _,⟨⟨rfl,fun c hc=>by simp [hc],by rw [roomOf]; omega,Nat.zero_le _,none,0,?_,OwnR.nil _,fun k hk=>by simp [blk] at hk⟩,Nat.zero_le _⟩,(Off.refl _ w).alloc _⟩
 all_goals (first | (rw [show ((roomOf m:Nat):Int)=m by rw [roomOf]; omega]; exact Cel.new w _ _) | (rw [show ((roomOf m:Nat):Int)=0 by rw [roomOf]; omega]; exact Cel.new w _ _) | (rw [show ((roomOf m:Nat):Int)=1048576 by rw [roomOf]; omega]; exact Cel.new w _ _))
theorem dsync_any {D:Nat→Prop} {b most:Nat} {bs:List Nat} {s:Nat} {w:World} (h:Dsk0 D b most bs s w) :
  Calls Tryz.prog 21 #[.pointer (some ⟨b,0,none⟩)] w fun e w'=>e=.returned (.int .i64 0)∧Dsk D b most bs bs.length w'∧Off D w w':=by
 have H:=h
 obtain ⟨tad,cap,h1,h2,h3⟩:=h.is
 have c1:w.cell? ⟨b,1,none⟩=some (.slice tad bs.length cap):=by rw [h1.cell]; rfl
 have f2:=h1.free 2
 have c2:w.cell? ⟨b,2,none⟩=some (.int .i64 (s:Int)):=by rw [h1.cell]; rfl
 have H1:Hid _:=h1
 have H2:Hid _:=h2
 clear h1 h2 h
 go_enter Tryz.func21,Tryz.ntmps21
 go_wp2_with fail
 go_ret
 refine ⟨rfl,⟨⟨H.here,fun c hc=>by simpa using H.lt c hc,H.bound,H.fit,tad,cap,H1.out.set 2 _,H2.out.off ((Off.refl (fun c=>c=b) _).setCell (.inl rfl) _) (fun c _ e h=>(h3 c e).2 h),h3⟩,Nat.le_refl _⟩,(Off.refl D w).setCell (.inl H.here) _⟩
theorem dbytes_any {D:Nat→Prop} {b most:Nat} {bs:List Nat} {s:Nat} {w:World} (h:Dsk D b most bs s w) :
  Calls Tryz.prog 17 #[.pointer (some ⟨b,0,none⟩)] w fun e w'=>∃ t c,e=.returned (.slice t bs.length c)∧OwnR w' t c bs∧(∀ k,blk t=some k→w.heap.size≤k)∧Off (fun _=>False) w w':=by
 have hf:=h.fit
 have hb:=h.bound
 obtain ⟨tad,cap,h1,h2,h3⟩:=h.is
 have c1:w.cell? ⟨b,1,none⟩=some (.slice tad bs.length cap):=by rw [h1.cell]; rfl
 clear h1 h3 h
 go_enter Tryz.func17,Tryz.ntmps17
 go_wp2_with fail
 refine (bclone_any tad cap bs (by omega) w h2.src).mono ?_
 rintro e w1 ⟨t,c,rfl,own,hblk,off⟩
 go_wp2_with fail
 go_ret
 exact ⟨t,c,rfl,own,hblk,off⟩
def appE (most:Nat) (bs xs:List Nat):Int:=if bs.length + xs.length≤most then 0 else 5
def appL (most:Nat) (bs xs:List Nat):List Nat:=if bs.length + xs.length≤most then bs ++ xs else bs
set_option maxRecDepth 100000 in
set_option maxHeartbeats 1000000 in
theorem dappend_any {D:Nat→Prop} {b most:Nat} {bs:List Nat} {s:Nat} {w:World} (h:Dsk D b most bs s w) (xt:Option Addr) (xc:Nat) (xs:List Nat) (hx:Src w xt xc xs) (hxl:xs.length≤9223372036854775807) :
  Calls Tryz.prog 20 #[.pointer (some ⟨b,0,none⟩),.slice xt xs.length xc] w fun e w'=>e=.returned (.int .i64 (appE most bs xs))∧∃ D',Dsk D' b most (appL most bs xs) s w'∧Off D w w'∧∀ c,D' c→D c∨w.heap.size≤c:=by
 have H:=h
 have hf:=h.fit
 have hb:=h.bound
 have hs:=h.su
 obtain ⟨tad,cap,h1,h2,h3⟩:=h.is
 have c0:w.cell? ⟨b,0,none⟩=some (.int .i64 (most:Int)):=by rw [h1.cell]; rfl
 have c1:w.cell? ⟨b,1,none⟩=some (.slice tad bs.length cap):=by rw [h1.cell]; rfl
 have H1:Hid _:=h1
 have H2:Hid _:=h2
 have H3:Hid _:=h3
 have HX:Hid _:=hx
 by_cases hfit:bs.length + xs.length≤most
 ·have hd:decide ((most:Int) - (bs.length:Int) < (xs.length:Int))=false:=by simp; omega
  have e1:appE most bs xs=0:=by simp [appE,hfit]
  have e2:appL most bs xs=bs ++ xs:=by simp [appL,hfit]
  rw [e1,e2]
  clear h1 h2 h3 hx h e1 e2
  go_enter Tryz.func20,Tryz.ntmps20
  go_wp2_with fail
  go_region
  go_wp2_with (at_builtin; refine wpList_app rfl (.tmp 24) (.tmp 25) rfl tad cap bs rfl (H2.out.off ((Off.refl (fun _=>False) _).drew) (fun _ _ _ h=>h)) xt xc xs rfl (HX.out.off ((Off.refl (fun _=>False) _).drew) (fun _ _ _ h=>h)) (by omega) ?_; intro t1 cc1 w1 y1 hy1 own1 off1 at1; have P1:Cel b 91 _ w1:=(H1.out.drew.off off1 (fun e=>(H3.out b e).2 rfl)); have f1:=P1.free 1; have d1:w1.cell? ⟨b,1,none⟩=some (.slice tad bs.length cap):=(by rw [P1.cell]; rfl))
  go_ret
  have hD:∀ c,blk t1=some c→(D c∨w.heap.size≤c)∧c ≠ b:=by
   intro c e
   rcases at1 with a | a
   ·have:=H3.out c (a ▸ e)
    exact ⟨.inl this.1,this.2⟩
   ·rw [a] at e
    have:=H1.out.lt
    simp at e
    exact ⟨.inr (by omega),by omega⟩
  have O1:Off D w w1:=(((Off.refl (fun _=>False) w).drew).mono (E:=D) (fun _ _ h=>h.elim)).trans off1 (fun i _ e=>(H3.out i e).1)
  have hy:y1=bs ++ xs:=hy1.out
  refine ⟨rfl,fun c=>c=b∨blk t1=some c,⟨⟨.inl rfl,?_,hb,by rw [List.length_append]; omega,t1,cc1,?_,?_,fun k hk=>⟨.inr hk,(hD k hk).2⟩⟩,by rw [List.length_append]; omega⟩,O1.setCell (.inl H.here) _,?_⟩
  ·rintro c (rfl | hc)
   ·have:=P1.lt
    simpa using this
   ·have:=own1.lt c hc
    simpa using this
  ·rw [← hy]
   exact P1.set 1 _
  ·rw [← hy]
   exact own1.off ((Off.refl (fun c=>c=b) _).setCell (.inl rfl) _) (fun c _ e h=>(hD c e).2 h)
  ·rintro c (rfl | hc)
   ·exact .inl H.here
   ·exact (hD c hc).1
 ·have hd:decide ((most:Int) - (bs.length:Int) < (xs.length:Int))=true:=by simp; omega
  have e1:appE most bs xs=5:=by simp [appE,hfit]
  have e2:appL most bs xs=bs:=by simp [appL,hfit]
  rw [e1,e2]
  clear h1 h2 h3 hx h e1 e2
  go_enter Tryz.func20,Tryz.ntmps20
  go_wp2_with fail
  go_region
  go_wp2_with fail
  go_ret
  exact ⟨rfl,D,H.free ((Off.refl _ w).drew),(Off.refl D w).drew,fun c hc=>.inl hc⟩
def repE (most:Nat) (xs:List Nat):Int:=if xs.length≤most then 0 else 5
def repL (most:Nat) (bs xs:List Nat):List Nat:=if xs.length≤most then xs else bs
def repS (most s:Nat) (xs:List Nat):Nat:=if xs.length≤most then xs.length else s
theorem dreplace_any {D:Nat→Prop} {b most:Nat} {bs:List Nat} {s:Nat} {w:World} (h:Dsk D b most bs s w) (xt:Option Addr) (xc:Nat) (xs:List Nat) (hx:Src w xt xc xs) (hxl:xs.length≤9223372036854775807) :
  Calls Tryz.prog 88 #[.pointer (some ⟨b,0,none⟩),.slice xt xs.length xc] w fun e w'=>e=.returned (.int .i64 (repE most xs))∧∃ D',Dsk D' b most (repL most bs xs) (repS most s xs) w'∧Off D w w'∧∀ c,D' c→D c∨w.heap.size≤c:=by
 have H:=h
 have hf:=h.fit
 have hb:=h.bound
 have hs:=h.su
 obtain ⟨tad,cap,h1,h2,h3⟩:=h.is
 have c0:w.cell? ⟨b,0,none⟩=some (.int .i64 (most:Int)):=by rw [h1.cell]; rfl
 have H1:Hid _:=h1
 have HX:Hid _:=hx
 by_cases hfit:xs.length≤most
 ·have hd:decide ((most:Int) < (xs.length:Int))=false:=by simp; omega
  have e1:repE most xs=0:=by simp [repE,hfit]
  have e2:repL most bs xs=xs:=by simp [repL,hfit]
  have e3:repS most s xs=xs.length:=by simp [repS,hfit]
  rw [e1,e2,e3]
  clear h1 h2 h3 hx h e1 e2 e3
  go_enter Tryz.func88,Tryz.ntmps88
  go_wp2_with fail
  refine (bclone_any xt xc xs (by omega) w HX.out).mono ?_
  rintro e w1 ⟨t1,cc1,rfl,own1,hblk,off1⟩
  have P1:=H1.out.off off1 (fun h=>h)
  have f1:=P1.free 1
  have d1:w1.cell? ⟨b,1,none⟩=some (.slice tad bs.length cap):=by rw [P1.cell]; rfl
  have HP1:Hid _:=P1
  clear P1
  go_wp2_with fail
  have hlt:=H1.out.lt
  have hsz:=off1.size
  have K:Dsk0 (fun c=>c=b∨blk t1=some c) b most xs s (w1.setCell ⟨b,1,none⟩ (.slice t1 xs.length cc1)):=by
   refine ⟨.inl rfl,?_,hb,hfit,t1,cc1,HP1.out.set 1 _,own1.off ((Off.refl (fun c=>c=b) _).setCell (.inl rfl) _) (fun c _ e h=>?_),fun k hk=>⟨.inr hk,?_⟩⟩
   ·rintro c (rfl | hc)
    ·have:=HP1.out.lt
     simpa using this
    ·have:=own1.lt c hc
     simpa using this
   ·have:=hblk c e
    omega
   ·have:=hblk k hk
    omega
  refine (dsync_any K).mono ?_
  rintro e w2 ⟨rfl,K2,off2⟩
  go_wp2_with fail
  go_ret
  refine ⟨rfl,_,K2,((off1.mono (fun _ _ h=>h.elim)).setCell (.inl H.here) _).trans off2 ?_,?_⟩
  ·rintro i hi (rfl | hc)
   ·exact H.here
   ·have:=hblk i hc
    omega
  ·rintro c (rfl | hc)
   ·exact .inl H.here
   ·exact .inr (hblk c hc)
 ·have hd:decide ((most:Int) < (xs.length:Int))=true:=by simp; omega
  have e1:repE most xs=5:=by simp [repE,hfit]
  have e2:repL most bs xs=bs:=by simp [repL,hfit]
  have e3:repS most s xs=s:=by simp [repS,hfit]
  rw [e1,e2,e3]
  clear h1 h2 h3 hx h e1 e2 e3
  go_enter Tryz.func88,Tryz.ntmps88
  go_wp2_with fail
  go_ret
  exact ⟨rfl,D,H,Off.refl D w,fun c hc=>.inl hc⟩
theorem dcut_any {D:Nat→Prop} {b most:Nat} {bs:List Nat} {s:Nat} {w:World} (h:Dsk D b most bs s w) (k:Nat) (hk:k≤bs.length) :
  Calls Tryz.prog 48 #[.pointer (some ⟨b,0,none⟩),.int .i64 (k:Int)] w fun e w'=>e=.returned (.int .i64 0)∧Dsk D b most (bs.take k) k w'∧Off D w w':=by
 have H:=h
 have hf:=h.fit
 have hb:=h.bound
 have hs:=h.su
 obtain ⟨tad,cap,h1,h2,h3⟩:=h.is
 have c1:w.cell? ⟨b,1,none⟩=some (.slice tad bs.length cap):=by rw [h1.cell]; rfl
 have f1:=h1.free 1
 have H1:Hid _:=h1
 have H3:Hid _:=h3
 obtain ⟨hsl,h2⟩:=h2.take hk
 have H2:Hid _:=h2
 have hd:decide ((k:Int) < 0)=false:=by simp
 have hd2:decide ((bs.length:Int) < (k:Int))=false:=by simp; omega
 clear h1 h2 h3 h
 go_enter Tryz.func48,Tryz.ntmps48
 go_wp2_with fail
 have e:(bs.take k).length=k:=by simp; omega
 have K:Dsk0 D b most (bs.take k) s (w.setCell ⟨b,1,none⟩ (.slice tad k cap)):=⟨H.here,fun c hc=>by simpa using H.lt c hc,hb,by simp; omega,tad,cap,by rw [e]; exact H1.out.set 1 _,H2.out.off ((Off.refl (fun c=>c=b) _).setCell (.inl rfl) _) (fun c _ e h=>(H3.out c e).2 h),H3.out⟩
 refine (dsync_any K).mono ?_
 rintro e w2 ⟨rfl,K2,off2⟩
 go_wp2_with fail
 go_ret
 rw [e] at K2
 exact ⟨rfl,K2,((Off.refl D w).setCell (.inl H.here) _).trans off2 (fun _ _ h=>h)⟩
def keepN (n s:Nat) (p:Int):Nat:=s + (p % 18446744073709551616).toNat % (n - s + 1)
theorem keepN_le {n s:Nat} (h:s≤n) (p:Int):keepN n s p≤n:=by
 have:=Nat.mod_lt (p % 18446744073709551616).toNat (show n - s + 1 > 0 by omega)
 unfold keepN
 omega
theorem wrap_mod {n s:Nat} (h:s≤n) (p:Int) (m:Nat) (hm:m=(p % 18446744073709551616).toNat % (n - s + 1)):(IntKind.u64.wrap p).tmod ((n:Int) - (s:Int) + 1)=(m:Int):=by
 have e:IntKind.u64.wrap p=(((p % 18446744073709551616).toNat:Nat):Int):=by
  simp only [IntKind.wrap,IntKind.bits,IntKind.signed]
  go_num
 have e2:(n:Int) - (s:Int) + 1=((n - s + 1:Nat):Int):=by omega
 rw [e,e2,hm]
 rfl
theorem dcrash_any {D:Nat→Prop} {b most:Nat} {bs:List Nat} {s:Nat} {w:World} (h:Dsk D b most bs s w) (p:Int) :
  Calls Tryz.prog 14 #[.pointer (some ⟨b,0,none⟩),.int .i64 p] w fun e w'=>e=.returned (.tuple #[])∧Dsk D b most (bs.take (keepN bs.length s p)) (keepN bs.length s p) w'∧Off D w w':=by
 have hle:=keepN_le h.su p
 obtain ⟨m,hm⟩:∃ m,m=(p % 18446744073709551616).toNat % (bs.length - s + 1):=⟨_,rfl⟩
 have hk:keepN bs.length s p=s + m:=by rw [hm]; rfl
 rw [hk] at hle ⊢
 have hf:=h.fit
 have hb:=h.bound
 have hs:=h.su
 have ek:(IntKind.u64.wrap p).tmod ((bs.length:Int) - (s:Int) + 1)=(m:Int):=wrap_mod hs p m hm
 clear hm hk
 have H:=h
 obtain ⟨tad,cap,h1,h2,h3⟩:=h.is
 have c1:w.cell? ⟨b,1,none⟩=some (.slice tad bs.length cap):=by rw [h1.cell]; rfl
 have c2:w.cell? ⟨b,2,none⟩=some (.int .i64 (s:Int)):=by rw [h1.cell]; rfl
 clear h1 h2 h3 h
 go_enter Tryz.func14,Tryz.ntmps14
 go_wp2_with fail
 go_region
 go_wp2_with fail
 rw [show (s:Int) + (m:Int)=((s + m:Nat):Int) by omega]
 refine (dcut_any (H.free ((Off.refl _ w).drew)) (s + m) hle).mono ?_
 rintro e w1 ⟨rfl,K,off⟩
 go_wp2_with fail
 go_end0
 exact ⟨rfl,K,((Off.refl D w).drew).trans off (fun _ _ h=>h)⟩
theorem dmost_any {D:Nat→Prop} {b most:Nat} {bs:List Nat} {s:Nat} {w:World} (h:Dsk D b most bs s w) :
  Calls Tryz.prog 87 #[.pointer (some ⟨b,0,none⟩)] w fun e w'=>e=.returned (.int .i64 (most:Int))∧w'=w:=by
 obtain ⟨tad,cap,h1,h2,h3⟩:=h.is
 have c0:w.cell? ⟨b,0,none⟩=some (.int .i64 (most:Int)):=by rw [h1.cell]; rfl
 clear h1 h2 h3 h
 go_enter Tryz.func87,Tryz.ntmps87
 go_wp2_with fail
 go_ret
 exact ⟨rfl,rfl⟩
theorem dsize_any {D:Nat→Prop} {b most:Nat} {bs:List Nat} {s:Nat} {w:World} (h:Dsk D b most bs s w) :
  Calls Tryz.prog 86 #[.pointer (some ⟨b,0,none⟩)] w fun e w'=>e=.returned (.int .i64 (bs.length:Int))∧w'=w:=by
 obtain ⟨tad,cap,h1,h2,h3⟩:=h.is
 have c0:w.cell? ⟨b,1,none⟩=some (.slice tad bs.length cap):=by rw [h1.cell]; rfl
 clear h1 h2 h3 h
 go_enter Tryz.func86,Tryz.ntmps86
 go_wp2_with fail
 go_ret
 exact ⟨rfl,rfl⟩
end Go.Proofs.YthjbnpaghiojlaaGreat

namespace Go.Proofs.YthjbnpaghiojlaaGreat
open Go.RowKit
structure TookW (E:Nat→Prop) (b:Nat) (w:World) (bs:List Nat) (e:Ending) (w':World):Prop where
 is:∃ t c,e=.returned (.tuple #[.slice t (tkR bs).length c,.int .i64 ((tkN bs:Nat):Int),.int .i64 (tkE bs)])∧OwnR w' t c (tkR bs)∧(∀ k,blk t=some k→w.heap.size≤k)∧∃ E',Tbl E' b w'∧(∀ c,E' c→E c∨w.heap.size≤c)∧Off (fun c=>c=b) w w'
theorem TookW.no {E:Nat→Prop} {b:Nat} {w:World} {bs:List Nat} (k:Int) (hk:k ≠ 0) (h:tkE bs=k) {w':World} {E':Nat→Prop} (T:Tbl E' b w') (hE:∀ c,E' c→E c∨w.heap.size≤c) (o:Off (fun c=>c=b) w w') :
  TookW E b w bs (.returned (.tuple #[.slice none 0 0,.int .i64 0,.int .i64 k])) w':=by
 obtain ⟨h1,h2⟩:=tkR_no (l:=bs) (by rw [h]; exact hk)
 exact ⟨none,0,by rw [h1,h2,h]; rfl,by rw [h1]; exact OwnR.nil _,fun k hk=>by simp [blk] at hk,E',T,hE,o⟩
set_option maxRecDepth 100000 in
set_option maxHeartbeats 1000000 in
theorem take_anyW {E:Nat→Prop} {b:Nat} {w:World} (ht:Tbl E b w) {tad:Option Addr} {cap:Nat} {bs:List Nat} (h:Inp w tad cap bs) (hb:blk tad ≠ some b∨bs=[]) (hl:bs.length≤9223372036854775807) :
  Calls Tryz.prog 152 #[.pointer (some ⟨b,0,none⟩),.slice tad bs.length cap] w fun e w'=>TookW E b w bs e w':=by
 by_cases h8:bs.length < 8
 ·have d8:decide ((bs.length:Int) < 8)=true:=decide_eq_true (by omega)
  have e8:tkE bs=2:=by rw [tkE,if_pos h8]
  go_enter Tryz.func152,Tryz.ntmps152
  go_wp2_with fail
  go_ret3
  exact .no 2 (by decide) e8 ht (fun _ h=>.inl h) (Off.refl _ w)
 have d8:decide ((bs.length:Int) < 8)=false:=decide_eq_false (by omega)
 have hnb:blk tad ≠ some b:=by
  rcases hb with h | rfl
  ·exact h
  ·simp at h8
 obtain ⟨t8,s8,i8,b8⟩:=h.drop (k:=8) (by omega)
 replace s8:∀ W,(Instr.slice 44 (.slice tad bs.length cap) (some (.int .i64 8)) none none).run Tryz.prog W=.ok (.slice t8 (bs.drop 8).length (cap - 8)) W:=s8
 obtain ⟨t4,s4,i4,b4⟩:=h.drop (k:=4) (by omega)
 replace s4:∀ W,(Instr.slice 44 (.slice tad bs.length cap) (some (.int .i64 4)) none none).run Tryz.prog W=.ok (.slice t4 (bs.drop 4).length (cap - 4)) W:=s4
 have l8:(bs.drop 8).length + 8=bs.length:=by rw [List.length_drop]; omega
 have l4:4≤(bs.drop 4).length:=by rw [List.length_drop]; omega
 have hn:num4 bs < 4294967296:=num4_lt h.lt
 have HEn:Hid (tkE bs=if 60000 < num4 bs then 4 else if (bs.drop 8).length < num4 bs then 2 else if crcL ((bs.drop 8).take (num4 bs))=num4 (bs.drop 4) then 0 else 3):=by
  show tkE bs=_
  rw [tkE,if_neg h8,show bs.length - 8=(bs.drop 8).length by omega]
 have HRn:Hid (tkE bs=0→tkR bs=(bs.drop 8).take (num4 bs)∧tkN bs=num4 bs + 8):=by
  intro e
  rw [tkR,tkN,if_pos e,if_pos e]
  exact ⟨rfl,rfl⟩
 have HQ:Hid (∀ m,Calls Tryz.prog 197 #[.slice tad bs.length cap] (w.drewN m) fun e w'=>e=.returned (.int .u32 ((num4 bs:Nat):Int))∧∃ k,w'=(w.drewN m).drewN k):=fun m=>number_q (h.free ((Off.refl _ w).drewN m)) (by omega)
 have H4:Hid (∀ W,Off (fun c=>c=b) w W→Calls Tryz.prog 197 #[.slice t4 (bs.drop 4).length (cap - 4)] W fun e w'=>e=.returned (.int .u32 ((num4 (bs.drop 4):Nat):Int))∧Off (fun _=>False) W w'):=fun W o=>number_any (i4.off o (fun c _ e h=>hnb (by rw [← b4,e,h]))) l4
 generalize bs.drop 8=ds at *
 generalize hx4:num4 (bs.drop 4)=x4 at *
 have l4':(bs.drop 4).length≤bs.length:=by rw [List.length_drop]; omega
 generalize bs.drop 4=d4 at *
 generalize num4 bs=n at *
 clear hx4 i4 l4 h hb
 have l8':ds.length≤bs.length:=by omega
 have HL8:Hid _:=l8
 clear l8
 have HT:Hid _:=ht
 have HI8:Hid _:=i8
 have HB8:Hid _:=b8
 clear ht i8 b8 b4
 by_cases hbig:60000 < n
 ·have d1:decide ((60000:Int) < (n:Int))=true:=decide_eq_true (by omega)
  have e1:tkE bs=4:=by rw [HEn.out,if_pos hbig]
  have HE1:Hid _:=e1
  clear e1
  go_enter Tryz.func152,Tryz.ntmps152
  go_wp2_with fail
  go_quiet (first | (go_at_call 197; refine Calls.quiet_of (HQ.out _)))
  go_wp2_with fail
  go_ret3
  exact .no 4 (by decide) HE1.out (HT.out.free ((Off.refl _ w).drewN _)) (fun _ h=>.inl h) ((Off.refl _ w).drewN _)
 have d1:decide ((60000:Int) < (n:Int))=false:=decide_eq_false (by omega)
 by_cases hsh:ds.length < n
 ·have d2:decide ((ds.length:Int) < (n:Int))=true:=decide_eq_true (by omega)
  have e1:tkE bs=2:=by rw [HEn.out,if_neg hbig,if_pos hsh]
  have HE1:Hid _:=e1
  clear e1
  go_enter Tryz.func152,Tryz.ntmps152
  go_wp2_with fail
  go_quiet (first | (go_at_call 197; refine Calls.quiet_of (HQ.out _)))
  go_wp2_with fail
  go_ret3
  exact .no 2 (by decide) HE1.out (HT.out.free ((Off.refl _ w).drewN _)) (fun _ h=>.inl h) ((Off.refl _ w).drewN _)
 have d2:decide ((ds.length:Int) < (n:Int))=false:=decide_eq_false (by omega)
 obtain ⟨sr,ir⟩:=HI8.out.take (k:=n) (by omega) .u32
 have lr:(ds.take n).length=n:=by rw [List.length_take]; omega
 have HEr:Hid (tkE bs=if crcL (ds.take n)=x4 then 0 else 3):=by
  show tkE bs=_
  rw [HEn.out,if_neg hbig,if_neg hsh]
 have HRr:Hid (tkE bs=0→tkR bs=ds.take n∧tkN bs=(ds.take n).length + 8):=by
  intro e
  rw [lr]
  exact HRn.out e
 have lr':(ds.take n).length≤60000:=by omega
 clear lr HEn HRn
 generalize ds.take n=rs at *
 have HIR:Hid _:=ir
 clear ir
 generalize hcr:crcL rs=cr at *
 have HC:Hid _:=hcr
 clear hcr
 go_enter Tryz.func152,Tryz.ntmps152
 go_wp2_with fail
 go_quiet (first | (go_at_call 197; refine Calls.quiet_of (HQ.out _)))
 have HW:Hid (Off (fun c=>c=b) w (w.drewN nq)):=(Off.refl _ w).drewN nq
 have HT1:Hid _:=HT.out.free ((Off.refl _ w).drewN nq)
 generalize w.drewN nq=W at *
 go_upto_region 9 with fail
 refine wp_region_held_drew (S:=fun w'=>Off (fun c=>c=b) w w') (by kernel_rfl) HW.out.drew (fun hS=>?_)
 have HT2:Hid _:=HT1.out.free ((Off.refl _ W).drew)
 generalize W.drew=W2 at *
 clear HW HT1
 refine take_q 0 27 (.pointer (some ⟨b,0,none⟩)) hS ?_
 simp only [Act.put,lsA,lsZ,lsS]
 refine take_q 1 28 (.slice t8 rs.length (cap - 8)) hS ?_
 simp only [Act.put,lsA,lsZ,lsS]
 refine take_q 3 30 (.slice tad bs.length cap) hS ?_
 simp only [Act.put,lsA,lsZ,lsS]
 refine take_q 4 31 (.slice t4 d4.length (cap - 4)) hS ?_
 simp only [Act.put,lsA,lsZ,lsS]
 refine wpAnyH_ready (rs:=[2]) (by kernel_rfl) (by simp) ?_
 refine AllReadyH.cons rfl (fun K' hK'=>?_) AllReadyH.nil
 go_simp
 refine (sum_tbl HT2.out (HIR.out.off hS (fun c _ e h=>hnb (by rw [← HB8.out,e,h]))) (fun _=>.inl (by rw [HB8.out]; exact hnb)) (by omega)).mono ?_
 rintro e W3 ⟨rfl,E3,T3,hE3,O3⟩
 refine hK'.out _ _ (hS.trans O3 (fun _ _ h=>h)) (fun hS3=>?_)
 clear hK' K'
 refine wpAnyH_ready (rs:=[5]) (by kernel_rfl) (by simp) ?_
 refine AllReadyH.cons rfl (fun K' hK'=>?_) AllReadyH.nil
 go_simp
 refine (H4.out W3 hS3).mono ?_
 rintro e W4 ⟨rfl,O4⟩
 refine hK'.out _ _ (hS3.trans O4 (fun _ _ h=>h.elim)) (fun hS4=>?_)
 clear hK' K'
 have T4:Hid _:=T3.free O4
 have hE4:Hid (∀ c,E3 c→E c∨w.heap.size≤c):=fun c hc=>by
  have:=hS.size
  rcases hE3 c hc with h | h
  ·exact .inl h
  ·exact .inr (by omega)
 have HS4:Hid _:=hS4
 rw [HC.out]
 clear O3 O4 T3 hE3
 by_cases hce:cr=x4
 ·have q:((cr:Int) != (x4:Int))=false:=by rw [hce]; simp
  have e1:tkE bs=0:=by rw [HEr.out,if_pos hce]
  obtain ⟨eR,eN⟩:=HRr.out e1
  have HE1:Hid _:=e1
  have HER:Hid _:=eR
  have HEN:Hid _:=eN
  clear e1 eR eN
  refine take_q 6 33 (.bool false) hS4 ?_
  simp only [Act.put,lsA,lsZ,lsS]
  refine wpAnyH_done (by kernel_rfl) ?_ _
  clear q hce
  go_wp2_with fail
  refine (bclone_any t8 (cap - 8) rs (by omega) W4 (HIR.out.off HS4.out (fun c _ e h=>hnb (by rw [← HB8.out,e,h]))).src).mono ?_
  rintro e W5 ⟨t,c,rfl,own,fr,O5⟩
  go_wp2_with fail
  go_ret3
  have s4:=HS4.out.size
  refine ⟨t,c,?_,by rw [HER.out]; exact own,fun k hk=>by have:=fr k hk; omega,E3,T4.out.free O5,hE4.out,HS4.out.trans O5 (fun _ _ h=>h.elim)⟩
  rw [HER.out,HEN.out,HE1.out]
  simp [Int.add_comm]
 ·have q:((cr:Int) != (x4:Int))=true:=by simp; omega
  have e1:tkE bs=3:=by rw [HEr.out,if_neg hce]
  have HE1:Hid _:=e1
  clear e1
  refine take_q 6 33 (.bool true) hS4 ?_
  simp only [Act.put,lsA,lsZ,lsS]
  refine wpAnyH_done (by kernel_rfl) ?_ _
  clear q hce
  go_wp2_with fail
  go_ret3
  exact .no 3 (by decide) HE1.out T4.out hE4.out HS4.out
end Go.Proofs.YthjbnpaghiojlaaGreat

namespace Go.Proofs.YthjbnpaghiojlaaGreat
open Go.RowKit
set_option maxRecDepth 100000 in
set_option maxHeartbeats 1000000 in
theorem all_any {w:World} {tad:Option Addr} {cap:Nat} {bs:List Nat} (h:Inp w tad cap bs) (hl:bs.length≤8000000) :
  Calls Tryz.prog 85 #[.slice tad bs.length cap] w fun e w'=>∃ (t:Option Addr) (c:Nat) (bl:List B) (n:Nat) (er:Int),e=.returned (.tuple #[.slice t bl.length c,.int .i64 (n:Int),.int .i64 er])∧OwnG 44 1 bcs w' t c bl∧(∀ k,blk t=some k→w.heap.size≤k)∧(∀ b ∈ bl,OwnR w' b.ad b.cap b.data∧(∀ k,blk b.ad=some k→w.heap.size≤k)∧∀ x ∈ b.data,x < 256)∧Al bs (bl.map B.data) n er∧Off (fun _=>False) w w':=by
 have HI:Hid _:=h
 clear h
 go_enter Tryz.func85,Tryz.ntmps85
 go_wp2_with fail
 refine (poly_tbl w).mono ?_
 rintro e w0 ⟨rfl,T0,O0⟩
 have HT0:Hid _:=T0
 have HO0:Hid _:=O0
 clear T0 O0
 go_wp2_with fail
 go_loopw [6,7] (fun x y wr=>∃ (n:Nat) (t:Option Addr) (c:Nat) (bl:List B),x=.slice t bl.length c∧y=.int .i64 (n:Int)∧Got bs (bl.map B.data) n∧OwnG 44 1 bcs wr t c bl∧(∀ k,blk t=some k→w.heap.size < k)∧(∀ b ∈ bl,OwnR wr b.ad b.cap b.data∧(∀ k,blk b.ad=some k→w.heap.size < k∧blk t ≠ some k)∧∀ x ∈ b.data,x < 256)∧(∃ E,Tbl E w.heap.size wr∧(∀ c,E c→w.heap.size≤c)∧∀ c,blk t=some c→¬ E c)∧Off (fun _=>False) w wr) (fun _ y _=>(bs.length - intOf y).toNat)
 case atStart=>exact ⟨0,none,0,[],rfl,rfl,rfl,OwnG.nil _ _ _ _,fun k hk=>by simp [blk] at hk,by simp,⟨_,HT0.out,fun c hc=>by omega,fun c hc=>by simp [blk] at hc⟩,HO0.out⟩
 case round =>
  clear HT0 HO0
  obtain ⟨n,t,c,bl,rfl,rfl,hg,own,hlo,hbl,⟨E,hT,hE,htE⟩,O⟩:=hrel
  have hnl:=hg.le
  have hmany:=hg.many
  rw [List.length_map] at hmany
  have HG:Hid _:=hg
  have HOWN:Hid _:=own
  have HLO:Hid _:=hlo
  have HBL:Hid _:=hbl
  have HO:Hid _:=O
  have HE:Hid _:=hE
  have HTE:Hid _:=htE
  have HT:Hid _:=hT
  clear hE htE hT
  clear hg own hlo hbl O
  have HTLT:Hid (w.heap.size < wr.heap.size):=HT.out.lt _ HT.out.here
  obtain ⟨td,sd,id,bd⟩:=(HI.out.free HO.out).drop (k:=n) hnl
  have HID:Hid _:=id
  have HBD:Hid _:=bd
  have ldl:(bs.drop n).length≤8000000:=by rw [List.length_drop]; omega
  clear id bd
  have HSN:Hid (tkE (bs.drop n)=0→Got bs (bl.map B.data ++ [tkR (bs.drop n)]) (n + tkN (bs.drop n))):=fun e=>HG.out.snoc e
  have HAL:Hid (∀ er,((tkE (bs.drop n)=2∧er=0)∨(tkE (bs.drop n) ≠ 2∧tkE (bs.drop n) ≠ 0∧er=tkE (bs.drop n)))→Al bs (bl.map B.data) n er):=fun er h=>⟨HG.out,h⟩
  have hcs:=tkE_cases (bs.drop n)
  have HTL:Hid (tkE (bs.drop n)=0→n + tkN (bs.drop n)≤bs.length∧(tkR (bs.drop n)).length + 8=tkN (bs.drop n)):=fun e=>⟨(HG.out.snoc e).le,tkR_len e⟩
  have HLT:Hid (∀ x ∈ tkR (bs.drop n),x < 256):=tkR_lt (fun x hx=>HI.out.lt x (List.mem_of_mem_drop hx))
  have HNE:Hid (blk td ≠ some w.heap.size∨bs.drop n=[]):=by
   rcases HI.out.old with h | h
   ·exact .inr (by rw [h]; simp)
   ·refine .inl (fun e=>?_)
    rw [HBD.out] at e
    have:=h _ e
    omega
  generalize bs.drop n=ds at *
  go_wp2_with fail
  refine (take_anyW HT.out HID.out HNE.out (by omega)).mono ?_
  rintro e w1 ⟨td1,cd1,rfl,own1,fr1,E1,T1,hE1,O1⟩
  have HT1:Hid _:=T1
  have HE1:Hid _:=hE1
  have HO1:Hid _:=O1
  clear T1 hE1 O1 HT
  have F1:Hid (Off (fun _=>False) w w1):=((HO.out.mono (fun _ _ h=>h.elim)).trans HO1.out (fun _ _ h=>h)).mono (fun i hi h=>by omega)
  have OW1:Hid (OwnG 44 1 bcs w1 t c bl):=HOWN.out.off HO1.out (fun c _ hc e=>by have:=HLO.out c hc; omega)
  have BL1:Hid (∀ b ∈ bl,OwnR w1 b.ad b.cap b.data∧(∀ k,blk b.ad=some k→w.heap.size < k∧blk t ≠ some k)∧∀ x ∈ b.data,x < 256):=fun b hb=>⟨(HBL.out b hb).1.off HO1.out (fun c _ hc e=>by have:=((HBL.out b hb).2.1 c hc).1; omega),(HBL.out b hb).2⟩
  have HR1:Hid _:=own1
  have HF1:Hid (∀ k,blk td1=some k→w.heap.size < k∧blk t ≠ some k):=fun k hk=>by
   have h1:=fr1 k hk
   have h2:=HO.out.size
   have h3:=HTLT.out
   refine ⟨by omega,fun e=>?_⟩
   have:=HOWN.out.lt k e
   omega
  clear own1 fr1
  rcases hcs with he | he | he | he
  ·have HSN1:=HSN.out he
   have htl:=HTL.out he
   have HTL2:Hid _:=htl.2
   have htn:n + tkN ds≤bs.length:=htl.1
   have htm:8≤tkN ds:=by have:=htl.2; omega
   have HSN2:Hid _:=HSN1
   clear HSN1 htl HAL HTL HSN
   rw [he]
   clear he
   generalize tkN ds=tn at *
   generalize tkR ds=tr at *
   have OA:Off (fun _=>False) w1 (w1.alloc (.cells #[.slice td1 tr.length cd1] 44)):=(Off.refl _ w1).alloc _
   have own4:=OW1.out.off OA (fun _ _ _ h=>h)
   have cn:=Cel.new w1 44 #[.slice td1 tr.length cd1]
   have hcn:∀ j u,(bcs ⟨td1,cd1,tr⟩)[j]?=some u→(w1.alloc (.cells #[.slice td1 tr.length cd1] 44)).cell? ⟨w1.heap.size,j,none⟩=some u:=fun j u hj=>by
    rw [cn.cell j]
    simpa [bcs] using hj
   have HOA:Hid _:=OA
   clear OA cn
   go_wp2_with (at_builtin; refine wpList_appG rfl (.tmp 30) (.tmp 32) Tryz.underlying39 Tryz.infoBs rfl (by decide) (by decide) bcs_len bcs_one rfl t c bl rfl own4 w1.heap.size 1 ⟨td1,cd1,tr⟩ rfl hcn (by omega) ?_; intro t' c' w' ys hys own' off' at')
   have HYS:Hid _:=hys.out
   clear hys
   have HOW':Hid _:=own'
   have HOF':Hid _:=off'
   clear own' off' own4 hcn
   go_wp2_with fail
   go_roundw
   case rel =>
    have s1:=F1.out.size
    simp only [World.size_alloc] at at'
    have tf:∀ k,blk t'=some k→w.heap.size < k:=fun k hk=>by
     rcases at' with h9 | h9
     ·exact HLO.out k (h9 ▸ hk)
     ·rw [h9] at hk; simp at hk; have:=HTLT.out; have:=HO1.out.size; omega
    have FA:=F1.out.trans HOA.out (fun _ _ h=>h)
    refine ⟨n + tn,t',c',ys,rfl,by go_num,by rw [HYS.out,List.map_append]; exact HSN2.out,HOW'.out,tf,fun b hb=>?_,?_,((FA.mono (fun _ _ h=>h.elim)).trans HOF'.out (fun _ _ h=>h)).mono (fun i hi e=>by have:=HLO.out i e; omega)⟩
    ·have old:∀ k,blk b.ad=some k→k < w1.heap.size→blk t ≠ some k→blk t' ≠ some k:=fun k hk hlt hne e=>by
      rcases at' with h9 | h9
      ·exact hne (h9 ▸ e)
      ·rw [h9] at e
       simp at e
       omega
     rw [HYS.out,List.mem_append,List.mem_singleton] at hb
     rcases hb with hb | rfl
     ·have hb1:=BL1.out b hb
      exact ⟨(hb1.1.off HOA.out (fun _ _ _ h=>h)).off HOF'.out (fun c _ hc e=>(hb1.2.1 c hc).2 e),fun k hk=>⟨(hb1.2.1 k hk).1,old k hk (hb1.1.lt k hk) (hb1.2.1 k hk).2⟩,hb1.2.2⟩
     ·exact ⟨(HR1.out.off HOA.out (fun _ _ _ h=>h)).off HOF'.out (fun c _ hc e=>(HF1.out c hc).2 e),fun k hk=>⟨(HF1.out k hk).1,old k hk (HR1.out.lt k hk) (HF1.out k hk).2⟩,HLT.out⟩
    ·have hold:∀ c,blk t=some c→¬ E1 c:=fun c hc e=>by
      rcases HE1.out c e with h | h
      ·exact HTE.out c hc h
      ·have:=HOWN.out.lt c hc
       omega
     refine ⟨E1,(HT1.out.free HOA.out).off HOF'.out (fun c hc e=>hold c e hc),fun c hc=>?_,fun c hc e=>?_⟩
     ·rcases HE1.out c hc with h | h
      ·exact HE.out c h
      ·have:=HO.out.size
       omega
     ·rcases at' with h9 | h9
      ·exact hold c (h9 ▸ hc) e
      ·rw [h9] at hc
       simp at hc
       have:=HT1.out.lt c e
       omega
   case measure=>simp [intOf]; omega
  ·rw [he] at HAL
   rw [he]
   go_wp2_with fail
   go_ret3
   exact ⟨t,c,bl,n,0,rfl,OW1.out,(fun k hk=>Nat.le_of_lt (HLO.out k hk)),(fun b hb=>⟨(BL1.out b hb).1,fun k hk=>Nat.le_of_lt ((BL1.out b hb).2.1 k hk).1,(BL1.out b hb).2.2⟩),HAL.out 0 (by simp),F1.out⟩
  ·rw [he] at HAL
   rw [he]
   go_wp2_with fail
   go_ret3
   exact ⟨t,c,bl,n,3,rfl,OW1.out,(fun k hk=>Nat.le_of_lt (HLO.out k hk)),(fun b hb=>⟨(BL1.out b hb).1,fun k hk=>Nat.le_of_lt ((BL1.out b hb).2.1 k hk).1,(BL1.out b hb).2.2⟩),HAL.out 3 (by simp),F1.out⟩
  ·rw [he] at HAL
   rw [he]
   go_wp2_with fail
   go_ret3
   exact ⟨t,c,bl,n,4,rfl,OW1.out,(fun k hk=>Nat.le_of_lt (HLO.out k hk)),(fun b hb=>⟨(BL1.out b hb).1,fun k hk=>Nat.le_of_lt ((BL1.out b hb).2.1 k hk).1,(BL1.out b hb).2.2⟩),HAL.out 4 (by simp),F1.out⟩
end Go.Proofs.YthjbnpaghiojlaaGreat

namespace Go.Proofs.YthjbnpaghiojlaaGreat
open Go.RowKit
structure Chg (D D':Nat→Prop) (v v':World):Prop where
 off:Off D v v'
 sub:∀ c,D' c→D c∨v.heap.size≤c
theorem Chg.trans {D E F:Nat→Prop} {u v x:World} (h:Chg D E u v) (k:Chg E F v x):Chg D F u x :=
 ⟨h.off.trans k.off (fun i hi e=>(h.sub i e).elim id (fun h=>by omega)),fun c hc=>by
  have:=h.off.size
  rcases k.sub c hc with a | a
  ·exact h.sub c a
  ·exact .inr (by omega)⟩
theorem Chg.after {D E:Nat→Prop} {u v x:World} (h:Off (fun _=>False) u v) (k:Chg D E v x):Chg D E u x :=
 ⟨(h.mono (fun _ _ h=>h.elim)).trans k.off (fun _ _ h=>h),fun c hc=>by
  have:=h.size
  rcases k.sub c hc with a | a
  ·exact .inl a
  ·exact .inr (by omega)⟩
theorem Chg.not {D E:Nat→Prop} {u v:World} (h:Chg D E u v) {c:Nat} (hc:c < u.heap.size) (hD:¬ D c):¬ E c:=fun e=>by
 rcases h.sub c e with a | a
 ·exact hD a
 ·omega
theorem Chg.new {D E:Nat→Prop} {w u v:World} (h:Chg D E u v) (o:Off (fun _=>False) w u) (hD:∀ c,D c→w.heap.size≤c):Off (fun _=>False) w v∧∀ c,E c→w.heap.size≤c:=by
 refine ⟨((o.mono (fun _ _ h=>h.elim)).trans h.off (fun _ _ h=>h)).mono (fun i hi e=>by have:=hD i e; omega),fun c hc=>?_⟩
 have:=o.size
 rcases h.sub c hc with a | a
 ·exact hD c a
 ·omega
structure Lg (D:Nat→Prop) (lb b most:Nat) (ds:List Nat) (s k m:Nat) (w:World):Prop where
 here:D lb
 lt:∀ c,D c→c < w.heap.size
 dsk:∃ D0,Dsk D0 b most ds s w∧(∀ c,D0 c→D c)∧¬ D0 lb
 log:Cel lb 139 #[.pointer (some ⟨b,0,none⟩),.int .i64 (k:Int),.int .i64 (m:Int)] w
theorem Lg.free {D:Nat→Prop} {lb b most:Nat} {ds:List Nat} {s k m:Nat} {w w':World} (h:Lg D lb b most ds s k m w) (o:Off (fun _=>False) w w'):Lg D lb b most ds s k m w':=by
 obtain ⟨D0,h1,h2,h3⟩:=h.dsk
 exact ⟨h.here,fun c hc=>Nat.lt_of_lt_of_le (h.lt c hc) o.size,⟨D0,h1.free o,h2,h3⟩,h.log.off o (fun h=>h)⟩
theorem Lg.fit {D:Nat→Prop} {lb b most:Nat} {ds:List Nat} {s k m:Nat} {w:World} (h:Lg D lb b most ds s k m w):ds.length≤most∧most≤1048576:=by
 obtain ⟨D0,h1,-,-⟩:=h.dsk
 exact ⟨h1.fit,h1.bound⟩
theorem nat_lt_dec {a b:Nat} (h:a < b):decide ((a:Int) < (b:Int))=true:=decide_eq_true (by omega)
theorem nat_ge_dec {a b:Nat} (h:b≤a):decide ((a:Int) < (b:Int))=false:=decide_eq_false (by omega)
theorem al_tail {rs:List (List Nat)} (h:∀ r ∈ rs,Rec r) {x:List Nat} (hx:tkE x=2):Al (frs rs ++ x) rs (frs rs).length 0 :=
 ⟨got_frs h x,.inl ⟨by rw [List.drop_left]; exact hx,rfl⟩⟩
theorem Al.bnd {l:List Nat} {rs:List (List Nat)} {n:Nat} {e:Int} (h:Al l rs n e):n≤l.length∧rs.length * 8≤n:=⟨h.got.le,h.got.many⟩
structure Tol (D:Nat→Prop) (w:World) (t:Option Addr) (c:Nat) (bl:List B):Prop where
 own:OwnG 44 1 bcs w t c bl
 no:∀ k,blk t=some k→¬ D k
 each:∀ x ∈ bl,OwnR w x.ad x.cap x.data∧∀ k,blk x.ad=some k→¬ D k
set_option maxRecDepth 100000 in
set_option maxHeartbeats 1000000 in
theorem wopen_ok {D:Nat→Prop} {b most:Nat} {bs:List Nat} {s:Nat} {v:World} (h:Dsk D b most bs s v) (hlt:∀ x ∈ bs,x < 256) {rs:List (List Nat)} {n:Nat} (ha:Al bs rs n 0) :
  Calls Tryz.prog 37 #[.pointer (some ⟨b,0,none⟩)] v fun e v'=>∃ (lb:Nat) (t:Option Addr) (c:Nat) (bl:List B),e=.returned (.tuple #[.pointer (some ⟨lb,0,none⟩),.slice t bl.length c,.int .i64 0])∧bl.map B.data=rs∧∃ D',Tol D' v' t c bl∧Lg D' lb b most (bs.take n) (if n < bs.length then n else s) bl.length n v'∧Chg D D' v v':=by
 have hf:=h.fit
 have hb:=h.bound
 have HD:Hid _:=h
 have HA:Hid _:=ha
 have HL:Hid _:=hlt
 have HN:Hid _:=ha.bnd
 clear h ha hlt
 go_enter Tryz.func37,Tryz.ntmps37
 go_wp2_with fail
 refine (dbytes_any HD.out).mono ?_
 rintro e w1 ⟨t1,c1,rfl,own1,-,o1⟩
 have HD1:Hid _:=HD.out.free o1
 have O1:Hid _:=o1
 have A1:Hid _:=all_any (own1.inp HL.out) (by omega)
 clear own1 o1
 go_wp2_with fail
 refine Calls.mono A1.out ?_
 rintro e w2 ⟨t,c,bl,n2,er,rfl,OG,fr,each,al2,o2⟩
 obtain ⟨hd,rfl,rfl⟩:=al2.uniq HA.out
 have HD2:Hid _:=HD1.out.free o2
 have O2:Hid _:=O1.out.trans o2 (fun _ _ h=>h)
 have HOG:Hid _:=OG
 have HFR:Hid (∀ k,blk t=some k→v.heap.size≤k∧k < w2.heap.size∧¬ D k):=fun k hk=>by
  have h1:=fr k hk
  have h2:=O1.out.size
  exact ⟨by omega,OG.lt k hk,fun hD=>by have:=HD1.out.lt k hD; omega⟩
 have HEA:Hid (∀ x ∈ bl,OwnR w2 x.ad x.cap x.data∧∀ k,blk x.ad=some k→¬ D k):=fun x hx=>⟨(each x hx).1,fun k hk hD=>by
  have h1:=(each x hx).2.1 k hk
  have:=HD1.out.lt k hD
  omega⟩
 have HDT:Hid _:=hd
 have HBL:Hid (bl.length * 8≤n2∧n2≤bs.length):=by
  have h1:=HN.out
  have h2:rs.length=bl.length:=by rw [← hd]; simp
  rw [h2] at h1
  exact ⟨h1.2,h1.1⟩
 have hn2:=HBL.out.2
 have hbl:=HBL.out.1
 clear OG fr each al2 hd A1 HD1 o2
 go_wp2_with fail
 refine (dsize_any HD2.out).mono ?_
 rintro e w3 ⟨rfl,hw3⟩
 rw [hw3]
 clear hw3 w3
 by_cases hcut:n2 < bs.length
 ·have d1:=nat_lt_dec hcut
  have d2:decide (n2 < bs.length)=true:=decide_eq_true hcut
  go_wp2_with fail
  refine (dcut_any HD2.out n2 hn2).mono ?_
  rintro e w4 ⟨rfl,K4,o4⟩
  go_wp2_with fail
  go_ret3
  have hs4:=o4.size
  have OA:Off (fun _=>False) w4 (w4.alloc (.cells #[.pointer (some ⟨b,0,none⟩),.int .i64 (bl.length:Int),.int .i64 (n2:Int)] 139)):=(Off.refl _ w4).alloc _
  have CN:=Cel.new w4 139 #[.pointer (some ⟨b,0,none⟩),.int .i64 (bl.length:Int),.int .i64 (n2:Int)]
  have hsz:w4.heap.size < (w4.alloc (.cells #[.pointer (some ⟨b,0,none⟩),.int .i64 (bl.length:Int),.int .i64 (n2:Int)] 139)).heap.size:=by simp
  generalize w4.alloc (.cells #[.pointer (some ⟨b,0,none⟩),.int .i64 (bl.length:Int),.int .i64 (n2:Int)] 139)=w5 at OA CN hsz ⊢
  have K5:=K4.free OA
  have O24:=o4
  have o5:Off D w2 w5:=o4.trans OA (fun _ _ h=>h.elim)
  refine ⟨w4.heap.size,t,c,bl,rfl,HDT.out,fun x=>D x∨x=w4.heap.size,⟨HOG.out.off o5 (fun k _ e=>(HFR.out k e).2.2),fun k hk=>?_,fun x hx=>⟨(HEA.out x hx).1.off o5 (fun k _ e=>(HEA.out x hx).2 k e),fun k hk=>?_⟩⟩,⟨.inr rfl,?_,⟨D,?_,fun c h=>.inl h,fun hD=>?_⟩,CN⟩,⟨(O2.out.mono (fun _ _ h=>h.elim)).trans o5 (fun _ _ h=>h),?_⟩⟩
  ·rintro (h | h)
   ·exact (HFR.out k hk).2.2 h
   ·have:=(HFR.out k hk).2.1
    omega
  ·rintro (h | h)
   ·exact (HEA.out x hx).2 k hk h
   ·have:=(HEA.out x hx).1.lt k hk
    omega
  ·rintro x (hx | rfl)
   ·exact K5.lt x hx
   ·exact hsz
  ·exact K5
  ·have:=K4.lt _ hD
   omega
  ·rintro x (hx | rfl)
   ·exact .inl hx
   ·have:=O2.out.size
    exact .inr (by omega)
 ·have d1:=nat_ge_dec (a:=n2) (b:=bs.length) (by omega)
  have d2:decide (n2 < bs.length)=false:=decide_eq_false hcut
  go_wp2_with fail
  go_ret3
  have hbn:bs.take n2=bs:=List.take_of_length_le (by omega)
  have OA:Off (fun _=>False) w2 (w2.alloc (.cells #[.pointer (some ⟨b,0,none⟩),.int .i64 (bl.length:Int),.int .i64 (n2:Int)] 139)):=(Off.refl _ w2).alloc _
  have CN:=Cel.new w2 139 #[.pointer (some ⟨b,0,none⟩),.int .i64 (bl.length:Int),.int .i64 (n2:Int)]
  have hsz:w2.heap.size < (w2.alloc (.cells #[.pointer (some ⟨b,0,none⟩),.int .i64 (bl.length:Int),.int .i64 (n2:Int)] 139)).heap.size:=by simp
  generalize w2.alloc (.cells #[.pointer (some ⟨b,0,none⟩),.int .i64 (bl.length:Int),.int .i64 (n2:Int)] 139)=w5 at OA CN hsz ⊢
  have K5:=HD2.out.free OA
  refine ⟨w2.heap.size,t,c,bl,rfl,HDT.out,fun x=>D x∨x=w2.heap.size,⟨HOG.out.off OA (fun k _ e h=>h),fun k hk=>?_,fun x hx=>⟨(HEA.out x hx).1.off OA (fun k _ e h=>h),fun k hk=>?_⟩⟩,⟨.inr rfl,?_,⟨D,?_,fun c h=>.inl h,fun hD=>?_⟩,CN⟩,⟨(O2.out.trans OA (fun _ _ h=>h)).mono (fun _ _ h=>h.elim),?_⟩⟩
  ·rintro (h | h)
   ·exact (HFR.out k hk).2.2 h
   ·have:=(HFR.out k hk).2.1
    omega
  ·rintro (h | h)
   ·exact (HEA.out x hx).2 k hk h
   ·have:=(HEA.out x hx).1.lt k hk
    omega
  ·rintro x (hx | rfl)
   ·exact K5.lt x hx
   ·exact hsz
  ·rw [hbn]
   exact K5
  ·have:=HD2.out.lt _ hD
   omega
  ·rintro x (hx | rfl)
   ·exact .inl hx
   ·have:=O2.out.size
    exact .inr (by omega)
end Go.Proofs.YthjbnpaghiojlaaGreat

namespace Go.Proofs.YthjbnpaghiojlaaGreat
open Go.RowKit
theorem Inp.nil (w:World):Inp w none 0 []:=⟨Src.nil w,Nat.le_refl _,by simp⟩
theorem put1_any {w:World} {tr:Option Addr} {cr:Nat} {rs:List Nat} (hr:Inp w tr cr rs) (hl:rs.length≤60000) :
  Calls Tryz.prog 214 #[.slice none 0 0,.slice tr rs.length cr] w fun e w'=>∃ t c,e=.returned (.tuple #[.slice t (frm rs).length c,.int .i64 0])∧OwnR w' t c (frm rs)∧(∀ k,blk t=some k→w.heap.size≤k)∧Off (fun _=>False) w w' :=
 put_any (Inp.nil w) hr (by simp) hl
set_option maxRecDepth 100000 in
set_option maxHeartbeats 1000000 in
theorem wappend_ok {D:Nat→Prop} {lb b most:Nat} {ds:List Nat} {s k m:Nat} {v:World} (h:Lg D lb b most ds s k m v) {t:Option Addr} {c:Nat} {r:List Nat} (hi:Inp v t c r) (hl:r.length≤60000) (hk:k≤1000000) (hm:m≤2000000) (hfit:ds.length + r.length + 8≤most) :
  Calls Tryz.prog 188 #[.pointer (some ⟨lb,0,none⟩),.slice t r.length c] v fun e v'=>e=.returned (.int .i64 0)∧∃ D',Lg D' lb b most (ds ++ frm r) (ds.length + r.length + 8) (k + 1) (m + r.length + 8) v'∧Chg D D' v v':=by
 have HL:Hid _:=h
 have HI:Hid _:=hi
 clear h hi
 go_enter Tryz.func188,Tryz.ntmps188
 go_wp2_with fail
 refine (put1_any HI.out hl).mono ?_
 rintro e w1 ⟨t1,c1,rfl,own1,fr1,o1⟩
 have HL1:Hid _:=HL.out.free o1
 have hfl:=frm_len r
 generalize hfx:frm r=fx at own1 hfl ⊢
 have HS1:Hid _:=own1.src
 have O1:Hid _:=o1
 obtain ⟨D0,K0,sub0,nlb⟩:=HL1.out.dsk
 have C0:w1.cell? ⟨lb,0,none⟩=some (.pointer (some ⟨b,0,none⟩)):=by rw [HL1.out.log.cell]; rfl
 have A1:Hid _:=dappend_any K0 t1 c1 fx HS1.out (by omega)
 have e1:appE most ds fx=0:=by rw [appE,if_pos (by omega)]
 have e2:appL most ds fx=ds ++ fx:=by rw [appL,if_pos (by omega)]
 rw [e1,e2] at A1
 have HSub:Hid _:=sub0
 have HNlb:Hid _:=nlb
 have HFL:Hid _:=hfl
 have HFX:Hid _:=hfx
 have hfb:fx.length≤60008:=by omega
 clear e1 e2 sub0 nlb K0 own1 fr1 o1 hfx hfl
 go_wp2_with fail
 refine Calls.mono A1.out ?_
 rintro e w2 ⟨rfl,D1,K1,o2,d1⟩
 have HG2:Hid _:=HL1.out.log.off o2 HNlb.out
 have C2:w2.cell? ⟨lb,0,none⟩=some (.pointer (some ⟨b,0,none⟩)):=by rw [HG2.out.cell]; rfl
 have HK1:Hid _:=K1
 have HD1:Hid _:=d1
 have O2:Hid _:=o2
 have N1:Hid (¬ D1 lb):=fun hh=>by
  rcases HD1.out lb hh with a | a
  ·exact HNlb.out a
  ·have:=HL1.out.log.lt
   omega
 clear K1 d1 o2 A1 C0
 go_wp2_with fail
 refine (dsync_any HK1.out.toDsk0).mono ?_
 rintro e w3 ⟨rfl,K3,o3⟩
 have G3:=HG2.out.off o3 N1.out
 have HG3:Hid _:=G3
 have C3:w3.cell? ⟨lb,1,none⟩=some (.int .i64 (k:Int)):=by rw [G3.cell]; rfl
 have F3:=G3.free 1
 have F32:=G3.free 2
 have C32:w3.cell? ⟨lb,2,none⟩=some (.int .i64 (m:Int)):=by rw [G3.cell]; rfl
 have HK3:Hid _:=K3
 have O3:Hid _:=o3
 clear K3 o3 G3 C2
 go_wp2_with fail
 go_ret
 have hfl:=HFL.out
 rw [HFX.out]
 have G4:Cel lb 139 #[.pointer (some ⟨b,0,none⟩),.int .i64 ((k + 1:Nat):Int),.int .i64 ((m + r.length + 8:Nat):Int)] ((w3.setCell ⟨lb,1,none⟩ (.int .i64 ((k:Int) + 1))).setCell ⟨lb,2,none⟩ (.int .i64 ((m:Int) + (fx.length:Int)))):=by
  have:=(HG3.out.set 1 (.int .i64 ((k:Int) + 1))).set 2 (.int .i64 ((m:Int) + (fx.length:Int)))
  rw [hfl] at this ⊢
  have e1:(((k + 1:Nat):Int))=(k:Int) + 1:=by omega
  have e2:(((m + r.length + 8:Nat):Int))=(m:Int) + ((r.length + 8:Nat):Int):=by omega
  rw [e1,e2]
  exact this
 have O4:Off (fun c=>c=lb) w3 ((w3.setCell ⟨lb,1,none⟩ (.int .i64 ((k:Int) + 1))).setCell ⟨lb,2,none⟩ (.int .i64 ((m:Int) + (fx.length:Int)))):=((Off.refl (fun c=>c=lb) w3).setCell (.inl rfl) _).setCell (.inl rfl) _
 generalize (w3.setCell ⟨lb,1,none⟩ (.int .i64 ((k:Int) + 1))).setCell ⟨lb,2,none⟩ (.int .i64 ((m:Int) + (fx.length:Int)))=w4 at G4 O4 ⊢
 have K4:=HK3.out.off O4 (fun c _ h e=>N1.out (e ▸ h))
 have el:(ds ++ fx).length=ds.length + r.length + 8:=by rw [List.length_append]; omega
 rw [el] at K4
 refine ⟨rfl,fun c=>D1 c∨c=lb,⟨.inr rfl,?_,⟨D1,K4,fun c h=>.inl h,N1.out⟩,G4⟩,?_⟩
 ·rintro c (hc | rfl)
  ·exact K4.lt c hc
  ·exact G4.lt
 ·have hlb:=HL.out.here
  refine Chg.after O1.out ⟨(((O2.out.mono (E:=D) (fun i _ h=>HSub.out i h)).trans O3.out (fun i hi h=>?_)).trans O4 (fun i _ h=>h ▸ hlb)),?_⟩
  ·rcases HD1.out i h with a | a
   ·exact HSub.out i a
   ·omega
  ·rintro c (hc | rfl)
   ·rcases HD1.out c hc with a | a
    ·exact .inl (HSub.out c a)
    ·exact .inr a
   ·exact .inl hlb
set_option maxRecDepth 100000 in
set_option maxHeartbeats 1000000 in
theorem wappend_no {D:Nat→Prop} {lb b most:Nat} {ds:List Nat} {s k m:Nat} {v:World} (h:Lg D lb b most ds s k m v) {t:Option Addr} {c:Nat} {r:List Nat} (hi:Inp v t c r) (hl:r.length≤60000) (hfit:most < ds.length + r.length + 8) :
  Calls Tryz.prog 188 #[.pointer (some ⟨lb,0,none⟩),.slice t r.length c] v fun e v'=>e=.returned (.int .i64 5)∧∃ D',Lg D' lb b most ds s k m v'∧Chg D D' v v':=by
 have HL:Hid _:=h
 have HI:Hid _:=hi
 clear h hi
 go_enter Tryz.func188,Tryz.ntmps188
 go_wp2_with fail
 refine (put1_any HI.out hl).mono ?_
 rintro e w1 ⟨t1,c1,rfl,own1,fr1,o1⟩
 have HL1:Hid _:=HL.out.free o1
 have hfl:=frm_len r
 generalize hfx:frm r=fx at own1 hfl ⊢
 have HS1:Hid _:=own1.src
 have O1:Hid _:=o1
 obtain ⟨D0,K0,sub0,nlb⟩:=HL1.out.dsk
 have C0:w1.cell? ⟨lb,0,none⟩=some (.pointer (some ⟨b,0,none⟩)):=by rw [HL1.out.log.cell]; rfl
 have A1:Hid _:=dappend_any K0 t1 c1 fx HS1.out (by omega)
 have e1:appE most ds fx=5:=by rw [appE,if_neg (by omega)]
 have e2:appL most ds fx=ds:=by rw [appL,if_neg (by omega)]
 rw [e1,e2] at A1
 have HSub:Hid _:=sub0
 have HNlb:Hid _:=nlb
 have HFL:Hid _:=hfl
 have HFX:Hid _:=hfx
 have hfb:fx.length≤60008:=by omega
 clear e1 e2 sub0 nlb K0 own1 fr1 o1 hfx hfl
 go_wp2_with fail
 refine Calls.mono A1.out ?_
 rintro e w2 ⟨rfl,D1,K1,o2,d1⟩
 have HG2:Hid _:=HL1.out.log.off o2 HNlb.out
 have HK1:Hid _:=K1
 have HD1:Hid _:=d1
 have O2:Hid _:=o2
 have N1:Hid (¬ D1 lb):=fun hh=>by
  rcases HD1.out lb hh with a | a
  ·exact HNlb.out a
  ·have:=HL1.out.log.lt
   omega
 clear K1 d1 o2 A1 C0
 go_wp2_with fail
 go_ret
 refine ⟨rfl,fun c=>D1 c∨c=lb,⟨.inr rfl,?_,⟨D1,HK1.out,fun c h=>.inl h,N1.out⟩,HG2.out⟩,?_⟩
 ·rintro c (hc | rfl)
  ·exact HK1.out.lt c hc
  ·exact HG2.out.lt
 ·have hlb:=HL.out.here
  refine Chg.after O1.out ⟨(O2.out.mono (E:=D) (fun i _ h=>HSub.out i h)),?_⟩
  rintro c (hc | rfl)
  ·rcases HD1.out c hc with a | a
   ·exact .inl (HSub.out c a)
   ·exact .inr a
  ·exact .inl hlb
end Go.Proofs.YthjbnpaghiojlaaGreat

namespace Go.Proofs.YthjbnpaghiojlaaGreat
open Go.RowKit
structure Rws (w:World) (t:Option Addr) (c:Nat) (sl:List B):Prop where
 own:OwnG 44 1 bcs w t c sl
 inp:∀ x ∈ sl,Inp w x.ad x.cap x.data
 len:sl.length≤400
 five:∀ x ∈ sl,x.data.length≤5000
theorem Rws.off {w w':World} {t:Option Addr} {c:Nat} {sl:List B} (h:Rws w t c sl) (o:Off (fun _=>False) w w'):Rws w' t c sl :=
 ⟨h.own.off o (fun _ _ _ h=>h),fun x hx=>(h.inp x hx).free o,h.len,h.five⟩
theorem Rws.rec_ {w:World} {t:Option Addr} {c:Nat} {sl:List B} (h:Rws w t c sl):∀ r ∈ sl.map B.data,Rec r:=by
 intro r hr
 simp only [List.mem_map] at hr
 obtain ⟨x,hx,rfl⟩:=hr
 exact ⟨by have:=h.five x hx; omega,(h.inp x hx).lt⟩
theorem Rws.at_ {w:World} {t:Option Addr} {c:Nat} {sl:List B} (h:Rws w t c sl) {i:Nat} (hi:i < sl.length) :
  ∃ x g,sl[i]?=some x∧x ∈ sl∧t=some ⟨g,0,none⟩∧w.cell? ⟨g,i,none⟩=some (.slice x.ad x.data.length x.cap):=by
 obtain ⟨x,hx⟩:∃ x,sl[i]?=some x:=⟨_,List.getElem?_eq_getElem hi⟩
 obtain ⟨g,e,k⟩:=h.own.at_ bcs_len hx
 have k0:=k 0 _ rfl
 simp only [Nat.mul_one,Nat.add_zero] at k0
 exact ⟨x,g,hx,List.mem_of_getElem? hx,e,k0⟩
def fr (sl:List B) (i:Nat):List Nat:=frs ((sl.map B.data).take i)
theorem fr_succ {sl:List B} {i:Nat} {x:B} (h:sl[i]?=some x):fr sl (i + 1)=fr sl i ++ frm x.data:=by
 have e:(sl.map B.data)[i]?=some x.data:=by rw [List.getElem?_map,h]; rfl
 rw [fr,fr,List.take_add_one,e]
 exact frs_snoc _ _
theorem fr_all (sl:List B):fr sl sl.length=frs (sl.map B.data):=by rw [fr,List.take_of_length_le (by simp)]
theorem Rws.fr_len {w:World} {t:Option Addr} {c:Nat} {sl:List B} (h:Rws w t c sl) (i:Nat):(fr sl i).length≤2003200:=by
 have h1:(fr sl i).length≤((sl.map B.data).take i).length * (5000 + 8):=frs_len (fun r hr=>by
  have:=List.mem_of_mem_take hr
  simp only [List.mem_map] at this
  obtain ⟨x,hx,rfl⟩:=this
  exact h.five x hx)
 have h2:((sl.map B.data).take i).length≤400:=by
  rw [List.length_take,List.length_map]
  have:=h.len
  omega
 omega
set_option maxRecDepth 100000 in
set_option maxHeartbeats 1000000 in
theorem frames_any {w:World} {t:Option Addr} {c:Nat} {sl:List B} (h:Rws w t c sl) :
  Calls Tryz.prog 236 #[.slice t sl.length c] w fun e w'=>∃ t1 c1,e=.returned (.tuple #[.slice t1 (frs (sl.map B.data)).length c1,.int .i64 0])∧OwnR w' t1 c1 (frs (sl.map B.data))∧Off (fun _=>False) w w':=by
 have HR:Hid _:=h
 have s30:=h.len
 clear h
 go_enter Tryz.func236,Tryz.ntmps236
 go_wp2_with fail
 go_loopw [4,11] (fun x y wr=>∃ (i:Nat) (t:Option Addr) (c:Nat),y=.int .i64 (i:Int)∧x=.slice t (fr sl i).length c∧i≤sl.length∧OwnR wr t c (fr sl i)∧(∀ k,blk t=some k→w.heap.size≤k)∧Off (fun _=>False) w wr) (fun _ y _=>(sl.length - intOf y).toNat)
 case atStart=>exact ⟨0,none,0,rfl,rfl,by omega,OwnR.nil _,fun k hk=>by simp [blk] at hk,Off.refl _ _⟩
 case round =>
  obtain ⟨i,t2,c2,rfl,rfl,hi,own,hlo,O⟩:=hrel
  have HOWN:Hid _:=own
  have HLO:Hid _:=hlo
  have HO:Hid _:=O
  clear own hlo O
  by_cases hlt:i < sl.length
  ·have e1:decide ((i:Int) < (sl.length:Int))=true:=decide_eq_true (by omega)
   have e2:decide (i < sl.length)=true:=decide_eq_true hlt
   obtain ⟨x,g,hx,hm,rfl,kc⟩:=(HR.out.off HO.out).at_ hlt
   have HST:Hid _:=fr_succ hx
   have l4:=HR.out.five x hm
   have lf:=HR.out.fr_len i
   have P1:Hid _:=put1_any ((HR.out.inp x hm).free HO.out) (by omega)
   have hfb:(frm x.data).length≤60008:=by rw [frm_len]; omega
   generalize frm x.data=fx at *
   generalize fr sl i=ys at *
   generalize hzz:fr sl (i + 1)=zs at *
   have HZZ:Hid _:=hzz
   clear hzz hx hm
   go_wp2_with fail
   refine Calls.mono P1.out ?_
   rintro e w1 ⟨t1,c1,rfl,R1,fr1,O1⟩
   have HR1:Hid _:=R1
   have HO1:Hid _:=O1
   clear P1 R1 fr1 O1 kc
   go_wp2_with (at_builtin; refine wpList_app rfl (.tmp 23) (.tmp 24) rfl t2 c2 ys rfl (HOWN.out.off HO1.out (fun _ _ _ h=>h)) t1 c1 fx rfl HR1.out.src (by omega) ?_; intro t' c' w' qs hqs own' off' at')
   have HQ:Hid (qs=zs):=hqs.out.trans HST.out.symm
   have HOW':Hid _:=own'
   have HOF':Hid _:=off'
   clear own' off' hqs
   go_wp2_with fail
   go_roundw
   case rel =>
    have s1:=HO.out.size
    have s2:=HO1.out.size
    refine ⟨i + 1,t',c',by go_num,by rw [HZZ.out,← HQ.out],by omega,by rw [HZZ.out,← HQ.out]; exact HOW'.out,fun k hk=>?_,(((HO.out.trans HO1.out (fun _ _ h=>h)).mono (fun _ _ h=>h.elim)).trans HOF'.out (fun _ _ h=>h)).mono (fun j hj e=>by have:=HLO.out j e; omega)⟩
    rcases at' with h9 | h9
    ·exact HLO.out k (h9 ▸ hk)
    ·rw [h9] at hk
     simp at hk
     omega
   case measure=>simp [intOf]; omega
  ·have e1:decide ((i:Int) < (sl.length:Int))=false:=decide_eq_false (by omega)
   have e2:decide (i < sl.length)=false:=decide_eq_false hlt
   have hil:fr sl i=frs (sl.map B.data):=by rw [show i=sl.length by omega,fr_all]
   rw [hil] at HOWN ⊢
   clear hil
   go_wp2_with fail
   go_ret2
   exact ⟨t2,c2,rfl,HOWN.out,HO.out⟩
set_option maxRecDepth 100000 in
set_option maxHeartbeats 1000000 in
theorem wcompact_ok {D:Nat→Prop} {lb b most:Nat} {ds:List Nat} {s k m:Nat} {v:World} (h:Lg D lb b most ds s k m v) {t:Option Addr} {c:Nat} {sl:List B} (hr:Rws v t c sl) (hfit:(frs (sl.map B.data)).length≤most) :
  Calls Tryz.prog 216 #[.pointer (some ⟨lb,0,none⟩),.slice t sl.length c] v fun e v'=>e=.returned (.int .i64 0)∧∃ D',Lg D' lb b most (frs (sl.map B.data)) (frs (sl.map B.data)).length sl.length (frs (sl.map B.data)).length v'∧Chg D D' v v':=by
 have hb:=h.fit.2
 have s30:=hr.len
 have HL:Hid _:=h
 have HF:Hid _:=frames_any hr
 clear h hr
 generalize frs (sl.map B.data)=fs at *
 go_enter Tryz.func216,Tryz.ntmps216
 go_wp2_with fail
 refine Calls.mono HF.out ?_
 rintro e w1 ⟨t1,c1,rfl,own1,o1⟩
 have HL1:Hid _:=HL.out.free o1
 have O1:Hid _:=o1
 obtain ⟨D0,K0,sub0,nlb⟩:=HL1.out.dsk
 have C0:w1.cell? ⟨lb,0,none⟩=some (.pointer (some ⟨b,0,none⟩)):=by rw [HL1.out.log.cell]; rfl
 have A1:Hid _:=dreplace_any K0 t1 c1 fs own1.src (by omega)
 have e1:repE most fs=0:=by rw [repE,if_pos hfit]
 have e2:repL most ds fs=fs:=by rw [repL,if_pos hfit]
 have e3:repS most s fs=fs.length:=by rw [repS,if_pos hfit]
 rw [e1,e2,e3] at A1
 have HSub:Hid _:=sub0
 have HNlb:Hid _:=nlb
 clear e1 e2 e3 sub0 nlb K0 own1 o1 HF
 go_wp2_with fail
 refine Calls.mono A1.out ?_
 rintro e w2 ⟨rfl,D1,K1,o2,d1⟩
 have G2:=HL1.out.log.off o2 HNlb.out
 have HG2:Hid _:=G2
 have C2:w2.cell? ⟨lb,1,none⟩=some (.int .i64 (k:Int)):=by rw [G2.cell]; rfl
 have C22:w2.cell? ⟨lb,2,none⟩=some (.int .i64 (m:Int)):=by rw [G2.cell]; rfl
 have F2:=G2.free 1
 have F22:=G2.free 2
 have HK1:Hid _:=K1
 have HD1:Hid _:=d1
 have O2:Hid _:=o2
 have N1:Hid (¬ D1 lb):=fun hh=>by
  rcases HD1.out lb hh with a | a
  ·exact HNlb.out a
  ·have:=HL1.out.log.lt
   omega
 clear K1 d1 o2 A1 C0 G2
 go_wp2_with fail
 go_ret
 have G4:Cel lb 139 #[.pointer (some ⟨b,0,none⟩),.int .i64 ((sl.length:Nat):Int),.int .i64 ((fs.length:Nat):Int)] ((w2.setCell ⟨lb,1,none⟩ (.int .i64 (sl.length:Int))).setCell ⟨lb,2,none⟩ (.int .i64 (fs.length:Int))):=(HG2.out.set 1 (.int .i64 (sl.length:Int))).set 2 (.int .i64 (fs.length:Int))
 have O4:Off (fun c=>c=lb) w2 ((w2.setCell ⟨lb,1,none⟩ (.int .i64 (sl.length:Int))).setCell ⟨lb,2,none⟩ (.int .i64 (fs.length:Int))):=((Off.refl (fun c=>c=lb) w2).setCell (.inl rfl) _).setCell (.inl rfl) _
 generalize (w2.setCell ⟨lb,1,none⟩ (.int .i64 (sl.length:Int))).setCell ⟨lb,2,none⟩ (.int .i64 (fs.length:Int))=w4 at G4 O4 ⊢
 have K4:=HK1.out.off O4 (fun c _ h e=>N1.out (e ▸ h))
 have hlb:=HL.out.here
 refine ⟨rfl,fun c=>D1 c∨c=lb,⟨.inr rfl,?_,⟨D1,K4,fun c h=>.inl h,N1.out⟩,G4⟩,Chg.after O1.out ⟨(O2.out.mono (E:=D) (fun i _ h=>HSub.out i h)).trans O4 (fun i _ h=>h ▸ hlb),?_⟩⟩
 ·rintro c (hc | rfl)
  ·exact K4.lt c hc
  ·exact G4.lt
 ·rintro c (hc | rfl)
  ·rcases HD1.out c hc with a | a
   ·exact .inl (HSub.out c a)
   ·exact .inr a
  ·exact .inl hlb
set_option maxRecDepth 100000 in
set_option maxHeartbeats 1000000 in
theorem wcompact_no {D:Nat→Prop} {lb b most:Nat} {ds:List Nat} {s k m:Nat} {v:World} (h:Lg D lb b most ds s k m v) {t:Option Addr} {c:Nat} {sl:List B} (hr:Rws v t c sl) (hfit:most < (frs (sl.map B.data)).length) :
  Calls Tryz.prog 216 #[.pointer (some ⟨lb,0,none⟩),.slice t sl.length c] v fun e v'=>e=.returned (.int .i64 5)∧∃ D',Lg D' lb b most ds s k m v'∧Chg D D' v v':=by
 have hb:=h.fit.2
 have s30:=hr.len
 have HL:Hid _:=h
 have HF:Hid _:=frames_any hr
 have hfl:(frs (sl.map B.data)).length≤2003200:=by have:=hr.fr_len sl.length; rwa [fr_all] at this
 clear h hr
 generalize frs (sl.map B.data)=fs at *
 go_enter Tryz.func216,Tryz.ntmps216
 go_wp2_with fail
 refine Calls.mono HF.out ?_
 rintro e w1 ⟨t1,c1,rfl,own1,o1⟩
 have HL1:Hid _:=HL.out.free o1
 have O1:Hid _:=o1
 obtain ⟨D0,K0,sub0,nlb⟩:=HL1.out.dsk
 have C0:w1.cell? ⟨lb,0,none⟩=some (.pointer (some ⟨b,0,none⟩)):=by rw [HL1.out.log.cell]; rfl
 have A1:Hid _:=dreplace_any K0 t1 c1 fs own1.src (by omega)
 have e1:repE most fs=5:=by rw [repE,if_neg (by omega)]
 have e2:repL most ds fs=ds:=by rw [repL,if_neg (by omega)]
 have e3:repS most s fs=s:=by rw [repS,if_neg (by omega)]
 rw [e1,e2,e3] at A1
 have HSub:Hid _:=sub0
 have HNlb:Hid _:=nlb
 clear e1 e2 e3 sub0 nlb K0 own1 o1 HF
 go_wp2_with fail
 refine Calls.mono A1.out ?_
 rintro e w2 ⟨rfl,D1,K1,o2,d1⟩
 have HG2:Hid _:=HL1.out.log.off o2 HNlb.out
 have HK1:Hid _:=K1
 have HD1:Hid _:=d1
 have O2:Hid _:=o2
 have N1:Hid (¬ D1 lb):=fun hh=>by
  rcases HD1.out lb hh with a | a
  ·exact HNlb.out a
  ·have:=HL1.out.log.lt
   omega
 clear K1 d1 o2 A1 C0
 go_wp2_with fail
 go_ret
 have hlb:=HL.out.here
 refine ⟨rfl,fun c=>D1 c∨c=lb,⟨.inr rfl,?_,⟨D1,HK1.out,fun c h=>.inl h,N1.out⟩,HG2.out⟩,Chg.after O1.out ⟨(O2.out.mono (E:=D) (fun i _ h=>HSub.out i h)),?_⟩⟩
 ·rintro c (hc | rfl)
  ·exact HK1.out.lt c hc
  ·exact HG2.out.lt
 ·rintro c (hc | rfl)
  ·rcases HD1.out c hc with a | a
   ·exact .inl (HSub.out c a)
   ·exact .inr a
  ·exact .inl hlb
end Go.Proofs.YthjbnpaghiojlaaGreat
