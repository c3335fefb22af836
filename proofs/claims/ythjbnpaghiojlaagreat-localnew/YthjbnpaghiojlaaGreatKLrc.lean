/- Items of several texts. -/
import Derived.Laws.IdiomStrings
import Derived.Deep.Cut
import Derived.Test.YthjbnpaghiojlaaGreatKSWr
import Derived.Test.YthjbnpaghiojlaaGreatKLessP
import Derived.Test.YthjbnpaghiojlaaGreatKSRe
import Derived.Test.YthjbnpaghiojlaaGreatKOrdQ
import Derived.Test.YthjbnpaghiojlaaGreatKJns
import Derived.Test.YthjbnpaghiojlaaGreatKHP
import Derived.Test.YthjbnpaghiojlaaGreatKFTh
import Derived.Test.YthjbnpaghiojlaaGreatKHm
namespace Go.Proofs.YthjbnpaghiojlaaGreat
open Go.RowKit
def keyL (s:ByteArray):List Nat:=s.data.toList.map UInt8.toNat
theorem keyL_len (s:ByteArray):(keyL s).length=s.size:=by
 unfold keyL
 rw [List.length_map,Array.length_toList]
 rfl
def wrE (most:Nat) (st:Option (List Nat)) (key:ByteArray) (f:Nat→Int) (l:List A):Option (List Nat):=wrS most (putS most st (numB (keyL key).length ++ keyL key)) f l
theorem conv_key (key:ByteArray) (W:World):∃ cap W',(convert 9 44 (.string key)).run Tryz.prog W=.ok (.slice (some ⟨W.heap.size,0,none⟩) (keyL key).length cap) W'∧Src W' (some ⟨W.heap.size,0,none⟩) cap (keyL key)∧Off (fun _=>False) W W':=by
 refine ⟨_,_,by rw [keyL_len]; exact run_bytes_of_string W 9 44 5 key Tryz.underlying9 Tryz.underlying44 Tryz.underlying5,⟨.inr ⟨_,rfl,fun j u hj=>?_⟩⟩,((Off.refl _ W).drew).alloc _⟩
 have hj':=vl_lt hj
 rw [vl_get _ _ hj'] at hj
 rw [keyL_len] at hj'
 rw [add_lit]
 simp only [World.cell?]
 rw [show (W.heap.size)=W.drew.heap.size from rfl,heap_alloc_new]
 simp only [Nat.zero_add]
 rw [← hj]
 have hj2:j < key.data.size:=hj'
 have h:=bytesRow_at key (grownCap W key.size 0 5) j hj2
 have e:(keyL key).getD j 0=key.data[j].toNat:=by
  unfold keyL
  rw [List.getD_eq_getElem?_getD,List.getElem?_map,Array.getElem?_toList,Array.getElem?_eq_getElem hj2]
  rfl
 rw [e]
 exact h
set_option maxRecDepth 100000 in
set_option maxHeartbeats 1000000 in
theorem writeEntry_any {D:Nat→Prop} {b most:Nat} {st:Option (List Nat)} {w:World} (hW:Wtr D b most st w) (hm:most≤140737488355328) (hst:(st.getD []).length≤most) (key:ByteArray) (hks:key.size≤140737488351232) (f:Nat→Int) (hr:∀ j,j < 8→-9223372036854775808≤f j∧f j≤9223372036854775807) (a:Option Addr) (ca:Nat) (l:List V) (hrow:∀ w',Off D w w'→Row w' a ca l) :
  Calls Tryz.prog 185 #[.pointer (some ⟨b,0,none⟩),.agg #[.string key,.int .i64 (f 0),.int .i64 (f 1),.int .i64 (f 2),.int .i64 (f 3),.int .i64 (f 4),.int .i64 (f 5),.int .i64 (f 6),.int .i64 (f 7),.slice a l.length ca]] w fun e w'=>e=.returned (.tuple #[])∧∃ D',Wtr D' b most (wrE most st key f (cont l)) w'∧Off D w w'∧∀ c,D' c→D c∨w.heap.size≤c:=by
 have C:=Cel.new w 68 #[.string key,.int .i64 (f 0),.int .i64 (f 1),.int .i64 (f 2),.int .i64 (f 3),.int .i64 (f 4),.int .i64 (f 5),.int .i64 (f 6),.int .i64 (f 7),.slice a l.length ca]
 have O:Off (fun _=>False) w (w.alloc (.cells #[.string key,.int .i64 (f 0),.int .i64 (f 1),.int .i64 (f 2),.int .i64 (f 3),.int .i64 (f 4),.int .i64 (f 5),.int .i64 (f 6),.int .i64 (f 7),.slice a l.length ca] 68)):=(Off.refl _ w).alloc _
 have hlt0:=hW.lt
 have W0:=hW.off O (fun _ _ _ h=>h)
 have HRW:Hid _:=hrow
 have hz:w.heap.size < (w.alloc (.cells #[.string key,.int .i64 (f 0),.int .i64 (f 1),.int .i64 (f 2),.int .i64 (f 3),.int .i64 (f 4),.int .i64 (f 5),.int .i64 (f 6),.int .i64 (f 7),.slice a l.length ca] 68)).heap.size:=by simp [World.size_alloc]
 clear hW hrow
 go_enter Tryz.func185,Tryz.ntmps185
 go_upto_region 1 with fail
 generalize hq:w.heap.size=q at C hz ⊢
 have HQ:Hid (w.heap.size≤q):=by show _≤_; omega
 have hdq:¬ D q:=fun h=>by have:=hlt0 q h; omega
 generalize hv:w.alloc (.cells #[.string key,.int .i64 (f 0),.int .i64 (f 1),.int .i64 (f 2),.int .i64 (f 3),.int .i64 (f 4),.int .i64 (f 5),.int .i64 (f 6),.int .i64 (f 7),.slice a l.length ca] 68)=W at C O W0 hz ⊢
 clear hq hv hlt0
 obtain ⟨kl,hkl⟩:∃ x,x=keyL key:=⟨_,rfl⟩
 obtain ⟨kc,W1,hrun,hsrc,o1⟩:=conv_key key W
 rw [← hkl] at hrun hsrc
 have hkz:kl.length≤140737488351232:=by rw [hkl,keyL_len]; exact hks
 have c0:W.cell? ⟨q,0,none⟩=some (.string key):=C.cell 0
 have W2:=W0.off o1 (fun _ _ _ h=>h)
 have C1:=C.off o1 (fun h=>h)
 have O1:Off D w W1:=(O.trans o1 (fun _ _ h=>h)).mono (fun _ _ h=>h.elim)
 have HDL:Hid (∀ c,D c→c < W.heap.size):=W0.lt
 have HKS:Hid _:=hsrc
 have HKL:Hid _:=hkl
 have hz1:=o1.size
 clear W0 C O o1 hsrc hkl
 go_wp2_with fail
 clear c0 hrun
 refine (wtext_any W2 _ kc kl (fun w' o=>HKS.out.off o (fun c hc hb h=>by simp [blk] at hb; have:=HDL.out c h; omega)) (.inr ⟨hm,hst,hkz⟩)).mono ?_
 rintro e v1 ⟨rfl,D1,W3,o2,d1⟩
 have C2:=C1.off o2 hdq
 have O2:Off D w v1:=O1.trans o2 (fun _ _ h=>h)
 have hl1:=put_le hst (numB kl.length ++ kl)
 have hD1:∀ c,D1 c→D c∨w.heap.size≤c:=fun c hc=>(d1 c hc).imp id (fun h=>Nat.le_trans O1.size h)
 have HC2:Hid _:=C2
 have HO2:Hid _:=O2
 have HD1:Hid _:=hD1
 have HW3:Hid _:=W3
 have k1:v1.cell? ⟨q,1,none⟩=some (.int .i64 (f 0)):=C2.cell 1
 have k2:v1.cell? ⟨q,2,none⟩=some (.int .i64 (f 1)):=C2.cell 2
 have k3:v1.cell? ⟨q,3,none⟩=some (.int .i64 (f 2)):=C2.cell 3
 have k4:v1.cell? ⟨q,4,none⟩=some (.int .i64 (f 3)):=C2.cell 4
 have k5:v1.cell? ⟨q,5,none⟩=some (.int .i64 (f 4)):=C2.cell 5
 have k6:v1.cell? ⟨q,6,none⟩=some (.int .i64 (f 5)):=C2.cell 6
 have k7:v1.cell? ⟨q,7,none⟩=some (.int .i64 (f 6)):=C2.cell 7
 have k8:v1.cell? ⟨q,8,none⟩=some (.int .i64 (f 7)):=C2.cell 8
 have k9:v1.cell? ⟨q,9,none⟩=some (.slice a l.length ca):=C2.cell 9
 clear W2 C1 C2 O1 O2 o2 d1 hD1 W3 hz1
 go_wp2_with fail
 clear k1 k2 k3 k4 k5 k6 k7 k8 k9
 refine (swrite_any HW3.out hm hl1 f hr a ca l (fun w' o=>HRW.out w' (HO2.out.trans o (fun k hk h=>(HD1.out k h).elim id (fun h2=>by omega))))).mono ?_
 rintro e v2 ⟨rfl,D2,W4,o3,d2⟩
 have HF:Hid (Wtr D2 b most (wrE most st key f (cont l)) v2):=by show Wtr D2 b most (wrE most st key f (cont l)) v2; unfold wrE; rw [← HKL.out]; exact W4
 have HO3:Hid (Off D w v2):=HO2.out.trans o3 (fun k hk h=>(HD1.out k h).elim id (fun h2=>by omega))
 have HD2:Hid (∀ c,D2 c→D c∨w.heap.size≤c):=fun c hc=>(d2 c hc).elim (HD1.out c) (fun h=>.inr (Nat.le_trans HO2.out.size h))
 clear W4 o3 d2
 go_wp2_with fail
 first | go_end0 | refine bodyPost_ret (results_none rfl _ _ _) rfl ?_
 exact ⟨rfl,D2,HF.out,HO3.out,HD2.out⟩
end Go.Proofs.YthjbnpaghiojlaaGreat

namespace Go.Proofs.YthjbnpaghiojlaaGreat
theorem put_put (most:Nat) (st:Option (List Nat)) (x y:List Nat):putS most (putS most st x) y=putS most st (x ++ y):=by
 cases st with
 | none=>rfl
 | some b =>
  simp only [putS]
  by_cases h:b.length + x.length≤most
  ·rw [if_pos h]
   simp only [List.length_append,List.append_assoc,Nat.add_assoc]
  ·rw [if_neg h]
   simp only [List.length_append]
   rw [if_neg (by omega)]
theorem put_none {most:Nat} {st:Option (List Nat)} (h:(st.getD []).length≤most):putS most st []=st:=by
 cases st with
 | none=>rfl
 | some b =>
  simp only [Option.getD_some] at h
  simp [putS,h]
def encV (f:Nat→Int):Nat→List Nat
 | 0=>[]
 | n + 1=>encV f n ++ numB (zig (f n))
def encA (x:A):List Nat:=numB (u64N x.node) ++ (numB (zig x.num) ++ ((if x.dead then 1 else 0) :: (numB x.data.length ++ x.data)))
def encL:List A→List Nat
 | []=>[]
 | x :: l=>encA x ++ encL l
def encE (t:List Nat) (f:Nat→Int) (l:List A):List Nat:=(numB t.length ++ t) ++ (encV f 8 ++ (numB l.length ++ encL l))
theorem wrV_enc {most:Nat} {st:Option (List Nat)} (h:(st.getD []).length≤most) (f:Nat→Int):∀ n,wrV most st f n=putS most st (encV f n)
 | 0=>(put_none h).symm
 | n + 1=>by
  show putS most (wrV most st f n) _=_
  rw [wrV_enc h f n,put_put]
  rfl
theorem wrVal_enc (most:Nat) (st:Option (List Nat)) (x:A):wrVal most st x=putS most st (encA x):=by
 unfold wrVal encA
 rw [put_put,put_put,put_put]
 simp only [List.cons_append,List.nil_append]
theorem wrL_enc {most:Nat}:∀ {st:Option (List Nat)},(st.getD []).length≤most→∀ l,wrL most st l=putS most st (encL l)
 | _,h,[]=>(put_none h).symm
 | st,h,x :: l=>by
  have e:wrL most st (x :: l)=wrL most (wrVal most st x) l:=rfl
  rw [e,wrL_enc (wrVal_le h x) l,wrVal_enc,put_put]
  rfl
theorem bk_num {n:Nat} (h:n < 18446744073709551616) (l:List Nat):numS (numB n ++ l,0)=(n,(l,0)):=by
 simp only [numS,ne_eq,not_true_eq_false,if_false]
 rw [rd_back l n 0 0 (by omega) (by omega) (by omega)]
 simp
theorem bk_int {i:Int} (h0:-9223372036854775808≤i) (h1:i≤9223372036854775807) (l:List Nat):intS (numB (zig i) ++ l,0)=(i,(l,0)):=by
 simp only [intS]
 rw [bk_num (zig_lt h0 h1),unzig_zig]
theorem bk_count {n:Nat} (h:n < 18446744073709551616) (l:List Nat) {most:Nat} (hm:n≤most):countS most (numB n ++ l,0)=(n,(l,0)):=by
 unfold countS
 rw [bk_num h,if_neg (by simp only; omega)]
theorem bk_over {n:Nat} (h:n < 18446744073709551616) (l:List Nat) {most:Nat} (hm:most < n):countS most (numB n ++ l,0)=(0,([],4)):=by
 unfold countS
 rw [bk_num h,if_pos (by simp only; omega)]
theorem bk_text (t l:List Nat) (h:t.length < 18446744073709551616) {most:Nat} (hm:t.length≤most):textS most (numB t.length ++ (t ++ l),0)=(t,(l,0)):=by
 unfold textS
 rw [bk_count h _ hm]
 simp
theorem bk_long (t l:List Nat) (h:t.length < 18446744073709551616) {most:Nat} (hm:most < t.length):textS most (numB t.length ++ (t ++ l),0)=([],([],4)):=by
 unfold textS
 rw [bk_over h _ hm]
 simp
theorem bk_flag (f:Bool) (l:List Nat):flagS ((if f then 1 else 0) :: l,0)=(f,(l,0)):=by
 cases f <;> simp [flagS]
theorem er_num {s:RS} (h:s.2 ≠ 0):numS s=(0,s):=by simp [numS,h]
theorem er_flag {s:RS} (h:s.2 ≠ 0):flagS s=(false,s):=by simp [flagS,h]
theorem er_count {s:RS} (h:s.2 ≠ 0) (m:Nat):countS m s=(0,s):=by
 unfold countS
 rw [er_num h,if_neg (by simp)]
theorem er_text {s:RS} (h:s.2 ≠ 0) (m:Nat):textS m s=([],s):=by
 unfold textS
 rw [er_count h,if_pos (by simpa using h)]
theorem er_int {s:RS} (h:s.2 ≠ 0):(intS s).2=s:=by simp [intS,er_num h]
theorem er_val {s:RS} (h:s.2 ≠ 0):valS s=s:=by
 have e1:(numS s).2=s:=by rw [er_num h]
 unfold valS
 rw [e1,er_int h,er_flag h,er_text h]
theorem er_st {s:RS} (h:s.2 ≠ 0):∀ n,rdSt s n=s
 | 0=>rfl
 | n + 1=>by show valS (rdSt s n)=s; rw [er_st h n,er_val h]
theorem er_vec {s:RS} (h:s.2 ≠ 0):∀ n,rdV s n=s
 | 0=>rfl
 | n + 1=>by show (intS (rdV s n)).2=s; rw [er_vec h n,er_int h]
theorem er_sr {s:RS} (h:s.2 ≠ 0):srS s=s:=by
 have e:countS 16 (rdV s 8)=(0,s):=by rw [er_vec h 8,er_count h]
 unfold srS
 rw [e]
 simp only [rdSt]
theorem rdSt_in (s:RS):∀ n,rdSt s (n + 1)=rdSt (valS s) n
 | 0=>rfl
 | n + 1=>by show valS (rdSt s (n + 1))=valS (rdSt (valS s) n); rw [rdSt_in s n]
theorem rdL_in (nd:Nat→Int) (s:RS) (n:Nat):rdL nd (n + 1) s=rdA nd s :: rdL nd n (valS s):=by
 unfold rdL
 rw [List.range_succ_eq_map,List.map_cons,List.map_map]
 have e:List.map ((fun i=>rdA nd (rdSt s i)) ∘ Nat.succ) (List.range n)=List.map (fun i=>rdA nd (rdSt (valS s) i)) (List.range n) :=
  List.map_congr_left fun i _=>by
   simp only [Function.comp_apply,Nat.succ_eq_add_one]
   rw [rdSt_in]
 rw [e]
 simp only [rdSt]
structure Rng (x:A):Prop where
 n0:-9223372036854775808≤x.node
 n1:x.node≤9223372036854775807
 m0:-9223372036854775808≤x.num
 m1:x.num≤9223372036854775807
 len:x.data.length≤140737488351232
 lt:∀ y ∈ x.data,y < 256
theorem Row.rng {w:World} {a:Option Addr} {c:Nat} {l:List V} (h:Row w a c l):∀ x ∈ cont l,Rng x:=by
 intro x hx
 simp only [cont,List.mem_map] at hx
 obtain ⟨v,hv,rfl⟩:=hx
 have k:=h.ok v hv
 exact ⟨k.n0,k.n1,k.m0,k.m1,k.len,k.lt⟩
theorem node_back {n:Int} (h0:-9223372036854775808≤n) (h1:n≤9223372036854775807):nodeP (u64N n)=n:=by
 unfold nodeP u64N RowKit.wrap64
 omega
theorem bk_val {x:A} (hx:Rng x) (h:x.data.length≤200) (r:List Nat):valS (encA x ++ r,0)=(r,0)∧rdA nodeP (encA x ++ r,0)=x:=by
 have e:encA x ++ r=numB (u64N x.node) ++ (numB (zig x.num) ++ ((if x.dead then 1 else 0) :: (numB x.data.length ++ (x.data ++ r)))):=by simp [encA,List.append_assoc]
 have t1:=bk_num (u64N_lt x.node) (numB (zig x.num) ++ ((if x.dead then 1 else 0) :: (numB x.data.length ++ (x.data ++ r))))
 have t2:=bk_int hx.m0 hx.m1 ((if x.dead then 1 else 0) :: (numB x.data.length ++ (x.data ++ r)))
 have t3:=bk_flag x.dead (numB x.data.length ++ (x.data ++ r))
 have t4:=bk_text x.data r (by omega) h
 rw [e]
 refine ⟨by unfold valS; rw [t1,t2,t3,t4],?_⟩
 unfold rdA valN valI valG valT
 rw [t1,t2,t3,t4,node_back hx.n0 hx.n1]
theorem bk_valong {x:A} (hx:Rng x) (h:200 < x.data.length) (r:List Nat):valS (encA x ++ r,0)=([],4):=by
 have e:encA x ++ r=numB (u64N x.node) ++ (numB (zig x.num) ++ ((if x.dead then 1 else 0) :: (numB x.data.length ++ (x.data ++ r)))):=by simp [encA,List.append_assoc]
 have t1:=bk_num (u64N_lt x.node) (numB (zig x.num) ++ ((if x.dead then 1 else 0) :: (numB x.data.length ++ (x.data ++ r))))
 have t2:=bk_int hx.m0 hx.m1 ((if x.dead then 1 else 0) :: (numB x.data.length ++ (x.data ++ r)))
 have t3:=bk_flag x.dead (numB x.data.length ++ (x.data ++ r))
 have t4:=bk_long x.data r (by have:=hx.len; omega) h
 rw [e]
 unfold valS
 rw [t1,t2,t3,t4]
theorem bk_list:∀ {l:List A},(∀ x ∈ l,Rng x)→(∀ x ∈ l,x.data.length≤200)→∀ r,rdSt (encL l ++ r,0) l.length=(r,0)∧rdL nodeP l.length (encL l ++ r,0)=l
 | [],_,_,r=>⟨rfl,rfl⟩
 | x :: l,h1,h2,r=>by
  have e:encL (x :: l) ++ r=encA x ++ (encL l ++ r):=by simp [encL,List.append_assoc]
  obtain ⟨v1,v2⟩:=bk_val (h1 x (by simp)) (h2 x (by simp)) (encL l ++ r)
  obtain ⟨l1,l2⟩:=bk_list (l:=l) (fun y hy=>h1 y (by simp [hy])) (fun y hy=>h2 y (by simp [hy])) r
  rw [e,List.length_cons,rdSt_in,rdL_in,v1,v2]
  exact ⟨l1,by rw [l2]⟩
theorem bk_listlong:∀ {l:List A},(∀ x ∈ l,Rng x)→¬ (∀ x ∈ l,x.data.length≤200)→∀ r,(rdSt (encL l ++ r,0) l.length).2 ≠ 0
 | [],_,h,_=>absurd (fun x hx=>by simp at hx) h
 | x :: l,h1,h2,r=>by
  have e:encL (x :: l) ++ r=encA x ++ (encL l ++ r):=by simp [encL,List.append_assoc]
  rw [e,List.length_cons,rdSt_in]
  by_cases hx:x.data.length≤200
  ·rw [(bk_val (h1 x (by simp)) hx _).1]
   refine bk_listlong (fun y hy=>h1 y (by simp [hy])) (fun h=>h2 fun y hy=>?_) r
   rcases List.mem_cons.1 hy with rfl | hy
   ·exact hx
   ·exact h y hy
  ·rw [bk_valong (h1 x (by simp)) (by omega),er_st (by simp)]
   simp
theorem bk_vec {f:Nat→Int} (hr:∀ j,j < 8→-9223372036854775808≤f j∧f j≤9223372036854775807):∀ n,n≤8→∀ r,rdV (encV f n ++ r,0) n=(r,0)
 | 0,_,_=>rfl
 | n + 1,hn,r=>by
  show (intS (rdV (encV f n ++ numB (zig (f n)) ++ r,0) n)).2=_
  rw [List.append_assoc,bk_vec hr n (by omega),bk_int (hr n (by omega)).1 (hr n (by omega)).2]
theorem bk_vecF {f:Nat→Int} (hr:∀ j,j < 8→-9223372036854775808≤f j∧f j≤9223372036854775807) {j:Nat} (hj:j < 8) (r:List Nat):rdF (encV f 8 ++ r,0) j=f j:=by
 have key:∀ d r,j + 1 + d≤8→rdF (encV f (j + 1 + d) ++ r,0) j=f j:=by
  intro d
  induction d with
  | zero =>
   intro r _
   unfold rdF
   show (intS (rdV (encV f j ++ numB (zig (f j)) ++ r,0) j)).1=_
   rw [List.append_assoc,bk_vec hr j (by omega),bk_int (hr j hj).1 (hr j hj).2]
  | succ d ih =>
   intro r h
   show rdF (encV f (j + 1 + d) ++ numB (zig (f (j + 1 + d))) ++ r,0) j=_
   rw [List.append_assoc]
   exact ih _ (by omega)
 have:=key (7 - j) r (by omega)
 rwa [show j + 1 + (7 - j)=8 by omega] at this
theorem mayB_congr {f g:Nat→Int} (h:∀ j,j < 8→f j=g j):mayB f=mayB g:=by
 unfold mayB
 exact decide_eq_decide.2 ⟨fun k j hj=>by rw [← h j hj]; exact k j hj,fun k j hj=>by rw [h j hj]; exact k j hj⟩
theorem may_cov {f g:Nat→Int} {l:List A} (h:∀ j,j < 8→f j=g j) (m:MayP f l):MayP g l:=by
 refine ⟨fun j hj=>by rw [← h j hj]; exact m.seen j hj,m.few,m.less,fun x hx=>⟨?_,(m.cov x hx).2⟩⟩
 have:=(m.cov x hx).1
 rw [cov_iff] at this ⊢
 rw [← h _ (by omega)]
 exact this
theorem mayS_congr {f g:Nat→Int} {l:List A} (h:∀ j,j < 8→f j=g j):mayS f l=mayS g l:=by
 by_cases m:MayP f l
 ·rw [may_yes m,may_yes (may_cov h m)]
 ·rw [may_no m,may_no (fun k=>m (may_cov (fun j hj=>(h j hj).symm) k))]
theorem bk_sr {f:Nat→Int} {l:List A} (hr:∀ j,j < 8→-9223372036854775808≤f j∧f j≤9223372036854775807) (hl:∀ x ∈ l,Rng x) (hn:l.length≤140737488355328) (s:RS) (hs:s=(encV f 8 ++ (numB l.length ++ encL l),0)) :
  srB nodeP s=mayS f l∧(mayS f l=true→(∀ j,j < 8→srF nodeP s j=f j)∧srL nodeP s=l∧srS s=([],0)):=by
 have hv:rdV s 8=(numB l.length ++ encL l,0):=by rw [hs]; exact bk_vec hr 8 (by omega) _
 have hF:∀ j,j < 8→rdF s j=f j:=fun j hj=>by rw [hs]; exact bk_vecF hr hj _
 have hB:readB s=mayB f:=by
  unfold readB
  rw [hv,mayB_congr hF]
  simp
 by_cases hm:MayP f l
 ·have hB':readB s=true:=by
   rw [hB]
   simpa [mayB] using hm.seen
  have hR:readF s=rdF s:=by unfold readF; rw [if_pos hB']
  have hc:countS 16 (rdV s 8)=(l.length,(encL l,0)):=by rw [hv]; exact bk_count (by omega) _ hm.few
  have hd:∀ x ∈ l,x.data.length≤200:=fun x hx=>by
   have:=(hm.cov x hx).2
   unfold okData at this
   split at this <;> (have:=of_decide_eq_true this; omega)
  obtain ⟨l1,l2⟩:=bk_list hl hd []
  rw [List.append_nil] at l1 l2
  have hV:srV nodeP s=l:=by unfold srV; rw [hc]; exact l2
  have hS:srS s=([],0):=by unfold srS; rw [hc]; exact l1
  have h3:mayS (readF s) (srV nodeP s)=true:=by rw [hR,hV,mayS_congr hF]; exact may_yes hm
  obtain ⟨y1,y2,y3⟩:=sr_yes (nd:=nodeP) hB' (by rw [hS]; rfl) h3
  rw [may_yes hm]
  refine ⟨y1,fun _=>⟨fun j hj=>by rw [← y2,hR]; exact hF j hj,by rw [← y3]; exact hV,hS⟩⟩
 ·rw [may_no hm]
  refine ⟨?_,fun h=>by cases h⟩
  by_cases hs1:mayB f=true
  ·have hB':readB s=true:=by rw [hB]; exact hs1
   have hR:readF s=rdF s:=by unfold readF; rw [if_pos hB']
   by_cases h16:l.length≤16
   ·have hc:countS 16 (rdV s 8)=(l.length,(encL l,0)):=by rw [hv]; exact bk_count (by omega) _ h16
    by_cases hd:∀ x ∈ l,x.data.length≤200
    ·obtain ⟨l1,l2⟩:=bk_list hl hd []
     rw [List.append_nil] at l1 l2
     have hV:srV nodeP s=l:=by unfold srV; rw [hc]; exact l2
     exact (sr_no (.inr (.inr (by rw [hR,hV,mayS_congr hF]; exact may_no hm)))).1
    ·have l1:=bk_listlong hl hd []
     rw [List.append_nil] at l1
     refine (sr_no (.inr (.inl ?_))).1
     unfold srS
     rw [hc]
     simpa using l1
   ·have hc:countS 16 (rdV s 8)=(0,([],4)):=by rw [hv]; exact bk_over (by omega) _ (by omega)
    refine (sr_no (.inr (.inl ?_))).1
    unfold srS
    rw [hc]
    rfl
  ·refine (sr_no (.inl ?_)).1
   rw [hB]
   simpa using hs1
theorem strOf_key (key:ByteArray):strOf (keyL key)=key:=by
 have h:(strOf (keyL key)).data=key.data:=by
  apply Array.toList_inj.1
  simp [strOf,strOfNums,keyL,Function.comp_def]
 cases hk:strOf (keyL key)
 cases key
 rw [hk] at h
 simp only at h
 rw [h]
theorem bk_re {key:ByteArray} {f:Nat→Int} {l:List A} (hks:key.size≤140737488351232) (hr:∀ j,j < 8→-9223372036854775808≤f j∧f j≤9223372036854775807) (hl:∀ x ∈ l,Rng x) (hn:l.length≤140737488355328) :
  reB nodeP (encE (keyL key) f l,0)=(keyB key && mayS f l)∧(reB nodeP (encE (keyL key) f l,0)=true→reKey nodeP (encE (keyL key) f l,0)=key∧sameS (reF nodeP (encE (keyL key) f l,0)) f (reL nodeP (encE (keyL key) f l,0)) l=true∧endS (reS (encE (keyL key) f l,0))=0):=by
 obtain ⟨s,hs⟩:∃ s:RS,s=(encE (keyL key) f l,0):=⟨_,rfl⟩
 rw [← hs]
 have hk:=keyL_len key
 have es:s=(numB (keyL key).length ++ (keyL key ++ (encV f 8 ++ (numB l.length ++ encL l))),0):=by rw [hs]; simp [encE,List.append_assoc]
 by_cases h32:key.size≤32
 ·have ht:textS 32 s=(keyL key,(encV f 8 ++ (numB l.length ++ encL l),0)):=by rw [es]; exact bk_text _ _ (by omega) (by omega)
  have hK:reK s=key:=by unfold reK; rw [ht]; exact strOf_key key
  have hT:reT s=(encV f 8 ++ (numB l.length ++ encL l),0):=by unfold reT; rw [ht]
  obtain ⟨b1,b2⟩:=bk_sr hr hl hn (reT s) hT
  have e:reB nodeP s=(keyB key && mayS f l):=by
   unfold reB
   rw [b1,hK]
   cases hm:mayS f l
   ·simp
   ·obtain ⟨c1,c2,c3⟩:=b2 hm
    rw [c2,mayS_congr c1,hm]
    simp
  refine ⟨e,fun h=>?_⟩
  have hm:mayS f l=true:=by rw [e] at h; simp only [Bool.and_eq_true] at h; exact h.2
  obtain ⟨c1,c2,c3⟩:=b2 hm
  obtain ⟨y1,y2,y3⟩:=re_yes h
  refine ⟨by rw [← y1]; exact hK,?_,?_⟩
  ·rw [← y2,← y3,c2]
   exact same_iff.2 ⟨c1,rfl⟩
  ·unfold reS
   rw [c3]
   rfl
 ·have ht:textS 32 s=([],([],4)):=by rw [es]; exact bk_long _ _ (by omega) (by omega)
  have hT:reT s=([],4):=by unfold reT; rw [ht]
  have e:srB nodeP (reT s)=false:=by
   refine (sr_no (.inr (.inl ?_))).1
   rw [hT,er_sr (by simp)]
   rfl
  have e2:reB nodeP s=false:=by unfold reB; rw [e]; rfl
  rw [e2]
  refine ⟨?_,fun h=>by cases h⟩
  have:keyB key=false:=by unfold keyB; simp [h32]
  rw [this]; rfl
theorem encV_lt (f:Nat→Int):∀ n,∀ x ∈ encV f n,x < 256
 | 0,x,hx=>by simp [encV] at hx
 | n + 1,x,hx=>by
  rcases List.mem_append.1 hx with h | h
  ·exact encV_lt f n x h
  ·exact numB_lt _ _ h
theorem encA_lt {x:A} (hx:Rng x):∀ y ∈ encA x,y < 256:=by
 intro y hy
 unfold encA at hy
 simp only [List.mem_append,List.mem_cons] at hy
 rcases hy with h | h | h | h | h
 ·exact numB_lt _ _ h
 ·exact numB_lt _ _ h
 ·subst h; split <;> omega
 ·exact numB_lt _ _ h
 ·exact hx.lt y h
theorem encL_lt:∀ {l:List A},(∀ x ∈ l,Rng x)→∀ y ∈ encL l,y < 256
 | [],_,y,hy=>by simp [encL] at hy
 | x :: l,h,y,hy=>by
  rcases List.mem_append.1 hy with k | k
  ·exact encA_lt (h x (by simp)) y k
  ·exact encL_lt (fun z hz=>h z (by simp [hz])) y k
theorem keyL_lt (key:ByteArray):∀ x ∈ keyL key,x < 256:=by
 intro x hx
 simp only [keyL,List.mem_map] at hx
 obtain ⟨u,-,rfl⟩:=hx
 exact u.toNat_lt
theorem encE_lt {key:ByteArray} {f:Nat→Int} {l:List A} (hl:∀ x ∈ l,Rng x):∀ y ∈ encE (keyL key) f l,y < 256:=by
 intro y hy
 unfold encE at hy
 simp only [List.mem_append] at hy
 rcases hy with (h | h) | h | h | h
 ·exact numB_lt _ _ h
 ·exact keyL_lt key y h
 ·exact encV_lt f 8 y h
 ·exact numB_lt _ _ h
 ·exact encL_lt hl y h
end Go.Proofs.YthjbnpaghiojlaaGreat

namespace Go.Proofs.YthjbnpaghiojlaaGreat
theorem len_aside (p q:A→Bool) (xs ys:List A) (hne:∀ x ∈ xs,∀ y ∈ ys,¬ EQ x y):(mergeA p q xs ys).length=(xs.filter p).length + (ys.filter q).length:=by
 induction xs,ys using mergeA_ind with
 | case1 ys =>
  rw [mergeA_nil _ _ _ _ (.inl rfl)]
  simp
 | case2 x xs =>
  rw [mergeA_nil _ _ _ _ (.inr rfl)]
  simp
 | case3 x xs y ys h ih =>
  rw [mergeA_lt _ _ _ _ h,List.length_append,ih (fun x' hx'=>hne x' (by simp [hx']))]
  unfold keep
  cases hp:p x <;> simp [hp] <;> omega
 | case4 x xs y ys h h' ih =>
  rw [mergeA_gt _ _ _ _ (by simpa using h) h',List.length_append,ih (fun x' hx' y' hy'=>hne x' hx' y' (by simp [hy']))]
  unfold keep
  cases hq:q y <;> simp [hq] <;> omega
 | case5 x xs y ys h h' ih =>
  exfalso
  have h1:=not_less.1 (by simpa using h)
  have h2:=not_less.1 (by simpa using h')
  refine hne x (by simp) y (by simp) ?_
  unfold LT at h1 h2
  unfold EQ
  omega
theorem put_tells {f g:Nat→Int} {l:List A} {node:Int} {data:List Nat} {dead:Bool} (h1:MayP f l) (h:putE f g l node data dead=0) :
  ∃ n:A,n.node=node∧n.data=data∧n.dead=dead∧coversB f n.node n.num=false∧coversB g n.node n.num=false∧(∀ x ∈ l,¬ EQ x n)∧MayP (putV f g l node data dead) (putL f g l node data dead)∧(∀ j,j < 8→f j≤putV f g l node data dead j)∧(∀ j,j < 8→g j≤putV f g l node data dead j) ∧
   (∀ z,z ∈ putL f g l node data dead↔z=n∨z ∈ l∧coversB g z.node z.num=false)∧(putL f g l node data dead).length=(l.filter (nc g)).length + 1:=by
 have hE:=h
 cases hb:mayB g
 ·simp [putE,may_yes h1,hb] at h
 have hs:∀ j,j < 8→0≤g j∧g j≤1099511627776:=by simpa only [mayB,decide_eq_true_eq] using hb
 cases hok:okData data.length dead
 ·simp [putE,may_yes h1,hb,hok] at h
 rcases hx:nextV (maxV f g) node with ⟨n,N,er⟩
 by_cases her:er=0
 ·subst her
  have hr:putR f g l node data dead=mergeA (nc g) (nc (maxV f g)) l [⟨n,N,data,dead⟩]:=by simp only [putR,putN,hx]
  have hlen:(mergeA (nc g) (nc (maxV f g)) l [⟨n,N,data,dead⟩]).length≤16:=by
   rw [← hr]
   by_cases hl:16 < (putR f g l node data dead).length
   ·simp [putE,may_yes h1,hb,hok,hx,hl] at h
   ·omega
  have hnew:=not_cov_next hx
  have hnf:coversB f n N=false:=by
   cases hc:coversB f n N
   ·rfl
   ·have:coversB (maxV f g) n N=true:=cov_max.2 (.inl hc)
    rw [hnew] at this
    cases this
  have hng:coversB g n N=false:=by
   cases hc:coversB g n N
   ·rfl
   ·have:coversB (maxV f g) n N=true:=cov_max.2 (.inr hc)
    rw [hnew] at this
    cases this
  have hne:∀ x ∈ l,¬ EQ x (⟨n,N,data,dead⟩:A):=fun x hx e=>by
   have:=cov_dot e (h1.cov x hx).1
   simp only [hnf] at this
   cases this
  have hm:=may_put (p:=nc g) (q:=nc (maxV f g)) (dead:=dead) h1 hs hx hok hlen
  have hv:putV f g l node data dead=withV (maxV f g) n N:=by simp only [putV,hE,if_true,hx]
  have hl:putL f g l node data dead=mergeA (nc g) (nc (maxV f g)) l [⟨n,N,data,dead⟩]:=by simp only [putL,hE,if_true,hr]
  have hq:nc (maxV f g) (⟨n,N,data,dead⟩:A)=true:=by simp [nc,hnew]
  refine ⟨⟨n,N,data,dead⟩,(next_ok hx).2.1,rfl,rfl,hnf,hng,hne,by rw [hv,hl]; exact hm,fun j hj=>?_,fun j hj=>?_,fun z=>?_,?_⟩
  ·rw [hv]
   have:=with_le (f:=maxV f g) (n:=n) (N:=N) j hj
   have h3:f j≤maxV f g j:=by simp only [maxV]; omega
   omega
  ·rw [hv]
   have:=with_le (f:=maxV f g) (n:=n) (N:=N) j hj
   have h3:g j≤maxV f g j:=by simp only [maxV]; omega
   omega
  ·have hs1:Srt [(⟨n,N,data,dead⟩:A)]:=by simp [Srt]
   rw [hl,mem_merge _ _ _ _ (may_srt h1) hs1]
   constructor
   ·rintro (⟨x,hx,y,hy,e,-⟩ | ⟨hz,hp,-⟩ | ⟨hz,-,-⟩)
    ·simp only [List.mem_singleton] at hy
     subst hy
     exact (hne x hx e).elim
    ·exact .inr ⟨hz,by simpa [nc] using hp⟩
    ·exact .inl (by simpa using hz)
   ·rintro (rfl | ⟨hz,hc⟩)
    ·exact .inr (.inr ⟨by simp,hq,hne⟩)
    ·exact .inr (.inl ⟨hz,by simp [nc,hc],fun y hy=>by
      simp only [List.mem_singleton] at hy
      subst hy
      exact hne z hz⟩)
  ·rw [hl,len_aside _ _ _ _ (fun x hx y hy=>by
    simp only [List.mem_singleton] at hy
    subst hy
    exact hne x hx)]
   simp [hq]
 ·exfalso
  simp [putE,may_yes h1,hb,hok,hx,her] at h
theorem put_leq {f u:Nat→Int} {l k:List A} {n:A} {g:Nat→Int} (h1:MayP f l) (hu:MayP u k) (hle:∀ j,j < 8→f j≤u j) (hn:coversB f n.node n.num=false) (hne:∀ x ∈ l,¬ EQ x n) (hk:∀ z,z ∈ k↔z=n∨z ∈ l∧coversB g z.node z.num=false):leqS f u l k=true:=by
 have hs:=may_srt h1
 have uniq:∀ x ∈ l,∀ y ∈ l,EQ x y→x=y:=by
  intro x hx y hy e
  obtain ⟨i,hi,rfl⟩:=List.getElem_of_mem hx
  obtain ⟨j,hj,rfl⟩:=List.getElem_of_mem hy
  unfold Srt at hs
  rw [List.pairwise_iff_getElem] at hs
  rcases Nat.lt_trichotomy i j with h | h | h
  ·exact ((hs i j hi hj h).ne e).elim
  ·subst h
   rfl
  ·exact ((hs j i hj hi h).ne' e).elim
 refine leq_iff.2 ⟨h1,hu,hle,?_⟩
 have e:mergeA (nc u) (nc f) l k=k:=by
  refine srt_ext (srt_merge _ _ _ _ hs (may_srt hu)) (may_srt hu) (fun z=>?_)
  rw [mem_merge _ _ _ _ hs (may_srt hu)]
  constructor
  ·rintro (⟨x,hx,y,hy,e,he⟩ | ⟨hz,hp,-⟩ | ⟨hz,-,-⟩)
   ·rcases (hk y).1 hy with rfl | ⟨hy2,-⟩
    ·exact (hne x hx e).elim
    ·obtain rfl:=uniq x hx y hy2 e
     rw [he,first_self]
     exact hy
   ·rw [nc_iff] at hp
    exact (hp (cov_mono hle (h1.cov z hz).1)).elim
   ·exact hz
  ·intro hz
   rcases (hk z).1 hz with rfl | ⟨hz2,-⟩
   ·exact .inr (.inr ⟨hz,by simp [nc,hn],hne⟩)
   ·exact .inl ⟨z,hz2,z,hz,⟨rfl,rfl⟩,(first_self z).symm⟩
 rw [e]
 exact take_may hu
theorem put_join {f g:Nat→Int} {l:List A} {node:Int} {data:List Nat} {dead:Bool} (hf:Nrm f) (h1:MayP f l) (hp:Nrm (putV f g l node data dead)) (h:putE f g l node data dead=0) :
  joinV f (putV f g l node data dead) l (putL f g l node data dead)=putV f g l node data dead∧joinL f (putV f g l node data dead) l (putL f g l node data dead)=putL f g l node data dead:=by
 obtain ⟨n,-,-,-,c1,-,c2,c3,c4,-,c6,-⟩:=put_tells h1 h
 have hl:=put_leq h1 c3 c4 c1 c2 c6
 rw [leq_yes (may_yes h1) (may_yes c3)] at hl
 exact same_eq (nrm_join hf hp _ _) hp hl
theorem nrm_put {f g:Nat→Int} {l:List A} {node:Int} {data:List Nat} {dead:Bool} (hf:Nrm f) (hg:Nrm g):Nrm (putV f g l node data dead):=by
 intro j hj
 unfold putV
 split
 ·unfold withV
  split
  ·rename_i hn
   have hb:(nextV (maxV f g) node).1.toNat < 8:=by
    simp only [nodeB,decide_eq_true_eq] at hn
    omega
   simp only [upd]
   rw [if_neg (by omega)]
   simp [maxV,hf j hj,hg j hj]
  ·simp [maxV,hf j hj,hg j hj]
 ·rfl
theorem nrm_reap {f:Nat→Int} (hf:Nrm f) (l:List A):Nrm (reapV f l):=by
 unfold reapV
 split
 ·exact hf
 ·exact nrm_zer
theorem nrm_self {f:Nat→Int} (hf:Nrm f):nrm f=f:=by
 funext j
 unfold nrm
 split
 ·rfl
 ·exact (hf j (by omega)).symm
theorem nrm_eq {f g:Nat→Int} (h:∀ j,j < 8→f j=g j):nrm f=nrm g:=by
 funext j
 unfold nrm
 split
 ·exact h j (by assumption)
 ·rfl
structure RD where
 kind:Nat
 node:Int
 k:K
abbrev PS:=List K × List HK
def doR (s:PS) (r:RD):Option PS :=
 if r.kind=1 then (if (joinR s.1 r.k.key r.k.f r.k.l).er=0 then some ((joinR s.1 r.k.key r.k.f r.k.l).x,s.2) else none)
 else if r.kind=2 then (if (hpR s.2 ⟨r.node,r.k⟩).er=0 then some (s.1,(hpR s.2 ⟨r.node,r.k⟩).x) else none)
 else if r.kind=3 then some (s.1,delG HK.nk (r.node,r.k.key) s.2)
 else some (reapT s.1 r.k.key,s.2)
def enc (r:RD):List Nat :=
 numB r.kind ++ (if r.kind=1 then encE (keyL r.k.key) r.k.f r.k.l
  else if r.kind=2 then numB (u64N r.node) ++ encE (keyL r.k.key) r.k.f r.k.l
  else if r.kind=3 then numB (u64N r.node) ++ (numB (keyL r.k.key).length ++ keyL r.k.key)
  else numB (keyL r.k.key).length ++ keyL r.k.key)
def rdK (s:RS):K:=⟨reKey nodeP s,nrm (reF nodeP s),reL nodeP s⟩
def keyK (t:List Nat):K:=⟨strOf t,zer,[]⟩
def prs (bs:List Nat):Option RD :=
 if (numS (bs,0)).1=1 then (if reB nodeP (numS (bs,0)).2=true∧endS (reS (numS (bs,0)).2)=0 then some ⟨1,0,rdK (numS (bs,0)).2⟩ else none)
 else if (numS (bs,0)).1=2 then (if reB nodeP (countS 7 (numS (bs,0)).2).2=true∧endS (reS (countS 7 (numS (bs,0)).2).2)=0 then some ⟨2,((countS 7 (numS (bs,0)).2).1:Nat),rdK (countS 7 (numS (bs,0)).2).2⟩ else none)
 else if (numS (bs,0)).1=3 then (if keyB (strOf (textS 32 (countS 7 (numS (bs,0)).2).2).1)=true∧endS (textS 32 (countS 7 (numS (bs,0)).2).2).2=0 then some ⟨3,((countS 7 (numS (bs,0)).2).1:Nat),keyK (textS 32 (countS 7 (numS (bs,0)).2).2).1⟩ else none)
 else if (numS (bs,0)).1=4 then (if keyB (strOf (textS 32 (numS (bs,0)).2).1)=true∧endS (textS 32 (numS (bs,0)).2).2=0 then some ⟨4,0,keyK (textS 32 (numS (bs,0)).2).1⟩ else none)
 else none
def stepR (s:PS) (b:List Nat):Option PS:=(prs b).bind (doR s)
def runR:PS→List (List Nat)→Option PS
 | s,[]=>some s
 | s,b :: rs=>(stepR s b).bind fun s'=>runR s' rs
theorem runR_append:∀ (s:PS) (a b:List (List Nat)),runR s (a ++ b)=(runR s a).bind fun s'=>runR s' b
 | s,[],b=>rfl
 | s,x :: a,b=>by
  simp only [List.cons_append,runR]
  cases stepR s x with
  | none=>rfl
  | some s'=>simp only [Option.bind_some]; exact runR_append s' a b
theorem runR_snoc {s s' s'':PS} {a:List (List Nat)} {b:List Nat} (h:runR s a=some s') (k:stepR s' b=some s''):runR s (a ++ [b])=some s'':=by
 rw [runR_append,h]
 simp only [Option.bind_some,runR,k]
structure OkK (k:K):Prop where
 key:keyB k.key=true
 may:MayP k.f k.l
 nrm:Nrm k.f
 rng:∀ x ∈ k.l,Rng x
structure OkR (r:RD):Prop where
 is:(r.kind=1∧r.node=0∧OkK r.k)∨(r.kind=2∧nodeOk r.node=true∧OkK r.k)∨(r.kind=3∧nodeOk r.node=true∧keyB r.k.key=true∧r.k.f=zer∧r.k.l=[])∨(r.kind=4∧r.node=0∧keyB r.k.key=true∧r.k.f=zer∧r.k.l=[])
theorem key_size {s:ByteArray} (h:keyB s=true):1≤s.size∧s.size≤32:=by
 simpa only [keyB,Bool.and_eq_true,decide_eq_true_eq] using h
theorem OkK.sees {k:K} (h:OkK k):∀ j,j < 8→-9223372036854775808≤k.f j∧k.f j≤9223372036854775807:=fun j hj=>by
 have:=h.may.seen j hj
 omega
theorem OkK.back {k:K} (h:OkK k):reB nodeP (encE (keyL k.key) k.f k.l,0)=true∧endS (reS (encE (keyL k.key) k.f k.l,0))=0∧rdK (encE (keyL k.key) k.f k.l,0)=k:=by
 have hk:=key_size h.key
 obtain ⟨b1,b2⟩:=bk_re (key:=k.key) (f:=k.f) (l:=k.l) (by omega) h.sees h.rng (by have:=h.may.few; omega)
 have e:reB nodeP (encE (keyL k.key) k.f k.l,0)=true:=by rw [b1,h.key,may_yes h.may]; rfl
 obtain ⟨c1,c2,c3⟩:=b2 e
 obtain ⟨d1,d2⟩:=same_iff.1 c2
 refine ⟨e,c3,?_⟩
 obtain ⟨key,f,l⟩:=k
 unfold rdK
 simp only at c1 d1 d2 ⊢
 rw [c1,d2,nrm_eq d1,nrm_self h.nrm]
theorem back_text {key:ByteArray} (h:keyB key=true) (l:List Nat):textS 32 (numB (keyL key).length ++ (keyL key ++ l),0)=(keyL key,(l,0)):=by
 have hk:=key_size h
 have hl:=keyL_len key
 exact bk_text _ _ (by omega) (by omega)
theorem node_nat {n:Int} (h:nodeOk n=true):u64N n=n.toNat∧n.toNat≤7∧((n.toNat:Nat):Int)=n:=by
 simp only [nodeOk,Bool.and_eq_true,decide_eq_true_eq] at h
 unfold u64N
 omega
theorem prs_enc {r:RD} (h:OkR r):prs (enc r)=some r:=by
 obtain ⟨kind,node,k⟩:=r
 rcases h.is with ⟨e,hn,hk⟩ | ⟨e,hn,hk⟩ | ⟨e,hn,hk,hf,hl⟩ | ⟨e,hn,hk,hf,hl⟩ <;> simp only at e hn hk <;> subst e
 ·obtain ⟨b1,b2,b3⟩:=hk.back
  have en:enc ⟨1,node,k⟩=numB 1 ++ encE (keyL k.key) k.f k.l:=rfl
  have e1:numS (enc ⟨1,node,k⟩,0)=(1,(encE (keyL k.key) k.f k.l,0)):=by rw [en]; exact bk_num (by decide) _
  unfold prs
  rw [e1]
  simp only [if_true,b1,b2,and_self,b3,hn]
 ·obtain ⟨b1,b2,b3⟩:=hk.back
  obtain ⟨n1,n2,n3⟩:=node_nat hn
  have en:enc ⟨2,node,k⟩=numB 2 ++ (numB (u64N node) ++ encE (keyL k.key) k.f k.l):=rfl
  have e1:numS (enc ⟨2,node,k⟩,0)=(2,(numB (u64N node) ++ encE (keyL k.key) k.f k.l,0)):=by rw [en]; exact bk_num (by decide) _
  have e2:countS 7 (numB (u64N node) ++ encE (keyL k.key) k.f k.l,0)=(node.toNat,(encE (keyL k.key) k.f k.l,0)):=by rw [n1]; exact bk_count (by omega) _ n2
  unfold prs
  rw [e1]
  simp only [e2,b1,b2,and_self,b3,n3,if_true]
  rfl
 ·obtain ⟨n1,n2,n3⟩:=node_nat hn
  obtain ⟨key,f,l⟩:=k
  simp only at hk hf hl
  subst hf hl
  have en:enc ⟨3,node,⟨key,zer,[]⟩⟩=numB 3 ++ (numB (u64N node) ++ (numB (keyL key).length ++ (keyL key ++ []))):=by rw [List.append_nil]; rfl
  have e1:numS (enc ⟨3,node,⟨key,zer,[]⟩⟩,0)=(3,(numB (u64N node) ++ (numB (keyL key).length ++ (keyL key ++ [])),0)):=by rw [en]; exact bk_num (by decide) _
  have e2:countS 7 (numB (u64N node) ++ (numB (keyL key).length ++ (keyL key ++ [])),0)=(node.toNat,(numB (keyL key).length ++ (keyL key ++ []),0)):=by rw [n1]; exact bk_count (by omega) _ n2
  have e3:=back_text hk []
  have e4:strOf (keyL key)=key:=strOf_key key
  unfold prs
  rw [e1]
  simp only [e2,e3,e4,hk,n3,keyK]
  simp [endS]
 ·obtain ⟨key,f,l⟩:=k
  simp only at hk hf hl hn
  subst hf hl hn
  have en:enc ⟨4,0,⟨key,zer,[]⟩⟩=numB 4 ++ (numB (keyL key).length ++ (keyL key ++ [])):=by rw [List.append_nil]; rfl
  have e1:numS (enc ⟨4,0,⟨key,zer,[]⟩⟩,0)=(4,(numB (keyL key).length ++ (keyL key ++ []),0)):=by rw [en]; exact bk_num (by decide) _
  have e3:=back_text hk []
  have e4:strOf (keyL key)=key:=strOf_key key
  unfold prs
  rw [e1]
  simp only [e3,e4,hk,keyK]
  simp [endS]
theorem encV_len {f:Nat→Int} (hr:∀ j,j < 8→-9223372036854775808≤f j∧f j≤9223372036854775807):∀ n,n≤8→(encV f n).length≤n * 10
 | 0,_=>by simp [encV]
 | n + 1,h=>by
  have h1:=encV_len hr n (by omega)
  have h2:=numB_ten (zig_lt (hr n (by omega)).1 (hr n (by omega)).2)
  simp only [encV,List.length_append]
  omega
theorem encA_len {x:A} (hx:Rng x) (h:x.data.length≤200):(encA x).length≤231:=by
 have h1:=numB_ten (u64N_lt x.node)
 have h2:=numB_ten (zig_lt hx.m0 hx.m1)
 have h3:=numB_ten (n:=x.data.length) (by omega)
 simp only [encA,List.length_append,List.length_cons]
 omega
theorem encL_len:∀ {l:List A},(∀ x ∈ l,Rng x)→(∀ x ∈ l,x.data.length≤200)→(encL l).length≤l.length * 231
 | [],_,_=>by simp [encL]
 | x :: l,h1,h2=>by
  have a:=encA_len (h1 x (by simp)) (h2 x (by simp))
  have b:=encL_len (l:=l) (fun y hy=>h1 y (by simp [hy])) (fun y hy=>h2 y (by simp [hy]))
  simp only [encL,List.length_append,List.length_cons,Nat.succ_mul]
  omega
theorem OkK.data {k:K} (h:OkK k):∀ x ∈ k.l,x.data.length≤200:=fun x hx=>by
 have:=(h.may.cov x hx).2
 unfold okData at this
 split at this <;> (have:=of_decide_eq_true this; omega)
theorem OkK.len {k:K} (h:OkK k):(encE (keyL k.key) k.f k.l).length≤3900:=by
 have h1:=encV_len h.sees 8 (by omega)
 have h2:=encL_len h.rng h.data
 have h3:=h.may.few
 have h4:=key_size h.key
 have h5:=keyL_len k.key
 have h6:=numB_ten (n:=(keyL k.key).length) (by omega)
 have h7:=numB_ten (n:=k.l.length) (by omega)
 have h8:k.l.length * 231≤16 * 231:=Nat.mul_le_mul_right _ h3
 simp only [encE,List.length_append]
 omega
theorem enc_len {r:RD} (h:OkR r):(enc r).length≤4000:=by
 obtain ⟨kind,node,k⟩:=r
 have hu:=numB_ten (u64N_lt node)
 rcases h.is with ⟨e,hn,hk⟩ | ⟨e,hn,hk⟩ | ⟨e,hn,hk,hf,hl⟩ | ⟨e,hn,hk,hf,hl⟩ <;> simp only at e hn hk <;> subst e
 ·have:=hk.len
  have h1:=numB_ten (n:=1) (by omega)
  have en:enc ⟨1,node,k⟩=numB 1 ++ encE (keyL k.key) k.f k.l:=rfl
  rw [en,List.length_append]
  omega
 ·have:=hk.len
  have h1:=numB_ten (n:=2) (by omega)
  have en:enc ⟨2,node,k⟩=numB 2 ++ (numB (u64N node) ++ encE (keyL k.key) k.f k.l):=rfl
  rw [en,List.length_append,List.length_append]
  omega
 ·have h4:=key_size hk
  have h5:=keyL_len k.key
  have h6:=numB_ten (n:=(keyL k.key).length) (by omega)
  have h1:=numB_ten (n:=3) (by omega)
  have en:enc ⟨3,node,k⟩=numB 3 ++ (numB (u64N node) ++ (numB (keyL k.key).length ++ keyL k.key)):=rfl
  rw [en,List.length_append,List.length_append,List.length_append]
  omega
 ·have h4:=key_size hk
  have h5:=keyL_len k.key
  have h6:=numB_ten (n:=(keyL k.key).length) (by omega)
  have h1:=numB_ten (n:=4) (by omega)
  have en:enc ⟨4,node,k⟩=numB 4 ++ (numB (keyL k.key).length ++ keyL k.key):=rfl
  rw [en,List.length_append,List.length_append]
  omega
theorem enc_lt {r:RD} (h:OkR r):∀ x ∈ enc r,x < 256:=by
 obtain ⟨kind,node,k⟩:=r
 intro x hx
 unfold enc at hx
 rcases List.mem_append.1 hx with hx | hx
 ·exact numB_lt _ _ hx
 rcases h.is with ⟨e,hn,hk⟩ | ⟨e,hn,hk⟩ | ⟨e,hn,hk,hf,hl⟩ | ⟨e,hn,hk,hf,hl⟩ <;> simp only at e hn hk <;> subst e
 ·exact encE_lt hk.rng x hx
 ·rcases List.mem_append.1 (show x ∈ numB (u64N node) ++ encE (keyL k.key) k.f k.l from hx) with hx | hx
  ·exact numB_lt _ _ hx
  ·exact encE_lt hk.rng x hx
 ·have hx:x ∈ numB (u64N node) ++ (numB (keyL k.key).length ++ keyL k.key):=hx
  simp only [List.mem_append] at hx
  rcases hx with hx | hx | hx
  ·exact numB_lt _ _ hx
  ·exact numB_lt _ _ hx
  ·exact keyL_lt _ _ hx
 ·have hx:x ∈ numB (keyL k.key).length ++ keyL k.key:=hx
  rcases List.mem_append.1 hx with hx | hx
  ·exact numB_lt _ _ hx
  ·exact keyL_lt _ _ hx
theorem rec_enc {r:RD} (h:OkR r):Rec (enc r):=⟨by have:=enc_len h; omega,enc_lt h⟩
structure OkP (s:PS):Prop where
 ok:∀ x ∈ s.1,OkK x
 sor:Sor K.key s.1
 few:s.1.length≤256
 set:OkS s.2
 rng:∀ y ∈ s.2,∀ x ∈ y.k.l,Rng x
theorem OkP.nil:OkP ([],[]):=⟨fun _ h=>by simp at h,List.Pairwise.nil,by simp,OkS.nil,fun _ h=>by simp at h⟩
theorem OkP.tab {s:PS} (h:OkP s):OkT s.1:=⟨fun x hx=>(h.ok x hx).may,fun x hx=>(h.ok x hx).key⟩
theorem OkP.hint {s:PS} (h:OkP s) {y:HK} (hy:y ∈ s.2):nodeOk y.node=true∧OkK y.k:=by
 obtain ⟨a,b,c⟩:=okH_iff.1 (h.set.ok y hy)
 exact ⟨a,b,c,h.set.nrm y hy,h.rng y hy⟩
def recs (s:PS):List RD:=s.1.map (fun k=>(⟨1,0,k⟩:RD)) ++ s.2.map fun h=>(⟨2,h.node,h.k⟩:RD)
theorem OkP.recs {s:PS} (h:OkP s):∀ r ∈ recs s,OkR r:=by
 intro r hr
 rcases List.mem_append.1 hr with hr | hr
 ·obtain ⟨x,hx,rfl⟩:=List.mem_map.1 hr
  exact ⟨.inl ⟨rfl,rfl,h.ok x hx⟩⟩
 ·obtain ⟨x,hx,rfl⟩:=List.mem_map.1 hr
  exact ⟨.inr (.inl ⟨rfl,h.hint hx⟩)⟩
theorem recs_len {s:PS} (h:OkP s):(recs s).length≤320:=by
 have h1:=h.few
 have h2:=h.set.few
 simp only [recs,List.length_append,List.length_map]
 omega
def cmp (s:PS):List (List Nat):=(recs s).map enc
theorem put_end {X:List K} {x:K} (h:Sor K.key (X ++ [x])):putG K.key x X=X ++ [x]:=by
 have h1:=List.pairwise_append.1 h
 refine sor_ext K.key (sor_putG K.key h1.1) h (fun z=>?_)
 rw [mem_putG K.key,List.mem_append,List.mem_singleton]
 constructor
 ·rintro (h | ⟨h,-⟩)
  ·exact .inr h
  ·exact .inl h
 ·rintro (h | h)
  ·exact .inr ⟨h,blt_ne (h1.2.2 z h x (by simp))⟩
  ·exact .inl h
theorem put_endH {X:List HK} {x:HK} (h:SorH HK.nk (X ++ [x])):putGH HK.nk x X=X ++ [x]:=by
 have h1:=List.pairwise_append.1 h
 refine sor_extH HK.nk (sor_putGH HK.nk h1.1) h (fun z=>?_)
 rw [mem_putGH HK.nk,List.mem_append,List.mem_singleton]
 constructor
 ·rintro (h | ⟨h,-⟩)
  ·exact .inr h
  ·exact .inl h
 ·rintro (h | h)
  ·exact .inr ⟨h,plt_ne (h1.2.2 z h x (by simp))⟩
  ·exact .inl h
theorem run_tab {Y:List HK}:∀ (b a:List K),(∀ x ∈ a ++ b,OkK x)→Sor K.key (a ++ b)→(a ++ b).length≤256→runR (a,Y) (b.map fun k=>enc ⟨1,0,k⟩)=some (a ++ b,Y)
 | [],a,_,_,_=>by simp [runR]
 | x :: b,a,h1,h2,h3=>by
  have hx:OkK x:=h1 x (by simp)
  have e0:a ++ x :: b=a ++ [x] ++ b:=by simp
  have hs:Sor K.key (a ++ [x]):=by
   rw [e0] at h2
   exact (List.pairwise_append.1 h2).1
  have hnf:fndG K.key x.key a=none:=(fnd_none K.key).2 fun y hy=>blt_ne ((List.pairwise_append.1 hs).2.2 y hy x (by simp))
  have hlen:¬ 256≤a.length:=by
   simp only [List.length_append,List.length_cons] at h3
   omega
  have hj:=joinR_new (X:=a) (k:=x.key) (f:=x.f) (l:=x.l) (by rw [hx.key,may_yes hx.may]; rfl) hnf hlen
  obtain ⟨z1,z2⟩:=join_zero hx.may hx.nrm
  rw [z1,z2,put_end hs] at hj
  have hd:doR (a,Y) ⟨1,0,x⟩=some (a ++ [x],Y):=by
   unfold doR
   simp only [if_true,hj]
  have hst:stepR (a,Y) (enc ⟨1,0,x⟩)=some (a ++ [x],Y):=by
   unfold stepR
   rw [prs_enc ⟨.inl ⟨rfl,rfl,hx⟩⟩]
   exact hd
  simp only [List.map_cons,runR,hst,Option.bind_some]
  rw [run_tab b (a ++ [x]) (by rw [← e0]; exact h1) (by rw [← e0]; exact h2) (by rw [← e0]; exact h3),e0]
theorem run_set {X:List K}:∀ (b a:List HK),(∀ y ∈ a ++ b,nodeOk y.node=true∧OkK y.k)→SorH HK.nk (a ++ b)→(a ++ b).length≤64→runR (X,a) (b.map fun h=>enc ⟨2,h.node,h.k⟩)=some (X,a ++ b)
 | [],a,_,_,_=>by simp [runR]
 | y :: b,a,h1,h2,h3=>by
  have hy:=h1 y (by simp)
  have e0:a ++ y :: b=a ++ [y] ++ b:=by simp
  have hs:SorH HK.nk (a ++ [y]):=by
   rw [e0] at h2
   exact (List.pairwise_append.1 h2).1
  have hnf:fndGH HK.nk y.nk a=none:=(fnd_noneH HK.nk).2 fun z hz=>plt_ne ((List.pairwise_append.1 hs).2.2 z hz y (by simp))
  have hlen:¬ 64≤a.length:=by
   simp only [List.length_append,List.length_cons] at h3
   omega
  have hj:=hpR_new (X:=a) (h:=y) (okH_iff.2 ⟨hy.1,hy.2.key,hy.2.may⟩) hnf hlen
  rw [put_endH hs] at hj
  have hd:doR (X,a) ⟨2,y.node,y.k⟩=some (X,a ++ [y]):=by
   unfold doR
   have e:(⟨y.node,y.k⟩:HK)=y:=rfl
   simp only [e,hj,if_true]
   rfl
  have hst:stepR (X,a) (enc ⟨2,y.node,y.k⟩)=some (X,a ++ [y]):=by
   unfold stepR
   rw [prs_enc ⟨.inr (.inl ⟨rfl,hy⟩)⟩]
   exact hd
  simp only [List.map_cons,runR,hst,Option.bind_some]
  rw [run_set b (a ++ [y]) (by rw [← e0]; exact h1) (by rw [← e0]; exact h2) (by rw [← e0]; exact h3),e0]
theorem run_cmp {s:PS} (h:OkP s):runR ([],[]) (cmp s)=some s:=by
 obtain ⟨X,Y⟩:=s
 have e:cmp (X,Y)=(X.map fun k=>enc ⟨1,0,k⟩) ++ Y.map fun h=>enc ⟨2,h.node,h.k⟩:=by
  simp [cmp,recs,Function.comp_def]
 rw [e,runR_append,run_tab X [] h.ok h.sor h.few]
 simp only [Option.bind_some,List.nil_append]
 exact run_set Y [] (fun y hy=>h.hint hy) h.set.sor h.set.few
theorem OkP.rec_ {s:PS} (h:OkP s):∀ r ∈ cmp s,Rec r:=fun r hr=>by
 obtain ⟨x,hx,rfl⟩:=List.mem_map.1 hr
 exact rec_enc (h.recs x hx)
def layL (most:Nat) (rs:List (List Nat)) (s:PS) (b:List Nat):List (List Nat) :=
 if (frs rs).length + b.length + 8≤most then rs ++ [b] else if most < (frs (cmp s)).length then rs else if (frs (cmp s)).length + b.length + 8≤most then cmp s ++ [b] else cmp s
def layE (most:Nat) (rs:List (List Nat)) (s:PS) (b:List Nat):Int :=
 if (frs rs).length + b.length + 8≤most then 0 else if most < (frs (cmp s)).length then 5 else if (frs (cmp s)).length + b.length + 8≤most then 0 else 5
theorem layE_or (most:Nat) (rs:List (List Nat)) (s:PS) (b:List Nat):layE most rs s b=0∨layE most rs s b=5:=by
 unfold layE
 split
 ·exact .inl rfl
 ·split
  ·exact .inr rfl
  ·split
   ·exact .inl rfl
   ·exact .inr rfl
structure Inv (rs:List (List Nat)) (s:PS):Prop where
 ok:OkP s
 run:runR ([],[]) rs=some s
 rec_:∀ r ∈ rs,Rec r
theorem Inv.nil:Inv [] ([],[]):=⟨OkP.nil,rfl,fun _ h=>by simp at h⟩
theorem Inv.cmp {s:PS} (h:OkP s):Inv (cmp s) s:=⟨h,run_cmp h,h.rec_⟩
theorem Inv.snoc {rs:List (List Nat)} {s s':PS} {r:RD} (h:Inv rs s) (hr:OkR r) (hd:doR s r=some s') (ho:OkP s'):Inv (rs ++ [enc r]) s' :=
 ⟨ho,runR_snoc h.run (by unfold stepR; rw [prs_enc hr]; exact hd),fun x hx=>by
  rcases List.mem_append.1 hx with hx | hx
  ·exact h.rec_ x hx
  ·rw [List.mem_singleton.1 hx]
   exact rec_enc hr⟩
theorem rng_merge {p q:A→Bool} {l k:List A} (hl:Srt l) (hk:Srt k) (h1:∀ x ∈ l,Rng x) (h2:∀ x ∈ k,Rng x):∀ x ∈ mergeA p q l k,Rng x:=fun x hx=>by
 rw [mem_merge _ _ _ _ hl hk] at hx
 rcases inM_mem hx with h | h
 ·exact h1 x h
 ·exact h2 x h
theorem rng_join {f g:Nat→Int} {l k:List A} (h1:∀ x ∈ l,Rng x) (h2:∀ x ∈ k,Rng x):∀ x ∈ joinL f g l k,Rng x:=fun x hx=>by
 unfold joinL at hx
 split at hx
 ·rename_i e
  exact rng_merge (may_srt (may_iff.1 e.1)) (may_srt (may_iff.1 e.2)) h1 h2 x (List.mem_of_mem_take hx)
 ·simp at hx
theorem rng_reap {f:Nat→Int} {l:List A} (h1:∀ x ∈ l,Rng x):∀ x ∈ reapL f l,Rng x:=fun x hx=>by
 unfold reapL at hx
 split at hx
 ·exact h1 x hx
 ·simp at hx
theorem OkK.join {u k:K} (hu:MayP u.f u.l∧Nrm u.f∧∀ x ∈ u.l,Rng x) (hk:OkK k):OkK ⟨k.key,joinV u.f k.f u.l k.l,joinL u.f k.f u.l k.l⟩ :=
 ⟨hk.key,join_ok hu.1 hk.may,nrm_join hu.2.1 hk.nrm _ _,rng_join hu.2.2 hk.rng⟩
theorem OkK.reap {u:K} (h:OkK u):OkK ⟨u.key,reapV u.f u.l,reapL u.f u.l⟩:=⟨h.key,reap_ok h.may,nrm_reap h.nrm _,rng_reap h.rng⟩
theorem zer_ok:MayP zer []∧Nrm zer∧∀ x ∈ ([]:List A),Rng x:=⟨may_zer,nrm_zer,fun x hx=>by simp at hx⟩
theorem OkP.put {s:PS} (h:OkP s) {x:K} (hx:OkK x) (hl:(putG K.key x s.1).length≤256):OkP (putG K.key x s.1,s.2) :=
 ⟨fun y hy=>by
  rcases (mem_putG K.key).1 hy with rfl | ⟨hy,-⟩
  ·exact hx
  ·exact h.ok y hy,sor_putG K.key h.sor,hl,h.set,h.rng⟩
theorem OkP.doR {s s':PS} {r:RD} (h:OkP s) (hr:OkR r) (hd:doR s r=some s'):OkP s':=by
 obtain ⟨kind,node,k⟩:=r
 rcases hr.is with ⟨e,hn,hk⟩ | ⟨e,hn,hk⟩ | ⟨e,hn,hk,hf,hl⟩ | ⟨e,hn,hk,hf,hl⟩ <;> simp only at e hn hk <;> subst e
 ·unfold Go.Proofs.YthjbnpaghiojlaaGreat.doR at hd
  simp only [if_true] at hd
  split at hd
  ·rename_i he
   simp only [Option.some.injEq] at hd
   subst hd
   rcases joinR_ways s.1 k.key k.f k.l with ⟨-,e⟩ | ⟨-,-,-,-,e⟩ | ⟨-,-,hfn,hlen,e⟩ | ⟨u,-,-,hfn,e⟩
   ·rw [e] at he; simp at he
   ·rw [e] at he; simp at he
   ·rw [e]
    refine h.put (OkK.join (u:=⟨k.key,zer,[]⟩) zer_ok hk) ?_
    rw [len_putG K.key h.sor]
    split <;> omega
   ·rw [e]
    have hu:=h.ok u (fnd_mem K.key hfn).1
    refine h.put (OkK.join ⟨hu.may,hu.nrm,hu.rng⟩ hk) ?_
    rw [len_putG K.key h.sor,if_pos (by simp only; rw [hfn]; rfl)]
    exact h.few
  ·simp at hd
 ·unfold Go.Proofs.YthjbnpaghiojlaaGreat.doR at hd
  simp only [show ¬ (2:Nat)=1 by decide,if_false,if_true] at hd
  split at hd
  ·rename_i he
   simp only [Option.some.injEq] at hd
   subst hd
   refine ⟨h.ok,h.sor,h.few,h.set.hpR hk.nrm,fun y hy=>?_⟩
   rcases hpR_ways (X:=s.2) ⟨node,k⟩ with ⟨-,e⟩ | ⟨-,-,-,e⟩ | ⟨ho,hfn,hlen,e⟩ | ⟨u,ho,hfn,e⟩ <;> rw [e] at hy
   ·exact h.rng y hy
   ·exact h.rng y hy
   ·rcases (mem_putGH HK.nk).1 hy with rfl | ⟨hy,-⟩
    ·exact hk.rng
    ·exact h.rng y hy
   ·rcases (mem_putGH HK.nk).1 hy with rfl | ⟨hy,-⟩
    ·exact rng_join (h.rng u (fnd_memH HK.nk hfn).1) hk.rng
    ·exact h.rng y hy
  ·simp at hd
 ·unfold Go.Proofs.YthjbnpaghiojlaaGreat.doR at hd
  simp only [show ¬ (3:Nat)=1 by decide,show ¬ (3:Nat)=2 by decide,if_false,if_true,Option.some.injEq] at hd
  subst hd
  exact ⟨h.ok,h.sor,h.few,h.set.del _,fun y hy=>h.rng y ((mem_delG HK.nk).1 hy).1⟩
 ·unfold Go.Proofs.YthjbnpaghiojlaaGreat.doR at hd
  simp only [show ¬ (4:Nat)=1 by decide,show ¬ (4:Nat)=2 by decide,show ¬ (4:Nat)=3 by decide,if_false,Option.some.injEq] at hd
  subst hd
  unfold reapT
  cases hfn:fndG K.key k.key s.1 with
  | none=>exact h
  | some u =>
   simp only
   split
   ·exact h
   ·have hu:=h.ok u (fnd_mem K.key hfn).1
    have hku:u.key=k.key:=(fnd_mem K.key hfn).2
    have:=hu.reap
    rw [hku] at this
    refine h.put this ?_
    rw [len_putG K.key h.sor,if_pos (by simp only; rw [hfn]; rfl)]
    exact h.few
theorem Inv.lay {rs:List (List Nat)} {s s':PS} {r:RD} (h:Inv rs s) (hr:OkR r) (hd:Go.Proofs.YthjbnpaghiojlaaGreat.doR s r=some s') (most:Nat) :
  (layE most rs s (enc r)=0→Inv (layL most rs s (enc r)) s')∧(layE most rs s (enc r) ≠ 0→Inv (layL most rs s (enc r)) s):=by
 have ho:=h.ok.doR hr hd
 unfold layE layL
 split
 ·exact ⟨fun _=>h.snoc hr hd ho,fun e=>absurd rfl e⟩
 ·split
  ·exact ⟨fun e=>by simp at e,fun _=>h⟩
  ·split
   ·exact ⟨fun _=>(Inv.cmp h.ok).snoc hr hd ho,fun e=>absurd rfl e⟩
   ·exact ⟨fun e=>by simp at e,fun _=>Inv.cmp h.ok⟩
end Go.Proofs.YthjbnpaghiojlaaGreat

namespace Go.Proofs.YthjbnpaghiojlaaGreat
open Go.RowKit
theorem cel12 {b:Nat} {t:TypeId} {s0 s1 s2 s3 s4 s5 s6 s7 s8 s9 s10 s11:Value} {w:World} (h:Cel b t #[s0,s1,s2,s3,s4,s5,s6,s7,s8,s9,s10,s11] w):w.cell? ⟨b,0,none⟩=some s0∧w.cell? ⟨b,1,none⟩=some s1∧w.cell? ⟨b,2,none⟩=some s2∧w.cell? ⟨b,3,none⟩=some s3∧w.cell? ⟨b,4,none⟩=some s4∧w.cell? ⟨b,5,none⟩=some s5∧w.cell? ⟨b,6,none⟩=some s6∧w.cell? ⟨b,7,none⟩=some s7∧w.cell? ⟨b,8,none⟩=some s8∧w.cell? ⟨b,9,none⟩=some s9∧w.cell? ⟨b,10,none⟩=some s10∧w.cell? ⟨b,11,none⟩=some s11 :=
 ⟨h.cell 0,h.cell 1,h.cell 2,h.cell 3,h.cell 4,h.cell 5,h.cell 6,h.cell 7,h.cell 8,h.cell 9,h.cell 10,h.cell 11⟩
theorem Cel.st12 {b:Nat} {t:TypeId} {s0 s1 s2 s3 s4 s5 s6 s7 s8 s9 s10 s11 v0 v1 v2 v3 v4 v5 v6 v7 v8 v9 v10 v11:Value} {w:World} (h:Cel b t #[s0,s1,s2,s3,s4,s5,s6,s7,s8,s9,s10,s11] w):Cel b t #[v0,v1,v2,v3,v4,v5,v6,v7,v8,v9,v10,v11] ((((((((((((w.setCell ⟨b,0,none⟩ (v0)).setCell ⟨b,1,none⟩ (v1)).setCell ⟨b,2,none⟩ (v2)).setCell ⟨b,3,none⟩ (v3)).setCell ⟨b,4,none⟩ (v4)).setCell ⟨b,5,none⟩ (v5)).setCell ⟨b,6,none⟩ (v6)).setCell ⟨b,7,none⟩ (v7)).setCell ⟨b,8,none⟩ (v8)).setCell ⟨b,9,none⟩ (v9)).setCell ⟨b,10,none⟩ (v10)).setCell ⟨b,11,none⟩ (v11)):=by
 replace h:=h.set 0 v0
 simp only [List.setIfInBounds_toArray,List.set_cons_zero] at h
 replace h:=h.set 1 v1
 simp only [lsA,lsZ,lsS] at h
 replace h:=h.set 2 v2
 simp only [lsA,lsZ,lsS] at h
 replace h:=h.set 3 v3
 simp only [lsA,lsZ,lsS] at h
 replace h:=h.set 4 v4
 simp only [lsA,lsZ,lsS] at h
 replace h:=h.set 5 v5
 simp only [lsA,lsZ,lsS] at h
 replace h:=h.set 6 v6
 simp only [lsA,lsZ,lsS] at h
 replace h:=h.set 7 v7
 simp only [lsA,lsZ,lsS] at h
 replace h:=h.set 8 v8
 simp only [lsA,lsZ,lsS] at h
 replace h:=h.set 9 v9
 simp only [lsA,lsZ,lsS] at h
 replace h:=h.set 10 v10
 simp only [lsA,lsZ,lsS] at h
 replace h:=h.set 11 v11
 simp only [lsA,lsZ,lsS] at h
 exact h
theorem Off.st12 {D:Nat→Prop} {a w:World} {b:Nat} {v0 v1 v2 v3 v4 v5 v6 v7 v8 v9 v10 v11:Value} (h:Off D a w) (hb:D b∨a.heap.size≤b):Off D a ((((((((((((w.setCell ⟨b,0,none⟩ (v0)).setCell ⟨b,1,none⟩ (v1)).setCell ⟨b,2,none⟩ (v2)).setCell ⟨b,3,none⟩ (v3)).setCell ⟨b,4,none⟩ (v4)).setCell ⟨b,5,none⟩ (v5)).setCell ⟨b,6,none⟩ (v6)).setCell ⟨b,7,none⟩ (v7)).setCell ⟨b,8,none⟩ (v8)).setCell ⟨b,9,none⟩ (v9)).setCell ⟨b,10,none⟩ (v10)).setCell ⟨b,11,none⟩ (v11)):=((((((((((((h.setCell hb _).setCell hb _).setCell hb _).setCell hb _).setCell hb _).setCell hb _).setCell hb _).setCell hb _).setCell hb _).setCell hb _).setCell hb _).setCell hb _)
theorem results_rec {fn:Func} {p:Tmp} (h:fn.results=#[.cell p 103]) {tmps:Array Value} {w:World} {b:Nat} {s0 s1 s2 s3 s4 s5 s6 s7 s8 s9 s10 s11:Value} (hp:tmps.getD p undef=.pointer (some ⟨b,0,none⟩)) (hc:Cel b 103 #[s0,s1,s2,s3,s4,s5,s6,s7,s8,s9,s10,s11] w) :
  (results fn tmps).run Tryz.prog w=.ok (.agg #[s0,s1,s2,s3,s4,s5,s6,s7,s8,s9,s10,s11]) w:=by
 obtain ⟨d,hd⟩:∃ d,Tryz.prog.underlying 103=some (.struct d):=⟨_,Tryz.underlying103⟩
 exact results_cell_row h tmps w b 103 _ (0,0) (.struct d) hp hc.is hd rfl (by kernel_rfl)
theorem results_rec2 {fn:Func} {p u:Tmp} (h:fn.results=#[.cell p 103,.tmp u]) {tmps:Array Value} {w:World} {b:Nat} {s0 s1 s2 s3 s4 s5 s6 s7 s8 s9 s10 s11:Value} (hp:tmps.getD p undef=.pointer (some ⟨b,0,none⟩)) {v:Value} (hu:tmps.getD u undef=v) (hc:Cel b 103 #[s0,s1,s2,s3,s4,s5,s6,s7,s8,s9,s10,s11] w) :
  (results fn tmps).run Tryz.prog w=.ok (.tuple #[.agg #[s0,s1,s2,s3,s4,s5,s6,s7,s8,s9,s10,s11],v]) w:=by
 rw [results_cell_tmp h]
 have ha:(asAddr (.pointer (some ⟨b,0,none⟩))).run Tryz.prog w=.ok ⟨b,0,none⟩ w:=rfl
 rw [hp,hu,ha]
 obtain ⟨d,hd⟩:∃ d,Tryz.prog.underlying 103=some (.struct d):=⟨_,Tryz.underlying103⟩
 have hv:=run_loadVar_row (P:=Tryz.prog) w b 103 103 _ (0,0) (.struct d) hc.is hd rfl (by kernel_rfl)
 simp only [Result.andThen,hv]
set_option maxRecDepth 100000 in
set_option maxHeartbeats 2000000 in
theorem joins_any (x:E) (w:World):Calls Tryz.prog 67 #[(.agg #[.string x.key,.int .i64 (x.f 0),.int .i64 (x.f 1),.int .i64 (x.f 2),.int .i64 (x.f 3),.int .i64 (x.f 4),.int .i64 (x.f 5),.int .i64 (x.f 6),.int .i64 (x.f 7),.slice x.a x.l.length x.cap])] w fun e w'=>e=.returned (.agg #[.int .u64 1,.int .i64 0,.string x.key,.int .i64 (x.f 0),.int .i64 (x.f 1),.int .i64 (x.f 2),.int .i64 (x.f 3),.int .i64 (x.f 4),.int .i64 (x.f 5),.int .i64 (x.f 6),.int .i64 (x.f 7),.slice x.a x.l.length x.cap])∧Off (fun _=>False) w w':=by
 obtain ⟨W,hW⟩:∃ W,W=((w.alloc (.cells #[.string x.key,.int .i64 (x.f 0),.int .i64 (x.f 1),.int .i64 (x.f 2),.int .i64 (x.f 3),.int .i64 (x.f 4),.int .i64 (x.f 5),.int .i64 (x.f 6),.int .i64 (x.f 7),.slice x.a x.l.length x.cap] 68)).alloc (.cells #[.int .u64 0,.int .i64 0,.string ⟨#[]⟩,.int .i64 0,.int .i64 0,.int .i64 0,.int .i64 0,.int .i64 0,.int .i64 0,.int .i64 0,.int .i64 0,.slice none 0 0] 103)):=⟨_,rfl⟩
 have O:Off (fun _=>False) w W:=by rw [hW]; exact ((Off.refl _ w).alloc _).alloc _
 have C0:Cel w.heap.size 68 #[.string x.key,.int .i64 (x.f 0),.int .i64 (x.f 1),.int .i64 (x.f 2),.int .i64 (x.f 3),.int .i64 (x.f 4),.int .i64 (x.f 5),.int .i64 (x.f 6),.int .i64 (x.f 7),.slice x.a x.l.length x.cap] W:=by rw [hW]; exact (Cel.new w _ _).alloc _
 have C1:Cel (w.heap.size + 1) 103 #[.int .u64 0,.int .i64 0,.string ⟨#[]⟩,.int .i64 0,.int .i64 0,.int .i64 0,.int .i64 0,.int .i64 0,.int .i64 0,.int .i64 0,.int .i64 0,.slice none 0 0] W:=by rw [hW]; exact Cel.new1 w _ _ _
 obtain ⟨x0,x1,x2,x3,x4,x5,x6,x7,x8,x9⟩:=cel10 C0
 obtain ⟨z0,z1,z2,z3,z4,z5,z6,z7,z8,z9,z10,z11⟩:=cel12 C1
 have fr:=C1.free
 have HC:Hid _:=C1
 have HO:Hid _:=O
 have HW:Hid _:=hW
 clear C1 O hW C0
 go_enter Tryz.func67,Tryz.ntmps67
 go_upto_region 1 with fail
 rw [show ((w.alloc (.cells #[.string x.key,.int .i64 (x.f 0),.int .i64 (x.f 1),.int .i64 (x.f 2),.int .i64 (x.f 3),.int .i64 (x.f 4),.int .i64 (x.f 5),.int .i64 (x.f 6),.int .i64 (x.f 7),.slice x.a x.l.length x.cap] 68)).alloc (.cells #[.int .u64 0,.int .i64 0,.string ⟨#[]⟩,.int .i64 0,.int .i64 0,.int .i64 0,.int .i64 0,.int .i64 0,.int .i64 0,.int .i64 0,.int .i64 0,.slice none 0 0] 103))=W from HW.out.symm]
 go_wp2_with fail
 refine bodyPost_ret (results_rec rfl rfl HC.out.st12) rfl ?_
 exact ⟨rfl,HO.out.st12 (.inr (by omega))⟩
set_option maxRecDepth 100000 in
set_option maxHeartbeats 2000000 in
theorem keeps_any (h:H) (w:World):Calls Tryz.prog 78 #[(.agg #[.int .i64 h.node,.string h.e.key,.int .i64 (h.e.f 0),.int .i64 (h.e.f 1),.int .i64 (h.e.f 2),.int .i64 (h.e.f 3),.int .i64 (h.e.f 4),.int .i64 (h.e.f 5),.int .i64 (h.e.f 6),.int .i64 (h.e.f 7),.slice h.e.a h.e.l.length h.e.cap])] w fun e w'=>e=.returned (.agg #[.int .u64 2,.int .i64 h.node,.string h.e.key,.int .i64 (h.e.f 0),.int .i64 (h.e.f 1),.int .i64 (h.e.f 2),.int .i64 (h.e.f 3),.int .i64 (h.e.f 4),.int .i64 (h.e.f 5),.int .i64 (h.e.f 6),.int .i64 (h.e.f 7),.slice h.e.a h.e.l.length h.e.cap])∧Off (fun _=>False) w w':=by
 obtain ⟨W,hW⟩:∃ W,W=((w.alloc (.cells #[.int .i64 h.node,.string h.e.key,.int .i64 (h.e.f 0),.int .i64 (h.e.f 1),.int .i64 (h.e.f 2),.int .i64 (h.e.f 3),.int .i64 (h.e.f 4),.int .i64 (h.e.f 5),.int .i64 (h.e.f 6),.int .i64 (h.e.f 7),.slice h.e.a h.e.l.length h.e.cap] 75)).alloc (.cells #[.int .u64 0,.int .i64 0,.string ⟨#[]⟩,.int .i64 0,.int .i64 0,.int .i64 0,.int .i64 0,.int .i64 0,.int .i64 0,.int .i64 0,.int .i64 0,.slice none 0 0] 103)):=⟨_,rfl⟩
 have O:Off (fun _=>False) w W:=by rw [hW]; exact ((Off.refl _ w).alloc _).alloc _
 have C0:Cel w.heap.size 75 #[.int .i64 h.node,.string h.e.key,.int .i64 (h.e.f 0),.int .i64 (h.e.f 1),.int .i64 (h.e.f 2),.int .i64 (h.e.f 3),.int .i64 (h.e.f 4),.int .i64 (h.e.f 5),.int .i64 (h.e.f 6),.int .i64 (h.e.f 7),.slice h.e.a h.e.l.length h.e.cap] W:=by rw [hW]; exact (Cel.new w _ _).alloc _
 have C1:Cel (w.heap.size + 1) 103 #[.int .u64 0,.int .i64 0,.string ⟨#[]⟩,.int .i64 0,.int .i64 0,.int .i64 0,.int .i64 0,.int .i64 0,.int .i64 0,.int .i64 0,.int .i64 0,.slice none 0 0] W:=by rw [hW]; exact Cel.new1 w _ _ _
 obtain ⟨x0,x1,x2,x3,x4,x5,x6,x7,x8,x9,x10⟩:=cel11 C0
 obtain ⟨z0,z1,z2,z3,z4,z5,z6,z7,z8,z9,z10,z11⟩:=cel12 C1
 have fr:=C1.free
 have HC:Hid _:=C1
 have HO:Hid _:=O
 have HW:Hid _:=hW
 clear C1 O hW C0
 go_enter Tryz.func78,Tryz.ntmps78
 go_upto_region 1 with fail
 rw [show ((w.alloc (.cells #[.int .i64 h.node,.string h.e.key,.int .i64 (h.e.f 0),.int .i64 (h.e.f 1),.int .i64 (h.e.f 2),.int .i64 (h.e.f 3),.int .i64 (h.e.f 4),.int .i64 (h.e.f 5),.int .i64 (h.e.f 6),.int .i64 (h.e.f 7),.slice h.e.a h.e.l.length h.e.cap] 75)).alloc (.cells #[.int .u64 0,.int .i64 0,.string ⟨#[]⟩,.int .i64 0,.int .i64 0,.int .i64 0,.int .i64 0,.int .i64 0,.int .i64 0,.int .i64 0,.int .i64 0,.slice none 0 0] 103))=W from HW.out.symm]
 go_wp2_with fail
 refine bodyPost_ret (results_rec rfl rfl HC.out.st12) rfl ?_
 exact ⟨rfl,HO.out.st12 (.inr (by omega))⟩
theorem wrE_put {most:Nat} {st:Option (List Nat)} (h0:(st.getD []).length≤most) (key:ByteArray) (f:Nat→Int) (l:List A):wrE most st key f l=putS most st (encE (keyL key) f l):=by
 unfold wrE wrS
 rw [wrL_enc (put_le (wrV_le (put_le h0 _) f 8) _),wrV_enc (put_le h0 _),put_put,put_put,put_put]
 unfold encE
 simp only [List.append_assoc]
theorem put_some {bs x:List Nat} {most:Nat} (h:bs.length + x.length≤most):putS most (some bs) x=some (bs ++ x):=by simp [putS,h]
theorem Row.offW {D:Nat→Prop} {N:Nat} {w v v':World} {a:Option Addr} {cap:Nat} {l:List V} (h:Row w a cap l) (o:Off (fun c=>N≤c) w v) (k:Off D v v') (hD:∀ c,D c→N≤c) (hN:w.heap.size≤N):Row v' a cap l :=
 h.offT h.below (o.trans k (fun c _ hc=>hD c hc)) (fun x hx _ hc=>by omega)
set_option maxRecDepth 100000 in
set_option maxHeartbeats 2000000 in
theorem bytes1_any (x:E) (w:World) (hr:Row w x.a x.cap x.l) (hk:OkR ⟨1,0,x.abs⟩):Calls Tryz.prog 128 #[(.agg #[.int .u64 1,.int .i64 0,.string x.key,.int .i64 (x.f 0),.int .i64 (x.f 1),.int .i64 (x.f 2),.int .i64 (x.f 3),.int .i64 (x.f 4),.int .i64 (x.f 5),.int .i64 (x.f 6),.int .i64 (x.f 7),.slice x.a x.l.length x.cap])] w fun e w'=>∃ t c,e=.returned (.tuple #[.slice t (enc ⟨1,0,x.abs⟩).length c,.int .i64 0])∧OwnR w' t c (enc ⟨1,0,x.abs⟩)∧(∀ k,blk t=some k→w.heap.size≤k)∧Off (fun _=>False) w w':=by
 have hlen:=enc_len hk
 obtain ⟨BS,hBS⟩:∃ BS,BS=enc ⟨1,0,x.abs⟩:=⟨_,rfl⟩
 rw [← hBS] at hlen ⊢
 have HBS:Hid _:=hBS
 have HOK:Hid _:=hk
 obtain ⟨W,hW⟩:∃ W,W=(w.alloc (.cells #[.int .u64 1,.int .i64 0,.string x.key,.int .i64 (x.f 0),.int .i64 (x.f 1),.int .i64 (x.f 2),.int .i64 (x.f 3),.int .i64 (x.f 4),.int .i64 (x.f 5),.int .i64 (x.f 6),.int .i64 (x.f 7),.slice x.a x.l.length x.cap] 103)):=⟨_,rfl⟩
 have O:Off (fun _=>False) w W:=by rw [hW]; exact (Off.refl _ w).alloc _
 have C:Cel w.heap.size 103 #[.int .u64 1,.int .i64 0,.string x.key,.int .i64 (x.f 0),.int .i64 (x.f 1),.int .i64 (x.f 2),.int .i64 (x.f 3),.int .i64 (x.f 4),.int .i64 (x.f 5),.int .i64 (x.f 6),.int .i64 (x.f 7),.slice x.a x.l.length x.cap] W:=by rw [hW]; exact Cel.new w _ _
 have hz:w.heap.size < W.heap.size:=C.lt
 have HZ:Hid _:=hz
 have HW:Hid _:=hW
 have HO:Hid (Off (fun c=>W.heap.size≤c) w W):=O.mono (fun _ _ h=>h.elim)
 have HC0:Hid _:=C
 have HR:Hid _:=hr
 clear hW O C hz hBS hk hr
 go_enter Tryz.func128,Tryz.ntmps128
 go_upto_region 1 with fail
 rw [show (w.alloc (.cells #[.int .u64 1,.int .i64 0,.string x.key,.int .i64 (x.f 0),.int .i64 (x.f 1),.int .i64 (x.f 2),.int .i64 (x.f 3),.int .i64 (x.f 4),.int .i64 (x.f 5),.int .i64 (x.f 6),.int .i64 (x.f 7),.slice x.a x.l.length x.cap] 103))=W from HW.out.symm]
 go_wp2_with fail
 refine (newWriter_any 60000 (by decide) W).mono ?_
 rintro e w1 ⟨rfl,W1,o1⟩
 have HW1:Hid (Wtr (fun c=>c=W.heap.size) W.heap.size 60000 (some []) w1):=W1
 have HC1:Hid _:=HC0.out.off o1 (fun h=>h)
 have HO1:Hid (Off (fun c=>W.heap.size≤c) w w1):=HO.out.trans o1 (fun _ _ h=>h.elim)
 clear W1 o1
 generalize W.heap.size=N at HZ HO HW1 HO1 ⊢
 have HD1:Hid (∀ c,(fun c=>c=N) c→N≤c):=fun c hc=>by rw [show c=N from hc]; exact Nat.le_refl _
 have HS1:Hid (N≤w1.heap.size):=Nat.le_of_lt (HW1.out.lt N rfl)
 obtain ⟨x0,x1,x2,x3,x4,x5,x6,x7,x8,x9,x10,x11⟩:=cel12 HC1.out
 go_wp2_with fail
 clear x0 x1 x2 x3 x4 x5 x6 x7 x8 x9 x10 x11
 refine (wnum_any HW1.out 1 (by decide) (.inr ⟨by decide,by simp⟩)).mono ?_
 rintro e w2 ⟨rfl,D2,W2,o2,d2⟩
 have HD2:Hid (∀ c,D2 c→N≤c):=fun c hc=>(d2 c hc).elim (HD1.out c) (fun h=>Nat.le_trans HS1.out h)
 have HS2:Hid (N≤w2.heap.size):=Nat.le_trans HS1.out o2.size
 have HW2:Hid _:=W2
 have HC2:Hid _:=HC1.out.off o2 (fun h=>by have h1:=HD1.out _ h; have h2:=HZ.out; omega)
 have HO2:Hid (Off (fun c=>N≤c) w w2):=HO1.out.trans o2 (fun c _ h=>HD1.out c h)
 clear W2 o2 d2
 have HL2:Hid (((putS 60000 (some []) (numB 1)).getD []).length≤60000):=put_le (by simp) _
 have HKK:Hid (OkK x.abs):=by
  rcases HOK.out.is with ⟨-,-,h⟩ | ⟨-,-,h⟩ | ⟨h,-⟩ | ⟨h,-⟩
  ·exact h
  ·exact h
  ·cases h
  ·cases h
 have hks:=key_size HKK.out.key
 have HSE:Hid _:=HKK.out.sees
 obtain ⟨x0,x1,x2,x3,x4,x5,x6,x7,x8,x9,x10,x11⟩:=cel12 HC2.out
 go_wp2_with fail
 clear x0 x1 x2 x3 x4 x5 x6 x7 x8 x9 x10 x11
 refine (writeEntry_any HW2.out (by decide) HL2.out x.key (by have:x.key.size≤32:=hks.2; omega) x.f HSE.out x.a x.cap x.l (fun w' o=>HR.out.offW HO2.out o HD2.out (Nat.le_of_lt HZ.out))).mono ?_
 rintro e w3 ⟨rfl,D3,W3,o3,d3⟩
 have HD3:Hid (∀ c,D3 c→N≤c):=fun c hc=>(d3 c hc).elim (HD2.out c) (fun h=>Nat.le_trans HS2.out h)
 have HS3:Hid (N≤w3.heap.size):=Nat.le_trans HS2.out o3.size
 have HW3:Hid _:=W3
 have HC3:Hid _:=HC2.out.off o3 (fun h=>by have h1:=HD2.out _ h; have h2:=HZ.out; omega)
 have HO3:Hid (Off (fun c=>N≤c) w w3):=HO2.out.trans o3 (fun c _ h=>HD2.out c h)
 clear W3 o3 d3
 have hst:wrE 60000 (putS 60000 (some []) (numB 1)) x.key x.f (cont x.l)=some BS:=by
  rw [wrE_put HL2.out,put_put,HBS.out]
  have hl:(enc ⟨1,0,x.abs⟩).length≤4000:=by rw [← HBS.out]; exact hlen
  have e0:∀ y:List Nat,y=enc ⟨1,0,x.abs⟩→putS 60000 (some []) y=some (enc ⟨1,0,x.abs⟩):=fun y hy=>by
   rw [hy,put_some (by simp only [List.length_nil]; omega)]
   rfl
  refine e0 _ ?_
  simp only [enc]
  first | rfl | simp
 have HWF:Hid (Wtr D3 N 60000 (some BS) w3):=by have h:=HW3.out; rw [hst] at h; exact h
 clear hst hks
 go_wp2_with fail
 refine (done_any HWF.out (by simp only [Option.getD_some]; omega)).mono ?_
 rintro e w9 ⟨t,c,rfl,own,fr,o9⟩
 go_wp2_with fail
 go_ret2
 have hs:=HO3.out.size
 exact ⟨t,c,rfl,own,fun k hk=>Nat.le_trans hs (fr k hk),(HO3.out.trans o9 (fun _ _ h=>h.elim)).mono (fun i hi h=>by have:=HZ.out; omega)⟩
set_option maxRecDepth 100000 in
set_option maxHeartbeats 2000000 in
theorem bytes2_any (node:Int) (x:E) (w:World) (hr:Row w x.a x.cap x.l) (hk:OkR ⟨2,node,x.abs⟩):Calls Tryz.prog 128 #[(.agg #[.int .u64 2,.int .i64 node,.string x.key,.int .i64 (x.f 0),.int .i64 (x.f 1),.int .i64 (x.f 2),.int .i64 (x.f 3),.int .i64 (x.f 4),.int .i64 (x.f 5),.int .i64 (x.f 6),.int .i64 (x.f 7),.slice x.a x.l.length x.cap])] w fun e w'=>∃ t c,e=.returned (.tuple #[.slice t (enc ⟨2,node,x.abs⟩).length c,.int .i64 0])∧OwnR w' t c (enc ⟨2,node,x.abs⟩)∧(∀ k,blk t=some k→w.heap.size≤k)∧Off (fun _=>False) w w':=by
 have hlen:=enc_len hk
 obtain ⟨BS,hBS⟩:∃ BS,BS=enc ⟨2,node,x.abs⟩:=⟨_,rfl⟩
 rw [← hBS] at hlen ⊢
 have HBS:Hid _:=hBS
 have HOK:Hid _:=hk
 obtain ⟨W,hW⟩:∃ W,W=(w.alloc (.cells #[.int .u64 2,.int .i64 node,.string x.key,.int .i64 (x.f 0),.int .i64 (x.f 1),.int .i64 (x.f 2),.int .i64 (x.f 3),.int .i64 (x.f 4),.int .i64 (x.f 5),.int .i64 (x.f 6),.int .i64 (x.f 7),.slice x.a x.l.length x.cap] 103)):=⟨_,rfl⟩
 have O:Off (fun _=>False) w W:=by rw [hW]; exact (Off.refl _ w).alloc _
 have C:Cel w.heap.size 103 #[.int .u64 2,.int .i64 node,.string x.key,.int .i64 (x.f 0),.int .i64 (x.f 1),.int .i64 (x.f 2),.int .i64 (x.f 3),.int .i64 (x.f 4),.int .i64 (x.f 5),.int .i64 (x.f 6),.int .i64 (x.f 7),.slice x.a x.l.length x.cap] W:=by rw [hW]; exact Cel.new w _ _
 have hz:w.heap.size < W.heap.size:=C.lt
 have HZ:Hid _:=hz
 have HW:Hid _:=hW
 have HO:Hid (Off (fun c=>W.heap.size≤c) w W):=O.mono (fun _ _ h=>h.elim)
 have HC0:Hid _:=C
 have HR:Hid _:=hr
 clear hW O C hz hBS hk hr
 go_enter Tryz.func128,Tryz.ntmps128
 go_upto_region 1 with fail
 rw [show (w.alloc (.cells #[.int .u64 2,.int .i64 node,.string x.key,.int .i64 (x.f 0),.int .i64 (x.f 1),.int .i64 (x.f 2),.int .i64 (x.f 3),.int .i64 (x.f 4),.int .i64 (x.f 5),.int .i64 (x.f 6),.int .i64 (x.f 7),.slice x.a x.l.length x.cap] 103))=W from HW.out.symm]
 go_wp2_with fail
 refine (newWriter_any 60000 (by decide) W).mono ?_
 rintro e w1 ⟨rfl,W1,o1⟩
 have HW1:Hid (Wtr (fun c=>c=W.heap.size) W.heap.size 60000 (some []) w1):=W1
 have HC1:Hid _:=HC0.out.off o1 (fun h=>h)
 have HO1:Hid (Off (fun c=>W.heap.size≤c) w w1):=HO.out.trans o1 (fun _ _ h=>h.elim)
 clear W1 o1
 generalize W.heap.size=N at HZ HO HW1 HO1 ⊢
 have HD1:Hid (∀ c,(fun c=>c=N) c→N≤c):=fun c hc=>by rw [show c=N from hc]; exact Nat.le_refl _
 have HS1:Hid (N≤w1.heap.size):=Nat.le_of_lt (HW1.out.lt N rfl)
 obtain ⟨x0,x1,x2,x3,x4,x5,x6,x7,x8,x9,x10,x11⟩:=cel12 HC1.out
 go_wp2_with fail
 clear x0 x1 x2 x3 x4 x5 x6 x7 x8 x9 x10 x11
 refine (wnum_any HW1.out 2 (by decide) (.inr ⟨by decide,by simp⟩)).mono ?_
 rintro e w2 ⟨rfl,D2,W2,o2,d2⟩
 have HD2:Hid (∀ c,D2 c→N≤c):=fun c hc=>(d2 c hc).elim (HD1.out c) (fun h=>Nat.le_trans HS1.out h)
 have HS2:Hid (N≤w2.heap.size):=Nat.le_trans HS1.out o2.size
 have HW2:Hid _:=W2
 have HC2:Hid _:=HC1.out.off o2 (fun h=>by have h1:=HD1.out _ h; have h2:=HZ.out; omega)
 have HO2:Hid (Off (fun c=>N≤c) w w2):=HO1.out.trans o2 (fun c _ h=>HD1.out c h)
 clear W2 o2 d2
 have HL2:Hid (((putS 60000 (some []) (numB 2)).getD []).length≤60000):=put_le (by simp) _
 have hu:IntKind.u64.wrap node=((u64N node:Nat):Int):=u64_wrap node
 obtain ⟨x0,x1,x2,x3,x4,x5,x6,x7,x8,x9,x10,x11⟩:=cel12 HC2.out
 go_wp2_with fail
 clear x0 x1 x2 x3 x4 x5 x6 x7 x8 x9 x10 x11
 clear hu
 refine (wnum_any HW2.out (u64N node) (u64N_lt node) (.inr ⟨by decide,HL2.out⟩)).mono ?_
 rintro e w3 ⟨rfl,D3,W3,o3,d3⟩
 have HD3:Hid (∀ c,D3 c→N≤c):=fun c hc=>(d3 c hc).elim (HD2.out c) (fun h=>Nat.le_trans HS2.out h)
 have HS3:Hid (N≤w3.heap.size):=Nat.le_trans HS2.out o3.size
 have HW3:Hid _:=W3
 have HC3:Hid _:=HC2.out.off o3 (fun h=>by have h1:=HD2.out _ h; have h2:=HZ.out; omega)
 have HO3:Hid (Off (fun c=>N≤c) w w3):=HO2.out.trans o3 (fun c _ h=>HD2.out c h)
 clear W3 o3 d3
 have HL3:Hid (((putS 60000 (putS 60000 (some []) (numB 2)) (numB (u64N node))).getD []).length≤60000):=put_le HL2.out _
 have HKK:Hid (OkK x.abs):=by
  rcases HOK.out.is with ⟨-,-,h⟩ | ⟨-,-,h⟩ | ⟨h,-⟩ | ⟨h,-⟩
  ·exact h
  ·exact h
  ·cases h
  ·cases h
 have hks:=key_size HKK.out.key
 have HSE:Hid _:=HKK.out.sees
 obtain ⟨x0,x1,x2,x3,x4,x5,x6,x7,x8,x9,x10,x11⟩:=cel12 HC3.out
 go_wp2_with fail
 clear x0 x1 x2 x3 x4 x5 x6 x7 x8 x9 x10 x11
 refine (writeEntry_any HW3.out (by decide) HL3.out x.key (by have:x.key.size≤32:=hks.2; omega) x.f HSE.out x.a x.cap x.l (fun w' o=>HR.out.offW HO3.out o HD3.out (Nat.le_of_lt HZ.out))).mono ?_
 rintro e w4 ⟨rfl,D4,W4,o4,d4⟩
 have HD4:Hid (∀ c,D4 c→N≤c):=fun c hc=>(d4 c hc).elim (HD3.out c) (fun h=>Nat.le_trans HS3.out h)
 have HS4:Hid (N≤w4.heap.size):=Nat.le_trans HS3.out o4.size
 have HW4:Hid _:=W4
 have HC4:Hid _:=HC3.out.off o4 (fun h=>by have h1:=HD3.out _ h; have h2:=HZ.out; omega)
 have HO4:Hid (Off (fun c=>N≤c) w w4):=HO3.out.trans o4 (fun c _ h=>HD3.out c h)
 clear W4 o4 d4
 have hst:wrE 60000 (putS 60000 (putS 60000 (some []) (numB 2)) (numB (u64N node))) x.key x.f (cont x.l)=some BS:=by
  rw [wrE_put HL3.out,put_put,put_put,HBS.out]
  have hl:(enc ⟨2,node,x.abs⟩).length≤4000:=by rw [← HBS.out]; exact hlen
  have e0:∀ y:List Nat,y=enc ⟨2,node,x.abs⟩→putS 60000 (some []) y=some (enc ⟨2,node,x.abs⟩):=fun y hy=>by
   rw [hy,put_some (by simp only [List.length_nil]; omega)]
   rfl
  refine e0 _ ?_
  simp only [enc]
  first | rfl | simp
 have HWF:Hid (Wtr D4 N 60000 (some BS) w4):=by have h:=HW4.out; rw [hst] at h; exact h
 clear hst hks
 go_wp2_with fail
 refine (done_any HWF.out (by simp only [Option.getD_some]; omega)).mono ?_
 rintro e w9 ⟨t,c,rfl,own,fr,o9⟩
 go_wp2_with fail
 go_ret2
 have hs:=HO4.out.size
 exact ⟨t,c,rfl,own,fun k hk=>Nat.le_trans hs (fr k hk),(HO4.out.trans o9 (fun _ _ h=>h.elim)).mono (fun i hi h=>by have:=HZ.out; omega)⟩
set_option maxRecDepth 100000 in
set_option maxHeartbeats 2000000 in
theorem bytes3_any (node:Int) (x:E) (w:World) (hk:OkR ⟨3,node,x.abs⟩):Calls Tryz.prog 128 #[(.agg #[.int .u64 3,.int .i64 node,.string x.key,.int .i64 (x.f 0),.int .i64 (x.f 1),.int .i64 (x.f 2),.int .i64 (x.f 3),.int .i64 (x.f 4),.int .i64 (x.f 5),.int .i64 (x.f 6),.int .i64 (x.f 7),.slice x.a x.l.length x.cap])] w fun e w'=>∃ t c,e=.returned (.tuple #[.slice t (enc ⟨3,node,x.abs⟩).length c,.int .i64 0])∧OwnR w' t c (enc ⟨3,node,x.abs⟩)∧(∀ k,blk t=some k→w.heap.size≤k)∧Off (fun _=>False) w w':=by
 have hlen:=enc_len hk
 obtain ⟨BS,hBS⟩:∃ BS,BS=enc ⟨3,node,x.abs⟩:=⟨_,rfl⟩
 rw [← hBS] at hlen ⊢
 have HBS:Hid _:=hBS
 have HOK:Hid _:=hk
 obtain ⟨W,hW⟩:∃ W,W=(w.alloc (.cells #[.int .u64 3,.int .i64 node,.string x.key,.int .i64 (x.f 0),.int .i64 (x.f 1),.int .i64 (x.f 2),.int .i64 (x.f 3),.int .i64 (x.f 4),.int .i64 (x.f 5),.int .i64 (x.f 6),.int .i64 (x.f 7),.slice x.a x.l.length x.cap] 103)):=⟨_,rfl⟩
 have O:Off (fun _=>False) w W:=by rw [hW]; exact (Off.refl _ w).alloc _
 have C:Cel w.heap.size 103 #[.int .u64 3,.int .i64 node,.string x.key,.int .i64 (x.f 0),.int .i64 (x.f 1),.int .i64 (x.f 2),.int .i64 (x.f 3),.int .i64 (x.f 4),.int .i64 (x.f 5),.int .i64 (x.f 6),.int .i64 (x.f 7),.slice x.a x.l.length x.cap] W:=by rw [hW]; exact Cel.new w _ _
 have hz:w.heap.size < W.heap.size:=C.lt
 have HZ:Hid _:=hz
 have HW:Hid _:=hW
 have HO:Hid (Off (fun c=>W.heap.size≤c) w W):=O.mono (fun _ _ h=>h.elim)
 have HC0:Hid _:=C
 clear hW O C hz hBS hk
 go_enter Tryz.func128,Tryz.ntmps128
 go_upto_region 1 with fail
 rw [show (w.alloc (.cells #[.int .u64 3,.int .i64 node,.string x.key,.int .i64 (x.f 0),.int .i64 (x.f 1),.int .i64 (x.f 2),.int .i64 (x.f 3),.int .i64 (x.f 4),.int .i64 (x.f 5),.int .i64 (x.f 6),.int .i64 (x.f 7),.slice x.a x.l.length x.cap] 103))=W from HW.out.symm]
 go_wp2_with fail
 refine (newWriter_any 60000 (by decide) W).mono ?_
 rintro e w1 ⟨rfl,W1,o1⟩
 have HW1:Hid (Wtr (fun c=>c=W.heap.size) W.heap.size 60000 (some []) w1):=W1
 have HC1:Hid _:=HC0.out.off o1 (fun h=>h)
 have HO1:Hid (Off (fun c=>W.heap.size≤c) w w1):=HO.out.trans o1 (fun _ _ h=>h.elim)
 clear W1 o1
 generalize W.heap.size=N at HZ HO HW1 HO1 ⊢
 have HD1:Hid (∀ c,(fun c=>c=N) c→N≤c):=fun c hc=>by rw [show c=N from hc]; exact Nat.le_refl _
 have HS1:Hid (N≤w1.heap.size):=Nat.le_of_lt (HW1.out.lt N rfl)
 obtain ⟨x0,x1,x2,x3,x4,x5,x6,x7,x8,x9,x10,x11⟩:=cel12 HC1.out
 go_wp2_with fail
 clear x0 x1 x2 x3 x4 x5 x6 x7 x8 x9 x10 x11
 refine (wnum_any HW1.out 3 (by decide) (.inr ⟨by decide,by simp⟩)).mono ?_
 rintro e w2 ⟨rfl,D2,W2,o2,d2⟩
 have HD2:Hid (∀ c,D2 c→N≤c):=fun c hc=>(d2 c hc).elim (HD1.out c) (fun h=>Nat.le_trans HS1.out h)
 have HS2:Hid (N≤w2.heap.size):=Nat.le_trans HS1.out o2.size
 have HW2:Hid _:=W2
 have HC2:Hid _:=HC1.out.off o2 (fun h=>by have h1:=HD1.out _ h; have h2:=HZ.out; omega)
 have HO2:Hid (Off (fun c=>N≤c) w w2):=HO1.out.trans o2 (fun c _ h=>HD1.out c h)
 clear W2 o2 d2
 have HL2:Hid (((putS 60000 (some []) (numB 3)).getD []).length≤60000):=put_le (by simp) _
 have hu:IntKind.u64.wrap node=((u64N node:Nat):Int):=u64_wrap node
 obtain ⟨x0,x1,x2,x3,x4,x5,x6,x7,x8,x9,x10,x11⟩:=cel12 HC2.out
 go_wp2_with fail
 clear x0 x1 x2 x3 x4 x5 x6 x7 x8 x9 x10 x11
 clear hu
 refine (wnum_any HW2.out (u64N node) (u64N_lt node) (.inr ⟨by decide,HL2.out⟩)).mono ?_
 rintro e w3 ⟨rfl,D3,W3,o3,d3⟩
 have HD3:Hid (∀ c,D3 c→N≤c):=fun c hc=>(d3 c hc).elim (HD2.out c) (fun h=>Nat.le_trans HS2.out h)
 have HS3:Hid (N≤w3.heap.size):=Nat.le_trans HS2.out o3.size
 have HW3:Hid _:=W3
 have HC3:Hid _:=HC2.out.off o3 (fun h=>by have h1:=HD2.out _ h; have h2:=HZ.out; omega)
 have HO3:Hid (Off (fun c=>N≤c) w w3):=HO2.out.trans o3 (fun c _ h=>HD2.out c h)
 clear W3 o3 d3
 have HL3:Hid (((putS 60000 (putS 60000 (some []) (numB 3)) (numB (u64N node))).getD []).length≤60000):=put_le HL2.out _
 have HKB:Hid (keyB x.key=true):=by
  rcases HOK.out.is with ⟨h,-⟩ | ⟨h,-⟩ | ⟨-,-,h,-⟩ | ⟨-,-,h,-⟩
  ·cases h
  ·cases h
  ·exact h
  ·exact h
 have hks:=key_size HKB.out
 obtain ⟨kl,hkl⟩:∃ y,y=keyL x.key:=⟨_,rfl⟩
 obtain ⟨kc,V,hrun,hsrc,oV⟩:=conv_key x.key w3
 rw [← hkl] at hrun hsrc
 have hkz:kl.length≤32:=by rw [hkl,keyL_len]; exact hks.2
 have HKL:Hid _:=hkl
 have HSR:Hid _:=hsrc
 have HWV:Hid _:=HW3.out.off oV (fun _ _ _ h=>h)
 have HLV:Hid (∀ c,D3 c→c < w3.heap.size):=HW3.out.lt
 have HCV:Hid _:=HC3.out.off oV (fun h=>h)
 have HOV:Hid (Off (fun c=>N≤c) w V):=HO3.out.trans oV (fun _ _ h=>h.elim)
 have HSV:Hid (N≤V.heap.size):=Nat.le_trans HS3.out oV.size
 clear hkl hsrc oV
 obtain ⟨x0,x1,x2,x3,x4,x5,x6,x7,x8,x9,x10,x11⟩:=cel12 HC3.out
 go_wp2_with fail
 clear x0 x1 x2 x3 x4 x5 x6 x7 x8 x9 x10 x11
 clear hrun
 refine (wtext_any HWV.out _ kc kl (fun w' o=>HSR.out.off o (fun c hc hb h=>by simp [blk] at hb; have:=HLV.out c h; omega)) (.inr ⟨by decide,HL3.out,by omega⟩)).mono ?_
 rintro e w4 ⟨rfl,D4,W4,o4,d4⟩
 have HD4:Hid (∀ c,D4 c→N≤c):=fun c hc=>(d4 c hc).elim (HD3.out c) (fun h=>Nat.le_trans HSV.out h)
 have HS4:Hid (N≤w4.heap.size):=Nat.le_trans HSV.out o4.size
 have HW4:Hid _:=W4
 have HC4:Hid _:=HCV.out.off o4 (fun h=>by have h1:=HD3.out _ h; have h2:=HZ.out; omega)
 have HO4:Hid (Off (fun c=>N≤c) w w4):=HOV.out.trans o4 (fun c _ h=>HD3.out c h)
 clear W4 o4 d4
 have hst:putS 60000 (putS 60000 (putS 60000 (some []) (numB 3)) (numB (u64N node))) (numB kl.length ++ kl)=some BS:=by
  rw [HKL.out,put_put,put_put,HBS.out]
  have hl:(enc ⟨3,node,x.abs⟩).length≤4000:=by rw [← HBS.out]; exact hlen
  have e0:∀ y:List Nat,y=enc ⟨3,node,x.abs⟩→putS 60000 (some []) y=some (enc ⟨3,node,x.abs⟩):=fun y hy=>by
   rw [hy,put_some (by simp only [List.length_nil]; omega)]
   rfl
  refine e0 _ ?_
  simp only [enc]
  first | rfl | simp
 have HWF:Hid (Wtr D4 N 60000 (some BS) w4):=by have h:=HW4.out; rw [hst] at h; exact h
 clear hst hks
 go_wp2_with fail
 refine (done_any HWF.out (by simp only [Option.getD_some]; omega)).mono ?_
 rintro e w9 ⟨t,c,rfl,own,fr,o9⟩
 go_wp2_with fail
 go_ret2
 have hs:=HO4.out.size
 exact ⟨t,c,rfl,own,fun k hk=>Nat.le_trans hs (fr k hk),(HO4.out.trans o9 (fun _ _ h=>h.elim)).mono (fun i hi h=>by have:=HZ.out; omega)⟩
set_option maxRecDepth 100000 in
set_option maxHeartbeats 2000000 in
theorem bytes4_any (x:E) (w:World) (hk:OkR ⟨4,0,x.abs⟩):Calls Tryz.prog 128 #[(.agg #[.int .u64 4,.int .i64 0,.string x.key,.int .i64 (x.f 0),.int .i64 (x.f 1),.int .i64 (x.f 2),.int .i64 (x.f 3),.int .i64 (x.f 4),.int .i64 (x.f 5),.int .i64 (x.f 6),.int .i64 (x.f 7),.slice x.a x.l.length x.cap])] w fun e w'=>∃ t c,e=.returned (.tuple #[.slice t (enc ⟨4,0,x.abs⟩).length c,.int .i64 0])∧OwnR w' t c (enc ⟨4,0,x.abs⟩)∧(∀ k,blk t=some k→w.heap.size≤k)∧Off (fun _=>False) w w':=by
 have hlen:=enc_len hk
 obtain ⟨BS,hBS⟩:∃ BS,BS=enc ⟨4,0,x.abs⟩:=⟨_,rfl⟩
 rw [← hBS] at hlen ⊢
 have HBS:Hid _:=hBS
 have HOK:Hid _:=hk
 obtain ⟨W,hW⟩:∃ W,W=(w.alloc (.cells #[.int .u64 4,.int .i64 0,.string x.key,.int .i64 (x.f 0),.int .i64 (x.f 1),.int .i64 (x.f 2),.int .i64 (x.f 3),.int .i64 (x.f 4),.int .i64 (x.f 5),.int .i64 (x.f 6),.int .i64 (x.f 7),.slice x.a x.l.length x.cap] 103)):=⟨_,rfl⟩
 have O:Off (fun _=>False) w W:=by rw [hW]; exact (Off.refl _ w).alloc _
 have C:Cel w.heap.size 103 #[.int .u64 4,.int .i64 0,.string x.key,.int .i64 (x.f 0),.int .i64 (x.f 1),.int .i64 (x.f 2),.int .i64 (x.f 3),.int .i64 (x.f 4),.int .i64 (x.f 5),.int .i64 (x.f 6),.int .i64 (x.f 7),.slice x.a x.l.length x.cap] W:=by rw [hW]; exact Cel.new w _ _
 have hz:w.heap.size < W.heap.size:=C.lt
 have HZ:Hid _:=hz
 have HW:Hid _:=hW
 have HO:Hid (Off (fun c=>W.heap.size≤c) w W):=O.mono (fun _ _ h=>h.elim)
 have HC0:Hid _:=C
 clear hW O C hz hBS hk
 go_enter Tryz.func128,Tryz.ntmps128
 go_upto_region 1 with fail
 rw [show (w.alloc (.cells #[.int .u64 4,.int .i64 0,.string x.key,.int .i64 (x.f 0),.int .i64 (x.f 1),.int .i64 (x.f 2),.int .i64 (x.f 3),.int .i64 (x.f 4),.int .i64 (x.f 5),.int .i64 (x.f 6),.int .i64 (x.f 7),.slice x.a x.l.length x.cap] 103))=W from HW.out.symm]
 go_wp2_with fail
 refine (newWriter_any 60000 (by decide) W).mono ?_
 rintro e w1 ⟨rfl,W1,o1⟩
 have HW1:Hid (Wtr (fun c=>c=W.heap.size) W.heap.size 60000 (some []) w1):=W1
 have HC1:Hid _:=HC0.out.off o1 (fun h=>h)
 have HO1:Hid (Off (fun c=>W.heap.size≤c) w w1):=HO.out.trans o1 (fun _ _ h=>h.elim)
 clear W1 o1
 generalize W.heap.size=N at HZ HO HW1 HO1 ⊢
 have HD1:Hid (∀ c,(fun c=>c=N) c→N≤c):=fun c hc=>by rw [show c=N from hc]; exact Nat.le_refl _
 have HS1:Hid (N≤w1.heap.size):=Nat.le_of_lt (HW1.out.lt N rfl)
 obtain ⟨x0,x1,x2,x3,x4,x5,x6,x7,x8,x9,x10,x11⟩:=cel12 HC1.out
 go_wp2_with fail
 clear x0 x1 x2 x3 x4 x5 x6 x7 x8 x9 x10 x11
 refine (wnum_any HW1.out 4 (by decide) (.inr ⟨by decide,by simp⟩)).mono ?_
 rintro e w2 ⟨rfl,D2,W2,o2,d2⟩
 have HD2:Hid (∀ c,D2 c→N≤c):=fun c hc=>(d2 c hc).elim (HD1.out c) (fun h=>Nat.le_trans HS1.out h)
 have HS2:Hid (N≤w2.heap.size):=Nat.le_trans HS1.out o2.size
 have HW2:Hid _:=W2
 have HC2:Hid _:=HC1.out.off o2 (fun h=>by have h1:=HD1.out _ h; have h2:=HZ.out; omega)
 have HO2:Hid (Off (fun c=>N≤c) w w2):=HO1.out.trans o2 (fun c _ h=>HD1.out c h)
 clear W2 o2 d2
 have HL2:Hid (((putS 60000 (some []) (numB 4)).getD []).length≤60000):=put_le (by simp) _
 have HKB:Hid (keyB x.key=true):=by
  rcases HOK.out.is with ⟨h,-⟩ | ⟨h,-⟩ | ⟨-,-,h,-⟩ | ⟨-,-,h,-⟩
  ·cases h
  ·cases h
  ·exact h
  ·exact h
 have hks:=key_size HKB.out
 obtain ⟨kl,hkl⟩:∃ y,y=keyL x.key:=⟨_,rfl⟩
 obtain ⟨kc,V,hrun,hsrc,oV⟩:=conv_key x.key w2
 rw [← hkl] at hrun hsrc
 have hkz:kl.length≤32:=by rw [hkl,keyL_len]; exact hks.2
 have HKL:Hid _:=hkl
 have HSR:Hid _:=hsrc
 have HWV:Hid _:=HW2.out.off oV (fun _ _ _ h=>h)
 have HLV:Hid (∀ c,D2 c→c < w2.heap.size):=HW2.out.lt
 have HCV:Hid _:=HC2.out.off oV (fun h=>h)
 have HOV:Hid (Off (fun c=>N≤c) w V):=HO2.out.trans oV (fun _ _ h=>h.elim)
 have HSV:Hid (N≤V.heap.size):=Nat.le_trans HS2.out oV.size
 clear hkl hsrc oV
 obtain ⟨x0,x1,x2,x3,x4,x5,x6,x7,x8,x9,x10,x11⟩:=cel12 HC2.out
 go_wp2_with fail
 clear x0 x1 x2 x3 x4 x5 x6 x7 x8 x9 x10 x11
 clear hrun
 refine (wtext_any HWV.out _ kc kl (fun w' o=>HSR.out.off o (fun c hc hb h=>by simp [blk] at hb; have:=HLV.out c h; omega)) (.inr ⟨by decide,HL2.out,by omega⟩)).mono ?_
 rintro e w3 ⟨rfl,D3,W3,o3,d3⟩
 have HD3:Hid (∀ c,D3 c→N≤c):=fun c hc=>(d3 c hc).elim (HD2.out c) (fun h=>Nat.le_trans HSV.out h)
 have HS3:Hid (N≤w3.heap.size):=Nat.le_trans HSV.out o3.size
 have HW3:Hid _:=W3
 have HC3:Hid _:=HCV.out.off o3 (fun h=>by have h1:=HD2.out _ h; have h2:=HZ.out; omega)
 have HO3:Hid (Off (fun c=>N≤c) w w3):=HOV.out.trans o3 (fun c _ h=>HD2.out c h)
 clear W3 o3 d3
 have hst:putS 60000 (putS 60000 (some []) (numB 4)) (numB kl.length ++ kl)=some BS:=by
  rw [HKL.out,put_put,HBS.out]
  have hl:(enc ⟨4,0,x.abs⟩).length≤4000:=by rw [← HBS.out]; exact hlen
  have e0:∀ y:List Nat,y=enc ⟨4,0,x.abs⟩→putS 60000 (some []) y=some (enc ⟨4,0,x.abs⟩):=fun y hy=>by
   rw [hy,put_some (by simp only [List.length_nil]; omega)]
   rfl
  refine e0 _ ?_
  simp only [enc]
  first | rfl | simp
 have HWF:Hid (Wtr D3 N 60000 (some BS) w3):=by have h:=HW3.out; rw [hst] at h; exact h
 clear hst hks
 go_wp2_with fail
 refine (done_any HWF.out (by simp only [Option.getD_some]; omega)).mono ?_
 rintro e w9 ⟨t,c,rfl,own,fr,o9⟩
 go_wp2_with fail
 go_ret2
 have hs:=HO3.out.size
 exact ⟨t,c,rfl,own,fun k hk=>Nat.le_trans hs (fr k hk),(HO3.out.trans o9 (fun _ _ h=>h.elim)).mono (fun i hi h=>by have:=HZ.out; omega)⟩
theorem bytes_any (kd:Nat) (node:Int) (x:E) (w:World) (hr:Row w x.a x.cap x.l) (hk:OkR ⟨kd,node,x.abs⟩):Calls Tryz.prog 128 #[(.agg #[.int .u64 (kd:Int),.int .i64 node,.string x.key,.int .i64 (x.f 0),.int .i64 (x.f 1),.int .i64 (x.f 2),.int .i64 (x.f 3),.int .i64 (x.f 4),.int .i64 (x.f 5),.int .i64 (x.f 6),.int .i64 (x.f 7),.slice x.a x.l.length x.cap])] w fun e w'=>∃ t c,e=.returned (.tuple #[.slice t (enc ⟨kd,node,x.abs⟩).length c,.int .i64 0])∧OwnR w' t c (enc ⟨kd,node,x.abs⟩)∧(∀ k,blk t=some k→w.heap.size≤k)∧Off (fun _=>False) w w':=by
 rcases hk.is with ⟨h,h2,-⟩ | ⟨h,-,-⟩ | ⟨h,-⟩ | ⟨h,h2,-⟩ <;> simp only at h <;> subst h
 ·simp only at h2
  subst h2
  exact bytes1_any x w hr hk
 ·exact bytes2_any node x w hr hk
 ·exact bytes3_any node x w hk
 ·simp only at h2
  subst h2
  exact bytes4_any x w hk
end Go.Proofs.YthjbnpaghiojlaaGreat
