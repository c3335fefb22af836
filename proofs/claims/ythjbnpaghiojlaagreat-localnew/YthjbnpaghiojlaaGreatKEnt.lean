/- Items of several texts. -/
import Derived.Test.YthjbnpaghiojlaaGreatRows
import Derived.Shelf.SlIter.Nil
import Derived.Shelf.SortM.Plain
import Derived.Shelf.SortM.SortNone
import Derived.Ground.GgzProg
import Derived.Ground.SlgmProg
import Derived.Test.YthjbnpaghiojlaaGreatKLiv
import Derived.Test.YthjbnpaghiojlaaGreatKTxt
import Derived.Test.YthjbnpaghiojlaaGreatKTop
namespace Go.Proofs.YthjbnpaghiojlaaGreat
open Go.RowKit Go.Maps Go.Sort Go.Shelf
def Tryz.keys194_ren:Go.Shelf.Ren:=⟨fun | 7=>194 | 10=>219 | n=>n,fun | 23=>140 | 26=>9 | 3=>47 | 28=>223 | 0=>0 | 27=>222 | 33=>118 | 4=>4 | n=>n,fun | n=>n⟩
theorem Tryz.keys194:Go.Proofs.SlLaysZ.n7 Tryz.prog Tryz.keys194_ren:={
  mixed:=by kernel_rfl
  f7:=⟨Tryz.f194.name,by decide,Tryz.func194.trans (congrArg some (by kernel_rfl))⟩
  f10:=⟨Tryz.f219.name,by decide,Tryz.func219.trans (congrArg some (by kernel_rfl))⟩
  t0:=Tryz.underlying0
  a0:=Tryz.isAgg0
  z0:=Tryz.sizeOf0
  v0:=Tryz.zeroValue0
  t4:=Tryz.underlying4
  a4:=Tryz.isAgg4
  z4:=Tryz.sizeOf4
  v4:=Tryz.zeroValue4
  t23:=Tryz.underlying140
  a23:=Tryz.isAgg140
  z23:=Tryz.sizeOf140
  v23:=Tryz.zeroValue140
  t26:=Tryz.underlying9
  a26:=Tryz.isAgg9
  z26:=Tryz.sizeOf9
  v26:=Tryz.zeroValue9
  t27:=Tryz.underlying222
  a27:=Tryz.isAgg222
  z27:=Tryz.sizeOf222
  v27:=Tryz.zeroValue222
  t28:=Tryz.underlying223
  a28:=Tryz.isAgg223
  z28:=Tryz.sizeOf223
  v28:=Tryz.zeroValue223
  t33:=Tryz.underlying118
  a33:=Tryz.isAgg118
  z33:=Tryz.sizeOf118
  v33:=Tryz.zeroValue118 }
def Tryz.sorted193_ren:Go.Shelf.Ren:=⟨fun | 6=>193 | 8=>217 | 9=>218 | 11=>237 | 13=>239 | 12=>238 | 23=>253 | 24=>254 | 14=>244 | 15=>245 | 16=>246 | 17=>247 | 18=>248 | 19=>249 | 20=>250 | 21=>251 | 22=>252 | 25=>259 | 26=>260 | 27=>261 | 28=>262 | 29=>263 | 30=>264 | 31=>271 | n=>n,fun | 26=>9 | 28=>223 | 24=>220 | 0=>0 | 3=>3 | 37=>58 | 48=>121 | 50=>25 | 4=>4 | 40=>276 | 39=>275 | 45=>202 | 5=>5 | 9=>9 | 51=>286 | 55=>289 | 57=>297 | 58=>298 | 33=>118 | n=>n,fun | n=>n⟩
theorem Tryz.sorted193:Go.Proofs.SlLaysZ.n6 Tryz.prog Tryz.sorted193_ren:={
  mixed:=by kernel_rfl
  f6:=⟨Tryz.f193.name,by decide,Tryz.func193.trans (congrArg some (by kernel_rfl))⟩
  f8:=⟨Tryz.f217.name,by decide,Tryz.func217.trans (congrArg some (by kernel_rfl))⟩
  f11:=⟨Tryz.f237.name,by decide,Tryz.func237.trans (congrArg some (by kernel_rfl))⟩
  t0:=Tryz.underlying0
  a0:=Tryz.isAgg0
  z0:=Tryz.sizeOf0
  v0:=Tryz.zeroValue0
  t24:=Tryz.underlying220
  a24:=Tryz.isAgg220
  z24:=Tryz.sizeOf220
  v24:=Tryz.zeroValue220
  t26:=Tryz.underlying9
  a26:=Tryz.isAgg9
  z26:=Tryz.sizeOf9
  v26:=Tryz.zeroValue9
  t28:=Tryz.underlying223
  a28:=Tryz.isAgg223
  z28:=Tryz.sizeOf223
  v28:=Tryz.zeroValue223
  i26:=by kernel_rfl }
def Tryz.sort218_ren:Go.Shelf.Ren:=⟨fun | 6=>218 | 8=>239 | 9=>238 | 19=>253 | 20=>254 | 21=>244 | 22=>245 | 23=>246 | 24=>247 | 25=>248 | 26=>249 | 27=>250 | 28=>251 | 29=>252 | 36=>259 | 31=>260 | 32=>261 | 37=>262 | 38=>263 | 39=>264 | 41=>271 | n=>n,fun | 27=>220 | 29=>9 | 3=>3 | 32=>58 | 26=>220 | 0=>0 | 44=>121 | 46=>25 | 4=>4 | 36=>276 | 35=>275 | 41=>202 | 5=>5 | 9=>9 | 53=>286 | 57=>289 | 63=>297 | 64=>298 | n=>n,fun | n=>n⟩
theorem Tryz.sort218:Go.Proofs.SlLaysM.n6 Tryz.prog Tryz.sort218_ren:={
  mixed:=by kernel_rfl
  f6:=⟨Tryz.f218.name,by decide,Tryz.func218.trans (congrArg some (by kernel_rfl))⟩
  f8:=Tryz.func239.trans (congrArg some (by kernel_rfl))
  f9:=⟨Tryz.f238.name,by decide,Tryz.func238.trans (congrArg some (by kernel_rfl))⟩
  f19:=Tryz.func253.trans (congrArg some (by kernel_rfl))
  f20:=Tryz.func254.trans (congrArg some (by kernel_rfl))
  f21:=⟨Tryz.f244.name,by decide,Tryz.func244.trans (congrArg some (by kernel_rfl))⟩
  f22:=⟨Tryz.f245.name,by decide,Tryz.func245.trans (congrArg some (by kernel_rfl))⟩
  f23:=⟨Tryz.f246.name,by decide,Tryz.func246.trans (congrArg some (by kernel_rfl))⟩
  f24:=⟨Tryz.f247.name,by decide,Tryz.func247.trans (congrArg some (by kernel_rfl))⟩
  f25:=⟨Tryz.f248.name,by decide,Tryz.func248.trans (congrArg some (by kernel_rfl))⟩
  f26:=⟨Tryz.f249.name,by decide,Tryz.func249.trans (congrArg some (by kernel_rfl))⟩
  f27:=⟨Tryz.f250.name,by decide,Tryz.func250.trans (congrArg some (by kernel_rfl))⟩
  f28:=⟨Tryz.f251.name,by decide,Tryz.func251.trans (congrArg some (by kernel_rfl))⟩
  f29:=⟨Tryz.f252.name,by decide,Tryz.func252.trans (congrArg some (by kernel_rfl))⟩
  f31:=Tryz.func260.trans (congrArg some (by kernel_rfl))
  f32:=Tryz.func261.trans (congrArg some (by kernel_rfl))
  f36:=⟨Tryz.f259.name,by decide,Tryz.func259.trans (congrArg some (by kernel_rfl))⟩
  f37:=⟨Tryz.f262.name,by decide,Tryz.func262.trans (congrArg some (by kernel_rfl))⟩
  f38:=⟨Tryz.f263.name,by decide,Tryz.func263.trans (congrArg some (by kernel_rfl))⟩
  f39:=⟨Tryz.f264.name,by decide,Tryz.func264.trans (congrArg some (by kernel_rfl))⟩
  f41:=⟨Tryz.f271.name,by decide,Tryz.func271.trans (congrArg some (by kernel_rfl))⟩
  t0:=Tryz.underlying0
  a0:=Tryz.isAgg0
  z0:=Tryz.sizeOf0
  v0:=Tryz.zeroValue0
  t3:=Tryz.underlying3
  a3:=Tryz.isAgg3
  z3:=Tryz.sizeOf3
  v3:=Tryz.zeroValue3
  t4:=Tryz.underlying4
  a4:=Tryz.isAgg4
  z4:=Tryz.sizeOf4
  v4:=Tryz.zeroValue4
  t5:=Tryz.underlying5
  a5:=Tryz.isAgg5
  z5:=Tryz.sizeOf5
  v5:=Tryz.zeroValue5
  t9:=Tryz.underlying9
  a9:=Tryz.isAgg9
  z9:=Tryz.sizeOf9
  v9:=Tryz.zeroValue9
  t26:=Tryz.underlying220
  a26:=Tryz.isAgg220
  z26:=Tryz.sizeOf220
  v26:=Tryz.zeroValue220
  t27:=Tryz.underlying220
  a27:=Tryz.isAgg220
  z27:=Tryz.sizeOf220
  v27:=Tryz.zeroValue220
  t29:=Tryz.underlying9
  a29:=Tryz.isAgg9
  z29:=Tryz.sizeOf9
  v29:=Tryz.zeroValue9
  t32:=Tryz.underlying58
  a32:=Tryz.isAgg58
  z32:=Tryz.sizeOf58
  v32:=Tryz.zeroValue58
  t35:=Tryz.underlying275
  a35:=Tryz.isAgg275
  z35:=Tryz.sizeOf275
  v35:=Tryz.zeroValue275
  t36:=Tryz.underlying276
  a36:=Tryz.isAgg276
  z36:=Tryz.sizeOf276
  v36:=Tryz.zeroValue276
  t41:=Tryz.underlying202
  a41:=Tryz.isAgg202
  z41:=Tryz.sizeOf202
  v41:=Tryz.zeroValue202
  t44:=Tryz.underlying121
  a44:=Tryz.isAgg121
  z44:=Tryz.sizeOf121
  v44:=Tryz.zeroValue121
  t46:=Tryz.underlying25
  a46:=Tryz.isAgg25
  z46:=Tryz.sizeOf25
  v46:=Tryz.zeroValue25
  t53:=Tryz.underlying286
  a53:=Tryz.isAgg286
  z53:=Tryz.sizeOf286
  v53:=Tryz.zeroValue286
  t57:=Tryz.underlying289
  a57:=Tryz.isAgg289
  z57:=Tryz.sizeOf289
  v57:=Tryz.zeroValue289
  t63:=Tryz.underlying297
  a63:=Tryz.isAgg297
  z63:=Tryz.sizeOf297
  v63:=Tryz.zeroValue297
  t64:=Tryz.underlying298
  a64:=Tryz.isAgg298
  z64:=Tryz.sizeOf298
  v64:=Tryz.zeroValue298 }
theorem Tryz.sorts193 (m:Nat):AnyZ.SortsIn Tryz.prog Tryz.sorted193_ren Fence.wide m :=
  ⟨fun blk off cap ss W hH hblk hsz=>callsIn_wide.2 (AnyM.slices_Sort_string Tryz.sort218 blk off cap ss W hH hblk hsz),
   fun p cap W=>callsIn_wide.2 (AnyM.slices_Sort_string_none Tryz.sort218 p cap W)⟩
theorem Tryz.maps_Keys_194 (mb:Option Nat) (W:World):CallsIn Fence.wide 5 Tryz.prog 194 #[.map mb] W fun e w'=>e=.returned (.func (.func 219) #[] #[.pointer (some ⟨W.heap.size,0,none⟩)])∧w'=W.alloc (.cells #[.map mb] 140) :=
  AnyZ.keys_in Tryz.keys194 Fence.wide 5 trivial rfl mb W
set_option maxHeartbeats 1000000 in
theorem Tryz.slices_Sorted_keys_193_194 {H:Type} (b nn:Nat) (D0:DataW H) (R:Value→Option (DataW H × List MemPlace)) (w:World) (hown:w.ownsMap Tryz.prog 9 R b nn D0) (hmax:Maps.size D0≤maxLen) (hbytes:Maps.size D0 * 16≤140737488355328) :
    CallsIn Fence.wide 5 Tryz.prog 193 #[.func (.func 219) #[] #[.pointer (some ⟨w.heap.size,0,none⟩)]] (w.alloc (.cells #[.map (some b)] 140)) fun e w'=>∃ (v:Value) (ss:List (List UInt8)),e=.returned v∧ss.Perm (strKeys D0) ∧
      w'.ownsRow (w.alloc (.cells #[.map (some b)] 140)).heap.size 9 1 v ss.length ((ss.mergeSort (fun x y=>decide (x≤y))).map encStr)∧(v=.slice none 0 0↔ss=[])∧Below (w.alloc (.cells #[.map (some b)] 140)).heap.size (w.alloc (.cells #[.map (some b)] 140)) w':=by
  have hbl:=hown.lt
  have hseq:SeqGives Fence.wide 2 Tryz.prog 219 #[.pointer (some ⟨w.heap.size,0,none⟩)] encStr (fun ss=>ss.Perm (strKeys D0)) (Maps.size D0) (w.alloc (.cells #[.map (some b)] 140)) :=
    AnyZ.keys_gives (ρ:=Tryz.keys194_ren) { Tryz.keys194 with } Fence.wide _ trivial rfl (by omega) w.heap.size b nn D0 _ (by simp) (by simp) (by
      obtain ⟨es,clock,hb,Ft,hs,hD⟩:=hown
      exact ⟨es,clock,(Below.heap_alloc _ _ b hbl).trans hb,Ft,hs,hD⟩)
  exact AnyZ.sorted_in Tryz.sorted193 Fence.wide 5 trivial trivial trivial trivial rfl (by omega) (Tryz.sorts193 _) (enters_of Tryz.func218 (by kernel_rfl) rfl) 219 #[.pointer (some ⟨w.heap.size,0,none⟩)] trivial (enters_of Tryz.func219 (by kernel_rfl) rfl) _ _ hmax hbytes _ hseq
end Go.Proofs.YthjbnpaghiojlaaGreat

namespace Go.Proofs.YthjbnpaghiojlaaGreat
open Go.RowKit
theorem before_lt:∀ {a b:List UInt8},bytesBefore a b=true→a < b
 | [],[],h=>by simp [bytesBefore] at h
 | [],_ :: _,_=>List.nil_lt_cons _ _
 | _ :: _,[],h=>by simp [bytesBefore] at h
 | x :: r,y :: s,h=>by
  simp only [bytesBefore,Bool.or_eq_true,Bool.and_eq_true,decide_eq_true_eq,beq_iff_eq] at h
  rw [List.cons_lt_cons_iff]
  rcases h with h | ⟨h1,h2⟩
  ·exact .inl h
  ·exact .inr ⟨h1,before_lt h2⟩
theorem sorted_keys {t:List E} (h:Sor E.key t) {ss:List (List UInt8)} (hp:ss.Perm (strKeys (datum t))):ss.mergeSort (fun x y=>decide (x≤y))=t.map fun e=>kb e.key:=by
 rw [strKeys_datum] at hp
 refine (mergeSort_of_perm hp).trans ?_
 refine List.mergeSort_of_pairwise ?_
 rw [List.pairwise_map]
 refine List.Pairwise.imp (fun {x y} hxy=>?_) h
 exact decide_eq_true (List.le_of_lt (before_lt hxy))
theorem enc_kb (k:ByteArray):encStr (kb k)=.string k:=by
 obtain ⟨⟨l⟩⟩:=k
 rfl
theorem keys_any (b:Nat) (w:World):Calls Tryz.prog 194 #[.map (some b)] w fun e w'=>e=.returned (.func (.func 219) #[] #[.pointer (some ⟨w.heap.size,0,none⟩)])∧w'=w.alloc (.cells #[.map (some b)] 140) :=
 callsIn_wide.1 (Tryz.maps_Keys_194 (some b) w)
theorem sorted_any (p b:Nat) (t:List E) (w:World) (h:Tab p b t w) :
  Calls Tryz.prog 193 #[.func (.func 219) #[] #[.pointer (some ⟨w.heap.size,0,none⟩)]] (w.alloc (.cells #[.map (some b)] 140)) fun e w'=>∃ a c,e=.returned (.slice a t.length c)∧(∀ i x,t[i]?=some x→∃ g,a=some ⟨g,0,none⟩∧w'.cell? ⟨g,i,none⟩=some (.string x.key))∧Off (fun _=>False) (w.alloc (.cells #[.map (some b)] 140)) w':=by
 have hf:=h.few
 refine (callsIn_wide.1 (Tryz.slices_Sorted_keys_193_194 b t.length (datum t) hR w h.own (by rw [size_datum]; unfold maxLen; omega) (by rw [size_datum]; omega))).mono ?_
 rintro e w' ⟨v,ss,rfl,hp,hrow,hnil,hb⟩
 rw [sorted_keys h.sor hp] at hrow
 have hl:ss.length=t.length:=by
  have:=hp.length_eq
  rw [strKeys_datum,List.length_map] at this
  exact this
 rw [hl] at hrow
 have off:Off (fun _=>False) (w.alloc (.cells #[.map (some b)] 140)) w':=⟨hb.os,hb.tape,hb.output,hb.size,fun k hk _=>hb.block k hk⟩
 have hv:∃ a c,v=.slice a t.length c:=by
  rcases hrow.2 with ⟨e,h0⟩ | ⟨g,c,cur,e,-⟩
  ·exact ⟨none,0,by rw [h0]; exact e⟩
  ·exact ⟨_,_,e⟩
 obtain ⟨a,c,rfl⟩:=hv
 refine ⟨a,c,rfl,fun i x hx=>?_,off⟩
 rcases hrow.2 with ⟨e,h0⟩ | ⟨g,c',cur,e,-⟩
 ·rw [List.eq_nil_of_length_eq_zero h0] at hx
  simp at hx
 ·simp only [Value.slice.injEq] at e
  obtain ⟨rfl,-,rfl⟩:=e
  refine ⟨g,rfl,?_⟩
  have:=World.ownsRow.cells hrow (g:=g) rfl i (.string x.key) (by
   rw [List.map_map,List.getElem?_map,hx]
   show some (encStr (kb x.key))=_
   rw [enc_kb])
  rw [add_lit,Nat.zero_add] at this
  exact this
theorem idx_strs {m n:Nat} (h:n < m) (c g:Nat) (W:World):(Instr.indexAt 220 (.slice (some ⟨g,0,none⟩) m c) (.int .i64 (n:Int))).run Tryz.prog W=.ok (.pointer (some ⟨g,n,none⟩)) W:=by
 go_simp
def ecs (e:E):List Value:=[.string e.key,.int .i64 (e.f 0),.int .i64 (e.f 1),.int .i64 (e.f 2),.int .i64 (e.f 3),.int .i64 (e.f 4),.int .i64 (e.f 5),.int .i64 (e.f 6),.int .i64 (e.f 7),.slice e.a e.l.length e.cap]
theorem ecs_len (e:E):(ecs e).length=10:=rfl
theorem ecs_one (e:E):∀ u ∈ ecs e,u.oneCell'=true:=by simp [ecs,Value.oneCell']
theorem Tryz.infoE:(Tryz.prog.info? 68).map (fun i=>(i.zero,i.size,i.bytes))=some (some (.agg #[.string ⟨#[]⟩,.int .i64 0,.int .i64 0,.int .i64 0,.int .i64 0,.int .i64 0,.int .i64 0,.int .i64 0,.int .i64 0,.slice none 0 0]),10,104):=by kernel_rfl
theorem get_at {t:List E} (h:Sor E.key t) {n:Nat} {x:E} (hx:t[n]?=some x):getE t x.key=x:=by
 unfold getE
 rw [(fnd_some E.key h).2 ⟨List.mem_of_getElem? hx,rfl⟩]
 rfl
theorem snoc_abs (es:List E) (x:E):absE (es ++ [x])=absE es ++ [x.abs]:=by simp [absE]
theorem flt_step (f:K→Bool) {t:List E} {n:Nat} {x:E} (hx:t[n]?=some x):(absE (t.take (n + 1))).filter f=(absE (t.take n)).filter f ++ (if f x.abs=true then [x.abs] else []):=by
 rw [List.take_add_one,hx]
 show (absE (t.take n ++ [x])).filter f=_
 rw [snoc_abs,List.filter_append]
 simp [List.filter_cons]
structure Apt (to:Option Addr) (a:Option Addr) (l:List V):Prop where
 row:l ≠ []→∀ c,blk a=some c→blk to ≠ some c
 val:∀ v ∈ l,v.data ≠ []→∀ c,blk v.ad=some c→blk to ≠ some c
theorem src_lt {w:World} {t:Option Addr} {c:Nat} {bs:List Nat} (h:Src w t c bs) (hb:bs ≠ []):∀ x,blk t=some x→x < w.heap.size:=by
 rcases h.is with ⟨-,e,-⟩ | ⟨ad,rfl,h0⟩
 ·exact absurd e hb
 ·intro x hx
  cases bs with
  | nil=>exact absurd rfl hb
  | cons y r =>
   have h1:=h0 0 _ rfl
   have h2:=cell_lt h1
   rw [add_block] at h2
   simp [blk] at hx
   omega
theorem Src.offX {D:Nat→Prop} {w w':World} {t:Option Addr} {c:Nat} {bs:List Nat} (h:Src w t c bs) (o:Off D w w') (hD:bs ≠ []→∀ x,blk t=some x→¬ D x):Src w' t c bs:=by
 rcases h.is with e | ⟨ad,rfl,h0⟩
 ·exact ⟨.inl e⟩
 ·refine ⟨.inr ⟨ad,rfl,fun j u hj=>?_⟩⟩
  have h1:=h0 j u hj
  rw [← h1]
  refine World.cell?_of_block (o.block _ (cell_lt h1) (hD (fun e=>?_) _ (by rw [add_block]; rfl)))
  rw [e] at hj
  simp [vl] at hj
theorem Apt.row_off {to a:Option Addr} {cap:Nat} {l:List V} {w w':World} (h:Apt to a l) (hr:Row w a cap l) (o:Off (fun c=>blk to=some c) w w'):Row w' a cap l :=
 ⟨hr.len,hr.bound,fun i v hi=>by
  obtain ⟨b,off,e,h1,h2⟩:=hr.at_ i v hi
  exact ⟨b,off,e,h1.off o (fun _=>h.row (fun e=>by rw [e] at hi; simp at hi) b (by rw [e]; rfl)),⟨h2.src.offX o (h.val v (List.mem_of_getElem? hi)),h2.lt,h2.n0,h2.n1,h2.m0,h2.m1,h2.len⟩⟩⟩
theorem Apt.step {to to' a:Option Addr} {cap N:Nat} {l:List V} {w:World} (h:Apt to a l) (hr:Row w a cap l) (hN:w.heap.size≤N) (hat:blk to'=blk to∨blk to'=some N):Apt to' a l:=by
 refine ⟨fun hl c hc e=>?_,fun v hv hd c hc e=>?_⟩
 ·rcases hat with k | k
  ·exact h.row hl c hc (k ▸ e)
  ·cases l with
   | nil=>exact hl rfl
   | cons v r =>
    obtain ⟨b,off,ea,h1,-⟩:=hr.at_ 0 v rfl
    have:=h1.lt
    rw [ea] at hc
    rw [k] at e
    simp [blk] at hc e
    omega
 ·rcases hat with k | k
  ·exact h.val v hv hd c hc (k ▸ e)
  ·have:=src_lt (hr.ok v hv).src hd c hc
   rw [k] at e
   simp at e
   omega
theorem all1_any (k:ByteArray) (w:World):Calls Tryz.prog 140 #[.string k] w fun e w'=>e=.returned (.bool true)∧Off (fun _=>False) w w':=by
 go_enter Tryz.func140,Tryz.ntmps140
 go_wp2_with fail
 go_ret
 exact ⟨rfl,Off.refl _ w⟩
set_option maxRecDepth 100000 in
set_option maxHeartbeats 2000000 in
theorem entries_all (p b:Nat) (t:List E)  (w:World) (h:Tab p b t w) (hb:∀ e ∈ t,e.l.length≤1000)  :
  Calls Tryz.prog 139 #[.pointer (some ⟨p,0,none⟩),.func (.func 140) #[] #[]] w fun e w'=>∃ (a:Option Addr) (c:Nat) (es:List E),e=.returned (.slice a es.length c)∧absE es=(absE t).filter (fun _:K=>true)∧OwnG 68 10 ecs w' a c es∧(∀ e ∈ es,Row w' e.a e.cap e.l∧Far w.heap.size e.a e.l)∧(∀ x,blk a=some x→w.heap.size≤x)∧Off (fun _=>False) w w':=by
 have hq0:=eql_ptr
 have c0:w.cell? ⟨p,0,none⟩=some (.map (some b)):=h.cel.cell 0
 have HT:Hid (Tab p b t w):=h
 have HB:Hid (∀ e ∈ t,e.l.length≤1000):=hb
 have _:=True.intro
 clear h hb
 go_enter Tryz.func139,Tryz.ntmps139
 go_wp2_with fail
 refine (keys_any b w).mono ?_
 rintro e w0 ⟨rfl,hw0⟩
 rw [hw0]
 clear hw0 w0 c0
 go_wp2_with fail
 refine (sorted_any p b t w HT.out).mono ?_
 rintro e wS ⟨ak,ck,rfl,hks,o1⟩
 have O1:Off (fun _=>False) w wS:=((Off.refl _ w).alloc _).trans o1 (fun _ _ h=>h)
 have HKS:Hid _:=hks
 have HOS:Hid _:=O1
 have HTS:Hid _:=HT.out.free O1
 clear hks O1 o1
 go_wp2_with fail
 go_loopw [5,17] (fun y z wr=>∃ (n:Nat) (to:Option Addr) (co:Nat) (es:List E),y=.slice to es.length co∧z=.int .i64 (n:Int)∧n≤t.length∧absE es=(absE (t.take n)).filter (fun _:K=>true)∧OwnG 68 10 ecs wr to co es∧(∀ e ∈ es,Row wr e.a e.cap e.l∧Apt to e.a e.l∧Far wS.heap.size e.a e.l)∧(∀ x,blk to=some x→wS.heap.size≤x)∧Off (fun _=>False) wS wr) (fun _ z _=>(t.length - intOf z).toNat)
 case atStart =>
  exact ⟨0,none,0,[],rfl,rfl,by omega,rfl,OwnG.nil _ _ _ _,fun e he=>by simp at he,fun x hx=>by simp [blk] at hx,Off.refl _ wS⟩
 case round =>
  obtain ⟨n,to,co,es,rfl,rfl,hn,hes,hog,hrs,hnw,O⟩:=hrel
  have HEL:Hid (es.length≤256):=by
   have e1:=congrArg List.length hes
   have e2:=List.length_filter_le (fun _:K=>true) (absE (t.take n))
   have e3:=HT.out.few
   rw [absE_len] at e1 e2
   rw [List.length_take] at e2
   show _≤_
   omega
  have HES:Hid _:=hes
  have HOG:Hid _:=hog
  have HRS:Hid _:=hrs
  have HNW:Hid _:=hnw
  have HO:Hid _:=O
  clear hes hog hrs hnw O
  have hfew:=HT.out.few
  by_cases hlt:n < t.length
  ·have e1:decide ((n:Int) < (t.length:Int))=true:=decide_eq_true (by omega)
   have e2:decide (n < t.length)=true:=decide_eq_true hlt
   obtain ⟨x,hx⟩:∃ x,t[n]?=some x:=⟨_,List.getElem?_eq_getElem hlt⟩
   obtain ⟨gk,rfl,hk⟩:=HKS.out n x hx
   have hxs:x.key.size≤32:=HT.out.len x (List.mem_of_getElem? hx)
   have kc:wr.cell? ⟨gk,n,none⟩=some (.string x.key):=by
    rw [← hk]
    exact World.cell?_of_block (a:=⟨gk,n,none⟩) (HO.out.block gk (cell_lt hk) (fun h=>h))
   have hix:=idx_strs hlt ck gk
   clear hk
   go_wp2_with fail
   refine (all1_any x.key _).mono ?_
   rintro e w1 ⟨rfl,o2⟩
   have O1:=HO.out.trans o2 (fun _ _ h=>h)
   have HO1:Hid _:=O1
   have HT1:Hid _:=HTS.out.free O1
   have HOG1:Hid _:=HOG.out.off o2 (fun _ _ _ h=>h)
   have HRS1:Hid (∀ e ∈ es,Row w1 e.a e.cap e.l∧Apt to e.a e.l∧Far wS.heap.size e.a e.l):=fun e he=>⟨(HRS.out e he).1.off o2,(HRS.out e he).2⟩
   clear O1 o2 HOG HRS
   have hlk:(Instr.lookup 140 (.map (some b)) (.string x.key) false).run Tryz.prog w1=.ok x.val w1:=by
    have e:=HT1.out.look1 (k:=x.key) (by unfold maxLen; omega)
    rw [get_at HT1.out.sor hx] at e
    exact e
   unfold E.val at hlk
   have c1:w1.cell? ⟨p,0,none⟩=some (.map (some b)):=HT1.out.cel.cell 0
   go_wp2_with fail
   clear hlk c1
   refine (tcopy_any x.f x.a x.cap x.l _ (HT1.out.row x (List.mem_of_getElem? hx)) (HB.out x (List.mem_of_getElem? hx))).mono ?_
   rintro e w2 ⟨a1,c1,l1,rfl,hc1,hr1,hf1,o2⟩
   have HC1:Hid _:=hc1
   have HR1:Hid _:=hr1
   have HF1:Hid _:=hf1
   have HOG2:Hid _:=HOG1.out.off o2 (fun _ _ _ h=>h)
   have HRS2:Hid (∀ e ∈ es,Row w2 e.a e.cap e.l∧Apt to e.a e.l∧Far wS.heap.size e.a e.l):=fun e he=>⟨(HRS1.out e he).1.off o2,(HRS1.out e he).2⟩
   have HO2:Hid _:=HO1.out.trans o2 (fun _ _ h=>h)
   have hS1:Hid (wS.heap.size≤w1.heap.size):=HO1.out.size
   have hto:Hid (∀ c,blk to=some c→c < w1.heap.size):=HOG1.out.lt
   clear hc1 hr1 hf1 o2 HT1 HOG1 HRS1 HO1
   have G:Cel w2.heap.size 68 #[.string x.key,.int .i64 (x.f 0),.int .i64 (x.f 1),.int .i64 (x.f 2),.int .i64 (x.f 3),.int .i64 (x.f 4),.int .i64 (x.f 5),.int .i64 (x.f 6),.int .i64 (x.f 7),.slice a1 l1.length c1] (w2.alloc (.cells #[.string x.key,.int .i64 (x.f 0),.int .i64 (x.f 1),.int .i64 (x.f 2),.int .i64 (x.f 3),.int .i64 (x.f 4),.int .i64 (x.f 5),.int .i64 (x.f 6),.int .i64 (x.f 7),.slice a1 l1.length c1] 68)):=Cel.new w2 _ _
   have OA:Off (fun _=>False) w2 (w2.alloc (.cells #[.string x.key,.int .i64 (x.f 0),.int .i64 (x.f 1),.int .i64 (x.f 2),.int .i64 (x.f 3),.int .i64 (x.f 4),.int .i64 (x.f 5),.int .i64 (x.f 6),.int .i64 (x.f 7),.slice a1 l1.length c1] 68)):=(Off.refl _ w2).alloc _
   have G2:∀ j u,(ecs ⟨x.key,x.f,a1,c1,l1⟩)[j]?=some u→(w2.alloc (.cells #[.string x.key,.int .i64 (x.f 0),.int .i64 (x.f 1),.int .i64 (x.f 2),.int .i64 (x.f 3),.int .i64 (x.f 4),.int .i64 (x.f 5),.int .i64 (x.f 6),.int .i64 (x.f 7),.slice a1 l1.length c1] 68)).cell? ⟨w2.heap.size,j,none⟩=some u:=fun j u hj=>by
    rw [G.cell j,← hj,List.getElem?_toArray]
    rfl
   have HG2:Hid _:=G2
   have HOA:Hid _:=OA
   clear G G2 OA
   go_wp2_with (at_builtin; refine wpList_appG (cs:=ecs) rfl (.tmp 24) (.tmp 34) Tryz.underlying33 Tryz.infoE rfl (by decide) (by decide) ecs_len ecs_one rfl to co es rfl (HOG2.out.off HOA.out (fun _ _ _ h=>h)) w2.heap.size 1 ⟨x.key,x.f,a1,c1,l1⟩ rfl HG2.out (by have:=HEL.out; omega) ?_; intro to' co' w3 ys hys own3 o3 at3; have HOWN3:Hid _:=own3; have HO3:Hid _:=o3; have HAT:Hid _:=at3; clear own3 o3 at3)
   go_roundw
   case rel =>
    have fo:Off (fun c=>blk to=some c) w2 w3:=(HOA.out.mono (fun _ _ h=>h.elim)).trans HO3.out (fun _ _ h=>h)
    have hat:blk to'=blk to∨blk to'=some (w2.heap.size + 1):=by
     have e:=HAT.out
     simpa [World.size_alloc] using e
    have hap:Apt to a1 l1:=⟨fun _ c hc e=>by have h1:=HF1.out.row c hc; have h2:=hto.out c e; omega,fun v hv _ c hc e=>by have h1:=HF1.out.val v hv c hc; have h2:=hto.out c e; omega⟩
    have hsz:wS.heap.size≤w2.heap.size:=HO2.out.size
    refine ⟨n + 1,to',co',ys,rfl,by go_num,by omega,?_,HOWN3.out,?_,?_,?_⟩
    ·rw [hys.out,snoc_abs,HES.out,flt_step (fun _:K=>true) hx,if_pos rfl]
     show _ ++ [(⟨x.key,x.f,cont l1⟩:K)]=_ ++ [x.abs]
     rw [HC1.out]
     rfl
    ·intro e he
     rw [hys.out,List.mem_append,List.mem_singleton] at he
     rcases he with he | rfl
     ·exact ⟨(HRS2.out e he).2.1.row_off (HRS2.out e he).1 fo,(HRS2.out e he).2.1.step (HRS2.out e he).1 (by omega) hat,(HRS2.out e he).2.2⟩
     ·exact ⟨hap.row_off HR1.out fo,hap.step HR1.out (by omega) hat,HF1.out.mono hS1.out⟩
    ·intro c hc
     rcases hat with h | h
     ·exact HNW.out c (h ▸ hc)
     ·rw [h] at hc
      simp at hc
      omega
    ·exact HO2.out.trans fo (fun i hi h=>by have:=HNW.out i h; omega)
   case measure=>simp [intOf]; omega
  ·obtain rfl:n=t.length:=by omega
   have e1:decide ((t.length:Int) < (t.length:Int))=false:=decide_eq_false (by omega)
   have e2:decide (t.length < t.length)=false:=decide_eq_false (by omega)
   go_wp2_with fail
   go_ret
   exact ⟨to,co,es,rfl,by rw [HES.out,List.take_length],HOG.out,fun e he=>⟨(HRS.out e he).1,(HRS.out e he).2.2.mono HOS.out.size⟩,fun x hx=>Nat.le_trans HOS.out.size (HNW.out x hx),HOS.out.trans HO.out (fun _ _ h=>h)⟩
theorem tall_any (p b:Nat) (t:List E) (w:World) (h:Tab p b t w) (hb:∀ e ∈ t,e.l.length≤1000) :
  Calls Tryz.prog 79 #[.pointer (some ⟨p,0,none⟩)] w fun e w'=>∃ (a:Option Addr) (c:Nat) (es:List E),e=.returned (.slice a es.length c)∧absE es=absE t∧OwnG 68 10 ecs w' a c es∧(∀ e ∈ es,Row w' e.a e.cap e.l∧Far w.heap.size e.a e.l)∧(∀ x,blk a=some x→w.heap.size≤x)∧Off (fun _=>False) w w':=by
 have HT:Hid _:=h
 clear h
 go_enter Tryz.func79,Tryz.ntmps79
 go_wp2_with fail
 refine (entries_all p b t w HT.out hb).mono ?_
 rintro e w1 ⟨a,c,es,rfl,h1,h2,h3,h4,h5⟩
 have HA:Hid _:=h1
 clear h1
 go_wp2_with fail
 go_ret
 exact ⟨a,c,es,rfl,by rw [HA.out]; simp,h2,h3,h4,h5⟩
end Go.Proofs.YthjbnpaghiojlaaGreat
