/- Items of several texts. -/
import Derived.Defers
import Derived.Recover
import Derived.RegionCalls
import Derived.Laws.LoneSync
import Derived.Deep.RegionWith
import Derived.Laws.EntriesVeiled
import Derived.Test.YthjbnpaghiojlaaGreatKMem
import Derived.Test.YthjbnpaghiojlaaGreatKLPure
import Derived.Test.YthjbnpaghiojlaaGreatKFTh
import Derived.Test.YthjbnpaghiojlaaGreatKInp
namespace Go.Proofs.YthjbnpaghiojlaaGreat
set_option maxRecDepth 100000
open Go.RowKit
theorem disable (w:World):(callFunc 276 #[]).run Tryz.prog w=.ok (.value (.tuple #[])) w:=run_call_mark0 Tryz.func276 (by kernel_rfl) (by kernel_rfl) (by kernel_rfl) .disable (by kernel_rfl) w
theorem enable (w:World):(callFunc 278 #[]).run Tryz.prog w=.ok (.value (.tuple #[])) w:=run_call_mark0 Tryz.func278 (by kernel_rfl) (by kernel_rfl) (by kernel_rfl) .enable (by kernel_rfl) w
theorem acquire (a:Addr) (w:World):(callFunc 279 #[.pointer (some a)]).run Tryz.prog w=.ok (.value (.tuple #[])) w:=run_call_marked Tryz.func279 (by kernel_rfl) (by kernel_rfl) (by kernel_rfl) .acquire (by kernel_rfl) a w
theorem releaseMerge (a:Addr) (w:World):(callFunc 281 #[.pointer (some a)]).run Tryz.prog w=.ok (.value (.tuple #[])) w:=run_call_marked Tryz.func281 (by kernel_rfl) (by kernel_rfl) (by kernel_rfl) .releaseMerge (by kernel_rfl) a w
theorem store_deferred (a:Addr) (x:Value) (u:FrameMode) (w:World) (hc:w.cell? a=some x) (hz:w.frozen? a=false) :
  CallsD Tryz.prog 268 #[.pointer (some a),.bool true] u w fun e u' w'=>u'=u∧(e=.returned (.tuple #[])∧w'=w.drew.setCell a (.int .u32 1)):=by
 have hc':w.drew.cell? a=some x:=by go_simp
 have hz':w.drew.frozen? a=false:=by go_simp
 have hst:=run_call_store (P:=Tryz.prog) Tryz.func274 (by kernel_rfl) (by kernel_rfl) (by kernel_rfl) (by kernel_rfl) (k:=.u32) (y:=1) hc' hz'
 go_enter_d Tryz.func268,Tryz.ntmps268
 go_wp2
 go_region_calls
 all_goals (go_end0; exact ⟨rfl,rfl⟩)
theorem unlock_deferred (a:Addr) (u:FrameMode) (w:World) (hc:w.cell? a=some (.int .i32 1)) (hz:w.frozen? a=false) :
  CallsD Tryz.prog 267 #[.pointer (some a)] u w fun e u' w'=>u'=u∧(e=.returned (.tuple #[])∧w'=w.setCell a (.int .i32 0)):=by
 have hd:=disable
 have he:=enable
 have hr:=releaseMerge
 have hadd:=run_call_add (P:=Tryz.prog) Tryz.func282 (by kernel_rfl) (by kernel_rfl) (by kernel_rfl) .i32 (by kernel_rfl) (y:=-1) (s:=0) hc hz (by simp [go_sem]; rfl)
 have hcv:=run_convert_to_unsafe (P:=Tryz.prog) (src:=303) (dst:=307) Tryz.underlying303 Tryz.underlying307 (by kernel_rfl) hc
 go_enter_d Tryz.func267,Tryz.ntmps267
 go_wp2
 go_end0
 go_wp2
 go_end0
 exact ⟨rfl,rfl⟩
theorem lock_free (a:Addr) (w:World) (hc:w.cell? a=some (.int .i32 0)) (hz:w.frozen? a=false) :
  Calls Tryz.prog 266 #[.pointer (some a)] w fun e w'=>e=.returned (.tuple #[])∧w'=w.setCell a (.int .i32 1):=by
 have hd:=disable
 have he:=enable
 have ha:=acquire
 have hcas:=run_call_cas_hit (P:=Tryz.prog) Tryz.func277 (by kernel_rfl) (by kernel_rfl) (by kernel_rfl) .i32 (by kernel_rfl) (y:=1) hc hz
 have hc':(w.setCell a (.int .i32 1)).cell? a=some (.int .i32 1):=World.cell?_setCell_same w a _ hc
 have hcv:=run_convert_to_unsafe (P:=Tryz.prog) (src:=303) (dst:=307) Tryz.underlying303 Tryz.underlying307 (by kernel_rfl) hc'
 go_enter Tryz.func266,Tryz.ntmps266
 go_wp2
 first | go_end0 | (simp only [Exit.inBlock,Exit.then]; refine bodyPost_ret (results_none rfl _ _ _) rfl ?_) | refine bodyPost_ret (results_none rfl _ _ _) rfl ?_
 go_wp2
 go_end0
 exact ⟨rfl,rfl⟩
theorem do_done (a:Addr) (fv:Value) (w:World) (h0:w.cell? a=some (.int .u32 1)) :
  Calls Tryz.prog 240 #[.pointer (some a),fv] w fun e w'=>e=.returned (.tuple #[])∧w'=w:=by
 have hl:=run_call_load (P:=Tryz.prog) Tryz.func265 (by kernel_rfl) (by kernel_rfl) (by kernel_rfl) .u32 (by kernel_rfl) h0
 have hnot:∀ (x:Bool) (w:World),(Op.unary .not (.bool x)).run Tryz.prog w=.ok (.bool (!x)) w:=fun _ _=>rfl
 go_enter Tryz.func240,Tryz.ntmps240
 go_wp2
 go_end0
 exact ⟨rfl,rfl⟩
end Go.Proofs.YthjbnpaghiojlaaGreat

namespace Go.Proofs.YthjbnpaghiojlaaGreat
set_option maxRecDepth 100000
open Go.RowKit
def Tb (b:Nat) (k:Int) (fv:Value) (d s:Int) (nums:Value) (m:Int) (w:World):Prop :=
 Cel b 262 #[.int .i64 k,fv,.int .u32 d,.int .i32 s,.int .u32 0,nums,.int .i64 m] w
theorem Tb.off {D:Nat→Prop} {b:Nat} {k:Int} {fv:Value} {d s:Int} {nums:Value} {m:Int} {w w':World} (h:Tb b k fv d s nums m w) (o:Off D w w') (hb:¬ D b):Tb b k fv d s nums m w':=Cel.off h o hb
theorem Tb.lt {b:Nat} {k:Int} {fv:Value} {d s:Int} {nums:Value} {m:Int} {w:World} (h:Tb b k fv d s nums m w):b < w.heap.size:=Cel.lt h
theorem Tb.c0 {b:Nat} {k:Int} {fv:Value} {d s:Int} {nums:Value} {m:Int} {w:World} (h:Tb b k fv d s nums m w):w.cell? ⟨b,0,none⟩=some (.int .i64 k):=by rw [Cel.cell h]; rfl
theorem Tb.c1 {b:Nat} {k:Int} {fv:Value} {d s:Int} {nums:Value} {m:Int} {w:World} (h:Tb b k fv d s nums m w):w.cell? ⟨b,1,none⟩=some fv:=by rw [Cel.cell h]; rfl
theorem Tb.c2 {b:Nat} {k:Int} {fv:Value} {d s:Int} {nums:Value} {m:Int} {w:World} (h:Tb b k fv d s nums m w):w.cell? ⟨b,2,none⟩=some (.int .u32 d):=by rw [Cel.cell h]; rfl
theorem Tb.c3 {b:Nat} {k:Int} {fv:Value} {d s:Int} {nums:Value} {m:Int} {w:World} (h:Tb b k fv d s nums m w):w.cell? ⟨b,3,none⟩=some (.int .i32 s):=by rw [Cel.cell h]; rfl
theorem Tb.c5 {b:Nat} {k:Int} {fv:Value} {d s:Int} {nums:Value} {m:Int} {w:World} (h:Tb b k fv d s nums m w):w.cell? ⟨b,5,none⟩=some nums:=by rw [Cel.cell h]; rfl
theorem Tb.c6 {b:Nat} {k:Int} {fv:Value} {d s:Int} {nums:Value} {m:Int} {w:World} (h:Tb b k fv d s nums m w):w.cell? ⟨b,6,none⟩=some (.int .i64 m):=by rw [Cel.cell h]; rfl
theorem Tb.fr {b:Nat} {k:Int} {fv:Value} {d s:Int} {nums:Value} {m:Int} {w:World} (h:Tb b k fv d s nums m w) (o:Nat):w.frozen? ⟨b,o,none⟩=false:=Cel.free h o
theorem Tb.s1 {b:Nat} {k:Int} {fv:Value} {d s:Int} {nums:Value} {m:Int} {w:World} (h:Tb b k fv d s nums m w) (u:Value):Tb b k u d s nums m (w.setCell ⟨b,1,none⟩ u):=Cel.set h 1 u
theorem Tb.s2 {b:Nat} {k:Int} {fv:Value} {d s:Int} {nums:Value} {m:Int} {w:World} (h:Tb b k fv d s nums m w) (u:Int):Tb b k fv u s nums m (w.setCell ⟨b,2,none⟩ (.int .u32 u)):=Cel.set h 2 _
theorem Tb.s3 {b:Nat} {k:Int} {fv:Value} {d s:Int} {nums:Value} {m:Int} {w:World} (h:Tb b k fv d s nums m w) (u:Int):Tb b k fv d u nums m (w.setCell ⟨b,3,none⟩ (.int .i32 u)):=Cel.set h 3 _
theorem Tb.s5 {b:Nat} {k:Int} {fv:Value} {d s:Int} {nums:Value} {m:Int} {w:World} (h:Tb b k fv d s nums m w) (u:Value):Tb b k fv d s u m (w.setCell ⟨b,5,none⟩ u):=Cel.set h 5 u
theorem Tb.s6 {b:Nat} {k:Int} {fv:Value} {d s:Int} {nums:Value} {m:Int} {w:World} (h:Tb b k fv d s nums m w) (u:Int):Tb b k fv d s nums u (w.setCell ⟨b,6,none⟩ (.int .i64 u)):=Cel.set h 6 _
theorem new_fn (n:Int) (g:Fn) (first caps:Array Value) (w:World) :
  Calls Tryz.prog 195 #[.int .i64 n,(.func g first caps)] w fun e w'=>e=.returned (.pointer (some ⟨w.heap.size,0,none⟩))∧Tb w.heap.size (min (max n 0) 4096) (.func g first caps) 0 0 (.slice none 0 0) 0 w'∧Off (fun _=>False) w w':=by
 have E:Off (fun _=>False) w (w.alloc (.cells #[.int .i64 (min (max n 0) 4096),(.func g first caps),.int .u32 0,.int .i32 0,.int .u32 0,.slice none 0 0,.int .i64 0] 262)):=(Off.refl _ _).alloc _
 have N:Tb w.heap.size (min (max n 0) 4096) (.func g first caps) 0 0 (.slice none 0 0) 0 (w.alloc (.cells #[.int .i64 (min (max n 0) 4096),(.func g first caps),.int .u32 0,.int .i32 0,.int .u32 0,.slice none 0 0,.int .i64 0] 262)):=Cel.new _ _ _
 rcases (show n < 0∨(0≤n∧n≤4096)∨4096 < n by omega) with h | ⟨h,h'⟩ | h
 ·have e:min (max n 0) 4096=0:=by omega
  rw [e] at E N ⊢
  clear e
  go_enter Tryz.func195,Tryz.ntmps195
  go_wp2
  go_ret
  exact ⟨rfl,N,E⟩
 ·have e:min (max n 0) 4096=n:=by omega
  rw [e] at E N ⊢
  clear e
  go_enter Tryz.func195,Tryz.ntmps195
  go_wp2
  all_goals
   go_ret
   exact ⟨rfl,N,E⟩
 ·have e:min (max n 0) 4096=4096:=by omega
  rw [e] at E N ⊢
  clear e
  go_enter Tryz.func195,Tryz.ntmps195
  go_wp2
  all_goals
   go_ret
   exact ⟨rfl,N,E⟩
theorem ask1_idle (p:Addr) (w:World) :
  CallsD Tryz.prog 269 #[.pointer (some p)] .returning w fun e u' w'=>e=.returned (.tuple #[])∧u'=.returning∧w'=w:=by
 refine callsD_of_wpS Tryz.func269 rfl fun c₀ cs hu=>?_
 apply wpS_seq
 apply wpS_region
 simp [wpOpsS,go_sem,recoverD,hu,Tryz.ntmps269,Exit.thenS]
 refine wpS_cond (t:=false) (by simp [Act.eval,Array.replicate]) ?_
 simp only [Bool.false_eq_true,if_false]
 refine wpS_of_wp (wp_skip ?_)
 cases c₀
 simp_all [bodyPostS,results,Tryz.results269]
theorem ask_some (g:FuncId) (caps:Array Value) (i v:Int) (w:World) (R:World→Prop) (hen:∀ args w,(callFunc g args).run Tryz.prog w=.ok (.enter g args) w)
  (hc:Calls Tryz.prog g (#[.int .i64 i] ++ caps) (w.alloc (.cells #[.int .u32 0] 121)) fun e w'=>e=.returned (.int .u32 v)∧R w'∧Cel w.heap.size 121 #[.int .u32 0] w') :
  Calls Tryz.prog 257 #[.func (.func g) #[] caps,.int .i64 i] w fun e w'=>e=.returned (.int .u32 v)∧∃ w1,R w1∧Cel w.heap.size 121 #[.int .u32 0] w1∧w'=w1.setCell ⟨w.heap.size,0,none⟩ (.int .u32 v):=by
 have hmf:∀ (fn:Fn) (first cap:Array Value) (w:World),(Instr.makeFunc fn first cap).run Tryz.prog w=.ok (.func fn first cap) w:=fun _ _ _ _=>rfl
 have HC:Hid (Calls Tryz.prog g (#[.int .i64 i] ++ caps) (w.alloc (.cells #[.int .u32 0] 121)) fun e w'=>e=.returned (.int .u32 v)∧R w'∧Cel w.heap.size 121 #[.int .u32 0] w'):=hc
 clear hc
 go_enter_defers Tryz.func257,Tryz.ntmps257
 go_wp2_with fail
 refine HC.out.mono ?_
 rintro e w1 ⟨rfl,hR,hcel⟩
 have c0:=hcel.cell 0
 have f0:=hcel.free 0
 go_wp2
 refine leaves_cons (f:=269) (args:=#[.pointer (some ⟨w.heap.size,0,none⟩)]) (by simp) (by simp [go_sem]) ?_
 refine (ask1_idle ⟨w.heap.size,0,none⟩ _).mono ?_
 rintro e u' w'' ⟨rfl,rfl,rfl⟩
 have c1:(w1.setCell ⟨w.heap.size,0,none⟩ (.int .u32 v)).cell? ⟨w.heap.size,0,none⟩=some (.int .u32 v):=by rw [(hcel.set 0 _).cell]; rfl
 simp [Leaves,settle,results,Tryz.results257,go_sem,c1]
 exact ⟨w1,hR,hcel,rfl⟩
theorem slow_any (b:Nat) (w:World) (R:World→Prop) (k:Int) (fv nums:Value) (m:Int) (ht:Tb b k fv 0 0 nums m w)
  (hf:∀ w1,w1=w.setCell ⟨b,3,none⟩ (.int .i32 1)→Calls Tryz.prog 241 #[.pointer (some ⟨b,0,none⟩)] w1 fun e w2=>e=.returned (.tuple #[])∧R w2∧∃ fv' nums' m',Tb b k fv' 0 1 nums' m' w2) :
  Calls Tryz.prog 256 #[.pointer (some ⟨b,2,none⟩),.func (.func 241) #[.pointer (some ⟨b,0,none⟩)] #[]] w fun e w'=>e=.returned (.tuple #[]) ∧
   ∃ w2,R w2∧(∃ fv' nums' m',Tb b k fv' 0 1 nums' m' w2)∧w'=(w2.drew.setCell ⟨b,2,none⟩ (.int .u32 1)).setCell ⟨b,3,none⟩ (.int .i32 0):=by
 have t1:=ht.s3 1
 have HF:Hid (Calls Tryz.prog 241 #[.pointer (some ⟨b,0,none⟩)] (w.setCell ⟨b,3,none⟩ (.int .i32 1)) fun e w2=>e=.returned (.tuple #[])∧R w2∧∃ fv' nums' m',Tb b k fv' 0 1 nums' m' w2):=hf _ rfl
 clear hf
 have hl:=run_call_load (P:=Tryz.prog) Tryz.func265 (by kernel_rfl) (by kernel_rfl) (by kernel_rfl) .u32 (by kernel_rfl) t1.c2
 have c3:=ht.c3
 have f3:=ht.fr 3
 have hnot:∀ (x:Bool) (w:World),(Op.unary .not (.bool x)).run Tryz.prog w=.ok (.bool (!x)) w:=fun _ _=>rfl
 go_enter_defers Tryz.func256,Tryz.ntmps256
 go_wp2_with fail
 refine (lock_free ⟨b,3,none⟩ _ c3 f3).mono ?_
 rintro e w' ⟨rfl,rfl⟩
 go_wp2_with (go_at_call 255; go_in)
 refine HF.out.mono ?_
 rintro e w2 ⟨rfl,hR,fv',nums',m',t2⟩
 go_wp2_with fail
 refine leaves_cons (f:=268) (args:=#[.pointer (some ⟨b,2,none⟩),.bool true]) (by simp) (by simp [go_sem]) ?_
 refine (store_deferred ⟨b,2,none⟩ (.int .u32 0) .returning _ t2.c2 (t2.fr 2)).mono ?_
 rintro e u' w'' ⟨rfl,rfl,rfl⟩
 have t3:Tb b k fv' 1 1 nums' m' (w2.drew.setCell ⟨b,2,none⟩ (.int .u32 1)):=Tb.s2 (Cel.drew t2) 1
 refine leaves_cons (f:=267) (args:=#[.pointer (some ⟨b,3,none⟩)]) (by simp [settle]) (by simp [go_sem]) ?_
 refine (unlock_deferred ⟨b,3,none⟩ _ _ t3.c3 (t3.fr 3)).mono ?_
 rintro e u' w'' ⟨rfl,rfl,rfl⟩
 simp [Leaves,settle,results,Tryz.results256]
 exact ⟨w2,hR,⟨fv',nums',m',t2⟩,rfl⟩
theorem do_first (b:Nat) (w:World) (R:World→Prop) (k:Int) (fv nums:Value) (m:Int) (ht:Tb b k fv 0 0 nums m w)
  (hf:∀ w1,w1=w.setCell ⟨b,3,none⟩ (.int .i32 1)→Calls Tryz.prog 241 #[.pointer (some ⟨b,0,none⟩)] w1 fun e w2=>e=.returned (.tuple #[])∧R w2∧∃ fv' nums' m',Tb b k fv' 0 1 nums' m' w2) :
  Calls Tryz.prog 240 #[.pointer (some ⟨b,2,none⟩),.func (.func 241) #[.pointer (some ⟨b,0,none⟩)] #[]] w fun e w'=>e=.returned (.tuple #[]) ∧
   ∃ w2,R w2∧(∃ fv' nums' m',Tb b k fv' 0 1 nums' m' w2)∧w'=(w2.drew.setCell ⟨b,2,none⟩ (.int .u32 1)).setCell ⟨b,3,none⟩ (.int .i32 0):=by
 have HF:Hid _:=hf
 clear hf
 have hl:=run_call_load (P:=Tryz.prog) Tryz.func265 (by kernel_rfl) (by kernel_rfl) (by kernel_rfl) .u32 (by kernel_rfl) ht.c2
 have hnot:∀ (x:Bool) (w:World),(Op.unary .not (.bool x)).run Tryz.prog w=.ok (.bool (!x)) w:=fun _ _=>rfl
 go_enter Tryz.func240,Tryz.ntmps240
 go_wp2_with (go_at_call 255; go_in)
 refine (slow_any b w R k fv nums m ht HF.out).mono ?_
 rintro e w' ⟨rfl,hw⟩
 go_wp2_with fail
 go_end0
 exact ⟨rfl,hw⟩
end Go.Proofs.YthjbnpaghiojlaaGreat

namespace Go.Proofs.YthjbnpaghiojlaaGreat
set_option maxRecDepth 100000
open Go.RowKit
theorem Tryz.info22:(Tryz.prog.info? 121).map (fun i=>(i.zero,i.size,i.bytes))=some (some (.int .u32 0),1,4):=by kernel_rfl
def row (F:Nat→Int) (j k:Nat):Array Value:=((List.range k).map fun i=>Value.int .u32 (if i < j then F i else 0)).toArray
theorem row_size (F:Nat→Int) (j k:Nat):(row F j k).size=k:=by simp [row]
theorem row_get (F:Nat→Int) (j k i:Nat) (h:i < k):(row F j k)[i]?=some (.int .u32 (if i < j then F i else 0)):=by
 simp [row,List.getElem?_toArray,List.getElem?_map,List.getElem?_range h]
theorem row_zero (F:Nat→Int) (k:Nat):row F 0 k=(List.replicate k (Value.int .u32 0)).toArray:=by
 simp only [row,Nat.not_lt_zero,if_false]
 congr 1
 induction k with
 | zero=>rfl
 | succ k ih=>rw [List.range_succ,List.map_append,ih,List.replicate_succ']; rfl
theorem row_set (F:Nat→Int) (j k:Nat):(row F j k).setIfInBounds j (.int .u32 (F j))=row F (j + 1) k:=by
 apply Array.ext_getElem?
 intro i
 rw [Array.getElem?_setIfInBounds]
 by_cases hi:i < k
 ·by_cases hij:j=i
  ·subst hij
   rw [if_pos rfl,row_get _ _ _ _ hi,row_size]
   simp [hi]
  ·rw [if_neg hij,row_get _ _ _ _ hi,row_get _ _ _ _ hi]
   have:(i < j)↔(i < j + 1):=by omega
   simp [this]
 ·have h1:(row F j k)[i]?=none:=by simp [row_size]; omega
  have h2:(row F (j + 1) k)[i]?=none:=by simp [row_size]; omega
  by_cases hij:j=i
  ·subst hij
   rw [if_pos rfl,h2,row_size]
   simp [hi]
  ·rw [if_neg hij,h1,h2]
structure Makes (g:FuncId) (caps:Array Value) (k:Nat) (F:Nat→Int) (D:Nat→Prop) (Inv:Nat→World→Prop):Prop where
 call:∀ j,j < k→∀ w,Inv j w→Calls Tryz.prog g (#[.int .i64 (j:Int)] ++ caps) w fun e w'=>e=.returned (.int .u32 (F j))∧Inv (j + 1) w'∧Off D w w'
 keep:∀ (E:Nat→Prop) j w w',(∀ c,D c→¬ E c)→Inv j w→Off E w w'→Inv j w'
 old:∀ j w,Inv j w→∀ c,D c→c < w.heap.size
 enters:∀ args w,(callFunc g args).run Tryz.prog w=.ok (.enter g args) w
theorem own_row (F:Nat→Int) {r k:Nat} {w1:World} (h:w1.ownsRow 0 121 1 (.slice (some ⟨r,0,none⟩) k k) k (madeCells (Value.int .u32 0).cells (k * 1)).toList):Cel r 121 (row F 0 k) w1:=by
 have e:(madeCells (Value.int .u32 0).cells (k * 1)).toList=List.replicate k (Value.int .u32 0):=by
  have:=toList_madeCells_one (Value.int .u32 0) (k * 1)
  simpa [Value.cells] using this
 rw [e] at h
 rcases h.2 with ⟨h',-⟩ | ⟨g,cap,cur,h',-,hg,-,-,hs,ht⟩
 ·simp at h'
 ·simp only [Value.slice.injEq,Option.some.injEq,Addr.mk.injEq,and_true,true_and] at h'
  obtain ⟨rfl,rfl⟩:=h'
  rw [List.take_of_length_le (by simp [hs])] at ht
  have:cur=row F 0 k:=by rw [row_zero,← ht]
  rw [← this]
  exact ⟨hg⟩
theorem eq_nilfn (w:World):(binOp .eql 168 .nilFunc .nilFunc).run Tryz.prog w=.ok (.bool true) w:=by kernel_rfl
theorem eq_fn (g:Fn) (a c:Array Value) (w:World):(binOp .eql 168 (.func g a c) .nilFunc).run Tryz.prog w=.ok (.bool false) w:=by kernel_rfl
theorem Tb.grown {b:Nat} {k:Int} {fv:Value} {d s:Int} {nums:Value} {m:Int} {w w':World} (h:Tb b k fv d s nums m w) (hg:w.grownBy w' none):Tb b k fv d s nums m w' :=
 ⟨(hg.block b h.lt (by simp)).trans (Cel.is h)⟩
theorem i64store (a:Addr) (y x:Int) (w:World) (hc:w.cell? a=some (.int .i64 x)) (hz:w.frozen? a=false) :
  Calls Tryz.prog 258 #[.pointer (some a),.int .i64 y] w fun e w'=>e=.returned (.tuple #[])∧w'=w.setCell a (.int .i64 y):=by
 have hst:=run_call_store (P:=Tryz.prog) Tryz.func270 (by kernel_rfl) (by kernel_rfl) (by kernel_rfl) (by kernel_rfl) (k:=.i64) (y:=y) hc hz
 go_enter Tryz.func258,Tryz.ntmps258
 go_wp2
 go_end0
 exact ⟨rfl,rfl⟩
theorem ask_step {b k:Nat} {d s:Int} {m:Int} {g:FuncId} {caps:Array Value} {F:Nat→Int} {D:Nat→Prop} {Inv:Nat→World→Prop} {w wr:World} {r j:Nat} {nums fv:Value}
  (M:Makes g caps k F D Inv) (hD:¬ D b) (hw:∀ c,D c→c < w.heap.size) (hr:w.heap.size≤r) (hj:j < k)
  (R:Cel r 121 (row F j k) wr) (T:Tb b k fv d s nums m wr) (I:Inv j wr) (O:Off (fun c=>c=b∨D c) w wr) :
  Calls Tryz.prog 257 #[.func (.func g) #[] caps,.int .i64 j] wr.drew fun e w2=>e=.returned (.int .u32 (F j)) ∧
   Cel r 121 (row F j k) w2∧Tb b k fv d s nums m w2∧Inv (j + 1) w2∧Off (fun c=>c=b∨D c) w w2:=by
 have hO:Off (fun _=>False) wr (wr.drew.alloc (.cells #[.int .u32 0] 121)):=(Off.refl _ _).drew.alloc _
 have hI:Inv j (wr.drew.alloc (.cells #[.int .u32 0] 121)):=M.keep (fun _=>False) j wr _ (fun _ _ h=>h) I hO
 have hn:¬ D wr.heap.size:=fun h=>by have:=M.old j wr I _ h; omega
 refine (ask_some g caps j (F j) wr.drew (fun w2=>Cel r 121 (row F j k) w2∧Tb b k fv d s nums m w2∧Inv (j + 1) w2∧Off (fun c=>c=b∨D c) w w2) M.enters ?_).mono ?_
 ·refine (M.call j hj _ hI).mono ?_
  rintro e w2 ⟨rfl,I2,O2⟩
  refine ⟨rfl,⟨?_,?_,I2,?_⟩,?_⟩
  ·exact ((R.drew).alloc _).off O2 (fun h=>by have:=hw r h; omega)
  ·exact (Cel.alloc (Cel.drew T) _).off O2 hD
  ·exact (O.drew.alloc _).trans O2 (fun i _ h=>.inr h)
  ·exact (Cel.new _ _ _).off O2 hn
 ·rintro e w2 ⟨rfl,w1,⟨R1,T1,I1,O1⟩,C1,rfl⟩
  have hs:w.heap.size≤wr.heap.size:=O.size
  refine ⟨rfl,R1.other ?_ _,Cel.other T1 ?_ _,?_,O1.setCell (.inr hs) _⟩
  ·have:=R.lt; simp; omega
  ·have:=T.lt; simp; omega
  ·exact M.keep (fun c=>c=wr.heap.size) _ w1 _ (fun c h e=>hn (e ▸ h)) I1 ((Off.refl (fun c=>c=wr.heap.size) w1).setCell (.inl rfl) _)
theorem fill_some (b k:Nat) (hk:k≤4096) (d s:Int) (nums:Value) (m:Int) (w:World) (g:FuncId) (caps:Array Value) (F:Nat→Int) (D:Nat→Prop) (Inv:Nat→World→Prop)
  (ht:Tb b k (.func (.func g) #[] caps) d s nums m w) (M:Makes g caps k F D Inv) (hI:Inv 0 w) (hD:¬ D b) :
  Calls Tryz.prog 241 #[.pointer (some ⟨b,0,none⟩)] w fun e w'=>e=.returned (.tuple #[]) ∧
   ∃ r,w.heap.size≤r∧Cel r 121 (row F k k) w'∧Tb b k .nilFunc d s (.slice (some ⟨r,0,none⟩) k k) k w'∧Inv k w'∧Off (fun c=>c=b∨D c) w w':=by
 obtain ⟨i0,hi,hz0,hz1,hz2⟩:=info_parts Tryz.info22
 have c0:=ht.c0
 have c1:=ht.c1
 have q0:=eq_nilfn
 have q1:=eq_fn
 go_enter Tryz.func241,Tryz.ntmps241
 go_wp2_with (at_make; refine wpList_make_full _ rfl _ _ 167 rfl 0 121 i0 (.int .u32 0) 1 Tryz.underlying167 hi hz0 hz1 _ _ _ _ k rfl rfl rfl rfl (by rw [hz2]; omega) (by unfold maxLen; omega) (Nat.zero_le _) ?_; intro w1 hown hgrow; have t1:=Tb.grown ht hgrow; have d5:=t1.c5; have g5:=t1.fr 5; have d1:=t1.c1)
 have R0:=(own_row F hown).other (p:=⟨b,5,none⟩) (by simpa using (Nat.ne_of_gt ht.lt)) (.slice (some ⟨w.heap.size,0,none⟩) k k)
 have T0:=t1.s5 (.slice (some ⟨w.heap.size,0,none⟩) k k)
 have O0:=((Off.refl (fun c=>c=b∨D c) w).grown hgrow (by simp)).setCell (p:=⟨b,5,none⟩) (.inl (.inl rfl)) (.slice (some ⟨w.heap.size,0,none⟩) k k)
 have I0:Inv 0 (w1.setCell ⟨b,5,none⟩ (.slice (some ⟨w.heap.size,0,none⟩) k k)):=M.keep (fun c=>c=b) 0 w _ (fun c h e=>hD (e ▸ h)) hI (((Off.refl (fun c=>c=b) w).grown hgrow (by simp)).setCell (p:=⟨b,5,none⟩) (.inl rfl) _)
 clear hown hgrow t1 d5 g5 d1 c0 c1
 go_loopw [21] (fun i wr=>∃ j:Nat,j≤k∧i=.int .i64 j∧Cel w.heap.size 121 (row F j k) wr∧Tb b k (.func (.func g) #[] caps) d s (.slice (some ⟨w.heap.size,0,none⟩) k k) m wr∧Inv j wr∧Off (fun c=>c=b∨D c) w wr) (fun i _=>(k - intOf i).toNat)
 case atStart=>exact ⟨0,by omega,rfl,R0,T0,I0,O0⟩
 case round =>
  clear R0 T0 O0 I0
  obtain ⟨j,hj,rfl,R,T,I,O⟩:=hrel
  by_cases hlt:j < k
  ·have A:Hid _:=ask_step M hD (M.old 0 w hI) (Nat.le_refl _) hlt R T I O
   have e0:=T.c5
   have e1:=T.c1
   clear R T
   go_wp2_with fail
   go_region_with (go_at_call 257; refine Calls.mono A.out ?_; rintro e w2 ⟨rfl,R2,T2,I2,O2⟩; have e5:=T2.c5; have r5:=(R2.cell j).trans (row_get F j k j hlt); have fr:=R2.free j)
   all_goals
    go_wp2_with fail
    go_roundw
    case rel=>exact ⟨j + 1,by omega,by go_num,row_set F j k ▸ R2.set j _,Cel.other T2 (by have:=ht.lt; simp; omega) _,M.keep (fun c=>c=w.heap.size) _ w2 _ (fun c h e=>by have:=M.old 0 w hI c h; omega) I2 ((Off.refl (fun c=>c=w.heap.size) w2).setCell (.inl rfl) _),O2.setCell (.inr (Nat.le_refl _)) _⟩
    case measure=>simp [intOf]; omega
  ·obtain rfl:j=k:=by omega
   have e1:=T.c1
   have g1:=T.fr 1
   have T3:=T.s1 .nilFunc
   have e0:=T3.c0
   have S:=i64store ⟨b,6,none⟩ j m (wr.setCell ⟨b,1,none⟩ .nilFunc).drew T3.c6 (T3.fr 6)
   go_wp2_with fail
   go_region_with (go_at_call 258; refine Calls.mono S ?_; rintro e w2 ⟨rfl,rfl⟩)
   all_goals
    go_wp2_with fail
    go_end0
    have O3:Off (fun c=>c=b) wr (((wr.setCell ⟨b,1,none⟩ .nilFunc).drew).setCell ⟨b,6,none⟩ (.int .i64 j)):=((((Off.refl (fun c=>c=b) wr).setCell (p:=⟨b,1,none⟩) (.inl rfl) .nilFunc)).drew).setCell (p:=⟨b,6,none⟩) (.inl rfl) _
    exact ⟨rfl,w.heap.size,Nat.le_refl _,R.off O3 (by have:=ht.lt; omega),Tb.s6 (Cel.drew T3) _,M.keep (fun c=>c=b) _ wr _ (fun c h e=>hD (e ▸ h)) I O3,O.trans O3 (fun i _ h=>.inl h)⟩
end Go.Proofs.YthjbnpaghiojlaaGreat

namespace Go.Proofs.YthjbnpaghiojlaaGreat
set_option maxRecDepth 100000
open Go.RowKit
def Full (b r k:Nat) (m:Int) (F:Nat→Int) (w:World):Prop:=(∃ fv,Tb b k fv 1 0 (.slice (some ⟨r,0,none⟩) k k) m w)∧Cel r 121 (row F k k) w
theorem Full.off {D:Nat→Prop} {b r k:Nat} {m:Int} {F:Nat→Int} {w w':World} (h:Full b r k m F w) (o:Off D w w') (hb:¬ D b) (hr:¬ D r):Full b r k m F w' :=
 ⟨h.1.elim fun fv t=>⟨fv,t.off o hb⟩,h.2.off o hr⟩
theorem at_out (b:Nat) (k:Int) (fv:Value) (d s:Int) (nums:Value) (m i:Int) (w:World) (h:Tb b k fv d s nums m w) (hi:i < 0∨k≤i) :
  Calls Tryz.prog 220 #[.pointer (some ⟨b,0,none⟩),.int .i64 i] w fun e w'=>e=.returned (.int .u32 0)∧w'=w:=by
 have c0:=h.c0
 by_cases hx:i < 0
 ·clear hi
  go_enter Tryz.func220,Tryz.ntmps220
  go_wp2_with fail
  go_ret
  exact ⟨rfl,rfl⟩
 ·have hy:k≤i:=by omega
  clear hi
  go_enter Tryz.func220,Tryz.ntmps220
  go_wp2_with fail
  go_ret
  exact ⟨rfl,rfl⟩
theorem at_full (b r k:Nat) (m:Int) (F:Nat→Int) (i:Nat) (hi:i < k) (w:World) (h:Full b r k m F w) :
  Calls Tryz.prog 220 #[.pointer (some ⟨b,0,none⟩),.int .i64 i] w fun e w'=>e=.returned (.int .u32 (F i))∧w'=w:=by
 obtain ⟨⟨fv,h⟩,hr⟩:=h
 have c0:=h.c0
 have c2:=h.c2
 have c5:=h.c5
 have ci:=(hr.cell i).trans (row_get F k k i hi)
 rw [if_pos hi] at ci
 have hmf:∀ (fn:Fn) (first cap:Array Value) (w:World),(Instr.makeFunc fn first cap).run Tryz.prog w=.ok (.func fn first cap) w:=fun _ _ _ _=>rfl
 go_enter Tryz.func220,Tryz.ntmps220
 go_wp2_with fail
 refine (do_done ⟨b,2,none⟩ _ _ c2).mono ?_
 rintro e w' ⟨rfl,rfl⟩
 go_wp2_with fail
 go_ret
 exact ⟨rfl,rfl⟩
theorem at_first (b k:Nat) (hk:k≤4096) (g:FuncId) (caps:Array Value) (F:Nat→Int) (D:Nat→Prop) (Inv:Nat→World→Prop) (nums:Value) (i:Nat) (hi:i < k) (w:World)
  (ht:Tb b k (.func (.func g) #[] caps) 0 0 nums 0 w) (M:Makes g caps k F D Inv) (hI:Inv 0 w) (hD:¬ D b) :
  Calls Tryz.prog 220 #[.pointer (some ⟨b,0,none⟩),.int .i64 i] w fun e w'=>e=.returned (.int .u32 (F i)) ∧
   ∃ r,w.heap.size≤r∧Full b r k k F w'∧Inv k w'∧Off (fun c=>c=b∨D c) w w':=by
 have c0:=ht.c0
 have O1:Off (fun c=>c=b) w (w.setCell ⟨b,3,none⟩ (.int .i32 1)):=(Off.refl (fun c=>c=b) w).setCell (p:=⟨b,3,none⟩) (.inl rfl) _
 have A:Hid _:=do_first b w (fun w2=>∃ r,w.heap.size≤r∧Cel r 121 (row F k k) w2∧Tb b k .nilFunc 0 1 (.slice (some ⟨r,0,none⟩) k k) k w2∧Inv k w2∧Off (fun c=>c=b∨D c) w w2) k _ nums 0 ht (fun w1 h1=>by
  subst h1
  refine (fill_some b k hk 0 1 nums 0 _ g caps F D Inv (ht.s3 1) M (M.keep (fun c=>c=b) 0 w _ (fun c h e=>hD (e ▸ h)) hI O1) hD).mono ?_
  rintro e w2 ⟨rfl,r,hr,R,T,I,O⟩
  refine ⟨rfl,⟨r,by simpa [World.setCell] using hr,R,T,I,?_⟩,_,_,_,T⟩
  exact (O1.mono (E:=fun c=>c=b∨D c) (fun _ _ h=>.inl h)).trans O (fun _ _ h=>h))
 have hmf:∀ (fn:Fn) (first cap:Array Value) (w:World),(Instr.makeFunc fn first cap).run Tryz.prog w=.ok (.func fn first cap) w:=fun _ _ _ _=>rfl
 go_enter Tryz.func220,Tryz.ntmps220
 go_wp2_with fail
 refine Calls.mono A.out ?_
 rintro e w' ⟨rfl,w2,⟨r,hr,R,T,I,O⟩,-,rfl⟩
 have T4:Tb b k .nilFunc 1 0 (.slice (some ⟨r,0,none⟩) k k) k ((w2.drew.setCell ⟨b,2,none⟩ (.int .u32 1)).setCell ⟨b,3,none⟩ (.int .i32 0)):=(Tb.s2 (Cel.drew T) 1).s3 0
 have O4:Off (fun c=>c=b) w2 ((w2.drew.setCell ⟨b,2,none⟩ (.int .u32 1)).setCell ⟨b,3,none⟩ (.int .i32 0)):=(((Off.refl (fun c=>c=b) w2).drew).setCell (p:=⟨b,2,none⟩) (.inl rfl) _).setCell (p:=⟨b,3,none⟩) (.inl rfl) _
 have R4:=R.off O4 (by have:=ht.lt; omega)
 have I4:=M.keep (fun c=>c=b) _ w2 _ (fun c h e=>hD (e ▸ h)) I O4
 have F4:Hid (∃ r,w.heap.size≤r∧Full b r k k F ((w2.drew.setCell ⟨b,2,none⟩ (.int .u32 1)).setCell ⟨b,3,none⟩ (.int .i32 0))∧Inv k ((w2.drew.setCell ⟨b,2,none⟩ (.int .u32 1)).setCell ⟨b,3,none⟩ (.int .i32 0))∧Off (fun c=>c=b∨D c) w ((w2.drew.setCell ⟨b,2,none⟩ (.int .u32 1)).setCell ⟨b,3,none⟩ (.int .i32 0))):=⟨r,hr,⟨⟨_,T4⟩,R4⟩,I4,O.trans O4 (fun _ _ h=>.inl h)⟩
 have c5:=T4.c5
 have ci:=(R4.cell i).trans (row_get F k k i hi)
 rw [if_pos hi] at ci
 generalize (w2.drew.setCell ⟨b,2,none⟩ (.int .u32 1)).setCell ⟨b,3,none⟩ (.int .i32 0)=w5 at *
 clear T4 O4 R4 I4 T R I O
 go_wp2_with fail
 go_ret
 exact ⟨rfl,F4.out⟩
def told (F:Nat→Int) (k:Nat) (i:Int):Int:=if 0≤i∧i < k then F i.toNat else 0
def StW (b k:Nat) (fv:Value) (F:Nat→Int) (lo:Nat) (w:World):Prop:=(∃ nums,Tb b k fv 0 0 nums 0 w)∨∃ r,lo≤r∧Full b r k k F w
theorem at_st (b k:Nat) (hk:k≤4096) (g:FuncId) (caps:Array Value) (F:Nat→Int) (D:Nat→Prop) (I:World→Prop) (lo:Nat) (i:Int) (w:World)
  (ht:StW b k (.func (.func g) #[] caps) F lo w) (M:Makes g caps k F D (fun _=>I)) (hI:I w) (hD:¬ D b) (hlo:lo≤w.heap.size) :
  Calls Tryz.prog 220 #[.pointer (some ⟨b,0,none⟩),.int .i64 i] w fun e w'=>e=.returned (.int .u32 (told F k i)) ∧
   StW b k (.func (.func g) #[] caps) F lo w'∧(0≤i∧i < k→∃ r,lo≤r∧Full b r k k F w')∧I w'∧Off (fun c=>c=b∨D c) w w':=by
 by_cases hi:0≤i∧i < k
 ·obtain ⟨j,rfl⟩:=Int.eq_ofNat_of_zero_le hi.1
  have e:told F k (j:Int)=F j:=by simp [told,hi]
  rw [e]
  have hj:j < k:=by omega
  rcases ht with ⟨nums,t⟩ | ⟨r,hl,f⟩
  ·refine (at_first b k hk g caps F D (fun _=>I) nums j hj w t M hI hD).mono ?_
   rintro e w' ⟨rfl,r,hr,f,I',O⟩
   exact ⟨rfl,.inr ⟨r,by omega,f⟩,fun _=>⟨r,by omega,f⟩,I',O⟩
  ·refine (at_full b r k k F j hj w f).mono ?_
   rintro e w' ⟨rfl,rfl⟩
   exact ⟨rfl,.inr ⟨r,hl,f⟩,fun _=>⟨r,hl,f⟩,hI,Off.refl _ _⟩
 ·have e:told F k i=0:=by simp [told,hi]
  rw [e]
  obtain ⟨fv,d,s,nums,m,t⟩:∃ fv d s nums m,Tb b k fv d s nums m w:=by
   rcases ht with ⟨nums,t⟩ | ⟨r,hl,⟨fv,t⟩,-⟩
   ·exact ⟨_,_,_,_,_,t⟩
   ·exact ⟨_,_,_,_,_,t⟩
  refine (at_out b k fv d s nums m i w t (by omega)).mono ?_
  rintro e w' ⟨rfl,rfl⟩
  exact ⟨rfl,ht,fun h=>absurd h hi,hI,Off.refl _ _⟩
end Go.Proofs.YthjbnpaghiojlaaGreat

namespace Go.Proofs.YthjbnpaghiojlaaGreat
set_option maxRecDepth 100000
open Go.RowKit
theorem half_odd {y:Nat} (hy:y < 4294967296) (h:(bits .and .u32 (y:Int) 1 == 1)=true):bits .xor .u32 ((y:Int) / 2) 3988292384=((sh y:Nat):Int):=by
 have e:=u32_and_nat y 1 hy (by decide)
 have e2:=u32_xor_nat (y / 2) 3988292384 (by omega) (by decide)
 rw [Nat.and_one_is_mod] at e
 simp only [Int.natCast_one] at e
 rw [e] at h
 have h':y % 2=1:=by have:=eq_of_beq h; omega
 rw [sh,if_pos h',← e2]
 rfl
theorem half_even {y:Nat} (hy:y < 4294967296) (h:(bits .and .u32 (y:Int) 1 == 1)=false):(y:Int) / 2=((sh y:Nat):Int):=by
 have e:=u32_and_nat y 1 hy (by decide)
 rw [Nat.and_one_is_mod] at e
 simp only [Int.natCast_one] at e
 rw [e] at h
 have h':¬ y % 2=1:=by have:=ne_of_beq_false h; omega
 rw [sh,if_neg h']
 rfl
theorem rem_any (x:Nat) (hx:x < 4294967296) (w:World) :
  Calls Tryz.prog 196 #[.int .i64 x] w fun e w'=>e=.returned (.int .u32 (entry x))∧w'=w:=by
 go_enter Tryz.func196,Tryz.ntmps196
 go_wp2
 go_loopw [3,7] (fun l i wr=>∃ (j:Nat),j≤8∧i=.int .i64 j∧l=.int .u32 (shn j x)∧wr=w) (fun _ i _=>(8 - intOf i).toNat)
 case atStart=>exact ⟨0,by omega,rfl,by simp [shn],rfl⟩
 case round =>
  obtain ⟨j,hj,rfl,rfl,rfl⟩:=hrel
  have hy:=shn_lt j hx
  obtain ⟨y,hyy⟩:∃ y,y=shn j x:=⟨_,rfl⟩
  have HY:Hid _:=hyy
  rw [← hyy] at hy ⊢
  clear hyy
  by_cases hlt:j < 8
  ·go_wp2
   ·go_roundw
    case rel=>exact ⟨j + 1,by omega,by go_num,by rw [half_odd hy (by assumption),HY.out]; rfl,trivial⟩
    case measure=>simp [intOf]; omega
   ·go_roundw
    case rel=>exact ⟨j + 1,by omega,by go_num,by rw [half_even hy (by assumption),HY.out]; rfl,trivial⟩
    case measure=>simp [intOf]; omega
  ·obtain rfl:j=8:=by omega
   go_wp2
   go_ret
   exact ⟨by rw [HY.out]; rfl,rfl⟩
theorem sum_any (tv:Value) (T:Nat→Nat) (hT:∀ x,x < 256→T x < 4294967296) (P:World→Prop) (ad:Option Addr) (len cap:Nat) (hlen:len≤9223372036854775807) (B:Nat→Nat) (w:World) (hP:P w)
  (hat:∀ w (x:Nat),x < 256→P w→Calls Tryz.prog 220 #[tv,.int .i64 x] w fun e w'=>e=.returned (.int .u32 (T x))∧P w')
  (hz:∀ i,i < len→B i < 256∧∃ b off,ad=some ⟨b,off,none⟩∧∀ w,P w→w.cell? ⟨b,off + i,none⟩=some (.int .u8 (B i))) :
  Calls Tryz.prog 198 #[tv,.slice ad len cap] w fun e w'=>e=.returned (.int .u32 (crc T B len))∧P w':=by
 have HZ:Hid _:=hz
 have HA:Hid _:=hat
 have HT:Hid _:=hT
 clear hz hat hT
 go_enter Tryz.func198,Tryz.ntmps198
 go_wp2
 go_loopw [5,10] (fun l i wr=>∃ (j:Nat),j≤len∧i=.int .i64 j∧l=.int .u32 (crcst T B j)∧P wr) (fun _ i _=>(len - intOf i).toNat)
 case atStart=>exact ⟨0,by omega,rfl,rfl,hP⟩
 case round =>
  obtain ⟨j,hj,rfl,rfl,hp⟩:=hrel
  have hy:=crcst_lt (B:=B) HT.out j (fun i hi=>(HZ.out i (by omega)).1)
  obtain ⟨y,hyy⟩:∃ y,y=crcst T B j:=⟨_,rfl⟩
  have HY:Hid _:=hyy
  rw [← hyy] at hy ⊢
  clear hyy
  by_cases hlt:j < len
  ·obtain ⟨hb,b,off,rfl,hc⟩:=HZ.out j hlt
   have hc':=hc wr hp
   clear hc
   have hx:y % 256 ^^^ B j < 256:=byte_lt hb
   have e1:wrap64 (bits .xor .u8 ((y:Int) % 256) (B j:Int))=((y % 256 ^^^ B j:Nat):Int):=by
    have e:=u8_xor_nat (y % 256) (B j) (by omega) hb
    rw [show ((y:Int) % 256)=((y % 256:Nat):Int) from rfl,e]
    simp only [wrap64]
    omega
   have A:=HA.out wr _ hx hp
   rw [← e1] at A
   have HE:Hid _:=e1
   clear e1
   go_wp2_with fail
   refine Calls.mono A ?_
   rintro e w2 ⟨rfl,hp2⟩
   go_wp2_with fail
   go_roundw
   case rel =>
    refine ⟨j + 1,by omega,by go_num,?_,hp2⟩
    rw [show ((y:Int) / 256)=((y / 256:Nat):Int) from rfl,bits_xor (HT.out _ hx) (by omega),crcst,← HY.out]
   case measure=>simp [intOf]; omega
  ·obtain rfl:j=len:=by omega
   go_wp2
   go_ret
   refine ⟨?_,hp⟩
   have e:=bits_xor (show 4294967295 < 4294967296 by decide) hy
   rw [crc,← HY.out,← e]
   rfl
theorem fn_enters {f : FuncId} {fn : Func} {c : Code} (hf : Tryz.prog.funcs[f]? = some fn) (hname : (fn.name == "runtime.NumGoroutine") = false) (hb : fn.body = some c) (args : Array Value) (w : World) :
  (callFunc f args).run Tryz.prog w=.ok (.enter f args) w:=by
 have h1 : fn.name ≠ "runtime.NumGoroutine" := by simpa using hname
 simp [callFunc,hf,h1,hb]
theorem rem_makes:Makes 196 #[] 256 (fun j=>(entry j:Int)) (fun _=>False) (fun _ _=>True) where
 call j hj w _:=by
  refine Calls.mono (rem_any j (by omega) w) ?_
  rintro e w' ⟨rfl,rfl⟩
  exact ⟨rfl,trivial,Off.refl _ _⟩
 keep _ _ _ _ _ _ _:=trivial
 old _ _ _ _ h:=h.elim
 enters args w:=fn_enters Tryz.func196 (by kernel_rfl) rfl args w
theorem poly_any (w:World) :
  Calls Tryz.prog 151 #[] w fun e w'=>e=.returned (.pointer (some ⟨w.heap.size,0,none⟩))∧Tb w.heap.size 256 (.func (.func 196) #[] #[]) 0 0 (.slice none 0 0) 0 w'∧Off (fun _=>False) w w':=by
 have hmf:∀ (fn:Fn) (first cap:Array Value) (w:World),(Instr.makeFunc fn first cap).run Tryz.prog w=.ok (.func fn first cap) w:=fun _ _ _ _=>rfl
 go_enter Tryz.func151,Tryz.ntmps151
 go_wp2_with fail
 refine (new_fn 256 (.func 196) #[] #[] w).mono ?_
 rintro e w' ⟨rfl,t,o⟩
 go_wp2_with fail
 go_ret
 exact ⟨rfl,t,o⟩
end Go.Proofs.YthjbnpaghiojlaaGreat

namespace Go.Proofs.YthjbnpaghiojlaaGreat
open Go.RowKit
theorem Off.drewN {D:Nat→Prop} {a w:World} (h:Off D a w) (n:Nat):Off D a (w.drewN n):=⟨h.os,h.tape,h.output,h.size,h.block⟩
theorem or_addW {a b k:Nat} (hb:b < 2 ^ k):(a * 2 ^ k) ||| b=a * 2 ^ k + b:=by
 rw [Nat.mul_comm]
 exact (Nat.two_pow_add_eq_or_of_lt hb a).symm
theorem or4 {a b c d:Nat} (ha:a < 256) (hb:b < 256) (hc:c < 256) (hd:d < 256) :
  bits .or .u32 (bits .or .u32 (bits .or .u32 ((a:Int) * 16777216) ((b:Int) * 65536)) ((c:Int) * 256)) (d:Int)=((a * 16777216 + b * 65536 + c * 256 + d:Nat):Int):=by
 have e1:(a:Int) * 16777216=((a * 16777216:Nat):Int):=by omega
 have e2:(b:Int) * 65536=((b * 65536:Nat):Int):=by omega
 have e3:(c:Int) * 256=((c * 256:Nat):Int):=by omega
 rw [e1,e2,e3,u32_or_nat _ _ (by omega) (by omega)]
 have f1:(a * 16777216) ||| (b * 65536)=a * 16777216 + b * 65536:=or_addW (k:=24) (by omega)
 rw [f1,u32_or_nat _ _ (by omega) (by omega)]
 have f2:(a * 16777216 + b * 65536) ||| (c * 256)=a * 16777216 + b * 65536 + c * 256:=by
  have:=or_addW (a:=a * 256 + b) (b:=c * 256) (k:=16) (by omega)
  rw [show (a * 256 + b) * 2 ^ 16=a * 16777216 + b * 65536 by omega] at this
  exact this
 rw [f2,u32_or_nat _ _ (by omega) (by omega)]
 have f3:(a * 16777216 + b * 65536 + c * 256) ||| d=a * 16777216 + b * 65536 + c * 256 + d:=by
  have:=or_addW (a:=a * 65536 + b * 256 + c) (b:=d) (k:=8) (by omega)
  rw [show (a * 65536 + b * 256 + c) * 2 ^ 8=a * 16777216 + b * 65536 + c * 256 by omega] at this
  exact this
 rw [f3]
set_option maxRecDepth 100000 in
set_option maxHeartbeats 1000000 in
theorem number_q {w:World} {tad:Option Addr} {cap:Nat} {bs:List Nat} (h:Inp w tad cap bs) (hl:4≤bs.length) :
  Calls Tryz.prog 197 #[.slice tad bs.length cap] w fun e w'=>e=.returned (.int .u32 ((num4 bs:Nat):Int))∧∃ m,w'=w.drewN m:=by
 obtain ⟨l0,b,off,rfl,c0⟩:=h.at_ (i:=0) (by omega)
 obtain ⟨l1,b1,off1,e1,c1⟩:=h.at_ (i:=1) (by omega)
 obtain ⟨l2,b2,off2,e2,c2⟩:=h.at_ (i:=2) (by omega)
 obtain ⟨l3,b3,off3,e3,c3⟩:=h.at_ (i:=3) (by omega)
 simp only [Option.some.injEq,Addr.mk.injEq,and_true] at e1 e2 e3
 obtain ⟨rfl,rfl⟩:=e1
 obtain ⟨rfl,rfl⟩:=e2
 obtain ⟨rfl,rfl⟩:=e3
 have i0:(0:Int) < (bs.length:Int):=by omega
 have i1:(1:Int) < (bs.length:Int):=by omega
 have i2:(2:Int) < (bs.length:Int):=by omega
 have i3:(3:Int) < (bs.length:Int):=by omega
 rw [Nat.add_zero] at c0
 clear h
 have hn:num4 bs=bs.getD 0 0 * 16777216 + bs.getD 1 0 * 65536 + bs.getD 2 0 * 256 + bs.getD 3 0:=rfl
 rw [hn]
 clear hn
 generalize bs.getD 0 0=x0 at *
 generalize bs.getD 1 0=x1 at *
 generalize bs.getD 2 0=x2 at *
 generalize bs.getD 3 0=x3 at *
 go_enter Tryz.func197,Tryz.ntmps197
 go_wp2_with fail
 go_quiet (fail)
 go_wp2_with fail
 go_ret
 refine ⟨?_,_,rfl⟩
 rw [← or4 l0 l1 l2 l3]
 rfl
theorem number_any {w:World} {tad:Option Addr} {cap:Nat} {bs:List Nat} (h:Inp w tad cap bs) (hl:4≤bs.length) :
  Calls Tryz.prog 197 #[.slice tad bs.length cap] w fun e w'=>e=.returned (.int .u32 ((num4 bs:Nat):Int))∧Off (fun _=>False) w w':=by
 refine (number_q h hl).mono ?_
 rintro e w' ⟨rfl,m,rfl⟩
 exact ⟨rfl,(Off.refl _ w).drewN m⟩
theorem src4 (w:World) {n:Nat} (hn:n < 4294967296):Src (w.alloc (.cells #[.int .u8 ((n:Int) / 16777216),.int .u8 ((n:Int) / 65536 % 256),.int .u8 ((n:Int) / 256 % 256),.int .u8 ((n:Int) % 256)] 5)) (some ⟨w.heap.size,0,none⟩) 4 (be4 n):=by
 refine ⟨.inr ⟨_,rfl,fun j u hj=>?_⟩⟩
 have hc:=Cel.new w 5 #[.int .u8 ((n:Int) / 16777216),.int .u8 ((n:Int) / 65536 % 256),.int .u8 ((n:Int) / 256 % 256),.int .u8 ((n:Int) % 256)]
 rw [add_lit,Nat.zero_add,hc.cell]
 have hl:=vl_lt hj
 rw [be4_len] at hl
 have e:n / 16777216 % 256=n / 16777216:=by omega
 match j,hl with
 | 0,_ =>
  rw [← hj,be4,e]
  rfl
 | 1,_ | 2,_ | 3,_=>exact hj
set_option maxRecDepth 100000 in
set_option maxHeartbeats 1000000 in
theorem addNumber_any {w:World} {g cap:Nat} {bs:List Nat} (h:OwnR w (some ⟨g,0,none⟩) cap bs) (hr:bs.length + 4≤cap) {n:Nat} (hn:n < 4294967296) :
  Calls Tryz.prog 235 #[.slice (some ⟨g,0,none⟩) bs.length cap,.int .u32 (n:Int)] w fun e w'=>e=.returned (.slice (some ⟨g,0,none⟩) (bs ++ be4 n).length cap)∧OwnR w' (some ⟨g,0,none⟩) cap (bs ++ be4 n)∧Off (fun c=>c=g) w w':=by
 have HR:Hid _:=h
 have hg:=h.lt g rfl
 clear h
 have S:=src4 w hn
 have O:Off (fun _=>False) w (w.alloc (.cells #[.int .u8 ((n:Int) / 16777216),.int .u8 ((n:Int) / 65536 % 256),.int .u8 ((n:Int) / 256 % 256),.int .u8 ((n:Int) % 256)] 5)):=(Off.refl _ w).alloc _
 go_enter Tryz.func235,Tryz.ntmps235
 go_wp2_with (at_builtin; refine wpList_fit rfl (.tmp 5) (.tmp 17) rfl g cap bs rfl (HR.out.off O (fun _ _ _ h=>h)) _ 4 (be4 n) rfl S hr ?_; intro w' ys hys own' off')
 go_ret
 obtain rfl:ys=bs ++ be4 n:=hys.out
 exact ⟨rfl,own',(O.mono (E:=fun c=>c=g) (fun _ _ h=>h.elim)).trans off' (fun _ _ h=>h)⟩
end Go.Proofs.YthjbnpaghiojlaaGreat

namespace Go.Proofs.YthjbnpaghiojlaaGreat
open Go.RowKit
structure Tbl (E:Nat→Prop) (b:Nat) (w:World):Prop where
 here:E b
 lt:∀ c,E c→c < w.heap.size
 is:(∃ nums,Tb b 256 (.func (.func 196) #[] #[]) 0 0 nums 0 w)∨∃ r,E r∧Full b r 256 256 (fun j=>(entry j:Int)) w
theorem Tbl.off {E D:Nat→Prop} {b:Nat} {w w':World} (h:Tbl E b w) (o:Off D w w') (hD:∀ c,E c→¬ D c):Tbl E b w':=by
 refine ⟨h.here,fun c hc=>Nat.lt_of_lt_of_le (h.lt c hc) o.size,?_⟩
 rcases h.is with ⟨nums,t⟩ | ⟨r,hr,f⟩
 ·exact .inl ⟨nums,t.off o (hD b h.here)⟩
 ·exact .inr ⟨r,hr,f.off o (hD b h.here) (hD r hr)⟩
theorem Tbl.free {E:Nat→Prop} {b:Nat} {w w':World} (h:Tbl E b w) (o:Off (fun _=>False) w w'):Tbl E b w':=h.off o (fun _ _ h=>h)
theorem told_entry {x:Nat} (hx:x < 256):told (fun j=>(entry j:Int)) 256 (x:Int)=((entry x:Nat):Int):=by
 simp [told]
 omega
theorem sum_tbl {E:Nat→Prop} {b:Nat} {w:World} (ht:Tbl E b w) {tad:Option Addr} {cap:Nat} {bs:List Nat} (h:Inp w tad cap bs) (hb:b < w.heap.size→blk tad ≠ some b∨bs=[]) (hl:bs.length≤9223372036854775807) :
  Calls Tryz.prog 198 #[.pointer (some ⟨b,0,none⟩),.slice tad bs.length cap] w fun e w'=>e=.returned (.int .u32 ((crcL bs:Nat):Int))∧∃ E',Tbl E' b w'∧(∀ c,E' c→E c∨w.heap.size≤c)∧Off (fun c=>c=b) w w':=by
 have hcells:∀ i,i < bs.length→∀ w',Off (fun c=>c=b) w w'→∀ g off,tad=some ⟨g,off,none⟩→w.cell? ⟨g,off + i,none⟩=some (.int .u8 ((bs.getD i 0:Nat):Int))→w'.cell? ⟨g,off + i,none⟩=some (.int .u8 ((bs.getD i 0:Nat):Int)):=by
  intro i hi w' o g off e hc
  rw [← hc]
  refine World.cell?_of_block (a:=⟨g,off + i,none⟩) (o.block g (cell_lt hc) (fun h=>?_))
  rcases hb (ht.lt b ht.here) with h1 | rfl
  ·exact h1 (by rw [e,← h]; rfl)
  ·simp at hi
 rcases ht.is with ⟨nums,t⟩ | ⟨r,hr,f⟩
 ·refine (sum_any (.pointer (some ⟨b,0,none⟩)) entry (fun x hx=>entry_lt (by omega)) (fun w'=>StW b 256 (.func (.func 196) #[] #[]) (fun j=>(entry j:Int)) w.heap.size w'∧Off (fun c=>c=b) w w') tad bs.length cap hl (fun i=>bs.getD i 0) w ⟨.inl ⟨_,t⟩,Off.refl _ _⟩ ?_ ?_).mono ?_
  ·rintro w1 x hx ⟨s,o⟩
   refine (at_st b 256 (by decide) 196 #[] (fun j=>(entry j:Int)) (fun _=>False) (fun _=>True) w.heap.size x w1 s rem_makes trivial id o.size).mono ?_
   rintro e w2 ⟨rfl,s2,-,-,o2⟩
   exact ⟨by rw [told_entry hx],s2,o.trans o2 (fun i _ h=>h.elim id False.elim)⟩
  ·intro i hi
   obtain ⟨h1,g,off,rfl,hc⟩:=h.at_ hi
   exact ⟨h1,g,off,rfl,fun w1 p=>hcells i hi w1 p.2 g off rfl hc⟩
  ·rintro e w' ⟨rfl,s,o⟩
   refine ⟨rfl,?_⟩
   rcases s with ⟨nums,t'⟩ | ⟨r,hr,f⟩
   ·exact ⟨E,⟨ht.here,fun c hc=>Nat.lt_of_lt_of_le (ht.lt c hc) o.size,.inl ⟨nums,t'⟩⟩,fun c hc=>.inl hc,o⟩
   ·refine ⟨fun c=>E c∨c=r,⟨.inl ht.here,?_,.inr ⟨r,.inr rfl,f⟩⟩,?_,o⟩
    ·rintro c (hc | rfl)
     ·exact Nat.lt_of_lt_of_le (ht.lt c hc) o.size
     ·exact f.2.lt
    ·rintro c (hc | rfl)
     ·exact .inl hc
     ·exact .inr hr
 ·refine (sum_any (.pointer (some ⟨b,0,none⟩)) entry (fun x hx=>entry_lt (by omega)) (fun w'=>w'=w) tad bs.length cap hl (fun i=>bs.getD i 0) w rfl ?_ ?_).mono ?_
  ·rintro w1 x hx rfl
   exact at_full b r 256 256 (fun j=>(entry j:Int)) x hx w1 f
  ·intro i hi
   obtain ⟨h1,g,off,rfl,hc⟩:=h.at_ hi
   exact ⟨h1,g,off,rfl,fun w1 p=>by rw [p]; exact hc⟩
  ·rintro e w' ⟨rfl,rfl⟩
   exact ⟨rfl,E,ht,fun c hc=>.inl hc,Off.refl _ _⟩
theorem poly_tbl (w:World):Calls Tryz.prog 151 #[] w fun e w'=>e=.returned (.pointer (some ⟨w.heap.size,0,none⟩))∧Tbl (fun c=>c=w.heap.size) w.heap.size w'∧Off (fun _=>False) w w':=by
 refine (poly_any w).mono ?_
 rintro e w' ⟨rfl,t,o⟩
 exact ⟨rfl,⟨rfl,fun c hc=>by rw [hc]; exact t.lt,.inl ⟨_,t⟩⟩,o⟩
end Go.Proofs.YthjbnpaghiojlaaGreat

namespace Go.Proofs.YthjbnpaghiojlaaGreat
open Go.RowKit
set_option maxRecDepth 100000 in
set_option maxHeartbeats 1000000 in
theorem put_any {w:World} {ta:Option Addr} {ca:Nat} {bs:List Nat} (hb:Inp w ta ca bs) {tr:Option Addr} {cr:Nat} {rs:List Nat} (hr:Inp w tr cr rs) (hbl:bs.length≤140737488351232) (hl:rs.length≤60000) :
  Calls Tryz.prog 214 #[.slice ta bs.length ca,.slice tr rs.length cr] w fun e w'=>∃ t c,e=.returned (.tuple #[.slice t (bs ++ frm rs).length c,.int .i64 0])∧OwnR w' t c (bs ++ frm rs)∧(∀ k,blk t=some k→w.heap.size≤k)∧Off (fun _=>False) w w':=by
 obtain ⟨i0,hi,hz0,hz1,hz2⟩:=info_parts Tryz.infoB
 have d1:decide ((60000:Int) < (rs.length:Int))=false:=decide_eq_false (by omega)
 have HB:Hid _:=hb
 have HR:Hid _:=hr
 have hcl:crcL rs < 4294967296:=crcL_lt hr.lt
 have HCL:Hid _:=hcl
 obtain ⟨N,hN⟩:∃ N,N=bs.length + 8 + rs.length:=⟨_,rfl⟩
 have HN:Hid _:=hN
 clear hb hr hcl hN
 go_enter Tryz.func214,Tryz.ntmps214
 go_wp2_with (first | (at_make; refine wpList_make_own _ rfl _ _ 44 rfl 0 5 i0 (.int .u8 0) 1 Tryz.underlying44 hi hz0 hz1 _ _ _ N rfl rfl (by have:=HN.out; omega) (by have:=HN.out; rw [hz2]; omega) (by have:=HN.out; unfold maxLen; omega) (Nat.zero_le _) ?_; intro w1 hown hgrow; have R1:OwnR w1 (some ⟨w.heap.size,0,none⟩) N []:=⟨hown⟩; have O1:Off (fun _=>False) w w1:=((Off.refl _ w).grown hgrow (by simp))) | (at_builtin; refine wpList_fit rfl (.tmp 17) (.tmp 18) rfl w.heap.size N [] rfl R1 ta ca bs rfl (HB.out.free O1).src (by have:=HN.out; simp; omega) ?_; intro w2 y2 hy2 R2 O2; clear R1 hown hgrow))
 have hN:=HN.out
 have hy2':y2=bs:=by have:=hy2.out; simpa using this
 have HY2:Hid (y2=bs):=hy2'
 have l2:y2.length + 8 + rs.length≤N:=by rw [hy2']; omega
 clear hy2 hy2' hN
 refine (addNumber_any R2 (by omega) (n:=rs.length) (by omega)).mono ?_
 rintro e w3 ⟨rfl,R3,O3⟩
 generalize hy3:y2 ++ be4 rs.length=y3 at R3 ⊢
 have l3:y3.length + 4 + rs.length≤N:=by rw [← hy3,List.length_append,be4_len]; omega
 have HY3:Hid _:=hy3
 clear hy3 R2
 have O13:Off (fun c=>c=w.heap.size) w w3:=((O1.mono (fun _ _ h=>h.elim)).trans O2 (fun _ _ h=>h)).trans O3 (fun _ _ h=>h)
 have F3:Off (fun _=>False) w w3:=O13.mono (fun i hi h=>by omega)
 clear O1 O2 O3 O13 l2
 go_wp2_with fail
 refine (poly_tbl w3).mono ?_
 rintro e w4 ⟨rfl,T4,O4⟩
 have F4:Off (fun _=>False) w w4:=F3.trans O4 (fun _ _ h=>h)
 have s3:w.heap.size < w3.heap.size:=R3.lt _ rfl
 have R4:=R3.off O4 (fun _ _ _ h=>h)
 clear O4 R3
 go_wp2_with fail
 refine (sum_tbl T4 (HR.out.free F4) (fun _=>?_) (by omega)).mono ?_
 ·rcases HR.out.old with h | h
  ·exact .inr h
  ·exact .inl (fun e=>by have:=h _ e; omega)
 rintro e w5 ⟨rfl,E5,T5,hE5,O5⟩
 have R5:=R4.off O5 (fun c hc e h=>by simp [blk] at e; omega)
 have F5:Off (fun _=>False) w w5:=((F4.mono (fun _ _ h=>h.elim)).trans O5 (fun _ _ h=>h)).mono (fun i hi h=>by omega)
 clear T4 O5 R4 T5 hE5
 go_wp2_with fail
 refine (addNumber_any R5 (by omega) (n:=crcL rs) HCL.out).mono ?_
 rintro e w6 ⟨rfl,R6,O6⟩
 generalize hy6:y3 ++ be4 (crcL rs)=y6 at R6 ⊢
 have l6:y6.length + rs.length≤N:=by rw [← hy6,List.length_append,be4_len]; omega
 have HY6:Hid _:=hy6
 have F6:Off (fun _=>False) w w6:=((F5.mono (fun _ _ h=>h.elim)).trans O6 (fun _ _ h=>h)).mono (fun i hi h=>by omega)
 clear hy6 R5 O6
 go_wp2_with (at_builtin; refine wpList_fit rfl (.tmp 30) (.tmp 31) rfl w.heap.size N y6 rfl R6 tr cr rs rfl (HR.out.free F6).src (by omega) ?_; intro w7 y7 hy7 R7 O7)
 go_ret2
 have e7:y7=bs ++ frm rs:=by rw [hy7.out,← HY6.out,← HY3.out,HY2.out,frm]; simp
 rw [← e7]
 exact ⟨_,_,rfl,R7,fun k hk=>by simp [blk] at hk; omega,((F6.mono (fun _ _ h=>h.elim)).trans O7 (fun _ _ h=>h)).mono (fun i hi h=>by omega)⟩
end Go.Proofs.YthjbnpaghiojlaaGreat
