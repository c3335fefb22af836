/- Items of several texts. -/
import Derived.Lib.Bytealg
import Derived.Lib.BytesEntry
import Derived.Laws.Externs
import Derived.Test.YthjbnpaghiojlaaGreatKTake
namespace Go.Proofs.YthjbnpaghiojlaaGreat
open Go.RowKit
def withV (f:Nat→Int) (n N:Int):Nat→Int:=if nodeB n=true then upd f n.toNat (max (f n.toNat) N) else f
theorem Cel.new2 (w:World) (o p:Obj) (t:TypeId) (cs:Array Value):Cel (w.heap.size + 2) t cs (((w.alloc o).alloc p).alloc (.cells cs t)):=by
 have:=Cel.new ((w.alloc o).alloc p) t cs
 simp only [World.size_alloc] at this
 exact this
set_option maxRecDepth 100000 in
set_option maxHeartbeats 1000000 in
theorem with_any (f:Nat→Int) (n N:Int) (w:World):Calls Tryz.prog 126 #[.agg #[.int .i64 (f 0),.int .i64 (f 1),.int .i64 (f 2),.int .i64 (f 3),.int .i64 (f 4),.int .i64 (f 5),.int .i64 (f 6),.int .i64 (f 7)],.agg #[.int .i64 n,.int .i64 N]] w fun e w'=>e=.returned (.agg #[.int .i64 (withV f n N 0),.int .i64 (withV f n N 1),.int .i64 (withV f n N 2),.int .i64 (withV f n N 3),.int .i64 (withV f n N 4),.int .i64 (withV f n N 5),.int .i64 (withV f n N 6),.int .i64 (withV f n N 7)])∧Off (fun _=>False) w w':=by
 by_cases h0:nodeB n=true
 ·obtain ⟨m,hm,rfl⟩:∃ m:Nat,m < 8∧n=(m:Int):=by
   simp only [nodeB,decide_eq_true_eq] at h0
   exact ⟨n.toNat,by omega,by omega⟩
  have hv:Hid (withV f m N=upd f m (max (f m) N)):=by show withV f m N=_; simp [withV,h0]
  have ha:=at_vec w.heap.size hm
  have hx:=max_vec (f m) N
  go_enter Tryz.func126,Tryz.ntmps126
  go_wp2_with fail
  refine (node_any _ _).mono ?_
  rintro e w1 ⟨rfl,hw⟩
  rw [hw]; clear hw w1
  rw [h0]
  go_wp2_with fail
  obtain ⟨W,hW⟩:∃ W,W=(((w.alloc (.cells #[.int .i64 (f 0),.int .i64 (f 1),.int .i64 (f 2),.int .i64 (f 3),.int .i64 (f 4),.int .i64 (f 5),.int .i64 (f 6),.int .i64 (f 7)] 43)).alloc (.cells #[.int .i64 (m:Int),.int .i64 N] 85)).alloc (.cells #[.int .i64 (zer 0),.int .i64 (zer 1),.int .i64 (zer 2),.int .i64 (zer 3),.int .i64 (zer 4),.int .i64 (zer 5),.int .i64 (zer 6),.int .i64 (zer 7)] 43)):=⟨_,rfl⟩
  have O:Off (fun _=>False) w W:=by rw [hW]; exact (((Off.refl _ w).alloc _).alloc _).alloc _
  have C0:Cel w.heap.size 43 #[.int .i64 (f 0),.int .i64 (f 1),.int .i64 (f 2),.int .i64 (f 3),.int .i64 (f 4),.int .i64 (f 5),.int .i64 (f 6),.int .i64 (f 7)] W:=by rw [hW]; exact ((Cel.new w _ _).alloc _).alloc _
  have C1:Cel (w.heap.size + 1) 85 #[.int .i64 (m:Int),.int .i64 N] W:=by rw [hW]; exact (Cel.new1 w _ _ _).alloc _
  have C2:Cel (w.heap.size + 2) 43 #[.int .i64 (zer 0),.int .i64 (zer 1),.int .i64 (zer 2),.int .i64 (zer 3),.int .i64 (zer 4),.int .i64 (zer 5),.int .i64 (zer 6),.int .i64 (zer 7)] W:=by rw [hW]; exact Cel.new2 w _ _ _ _
  rw [show (Obj.cells #[.int .i64 0,.int .i64 0,.int .i64 0,.int .i64 0,.int .i64 0,.int .i64 0,.int .i64 0,.int .i64 0] 43)=.cells #[.int .i64 (zer 0),.int .i64 (zer 1),.int .i64 (zer 2),.int .i64 (zer 3),.int .i64 (zer 4),.int .i64 (zer 5),.int .i64 (zer 6),.int .i64 (zer 7)] 43 from rfl,← hW]
  clear hW
  have hc:W.cell? ⟨w.heap.size,m,none⟩=some (.int .i64 (f m)):=(C0.cell m).trans (vec_get f hm)
  have hf:W.frozen? ⟨w.heap.size,m,none⟩=false:=C0.free m
  refine wp_region_held_drew (S:=fun w'=>Cel (w.heap.size + 1) 85 #[.int .i64 (m:Int),.int .i64 N] w') (by kernel_rfl) C1.drew (fun hS=>?_)
  refine take_q 0 8 (.pointer (some ⟨w.heap.size + 1,0,none⟩)) hS ?_
  simp only [Act.put,lsA,lsZ,lsS]
  refine take_r 1 9 (.int .i64 (m:Int)) rfl (Or.inl ⟨by rfl,fun w' hw'=>by have x0:=hw'.cell 0; have x1:=hw'.cell 1; simp at x0 x1; go_simp⟩) hS ?_
  simp only [Act.put,lsA,lsZ,lsS]
  refine take_q 2 10 (.pointer (some ⟨w.heap.size + 1,0,none⟩)) hS ?_
  simp only [Act.put,lsA,lsZ,lsS]
  refine take_r 3 11 (.int .i64 (m:Int)) rfl (Or.inl ⟨by rfl,fun w' hw'=>by have x0:=hw'.cell 0; have x1:=hw'.cell 1; simp at x0 x1; go_simp⟩) hS ?_
  simp only [Act.put,lsA,lsZ,lsS]
  refine take_q 4 12 (.pointer (some ⟨w.heap.size,m,none⟩)) hS ?_
  simp only [Act.put,lsA,lsZ,lsS]
  refine take_q 6 14 (.pointer (some ⟨w.heap.size + 1,1,none⟩)) hS ?_
  simp only [Act.put,lsA,lsZ,lsS]
  refine take_r 7 15 (.int .i64 N) rfl (Or.inl ⟨by rfl,fun w' hw'=>by have x0:=hw'.cell 0; have x1:=hw'.cell 1; simp at x0 x1; go_simp⟩) hS ?_
  simp only [Act.put,lsA,lsZ,lsS]
  refine wpAnyH_ready (rs:=[5]) (by kernel_rfl) (by simp) ?_
  refine AllReadyH.cons rfl (fun K' hK'=>?_) AllReadyH.nil
  go_simp
  refine hK'.out _ _ hS (fun hS=>?_)
  clear hK' K'
  refine take_q 8 16 (.int .i64 (max (f m) N)) hS ?_
  simp only [Act.put,lsA,lsZ,lsS]
  refine take_q 9 17 (.pointer (some ⟨w.heap.size,m,none⟩)) hS ?_
  simp only [Act.put,lsA,lsZ,lsS]
  refine wpAnyH_ready (rs:=[10]) (by kernel_rfl) (by simp) ?_
  refine AllReadyH.cons rfl (fun K' hK'=>?_) AllReadyH.nil
  go_simp
  refine hK'.out _ _ (hS.other (by simp) _) (fun hS=>?_)
  clear hK' K'
  refine wpAnyH_done (by kernel_rfl) ?_ _
  have G0:Cel w.heap.size 43 #[.int .i64 (upd f m (max (f m) N) 0),.int .i64 (upd f m (max (f m) N) 1),.int .i64 (upd f m (max (f m) N) 2),.int .i64 (upd f m (max (f m) N) 3),.int .i64 (upd f m (max (f m) N) 4),.int .i64 (upd f m (max (f m) N) 5),.int .i64 (upd f m (max (f m) N) 6),.int .i64 (upd f m (max (f m) N) 7)] (W.setCell ⟨w.heap.size,m,none⟩ (.int .i64 (max (f m) N))).drew:=by
   have:=C0.set m (.int .i64 (max (f m) N))
   rw [vec_set f hm] at this
   exact this.drew
  have G2:Cel (w.heap.size + 2) 43 #[.int .i64 (zer 0),.int .i64 (zer 1),.int .i64 (zer 2),.int .i64 (zer 3),.int .i64 (zer 4),.int .i64 (zer 5),.int .i64 (zer 6),.int .i64 (zer 7)] (W.setCell ⟨w.heap.size,m,none⟩ (.int .i64 (max (f m) N))).drew:=(C2.other (by simp) _).drew
  have OO:Off (fun _=>False) w (W.setCell ⟨w.heap.size,m,none⟩ (.int .i64 (max (f m) N))).drew:=(O.setCell (.inr (by simp)) _).drew
  obtain ⟨V,hV⟩:∃ V,V=(W.setCell ⟨w.heap.size,m,none⟩ (.int .i64 (max (f m) N))).drew:=⟨_,rfl⟩
  rw [← hV] at G0 G2 OO ⊢
  clear hV hc hf C0 C1 C2 O hx ha hS
  obtain ⟨c0,c1,c2,c3,c4,c5,c6,c7⟩:=cel8 G0
  obtain ⟨d0,d1,d2,d3,d4,d5,d6,d7⟩:=cel8 G2
  have fr:=G2.free
  go_wp2_with fail
  refine bodyPost_ret (results_vec rfl rfl (G2.st8 (upd f m (max (f m) N)))) rfl ?_
  rw [hv.out]
  exact ⟨rfl,OO.st8 (.inr (by omega)) _⟩
 ·have h0:nodeB n=false:=by simpa using h0
  have hv:Hid (withV f n N=f):=by show withV f n N=_; simp [withV,h0]
  go_enter Tryz.func126,Tryz.ntmps126
  go_wp2_with fail
  refine (node_any _ _).mono ?_
  rintro e w1 ⟨rfl,hw⟩
  rw [hw]; clear hw w1
  rw [h0]
  go_wp2_with fail
  refine bodyPost_ret (results_vec rfl rfl (Cel.new2 w _ _ _ _)) rfl ?_
  rw [hv.out]
  exact ⟨rfl,(((Off.refl _ w).alloc _).alloc _).alloc _⟩
end Go.Proofs.YthjbnpaghiojlaaGreat

namespace Go.Proofs.YthjbnpaghiojlaaGreat
open Go.RowKit
def coversB (f:Nat→Int) (n N:Int):Bool:=decide (0≤n∧n < 8∧1≤N∧N≤f n.toNat)
set_option maxRecDepth 100000 in
set_option maxHeartbeats 1000000 in
theorem covers_any (f:Nat→Int) (n N:Int) (w:World):Calls Tryz.prog 177 #[.agg #[.int .i64 (f 0),.int .i64 (f 1),.int .i64 (f 2),.int .i64 (f 3),.int .i64 (f 4),.int .i64 (f 5),.int .i64 (f 6),.int .i64 (f 7)],.agg #[.int .i64 n,.int .i64 N]] w fun e w'=>e=.returned (.bool (coversB f n N))∧Off (fun _=>False) w w':=by
 go_enter Tryz.func177,Tryz.ntmps177
 go_wp2_with fail
 obtain ⟨W,hW⟩:∃ W,W=((w.alloc (.cells #[.int .i64 (f 0),.int .i64 (f 1),.int .i64 (f 2),.int .i64 (f 3),.int .i64 (f 4),.int .i64 (f 5),.int .i64 (f 6),.int .i64 (f 7)] 43)).alloc (.cells #[.int .i64 n,.int .i64 N] 85)):=⟨_,rfl⟩
 have O:Off (fun _=>False) w W:=by rw [hW]; exact ((Off.refl _ w).alloc _).alloc _
 have C0:Cel w.heap.size 43 #[.int .i64 (f 0),.int .i64 (f 1),.int .i64 (f 2),.int .i64 (f 3),.int .i64 (f 4),.int .i64 (f 5),.int .i64 (f 6),.int .i64 (f 7)] W:=by rw [hW]; exact (Cel.new w _ _).alloc _
 have C1:Cel (w.heap.size + 1) 85 #[.int .i64 n,.int .i64 N] W:=by rw [hW]; exact Cel.new1 w _ _ _
 rw [← hW]
 clear hW
 refine wp_region_held_drew (S:=fun w'=>Cel (w.heap.size + 1) 85 #[.int .i64 n,.int .i64 N] w'∧Cel w.heap.size 43 #[.int .i64 (f 0),.int .i64 (f 1),.int .i64 (f 2),.int .i64 (f 3),.int .i64 (f 4),.int .i64 (f 5),.int .i64 (f 6),.int .i64 (f 7)] w') (by kernel_rfl) ⟨C1.drew,C0.drew⟩ (fun hS=>?_)
 clear C0 C1
 by_cases h0:nodeB n=true
 ·have hn:0≤n∧n < 8:=by simpa [nodeB] using h0
  by_cases h1:1≤N
  ·have e1:decide (1≤N)=true:=by simp; omega
   obtain ⟨m,hm,rfl⟩:∃ m:Nat,m < 8∧n=(m:Int):=⟨n.toNat,by omega,by omega⟩
   have ha:=at_vec w.heap.size hm
   have hb:Hid (coversB f m N=decide (N≤f m)):=by
    show coversB f m N=_
    simp only [coversB,Int.toNat_natCast]
    exact decide_eq_decide.2 ⟨fun h=>h.2.2.2,fun h=>⟨by omega,by omega,h1,h⟩⟩
   refine take_q 0 5 (.pointer (some ⟨w.heap.size + 1,0,none⟩)) hS ?_
   simp only [Act.put,lsA,lsZ,lsS]
   refine take_r 1 6 (.int .i64 (m:Int)) rfl (Or.inl ⟨by rfl,fun w' hw'=>by have x0:=hw'.1.cell 0; have x1:=hw'.1.cell 1; simp at x0 x1; go_simp⟩) hS ?_
   simp only [Act.put,lsA,lsZ,lsS]
   refine wpAnyH_ready (rs:=[2]) (by kernel_rfl) (by simp) ?_
   refine AllReadyH.cons rfl (fun K' hK'=>?_) AllReadyH.nil
   go_simp
   refine (node_any _ _).mono ?_
   rintro e v1 ⟨rfl,hw⟩
   rw [hw,h0]
   clear hw v1
   refine hK'.out _ _ hS (fun hS=>?_)
   clear hK' K'
   refine take_q 3 8 (.bool true) hS ?_
   simp only [Act.put,lsA,lsZ,lsS]
   refine take_q 4 9 (.pointer (some ⟨w.heap.size + 1,1,none⟩)) hS ?_
   simp only [Act.put,lsA,lsZ,lsS]
   refine take_r 5 10 (.int .i64 N) rfl (Or.inl ⟨by rfl,fun w' hw'=>by have x0:=hw'.1.cell 0; have x1:=hw'.1.cell 1; simp at x0 x1; go_simp⟩) hS ?_
   simp only [Act.put,lsA,lsZ,lsS]
   refine take_q 6 11 (.bool true) hS ?_
   simp only [Act.put,lsA,lsZ,lsS]
   refine take_q 7 12 (.bool true) hS ?_
   simp only [Act.put,lsA,lsZ,lsS]
   refine take_q 8 13 (.bool true) hS ?_
   simp only [Act.put,lsA,lsZ,lsS]
   refine take_q 9 14 (.pointer (some ⟨w.heap.size + 1,1,none⟩)) hS ?_
   simp only [Act.put,lsA,lsZ,lsS]
   refine take_r 10 15 (.int .i64 N) rfl (Or.inl ⟨by rfl,fun w' hw'=>by have x0:=hw'.1.cell 0; have x1:=hw'.1.cell 1; simp at x0 x1; go_simp⟩) hS ?_
   simp only [Act.put,lsA,lsZ,lsS]
   refine take_q 11 16 (.pointer (some ⟨w.heap.size + 1,0,none⟩)) hS ?_
   simp only [Act.put,lsA,lsZ,lsS]
   refine take_r 12 17 (.int .i64 (m:Int)) rfl (Or.inl ⟨by rfl,fun w' hw'=>by have x0:=hw'.1.cell 0; have x1:=hw'.1.cell 1; simp at x0 x1; go_simp⟩) hS ?_
   simp only [Act.put,lsA,lsZ,lsS]
   refine take_q 13 18 (.pointer (some ⟨w.heap.size,m,none⟩)) hS ?_
   simp only [Act.put,lsA,lsZ,lsS]
   refine take_r 14 19 (.int .i64 (f m)) rfl (Or.inl ⟨by rfl,fun w' hw'=>by have x0:=(hw'.2.cell m).trans (vec_get f hm); go_simp⟩) hS ?_
   simp only [Act.put,lsA,lsZ,lsS]
   refine take_q 15 20 (.bool (decide (N≤f m))) hS ?_
   simp only [Act.put,lsA,lsZ,lsS]
   refine take_q 16 21 (.bool (decide (N≤f m))) hS ?_
   simp only [Act.put,lsA,lsZ,lsS]
   refine take_q 17 4 (.bool (decide (N≤f m))) hS ?_
   simp only [Act.put,lsA,lsZ,lsS]
   refine wpAnyH_done (by kernel_rfl) ?_ _
   go_wp2_with fail
   go_ret
   rw [hb.out]
   exact ⟨rfl,O.drew⟩
  ·have e1:decide (1≤N)=false:=by simp; omega
   have hb:Hid (coversB f n N=false):=by show coversB f n N=_; simp [coversB]; omega
   refine take_q 0 5 (.pointer (some ⟨w.heap.size + 1,0,none⟩)) hS ?_
   simp only [Act.put,lsA,lsZ,lsS]
   refine take_r 1 6 (.int .i64 n) rfl (Or.inl ⟨by rfl,fun w' hw'=>by have x0:=hw'.1.cell 0; have x1:=hw'.1.cell 1; simp at x0 x1; go_simp⟩) hS ?_
   simp only [Act.put,lsA,lsZ,lsS]
   refine wpAnyH_ready (rs:=[2]) (by kernel_rfl) (by simp) ?_
   refine AllReadyH.cons rfl (fun K' hK'=>?_) AllReadyH.nil
   go_simp
   refine (node_any _ _).mono ?_
   rintro e v1 ⟨rfl,hw⟩
   rw [hw,h0]
   clear hw v1
   refine hK'.out _ _ hS (fun hS=>?_)
   clear hK' K'
   refine take_q 3 8 (.bool true) hS ?_
   simp only [Act.put,lsA,lsZ,lsS]
   refine take_q 4 9 (.pointer (some ⟨w.heap.size + 1,1,none⟩)) hS ?_
   simp only [Act.put,lsA,lsZ,lsS]
   refine take_r 5 10 (.int .i64 N) rfl (Or.inl ⟨by rfl,fun w' hw'=>by have x0:=hw'.1.cell 0; have x1:=hw'.1.cell 1; simp at x0 x1; go_simp⟩) hS ?_
   simp only [Act.put,lsA,lsZ,lsS]
   refine take_q 6 11 (.bool false) hS ?_
   simp only [Act.put,lsA,lsZ,lsS]
   refine take_q 7 12 (.bool false) hS ?_
   simp only [Act.put,lsA,lsZ,lsS]
   refine take_q 8 13 (.bool false) hS ?_
   simp only [Act.put,lsA,lsZ,lsS]
   refine take_r 9 14 (undef) rfl (Or.inr ⟨by rfl,rfl⟩) hS ?_
   simp only [Act.put,lsA,lsZ,lsS]
   refine take_r 10 15 (undef) rfl (Or.inr ⟨by rfl,rfl⟩) hS ?_
   simp only [Act.put,lsA,lsZ,lsS]
   refine take_r 11 16 (undef) rfl (Or.inr ⟨by rfl,rfl⟩) hS ?_
   simp only [Act.put,lsA,lsZ,lsS]
   refine take_r 12 17 (undef) rfl (Or.inr ⟨by rfl,rfl⟩) hS ?_
   simp only [Act.put,lsA,lsZ,lsS]
   refine take_r 13 18 (undef) rfl (Or.inr ⟨by rfl,rfl⟩) hS ?_
   simp only [Act.put,lsA,lsZ,lsS]
   refine take_r 14 19 (undef) rfl (Or.inr ⟨by rfl,rfl⟩) hS ?_
   simp only [Act.put,lsA,lsZ,lsS]
   refine take_r 15 20 (undef) rfl (Or.inr ⟨by rfl,rfl⟩) hS ?_
   simp only [Act.put,lsA,lsZ,lsS]
   refine take_q 16 21 (.bool false) hS ?_
   simp only [Act.put,lsA,lsZ,lsS]
   refine take_q 17 4 (.bool false) hS ?_
   simp only [Act.put,lsA,lsZ,lsS]
   refine wpAnyH_done (by kernel_rfl) ?_ _
   go_wp2_with fail
   go_ret
   rw [hb.out]
   exact ⟨rfl,O.drew⟩
 ·have h0:nodeB n=false:=by simpa using h0
  have hn:¬ (0≤n∧n < 8):=by simpa [nodeB] using h0
  have hb:Hid (coversB f n N=false):=by show coversB f n N=_; simp [coversB]; omega
  refine take_q 0 5 (.pointer (some ⟨w.heap.size + 1,0,none⟩)) hS ?_
  simp only [Act.put,lsA,lsZ,lsS]
  refine take_r 1 6 (.int .i64 n) rfl (Or.inl ⟨by rfl,fun w' hw'=>by have x0:=hw'.1.cell 0; have x1:=hw'.1.cell 1; simp at x0 x1; go_simp⟩) hS ?_
  simp only [Act.put,lsA,lsZ,lsS]
  refine wpAnyH_ready (rs:=[2]) (by kernel_rfl) (by simp) ?_
  refine AllReadyH.cons rfl (fun K' hK'=>?_) AllReadyH.nil
  go_simp
  refine (node_any _ _).mono ?_
  rintro e v1 ⟨rfl,hw⟩
  rw [hw,h0]
  clear hw v1
  refine hK'.out _ _ hS (fun hS=>?_)
  clear hK' K'
  refine take_q 3 8 (.bool false) hS ?_
  simp only [Act.put,lsA,lsZ,lsS]
  refine take_r 4 9 (undef) rfl (Or.inr ⟨by rfl,rfl⟩) hS ?_
  simp only [Act.put,lsA,lsZ,lsS]
  refine take_r 5 10 (undef) rfl (Or.inr ⟨by rfl,rfl⟩) hS ?_
  simp only [Act.put,lsA,lsZ,lsS]
  refine take_r 6 11 (undef) rfl (Or.inr ⟨by rfl,rfl⟩) hS ?_
  simp only [Act.put,lsA,lsZ,lsS]
  refine take_q 7 12 (.bool false) hS ?_
  simp only [Act.put,lsA,lsZ,lsS]
  refine take_q 8 13 (.bool false) hS ?_
  simp only [Act.put,lsA,lsZ,lsS]
  refine take_r 9 14 (undef) rfl (Or.inr ⟨by rfl,rfl⟩) hS ?_
  simp only [Act.put,lsA,lsZ,lsS]
  refine take_r 10 15 (undef) rfl (Or.inr ⟨by rfl,rfl⟩) hS ?_
  simp only [Act.put,lsA,lsZ,lsS]
  refine take_r 11 16 (undef) rfl (Or.inr ⟨by rfl,rfl⟩) hS ?_
  simp only [Act.put,lsA,lsZ,lsS]
  refine take_r 12 17 (undef) rfl (Or.inr ⟨by rfl,rfl⟩) hS ?_
  simp only [Act.put,lsA,lsZ,lsS]
  refine take_r 13 18 (undef) rfl (Or.inr ⟨by rfl,rfl⟩) hS ?_
  simp only [Act.put,lsA,lsZ,lsS]
  refine take_r 14 19 (undef) rfl (Or.inr ⟨by rfl,rfl⟩) hS ?_
  simp only [Act.put,lsA,lsZ,lsS]
  refine take_r 15 20 (undef) rfl (Or.inr ⟨by rfl,rfl⟩) hS ?_
  simp only [Act.put,lsA,lsZ,lsS]
  refine take_q 16 21 (.bool false) hS ?_
  simp only [Act.put,lsA,lsZ,lsS]
  refine take_q 17 4 (.bool false) hS ?_
  simp only [Act.put,lsA,lsZ,lsS]
  refine wpAnyH_done (by kernel_rfl) ?_ _
  go_wp2_with fail
  go_ret
  rw [hb.out]
  exact ⟨rfl,O.drew⟩
end Go.Proofs.YthjbnpaghiojlaaGreat

namespace Go.Proofs.YthjbnpaghiojlaaGreat
open Go.RowKit
structure A where
 node:Int
 num:Int
 data:List Nat
 dead:Bool
structure V where
 node:Int
 num:Int
 ad:Option Addr
 cap:Nat
 data:List Nat
 dead:Bool
def V.abs (v:V):A:=⟨v.node,v.num,v.data,v.dead⟩
def cont (l:List V):List A:=l.map V.abs
theorem cont_len (l:List V):(cont l).length=l.length:=by simp [cont]
structure VOk (w:World) (v:V):Prop where
 src:Src w v.ad v.cap v.data
 lt:∀ x ∈ v.data,x < 256
 n0:-9223372036854775808≤v.node
 n1:v.node≤9223372036854775807
 m0:-9223372036854775808≤v.num
 m1:v.num≤9223372036854775807
 len:v.data.length≤140737488351232
structure At4 (w:World) (b o:Nat) (v:V):Prop where
 c0:w.cell? ⟨b,o,none⟩=some (.int .i64 v.node)
 c1:w.cell? ⟨b,o + 1,none⟩=some (.int .i64 v.num)
 c2:w.cell? ⟨b,o + 2,none⟩=some (.slice v.ad v.data.length v.cap)
 c3:w.cell? ⟨b,o + 3,none⟩=some (.bool v.dead)
structure Row (w:World) (a:Option Addr) (cap:Nat) (l:List V):Prop where
 len:l.length≤cap
 bound:cap≤9223372036854775807
 at_:∀ i v,l[i]?=some v→∃ b off,a=some ⟨b,off,none⟩∧At4 w b (off + i * 4) v∧VOk w v
theorem VOk.off {D:Nat→Prop} {w w':World} {v:V} (h:VOk w v) (o:Off D w w') (hD:∀ c,c < w.heap.size→blk v.ad=some c→¬ D c):VOk w' v :=
 ⟨h.src.off o hD,h.lt,h.n0,h.n1,h.m0,h.m1,h.len⟩
theorem At4.off {D:Nat→Prop} {w w':World} {b o:Nat} {v:V} (h:At4 w b o v) (k:Off D w w') (hD:b < w.heap.size→¬ D b):At4 w' b o v:=by
 have e:∀ j u,w.cell? ⟨b,j,none⟩=some u→w'.cell? ⟨b,j,none⟩=some u:=fun j u e=>by
  have:=cell_lt e
  rw [← e]
  exact World.cell?_of_block (a:=⟨b,j,none⟩) (k.block b this (hD this))
 exact ⟨e _ _ h.c0,e _ _ h.c1,e _ _ h.c2,e _ _ h.c3⟩
theorem At4.lt {w:World} {b o:Nat} {v:V} (h:At4 w b o v):b < w.heap.size:=cell_lt h.c0
theorem Row.off {w w':World} {a:Option Addr} {cap:Nat} {l:List V} (h:Row w a cap l) (o:Off (fun _=>False) w w'):Row w' a cap l :=
 ⟨h.len,h.bound,fun i v hv=>by
  obtain ⟨b,off,e,h1,h2⟩:=h.at_ i v hv
  exact ⟨b,off,e,h1.off o (fun _ h=>h),h2.off o (fun _ _ _ h=>h)⟩⟩
theorem Row.offD {D:Nat→Prop} {w w':World} {a:Option Addr} {cap:Nat} {l:List V} (h:Row w a cap l) (o:Off D w w') (ha:∀ c,c < w.heap.size→blk a=some c→¬ D c) (hv:∀ v ∈ l,∀ c,c < w.heap.size→blk v.ad=some c→¬ D c):Row w' a cap l :=
 ⟨h.len,h.bound,fun i v hi=>by
  obtain ⟨b,off,e,h1,h2⟩:=h.at_ i v hi
  exact ⟨b,off,e,h1.off o (fun hb=>ha b hb (by rw [e]; rfl)),h2.off o (hv v (List.mem_of_getElem? hi))⟩⟩
theorem Row.nil (w:World) (a:Option Addr) (cap:Nat) (h:cap≤9223372036854775807):Row w a cap []:=⟨by simp,h,fun i v h=>by simp at h⟩
theorem Row.ok {w:World} {a:Option Addr} {cap:Nat} {l:List V} (h:Row w a cap l):∀ v ∈ l,VOk w v:=by
 intro v hv
 obtain ⟨i,hi⟩:=List.getElem?_of_mem hv
 obtain ⟨_,_,_,_,h⟩:=h.at_ i v hi
 exact h
theorem Tryz.infoV:(Tryz.prog.info? 87).map (fun i=>(i.zero,i.size,i.bytes))=some (some (.agg #[.int .i64 0,.int .i64 0,.slice none 0 0,.bool false]),4,48):=by kernel_rfl
theorem Row.tail {w:World} {a:Option Addr} {cap:Nat} {v:V} {l:List V} (h:Row w a cap (v :: l)) :
  ∃ a',(∀ W,(Instr.slice 45 (.slice a (v :: l).length cap) (some (.int .i64 1)) none none).run Tryz.prog W=.ok (.slice a' l.length (cap - 1)) W)∧Row w a' (cap - 1) l∧blk a'=blk a:=by
 have hc:=h.len
 have hb:=h.bound
 simp only [List.length_cons] at hc
 obtain ⟨b,off,rfl,-,-⟩:=h.at_ 0 v rfl
 refine ⟨if cap=1 then some ⟨b,off,none⟩ else some ⟨b,off + 4,none⟩,fun W=>?_,⟨by omega,by omega,fun i u hi=>?_⟩,by split <;> rfl⟩
 ·rw [run_slice_l (P:=Tryz.prog) (t:=45) (ht:=by kernel_rfl) (h0:=by omega) (h1:=by simp only [List.length_cons]; omega)]
  have hs:(sizeOf (Tryz.prog.elem 45)).run Tryz.prog W=.ok 4 W:=by
   have:Tryz.prog.elem 45=87:=by kernel_rfl
   rw [this]
   obtain ⟨i0,hi,hz0,hz1,hz2⟩:=info_parts Tryz.infoV
   simp [sizeOf,typeInfo,hi,hz1]
  rw [hs]
  simp [Result.andThen,sliced,Addr.add]
 ·obtain ⟨b',off',e,h1,h2⟩:=h.at_ (i + 1) u (by simpa using hi)
  simp only [Option.some.injEq,Addr.mk.injEq,and_true] at e
  obtain ⟨rfl,rfl⟩:=e
  have hl:i < l.length:=by
   obtain ⟨h,-⟩:=List.getElem?_eq_some_iff.1 hi
   exact h
  rw [if_neg (by omega)]
  refine ⟨b,off + 4,rfl,?_,h2⟩
  rw [show off + 4 + i * 4=off + (i + 1) * 4 by omega]
  exact h1
theorem cel9 {b:Nat} {t:TypeId} {f:Nat→Int} {s:Value} {w:World} (h:Cel b t #[.int .i64 (f 0),.int .i64 (f 1),.int .i64 (f 2),.int .i64 (f 3),.int .i64 (f 4),.int .i64 (f 5),.int .i64 (f 6),.int .i64 (f 7),s] w):w.cell? ⟨b,0,none⟩=some (.int .i64 (f 0))∧w.cell? ⟨b,1,none⟩=some (.int .i64 (f 1))∧w.cell? ⟨b,2,none⟩=some (.int .i64 (f 2))∧w.cell? ⟨b,3,none⟩=some (.int .i64 (f 3))∧w.cell? ⟨b,4,none⟩=some (.int .i64 (f 4))∧w.cell? ⟨b,5,none⟩=some (.int .i64 (f 5))∧w.cell? ⟨b,6,none⟩=some (.int .i64 (f 6))∧w.cell? ⟨b,7,none⟩=some (.int .i64 (f 7))∧w.cell? ⟨b,8,none⟩=some s :=
 ⟨h.cell 0,h.cell 1,h.cell 2,h.cell 3,h.cell 4,h.cell 5,h.cell 6,h.cell 7,h.cell 8⟩
theorem cel4 {b:Nat} {t:TypeId} {v:V} {w:World} (h:Cel b t #[.int .i64 v.node,.int .i64 v.num,.slice v.ad v.data.length v.cap,.bool v.dead] w):w.cell? ⟨b,0,none⟩=some (.int .i64 v.node)∧w.cell? ⟨b,1,none⟩=some (.int .i64 v.num)∧w.cell? ⟨b,2,none⟩=some (.slice v.ad v.data.length v.cap)∧w.cell? ⟨b,3,none⟩=some (.bool v.dead) :=
 ⟨h.cell 0,h.cell 1,h.cell 2,h.cell 3⟩
def okData (n:Nat) (dead:Bool):Bool:=if dead then decide (n=0) else decide (n≤200)
theorem mayData_any (a:Option Addr) (n cap:Nat) (dead:Bool) (w:World):Calls Tryz.prog 121 #[.slice a n cap,.bool dead] w fun e w'=>e=.returned (.bool (okData n dead))∧w'=w:=by
 cases dead
 ·by_cases h:n≤200
  ·have e1:decide ((n:Int)≤200)=true:=by simp; omega
   have e2:decide (n≤200)=true:=by simp; omega
   go_enter Tryz.func121,Tryz.ntmps121
   go_wp2
   go_ret
   exact ⟨by simp [okData,h],rfl⟩
  ·have e1:decide ((n:Int)≤200)=false:=by simp; omega
   have e2:decide (n≤200)=false:=by simp; omega
   go_enter Tryz.func121,Tryz.ntmps121
   go_wp2
   go_ret
   exact ⟨by simp [okData,h],rfl⟩
 ·by_cases h:n=0
  ·subst h
   go_enter Tryz.func121,Tryz.ntmps121
   go_wp2
   go_ret
   exact ⟨by simp [okData],rfl⟩
  ·have e1:((n:Int) == 0)=false:=by rw [beq_eq_false_iff_ne]; omega
   go_enter Tryz.func121,Tryz.ntmps121
   go_wp2
   go_ret
   exact ⟨by simp [okData,h],rfl⟩
end Go.Proofs.YthjbnpaghiojlaaGreat

namespace Go.Proofs.YthjbnpaghiojlaaGreat
open Go.RowKit
structure MayP (f:Nat→Int) (l:List A):Prop where
 seen:∀ j,j < 8→0≤f j∧f j≤1099511627776
 few:l.length≤16
 less:∀ i x y,l[i]?=some x→l[i + 1]?=some y→lessB x.node x.num y.node y.num=true
 cov:∀ x,x ∈ l→coversB f x.node x.num=true∧okData x.data.length x.dead=true
def lessAll:List A→Bool
 | []=>true
 | [_]=>true
 | x :: y :: l=>lessB x.node x.num y.node y.num && lessAll (y :: l)
theorem lessAll_iff:∀ l:List A,lessAll l=true↔∀ i x y,l[i]?=some x→l[i + 1]?=some y→lessB x.node x.num y.node y.num=true
 | []=>by simp [lessAll]
 | [_]=>by simp [lessAll]
 | x :: y :: l=>by
  rw [lessAll,Bool.and_eq_true,lessAll_iff (y :: l)]
  constructor
  ·rintro ⟨h1,h2⟩ i a b ha hb
   cases i with
   | zero =>
    simp at ha hb
    subst ha hb
    exact h1
   | succ i=>exact h2 i a b (by simpa using ha) (by simpa using hb)
  ·intro h
   exact ⟨h 0 x y rfl rfl,fun i a b ha hb=>h (i + 1) a b (by simpa using ha) (by simpa using hb)⟩
def mayS (f:Nat→Int) (l:List A):Bool:=mayB f && (decide (l.length≤16) && (lessAll l && l.all fun x=>coversB f x.node x.num && okData x.data.length x.dead))
theorem may_iff {f:Nat→Int} {l:List A}:mayS f l=true↔MayP f l:=by
 simp only [mayS,mayB,Bool.and_eq_true,decide_eq_true_eq,lessAll_iff,List.all_eq_true]
 exact ⟨fun ⟨a,b,c,d⟩=>⟨a,b,c,d⟩,fun h=>⟨h.seen,h.few,h.less,h.cov⟩⟩
theorem may_yes {f:Nat→Int} {l:List A} (h:MayP f l):mayS f l=true:=may_iff.2 h
theorem may_no {f:Nat→Int} {l:List A} (h:¬ MayP f l):mayS f l=false:=by
 cases e:mayS f l
 ·rfl
 ·exact absurd (may_iff.1 e) h
theorem mem_cont {l:List V} {i:Nat} {v:V} (h:l[i]?=some v):v.abs ∈ cont l:=List.mem_map.2 ⟨v,List.mem_of_getElem? h,rfl⟩
theorem get_cont {l:List V} {i:Nat} {v:V} (h:l[i]?=some v):(cont l)[i]?=some v.abs:=by simp [cont,h]
theorem get_cont' {l:List V} {i:Nat} {x:A} (h:(cont l)[i]?=some x):∃ v,l[i]?=some v∧x=v.abs:=by
 simp only [cont,List.getElem?_map,Option.map_eq_some_iff] at h
 obtain ⟨v,h1,h2⟩:=h
 exact ⟨v,h1,h2.symm⟩
structure Upto (f:Nat→Int) (l:List V) (n:Nat):Prop where
 less:∀ i x y,i + 1 < n→l[i]?=some x→l[i + 1]?=some y→lessB x.node x.num y.node y.num=true
 cov:∀ i x,i < n→l[i]?=some x→coversB f x.node x.num=true∧okData x.data.length x.dead=true
theorem Upto.zero (f:Nat→Int) (l:List V):Upto f l 0:=⟨fun _ _ _ h=>by omega,fun _ _ h=>by omega⟩
theorem Upto.step {f:Nat→Int} {l:List V} {n:Nat} (h:Upto f l n) {v:V} (hv:l[n]?=some v) (hc:coversB f v.abs.node v.abs.num=true∧okData v.abs.data.length v.abs.dead=true) (hl:∀ i u,i + 1=n→l[i]?=some u→lessB u.node u.num v.node v.num=true):Upto f l (n + 1):=by
 refine ⟨fun i x y hi hx hy=>?_,fun i x hi hx=>?_⟩
 ·rcases Nat.lt_or_ge (i + 1) n with h1 | h1
  ·exact h.less i x y h1 hx hy
  ·obtain rfl:n=i + 1:=by omega
   rw [hv] at hy
   cases hy
   exact hl i x rfl hx
 ·rcases Nat.lt_or_ge i n with h1 | h1
  ·exact h.cov i x h1 hx
  ·obtain rfl:n=i:=by omega
   rw [hv] at hx
   cases hx
   exact hc
theorem Upto.may {f:Nat→Int} {l:List V} (h:Upto f l l.length) (hs:∀ j,j < 8→0≤f j∧f j≤1099511627776) (hl:l.length≤16):MayP f (cont l):=by
 refine ⟨hs,by rw [cont_len]; exact hl,fun i x y hx hy=>?_,fun x hx=>?_⟩
 ·obtain ⟨u,hu,rfl⟩:=get_cont' hx
  obtain ⟨v,hv,rfl⟩:=get_cont' hy
  have:i + 1 < l.length:=by
   obtain ⟨h,-⟩:=List.getElem?_eq_some_iff.1 hv
   exact h
  exact h.less i u v this hu hv
 ·simp only [cont,List.mem_map] at hx
  obtain ⟨v,hv,rfl⟩:=hx
  obtain ⟨i,hi⟩:=List.getElem?_of_mem hv
  have:i < l.length:=by
   obtain ⟨h,-⟩:=List.getElem?_eq_some_iff.1 hi
   exact h
  exact h.cov i v this hi
theorem less_at {l:List V} {n m:Nat} {u v:V} (hm:n=m + 1) (hu:l[m]?=some u) (h:lessB u.node u.num v.node v.num=true):∀ i x,i + 1=n→l[i]?=some x→lessB x.node x.num v.node v.num=true:=by
 intro i x hi hx
 obtain rfl:i=m:=by omega
 rw [hu] at hx
 cases hx
 exact h
set_option maxRecDepth 100000 in
set_option maxHeartbeats 2000000 in
theorem smay_any (f:Nat→Int) (a:Option Addr) (cap:Nat) (l:List V) (w:World) (hr:Row w a cap l) :
  Calls Tryz.prog 119 #[.agg #[.int .i64 (f 0),.int .i64 (f 1),.int .i64 (f 2),.int .i64 (f 3),.int .i64 (f 4),.int .i64 (f 5),.int .i64 (f 6),.int .i64 (f 7),.slice a l.length cap]] w fun e w'=>e=.returned (.bool (mayS f (cont l)))∧Off (fun _=>False) w w':=by
 have hnot:=not_any
 have B0:=Cel.new w 47 #[.int .i64 (f 0),.int .i64 (f 1),.int .i64 (f 2),.int .i64 (f 3),.int .i64 (f 4),.int .i64 (f 5),.int .i64 (f 6),.int .i64 (f 7),.slice a l.length cap]
 have O0:Off (fun _=>False) w (w.alloc (.cells #[.int .i64 (f 0),.int .i64 (f 1),.int .i64 (f 2),.int .i64 (f 3),.int .i64 (f 4),.int .i64 (f 5),.int .i64 (f 6),.int .i64 (f 7),.slice a l.length cap] 47)):=(Off.refl _ w).alloc _
 cases hm:mayB f
 ·go_enter Tryz.func119,Tryz.ntmps119
  go_wp2_with fail
  refine (may_any f _).mono ?_
  rw [hm]
  rintro e w1 ⟨rfl,o1⟩
  go_wp2_with fail
  go_ret
  refine ⟨?_,O0.trans o1 (fun _ _ h=>h)⟩
  rw [may_no (fun hM=>by simp [mayB] at hm; obtain ⟨j,hj,h⟩:=hm; have:=hM.seen j hj; have:=h this.1; omega)]
  rfl
 have hseen:∀ j,j < 8→0≤f j∧f j≤1099511627776:=by simpa [mayB] using hm
 have HSN:Hid _:=hseen
 clear hseen
 by_cases hl:l.length≤16
 ·have d1:decide ((16:Int) < (l.length:Int))=false:=decide_eq_false (by omega)
  have d2:decide (16 < l.length)=false:=decide_eq_false (by omega)
  have R0:=hr.off O0
  have HB0:Hid _:=B0
  have HO0:Hid _:=O0
  have HR0:Hid _:=R0
  have HHL:Hid _:=hl
  clear B0 O0 R0 hr
  go_enter Tryz.func119,Tryz.ntmps119
  go_wp2_with fail
  refine (may_any f _).mono ?_
  rw [hm]
  rintro e w1 ⟨rfl,o1⟩
  have B1:=HB0.out.off o1 (fun h=>h)
  have O1:=HO0.out.trans o1 (fun _ _ h=>h)
  have R1:=HR0.out.off o1
  have c8:w1.cell? ⟨w.heap.size,8,none⟩=some (.slice a l.length cap):=B1.cell 8
  have HB1:Hid _:=B1
  have HO1:Hid _:=O1
  have HR1:Hid _:=R1
  clear B1 O1 R1 o1
  go_wp2_with fail
  go_loopw [18] (fun y wr=>∃ n:Nat,y=.int .i64 (n:Int)∧n≤l.length∧Upto f l n∧Off (fun _=>False) w wr∧Cel w.heap.size 47 #[.int .i64 (f 0),.int .i64 (f 1),.int .i64 (f 2),.int .i64 (f 3),.int .i64 (f 4),.int .i64 (f 5),.int .i64 (f 6),.int .i64 (f 7),.slice a l.length cap] wr∧Row wr a cap l) (fun y _=>(l.length - intOf y).toNat)
  case atStart=>exact ⟨0,rfl,by omega,Upto.zero f l,HO1.out,HB1.out,HR1.out⟩
  case round =>
   clear HB1 HO1 HR1 HB0 HO0 HR0 c8
   obtain ⟨n,rfl,hn,hg,O,cb,hr1⟩:=hrel
   have HG:Hid _:=hg
   clear hg
   by_cases hlt:n < l.length
   ·have e1:decide ((n:Int) < (l.length:Int))=true:=decide_eq_true (by omega)
    have e2:decide (n < l.length)=true:=decide_eq_true hlt
    obtain ⟨v,hv⟩:∃ v,l[n]?=some v:=⟨_,List.getElem?_eq_getElem hlt⟩
    obtain ⟨b,off,rfl,k,-⟩:=hr1.at_ n v hv
    obtain ⟨k0,k1,k2,k3⟩:=k
    have k:At4 wr b (off + n * 4) v:=⟨k0,k1,k2,k3⟩
    rcases Nat.eq_zero_or_pos n with hn0 | hn0
    ·have e5:decide ((0:Int) < (n:Int))=false:=decide_eq_false (by omega)
     have e6:decide (0 < n)=false:=decide_eq_false (by omega)
     have HN0:Hid _:=hn0
     clear hn0
     go_wp2_with fail
     have C1:=Cel.new wr 87 #[.int .i64 v.node,.int .i64 v.num,.slice v.ad v.data.length v.cap,.bool v.dead]
     have CB1:=cb.alloc (.cells #[.int .i64 v.node,.int .i64 v.num,.slice v.ad v.data.length v.cap,.bool v.dead] 87)
     have R1:=hr1.off ((Off.refl _ wr).alloc (.cells #[.int .i64 v.node,.int .i64 v.num,.slice v.ad v.data.length v.cap,.bool v.dead] 87))
     have O1:=O.alloc (.cells #[.int .i64 v.node,.int .i64 v.num,.slice v.ad v.data.length v.cap,.bool v.dead] 87)
     have:=k.off ((Off.refl (fun _=>False) wr).alloc (.cells #[.int .i64 v.node,.int .i64 v.num,.slice v.ad v.data.length v.cap,.bool v.dead] 87)) (fun _ h=>h)
     generalize hZ:wr.heap.size=Z at C1 ⊢
     generalize hW:wr.alloc (.cells #[.int .i64 v.node,.int .i64 v.num,.slice v.ad v.data.length v.cap,.bool v.dead] 87)=W at C1 CB1 R1 O1 ⊢
     have CV:Hid _:=C1
     have CB:Hid _:=CB1
     have HR:Hid _:=R1
     have HO:Hid _:=O1
     clear C1 CB1 R1 O1 cb hr1 O hZ hW k0 k1 k2 k3 k
     refine wp_region_held_drew (S:=fun w'=>Off (fun _=>False) W w') (by kernel_rfl) ((Off.refl _ W).drew) (fun hS=>?_)
     refine take_q 0 23 (.int .i64 (n:Int)) hS ?_
     simp only [Act.put,lsA,lsZ,lsS]
     refine take_q 1 24 (.bool false) hS ?_
     simp only [Act.put,lsA,lsZ,lsS]
     refine take_q 2 25 (.bool false) hS ?_
     simp only [Act.put,lsA,lsZ,lsS]
     refine take_r 3 26 (undef) rfl (Or.inr ⟨by rfl,rfl⟩) hS ?_
     simp only [Act.put,lsA,lsZ,lsS]
     refine take_r 4 27 (undef) rfl (Or.inr ⟨by rfl,rfl⟩) hS ?_
     simp only [Act.put,lsA,lsZ,lsS]
     refine take_r 5 28 (undef) rfl (Or.inr ⟨by rfl,rfl⟩) hS ?_
     simp only [Act.put,lsA,lsZ,lsS]
     refine take_r 6 29 (undef) rfl (Or.inr ⟨by rfl,rfl⟩) hS ?_
     simp only [Act.put,lsA,lsZ,lsS]
     refine take_r 7 30 (undef) rfl (Or.inr ⟨by rfl,rfl⟩) hS ?_
     simp only [Act.put,lsA,lsZ,lsS]
     refine take_r 8 31 (undef) rfl (Or.inr ⟨by rfl,rfl⟩) hS ?_
     simp only [Act.put,lsA,lsZ,lsS]
     refine take_r 9 32 (undef) rfl (Or.inr ⟨by rfl,rfl⟩) hS ?_
     simp only [Act.put,lsA,lsZ,lsS]
     refine take_r 10 33 (undef) rfl (Or.inr ⟨by rfl,rfl⟩) hS ?_
     simp only [Act.put,lsA,lsZ,lsS]
     refine take_r 11 34 (undef) rfl (Or.inr ⟨by rfl,rfl⟩) hS ?_
     simp only [Act.put,lsA,lsZ,lsS]
     refine take_r 12 35 (undef) rfl (Or.inr ⟨by rfl,rfl⟩) hS ?_
     simp only [Act.put,lsA,lsZ,lsS]
     refine take_r 13 36 (undef) rfl (Or.inr ⟨by rfl,rfl⟩) hS ?_
     simp only [Act.put,lsA,lsZ,lsS]
     refine take_q 14 37 (.bool false) hS ?_
     simp only [Act.put,lsA,lsZ,lsS]
     refine wpAnyH_done (by kernel_rfl) ?_ _
     obtain ⟨y0,y1,y2,y3,y4,y5,y6,y7,y8⟩:=cel9 (CB.out.off hS (fun h=>h))
     obtain ⟨z0,z1,z2,z3⟩:=cel4 (CV.out.off hS (fun h=>h))
     cases hcov:coversB f v.node v.num
     ·go_wp2_with fail
      refine (covers_any f _ _ _).mono ?_
      rw [hcov]
      rintro e w3 ⟨rfl,o3⟩
      go_wp2_with fail
      go_ret
      refine ⟨?_,HO.out.trans (hS.trans o3 (fun _ _ h=>h)) (fun _ _ h=>h)⟩
      rw [may_no (fun hM=>by have:=(hM.cov v.abs (mem_cont hv)).1; simp [V.abs,hcov] at this)]
      rfl
     ·go_wp2_with fail
      refine (covers_any f _ _ _).mono ?_
      rw [hcov]
      rintro e w3 ⟨rfl,o3⟩
      have O3:=hS.trans o3 (fun _ _ h=>h)
      obtain ⟨x0,x1,x2,x3⟩:=cel4 (CV.out.off O3 (fun h=>h))
      have HO3:Hid _:=O3
      clear O3 o3 hS y0 y1 y2 y3 y4 y5 y6 y7 y8 z0 z1 z2 z3
      cases hdat:okData v.data.length v.dead
      ·go_wp2_with fail
       refine (mayData_any _ _ _ _ _).mono ?_
       rw [hdat]
       rintro e w4 ⟨rfl,hw⟩
       rw [hw]
       clear hw w4
       go_wp2_with fail
       go_ret
       refine ⟨?_,HO.out.trans HO3.out (fun _ _ h=>h)⟩
       rw [may_no (fun hM=>by have:=(hM.cov v.abs (mem_cont hv)).2; simp [V.abs,hdat] at this)]
       rfl
      ·go_wp2_with fail
       refine (mayData_any _ _ _ _ _).mono ?_
       rw [hdat]
       rintro e w4 ⟨rfl,hw⟩
       rw [hw]
       clear hw w4
       go_wp2_with fail
       go_roundw
       case rel =>
        refine ⟨n + 1,by go_num,by omega,?_,HO.out.trans HO3.out (fun _ _ h=>h),CB.out.off HO3.out (fun h=>h),HR.out.off HO3.out⟩
        exact HG.out.step hv (by simp [V.abs,hcov,hdat]) (fun i u h=>by have:=HN0.out; omega)
       case measure=>simp [intOf]; omega
    ·obtain ⟨m,hm1⟩:∃ m,n=m + 1:=⟨n - 1,by omega⟩
     have e5:decide ((0:Int) < (n:Int))=true:=decide_eq_true (by omega)
     have e6:decide (0 < n)=true:=decide_eq_true (by omega)
     obtain ⟨u,hu⟩:∃ u,l[m]?=some u:=⟨_,List.getElem?_eq_getElem (by omega)⟩
     obtain ⟨b',off',eb,p,-⟩:=hr1.at_ m u hu
     simp only [Option.some.injEq,Addr.mk.injEq,and_true] at eb
     obtain ⟨rfl,rfl⟩:=eb
     have hw2:IntKind.i64.wrap ((n:Int) - 1)=(m:Int):=by
      rw [show (n:Int) - 1=(m:Int) by omega]
      have:=hr1.bound
      have:=hr1.len
      exact wrap64Own (by omega) (by omega)
     have hpp:=p.off ((Off.refl (fun _=>False) wr).alloc (.cells #[.int .i64 v.node,.int .i64 v.num,.slice v.ad v.data.length v.cap,.bool v.dead] 87)) (fun _ h=>h)
     have e3:decide ((m:Int) < (l.length:Int))=true:=decide_eq_true (by omega)
     have e4:decide (m < l.length)=true:=decide_eq_true (by omega)
     have HM1:Hid _:=hm1
     have hml:m < l.length:=by omega
     clear p hm1 hn0
     go_wp2_with fail
     have C1:=Cel.new wr 87 #[.int .i64 v.node,.int .i64 v.num,.slice v.ad v.data.length v.cap,.bool v.dead]
     have CB1:=cb.alloc (.cells #[.int .i64 v.node,.int .i64 v.num,.slice v.ad v.data.length v.cap,.bool v.dead] 87)
     have R1:=hr1.off ((Off.refl _ wr).alloc (.cells #[.int .i64 v.node,.int .i64 v.num,.slice v.ad v.data.length v.cap,.bool v.dead] 87))
     have O1:=O.alloc (.cells #[.int .i64 v.node,.int .i64 v.num,.slice v.ad v.data.length v.cap,.bool v.dead] 87)
     have:=k.off ((Off.refl (fun _=>False) wr).alloc (.cells #[.int .i64 v.node,.int .i64 v.num,.slice v.ad v.data.length v.cap,.bool v.dead] 87)) (fun _ h=>h)
     generalize hZ:wr.heap.size=Z at C1 ⊢
     generalize hW:wr.alloc (.cells #[.int .i64 v.node,.int .i64 v.num,.slice v.ad v.data.length v.cap,.bool v.dead] 87)=W at C1 CB1 R1 O1 hpp ⊢
     have CV:Hid _:=C1
     have CB:Hid _:=CB1
     have HR:Hid _:=R1
     have HO:Hid _:=O1
     clear C1 CB1 R1 O1 cb hr1 O hZ hW k0 k1 k2 k3 k
     have HP:Hid (At4 W b (off + m * 4) u):=hpp
     clear hpp
     refine wp_region_held_drew (S:=fun w'=>Off (fun _=>False) W w') (by kernel_rfl) ((Off.refl _ W).drew) (fun hS=>?_)
     cases hls:lessB u.node u.num v.node v.num
     ·refine take_q 0 23 (.int .i64 (n:Int)) hS ?_
      simp only [Act.put,lsA,lsZ,lsS]
      refine take_q 1 24 (.bool true) hS ?_
      simp only [Act.put,lsA,lsZ,lsS]
      refine take_q 2 25 (.bool true) hS ?_
      simp only [Act.put,lsA,lsZ,lsS]
      refine take_q 3 26 (.pointer (some ⟨w.heap.size,8,none⟩)) hS ?_
      simp only [Act.put,lsA,lsZ,lsS]
      refine take_r 4 27 (.slice (some ⟨b,off,none⟩) l.length cap) rfl (Or.inl ⟨by rfl,fun w' hw'=>by have x8:=(CB.out.off hw' (fun h=>h)).cell 8; simp at x8; go_simp⟩) hS ?_
      simp only [Act.put,lsA,lsZ,lsS]
      refine take_q 5 28 (.int .i64 (n:Int)) hS ?_
      simp only [Act.put,lsA,lsZ,lsS]
      refine take_q 6 29 (.int .i64 (m:Int)) hS ?_
      simp only [Act.put,lsA,lsZ,lsS]
      refine take_q 7 30 (.pointer (some ⟨b,off + m * 4,none⟩)) hS ?_
      simp only [Act.put,lsA,lsZ,lsS]
      refine take_q 8 31 (.pointer (some ⟨b,off + m * 4,none⟩)) hS ?_
      simp only [Act.put,lsA,lsZ,lsS]
      refine take_r 9 32 (.agg #[.int .i64 u.node,.int .i64 u.num]) rfl (Or.inl ⟨by rfl,fun w' hw'=>by obtain ⟨x0,x1,x2,x3⟩:=HP.out.off hw' (fun _ h=>h); go_simp⟩) hS ?_
      simp only [Act.put,lsA,lsZ,lsS]
      refine take_q 10 33 (.pointer (some ⟨Z,0,none⟩)) hS ?_
      simp only [Act.put,lsA,lsZ,lsS]
      refine take_r 11 34 (.agg #[.int .i64 v.node,.int .i64 v.num]) rfl (Or.inl ⟨by rfl,fun w' hw'=>by obtain ⟨x0,x1,x2,x3⟩:=cel4 (CV.out.off hw' (fun h=>h)); go_simp⟩) hS ?_
      simp only [Act.put,lsA,lsZ,lsS]
      refine wpAnyH_ready (rs:=[12]) (by kernel_rfl) (by simp) ?_
      refine AllReadyH.cons rfl (fun K' hK'=>?_) AllReadyH.nil
      go_simp
      refine (less_any _ _ _ _ _).mono ?_
      rw [hls]
      rintro e v1 ⟨rfl,o1⟩
      refine hK'.out _ _ (hS.trans o1 (fun _ _ h=>h)) (fun hS=>?_)
      clear hK' K' o1
      refine take_q 13 36 (.bool true) hS ?_
      simp only [Act.put,lsA,lsZ,lsS]
      refine take_q 14 37 (.bool true) hS ?_
      simp only [Act.put,lsA,lsZ,lsS]
      refine wpAnyH_done (by kernel_rfl) ?_ _
      go_wp2_with fail
      go_ret
      refine ⟨?_,HO.out.trans hS (fun _ _ h=>h)⟩
      rw [may_no (fun hM=>by have:=hM.less m u.abs v.abs (get_cont hu) (get_cont (HM1.out ▸ hv)); simp [V.abs,hls] at this)]
      rfl
     ·refine take_q 0 23 (.int .i64 (n:Int)) hS ?_
      simp only [Act.put,lsA,lsZ,lsS]
      refine take_q 1 24 (.bool true) hS ?_
      simp only [Act.put,lsA,lsZ,lsS]
      refine take_q 2 25 (.bool true) hS ?_
      simp only [Act.put,lsA,lsZ,lsS]
      refine take_q 3 26 (.pointer (some ⟨w.heap.size,8,none⟩)) hS ?_
      simp only [Act.put,lsA,lsZ,lsS]
      refine take_r 4 27 (.slice (some ⟨b,off,none⟩) l.length cap) rfl (Or.inl ⟨by rfl,fun w' hw'=>by have x8:=(CB.out.off hw' (fun h=>h)).cell 8; simp at x8; go_simp⟩) hS ?_
      simp only [Act.put,lsA,lsZ,lsS]
      refine take_q 5 28 (.int .i64 (n:Int)) hS ?_
      simp only [Act.put,lsA,lsZ,lsS]
      refine take_q 6 29 (.int .i64 (m:Int)) hS ?_
      simp only [Act.put,lsA,lsZ,lsS]
      refine take_q 7 30 (.pointer (some ⟨b,off + m * 4,none⟩)) hS ?_
      simp only [Act.put,lsA,lsZ,lsS]
      refine take_q 8 31 (.pointer (some ⟨b,off + m * 4,none⟩)) hS ?_
      simp only [Act.put,lsA,lsZ,lsS]
      refine take_r 9 32 (.agg #[.int .i64 u.node,.int .i64 u.num]) rfl (Or.inl ⟨by rfl,fun w' hw'=>by obtain ⟨x0,x1,x2,x3⟩:=HP.out.off hw' (fun _ h=>h); go_simp⟩) hS ?_
      simp only [Act.put,lsA,lsZ,lsS]
      refine take_q 10 33 (.pointer (some ⟨Z,0,none⟩)) hS ?_
      simp only [Act.put,lsA,lsZ,lsS]
      refine take_r 11 34 (.agg #[.int .i64 v.node,.int .i64 v.num]) rfl (Or.inl ⟨by rfl,fun w' hw'=>by obtain ⟨x0,x1,x2,x3⟩:=cel4 (CV.out.off hw' (fun h=>h)); go_simp⟩) hS ?_
      simp only [Act.put,lsA,lsZ,lsS]
      refine wpAnyH_ready (rs:=[12]) (by kernel_rfl) (by simp) ?_
      refine AllReadyH.cons rfl (fun K' hK'=>?_) AllReadyH.nil
      go_simp
      refine (less_any _ _ _ _ _).mono ?_
      rw [hls]
      rintro e v1 ⟨rfl,o1⟩
      refine hK'.out _ _ (hS.trans o1 (fun _ _ h=>h)) (fun hS=>?_)
      clear hK' K' o1
      refine take_q 13 36 (.bool false) hS ?_
      simp only [Act.put,lsA,lsZ,lsS]
      refine take_q 14 37 (.bool false) hS ?_
      simp only [Act.put,lsA,lsZ,lsS]
      refine wpAnyH_done (by kernel_rfl) ?_ _
      obtain ⟨y0,y1,y2,y3,y4,y5,y6,y7,y8⟩:=cel9 (CB.out.off hS (fun h=>h))
      obtain ⟨z0,z1,z2,z3⟩:=cel4 (CV.out.off hS (fun h=>h))
      cases hcov:coversB f v.node v.num
      ·go_wp2_with fail
       refine (covers_any f _ _ _).mono ?_
       rw [hcov]
       rintro e w3 ⟨rfl,o3⟩
       go_wp2_with fail
       go_ret
       refine ⟨?_,HO.out.trans (hS.trans o3 (fun _ _ h=>h)) (fun _ _ h=>h)⟩
       rw [may_no (fun hM=>by have:=(hM.cov v.abs (mem_cont hv)).1; simp [V.abs,hcov] at this)]
       rfl
      ·go_wp2_with fail
       refine (covers_any f _ _ _).mono ?_
       rw [hcov]
       rintro e w3 ⟨rfl,o3⟩
       have O3:=hS.trans o3 (fun _ _ h=>h)
       obtain ⟨x0,x1,x2,x3⟩:=cel4 (CV.out.off O3 (fun h=>h))
       have HO3:Hid _:=O3
       clear O3 o3 hS y0 y1 y2 y3 y4 y5 y6 y7 y8 z0 z1 z2 z3
       cases hdat:okData v.data.length v.dead
       ·go_wp2_with fail
        refine (mayData_any _ _ _ _ _).mono ?_
        rw [hdat]
        rintro e w4 ⟨rfl,hw⟩
        rw [hw]
        clear hw w4
        go_wp2_with fail
        go_ret
        refine ⟨?_,HO.out.trans HO3.out (fun _ _ h=>h)⟩
        rw [may_no (fun hM=>by have:=(hM.cov v.abs (mem_cont hv)).2; simp [V.abs,hdat] at this)]
        rfl
       ·go_wp2_with fail
        refine (mayData_any _ _ _ _ _).mono ?_
        rw [hdat]
        rintro e w4 ⟨rfl,hw⟩
        rw [hw]
        clear hw w4
        go_wp2_with fail
        go_roundw
        case rel =>
         refine ⟨n + 1,by go_num,by omega,?_,HO.out.trans HO3.out (fun _ _ h=>h),CB.out.off HO3.out (fun h=>h),HR.out.off HO3.out⟩
         exact HG.out.step hv (by simp [V.abs,hcov,hdat]) (less_at HM1.out hu hls)
        case measure=>simp [intOf]; omega
   ·obtain rfl:n=l.length:=by omega
    have e1:decide ((l.length:Int) < (l.length:Int))=false:=decide_eq_false (by omega)
    have e2:decide (l.length < l.length)=false:=decide_eq_false (by omega)
    go_wp2_with fail
    go_ret
    refine ⟨?_,O⟩
    rw [may_yes (HG.out.may HSN.out HHL.out)]
    rfl
 ·have d1:decide ((16:Int) < (l.length:Int))=true:=decide_eq_true (by omega)
  have d2:decide (16 < l.length)=true:=decide_eq_true (by omega)
  go_enter Tryz.func119,Tryz.ntmps119
  go_wp2_with fail
  refine (may_any f _).mono ?_
  rw [hm]
  rintro e w1 ⟨rfl,o1⟩
  have c8:w1.cell? ⟨w.heap.size,8,none⟩=some (.slice a l.length cap):=(B0.off o1 (fun h=>h)).cell 8
  go_wp2_with fail
  go_ret
  refine ⟨?_,O0.trans o1 (fun _ _ h=>h)⟩
  rw [may_no (fun hM=>by have:=hM.few; rw [cont_len] at this; omega)]
  rfl
end Go.Proofs.YthjbnpaghiojlaaGreat

namespace Go.Proofs.YthjbnpaghiojlaaGreat
open Go.RowKit
theorem bclone_any (t:Option Addr) (c:Nat) (bs:List Nat) (hb:bs.length≤140737488355328) (w:World) (hs:Src w t c bs) :
  Calls Tryz.prog 59 #[.slice t bs.length c] w fun e w'=>∃ t' c',e=.returned (.slice t' bs.length c')∧OwnR w' t' c' bs∧(∀ k,blk t'=some k→w.heap.size≤k)∧Off (fun _=>False) w w':=by
 have hq:=eql_nil
 rcases hs.is with ⟨rfl,rfl,rfl⟩ | ⟨ad,rfl,-⟩
 ·go_enter Tryz.func59,Tryz.ntmps59
  go_wp2
  go_ret
  exact ⟨none,0,rfl,OwnR.nil w,fun k hk=>by simp [blk] at hk,Off.refl _ w⟩
 ·have HS:Hid (Src w (some ad) c bs):=hs
  clear hs
  have L0:OwnR (w.alloc (.cells #[] 5)) (some ⟨w.heap.size,0,none⟩) 0 []:=⟨World.ownsRow_lit w #[] 0 (Nat.zero_le _) (by decide) rfl⟩
  have O0:Off (fun _=>False) w (w.alloc (.cells #[] 5)):=(Off.refl _ w).alloc _
  go_enter Tryz.func59,Tryz.ntmps59
  go_wp2_with (at_builtin; refine wpList_app rfl (.tmp 5) (.tmp 6) rfl _ 0 [] rfl L0 _ c bs rfl (HS.out.off O0 (fun _ _ _ h=>h)) (by simpa using hb) ?_; intro t' c' w' ys hys own' off' at')
  go_ret
  obtain rfl:ys=bs:=hys.out
  refine ⟨t',c',rfl,own',fun k hk=>?_,O0.trans off' (fun i hi hb=>?_)⟩
  ·rcases at' with a | a
   ·rw [a] at hk
    simp [blk] at hk
    omega
   ·rw [a] at hk
    simp at hk
    omega
  ·simp [blk] at hb
   omega
theorem results_val {fn:Func} {p:Tmp} (h:fn.results=#[.cell p 87]) {tmps:Array Value} {w:World} {b:Nat} {v:V} (hp:tmps.getD p undef=.pointer (some ⟨b,0,none⟩)) (hc:Cel b 87 #[.int .i64 v.node,.int .i64 v.num,.slice v.ad v.data.length v.cap,.bool v.dead] w) :
  (results fn tmps).run Tryz.prog w=.ok (.agg #[.int .i64 v.node,.int .i64 v.num,.slice v.ad v.data.length v.cap,.bool v.dead]) w:=by
 obtain ⟨d,hd⟩:∃ d,Tryz.prog.underlying 87=some (.struct d):=⟨_,Tryz.underlying87⟩
 exact results_cell_row h tmps w b 87 _ (0,0) (.struct d) hp hc.is hd rfl (by kernel_rfl)
theorem Cel.st4 {b:Nat} {t:TypeId} {v:V} {w:World} (h:Cel b t #[.int .i64 v.node,.int .i64 v.num,.slice v.ad v.data.length v.cap,.bool v.dead] w) (u:V):Cel b t #[.int .i64 u.node,.int .i64 u.num,.slice u.ad u.data.length u.cap,.bool u.dead] ((((w.setCell ⟨b,0,none⟩ (.int .i64 u.node)).setCell ⟨b,1,none⟩ (.int .i64 u.num)).setCell ⟨b,2,none⟩ (.slice u.ad u.data.length u.cap)).setCell ⟨b,3,none⟩ (.bool u.dead)):=by
 replace h:=h.set 0 (.int .i64 u.node)
 simp only [List.setIfInBounds_toArray,List.set_cons_zero] at h
 replace h:=h.set 1 (.int .i64 u.num)
 simp only [lsA,lsZ,lsS] at h
 replace h:=h.set 2 (.slice u.ad u.data.length u.cap)
 simp only [lsA,lsZ,lsS] at h
 replace h:=h.set 3 (.bool u.dead)
 simp only [lsA,lsZ,lsS] at h
 exact h
theorem Cel.st4o {b c:Nat} {t:TypeId} {cs:Array Value} {w:World} (h:Cel c t cs w) (hb:c ≠ b) (u:V):Cel c t cs ((((w.setCell ⟨b,0,none⟩ (.int .i64 u.node)).setCell ⟨b,1,none⟩ (.int .i64 u.num)).setCell ⟨b,2,none⟩ (.slice u.ad u.data.length u.cap)).setCell ⟨b,3,none⟩ (.bool u.dead)) :=
 (((h.other hb _).other hb _).other hb _).other hb _
theorem Off.st4 {D:Nat→Prop} {a w:World} {b:Nat} (h:Off D a w) (hb:D b∨a.heap.size≤b) (u:V):Off D a ((((w.setCell ⟨b,0,none⟩ (.int .i64 u.node)).setCell ⟨b,1,none⟩ (.int .i64 u.num)).setCell ⟨b,2,none⟩ (.slice u.ad u.data.length u.cap)).setCell ⟨b,3,none⟩ (.bool u.dead)) :=
 (((h.setCell hb _).setCell hb _).setCell hb _).setCell hb _
def zeroV:V:=⟨0,0,none,0,[],false⟩
set_option maxRecDepth 100000 in
set_option maxHeartbeats 1000000 in
theorem copyOf_any (v:V) (w:World) (hv:VOk w v) :
  Calls Tryz.prog 180 #[.agg #[.int .i64 v.node,.int .i64 v.num,.slice v.ad v.data.length v.cap,.bool v.dead]] w fun e w'=>∃ u:V,e=.returned (.agg #[.int .i64 u.node,.int .i64 u.num,.slice u.ad u.data.length u.cap,.bool u.dead])∧u.abs=v.abs∧OwnR w' u.ad u.cap u.data∧VOk w' u∧(∀ k,blk u.ad=some k→w.heap.size≤k)∧Off (fun _=>False) w w':=by
 obtain ⟨W,hW⟩:∃ W,W=((w.alloc (.cells #[.int .i64 v.node,.int .i64 v.num,.slice v.ad v.data.length v.cap,.bool v.dead] 87)).alloc (.cells #[.int .i64 zeroV.node,.int .i64 zeroV.num,.slice zeroV.ad zeroV.data.length zeroV.cap,.bool zeroV.dead] 87)):=⟨_,rfl⟩
 have O:Off (fun _=>False) w W:=by rw [hW]; exact ((Off.refl _ w).alloc _).alloc _
 have C0:Cel w.heap.size 87 #[.int .i64 v.node,.int .i64 v.num,.slice v.ad v.data.length v.cap,.bool v.dead] W:=by rw [hW]; exact (Cel.new w _ _).alloc _
 have C1:Cel (w.heap.size + 1) 87 #[.int .i64 zeroV.node,.int .i64 zeroV.num,.slice zeroV.ad zeroV.data.length zeroV.cap,.bool zeroV.dead] W:=by rw [hW]; exact Cel.new1 w _ _ _
 have hs:=hv.src.off O (fun _ _ _ h=>h)
 have HC1:Hid _:=C1
 have HC0:Hid _:=C0
 obtain ⟨x0,x1,x2,x3⟩:=cel4 C0
 have HW:Hid _:=hW
 clear C0 C1 hW
 go_enter Tryz.func180,Tryz.ntmps180
 go_wp2_with fail
 have eW:((w.alloc (.cells #[.int .i64 v.node,.int .i64 v.num,.slice v.ad v.data.length v.cap,.bool v.dead] 87)).alloc (.cells #[.int .i64 0,.int .i64 0,.slice none 0 0,.bool false] 87))=W:=HW.out.symm
 rw [eW]
 refine (bclone_any v.ad v.cap v.data (by have:=hv.len; omega) W hs).mono ?_
 rintro e w1 ⟨t,c,rfl,own,hn,o1⟩
 have D0:=HC0.out.off o1 (fun h=>h)
 have D1:=HC1.out.off o1 (fun h=>h)
 have O1:=O.trans o1 (fun _ _ h=>h)
 have hne:∀ k,blk t=some k→k ≠ w.heap.size∧k ≠ w.heap.size + 1:=fun k hk=>by
  have h1:=hn k hk
  have h2:=HC1.out.lt
  constructor <;> omega
 clear x0 x1 x2 x3 eW
 obtain ⟨x0,x1,x2,x3⟩:=cel4 D0
 obtain ⟨z0,z1,z2,z3⟩:=cel4 D1
 have f0:=D0.free
 have f1:=D1.free
 have hs0:w.heap.size≤W.heap.size:=O.size
 have E0:Cel w.heap.size 87 #[.int .i64 (⟨v.node,v.num,t,c,v.data,v.dead⟩:V).node,.int .i64 (⟨v.node,v.num,t,c,v.data,v.dead⟩:V).num,.slice (⟨v.node,v.num,t,c,v.data,v.dead⟩:V).ad (⟨v.node,v.num,t,c,v.data,v.dead⟩:V).data.length (⟨v.node,v.num,t,c,v.data,v.dead⟩:V).cap,.bool (⟨v.node,v.num,t,c,v.data,v.dead⟩:V).dead] (w1.setCell ⟨w.heap.size,2,none⟩ (.slice t v.data.length c)):=by
  have:=D0.set 2 (.slice t v.data.length c)
  simpa using this
 have E1:Cel (w.heap.size + 1) 87 #[.int .i64 zeroV.node,.int .i64 zeroV.num,.slice zeroV.ad zeroV.data.length zeroV.cap,.bool zeroV.dead] (w1.setCell ⟨w.heap.size,2,none⟩ (.slice t v.data.length c)):=D1.other (by simp) _
 have HO:Hid _:=O1
 have HE1:Hid _:=E1
 have HOW:Hid _:=own
 have HN:Hid _:=hn
 have HNE:Hid _:=hne
 have HHS:Hid _:=hs0
 clear own hn hne hs0 O O1 o1 D0 D1 E0 E1 HC0 HC1 hs HW
 go_wp2_with fail
 refine bodyPost_ret (results_val rfl rfl (HE1.out.st4 ⟨v.node,v.num,t,c,v.data,v.dead⟩)) rfl ?_
 have OF:Off (fun _=>False) w ((((((w1.setCell ⟨w.heap.size,2,none⟩ (.slice t v.data.length c)).setCell ⟨w.heap.size + 1,0,none⟩ (.int .i64 v.node)).setCell ⟨w.heap.size + 1,1,none⟩ (.int .i64 v.num)).setCell ⟨w.heap.size + 1,2,none⟩ (.slice t v.data.length c)).setCell ⟨w.heap.size + 1,3,none⟩ (.bool v.dead))):=(HO.out.setCell (.inr (by simp)) _).st4 (.inr (by omega)) ⟨v.node,v.num,t,c,v.data,v.dead⟩
 have OWN:OwnR ((((((w1.setCell ⟨w.heap.size,2,none⟩ (.slice t v.data.length c)).setCell ⟨w.heap.size + 1,0,none⟩ (.int .i64 v.node)).setCell ⟨w.heap.size + 1,1,none⟩ (.int .i64 v.num)).setCell ⟨w.heap.size + 1,2,none⟩ (.slice t v.data.length c)).setCell ⟨w.heap.size + 1,3,none⟩ (.bool v.dead))) t c v.data:=by
  refine HOW.out.off (D:=fun k=>k=w.heap.size∨k=w.heap.size + 1) (((Off.refl _ w1).setCell (.inl (.inl rfl)) _).st4 (.inl (.inr rfl)) ⟨v.node,v.num,t,c,v.data,v.dead⟩) (fun k _ hk h=>?_)
  have:=HNE.out k hk
  omega
 exact ⟨⟨v.node,v.num,t,c,v.data,v.dead⟩,rfl,rfl,OWN,⟨OWN.src,hv.lt,hv.n0,hv.n1,hv.m0,hv.m1,hv.len⟩,fun k hk=>Nat.le_trans HHS.out (HN.out k hk),OF⟩
def ltL:List Nat→List Nat→Bool
 | [],[]=>false
 | [],_ :: _=>true
 | _ :: _,[]=>false
 | a :: xs,b :: ys=>if a < b then true else if b < a then false else ltL xs ys
theorem u8_lt {a b:Nat} (ha:a < 256) (hb:b < 256):(((a:Int).toNat.toUInt8 < (b:Int).toNat.toUInt8)↔a < b):=by
 rw [UInt8.lt_iff_toNat_lt]
 simp [Nat.toUInt8,UInt8.toNat_ofNat',Nat.mod_eq_of_lt ha,Nat.mod_eq_of_lt hb]
theorem cmp_lt:∀ (xs ys:List Nat),(∀ x ∈ xs,x < 256)→(∀ x ∈ ys,x < 256)→(Lib.compareBytes (Lib.bytesOf (xs.map fun (b:Nat)=>(b:Int))) (Lib.bytesOf (ys.map fun (b:Nat)=>(b:Int))) < 0↔ltL xs ys=true)
 | [],[],_,_=>by simp [Lib.bytesOf,Lib.compareBytes,ltL]
 | [],_ :: _,_,_=>by simp [Lib.bytesOf,Lib.compareBytes,ltL]
 | _ :: _,[],_,_=>by simp [Lib.bytesOf,Lib.compareBytes,ltL]
 | a :: xs,b :: ys,ha,hb=>by
  have ih:=cmp_lt xs ys (fun x hx=>ha x (by simp [hx])) (fun x hx=>hb x (by simp [hx]))
  have h1:=u8_lt (ha a (by simp)) (hb b (by simp))
  have h2:=u8_lt (hb b (by simp)) (ha a (by simp))
  simp only [Lib.bytesOf,List.map_cons,Lib.compareBytes,ltL] at ih ⊢
  simp only [h1,h2]
  by_cases e1:a < b
  ·simp [e1]
  ·by_cases e2:b < a
   ·simp [e1,e2]
   ·simp only [e1,e2,if_false]
    exact ih
theorem run_bytesOf {w:World} {t:Option Addr} {c:Nat} {xs:List Nat} (h:Src w t c xs):(Extern.Bytes.bytesOf (.slice t xs.length c)).run Tryz.prog w=.ok ⟨(Lib.bytesOf (xs.map fun (b:Nat)=>(b:Int))).toArray⟩ w:=by
 rcases h.is with ⟨rfl,rfl,rfl⟩ | ⟨ad,rfl,hc⟩
 ·rfl
 ·have:=Lib.run_loadBytesX (P:=Tryz.prog) w (xs.map fun (b:Nat)=>(b:Int)) ad .empty (fun j x hj=>by
   refine hc j _ ?_
   simp only [vl,List.getElem?_map] at hj ⊢
   cases e:xs[j]? with
   | none=>simp [e] at hj
   | some y=>simp [e] at hj; simp [hj])
  simp only [List.length_map] at this
  show (Extern.Bytes.loadBytes ad xs.length .empty).run Tryz.prog w=_
  rw [this]
  simp [ByteArray.empty,ByteArray.emptyWithCapacity]
  try rfl
set_option maxRecDepth 100000 in
theorem compare_any (a b:Option Addr) (ca cb:Nat) (xs ys:List Nat) (w:World) (hx:Src w a ca xs) (hy:Src w b cb ys) (lx:∀ x ∈ xs,x < 256) (ly:∀ x ∈ ys,x < 256) :
  Calls Tryz.prog 210 #[.slice a xs.length ca,.slice b ys.length cb] w fun e w'=>∃ c:Int,e=.returned (.int .i64 c)∧(c < 0↔ltL xs ys=true)∧w'=w:=by
 have h1:=run_bytesOf hx
 have h2:=run_bytesOf hy
 have h3:=cmp_lt xs ys lx ly
 clear hx hy
 go_enter Tryz.func210,Tryz.ntmps210
 go_wp2
 rw [run_callFunc_extern Tryz.func231 (by kernel_rfl) (by kernel_rfl) (by kernel_rfl) (e:=Extern.BytealgCompare.compare) (by kernel_rfl)]
 have h4:(Extern.BytealgCompare.compare #[.slice a xs.length ca,.slice b ys.length cb]).run Tryz.prog w=.ok (.int .i64 (Lib.compareBytes (Lib.bytesOf (xs.map fun (b:Nat)=>(b:Int))) (Lib.bytesOf (ys.map fun (b:Nat)=>(b:Int))))) w:=by
  change Sem.run Tryz.prog (do pure (goInt (Extern.BytealgCompare.cmp (← Extern.Bytes.bytesOf (.slice a xs.length ca)) (← Extern.Bytes.bytesOf (.slice b ys.length cb))))) w=_
  simp only [Sem.run_bind,h1,h2,Sem.run_pure,Result.andThen]
  rw [Lib.cmp_eq]
  rfl
 rw [h4]
 simp only [Result.andThen]
 rw [Oper.upon_value]
 go_wp2
 go_ret
 exact ⟨_,rfl,h3,rfl⟩
end Go.Proofs.YthjbnpaghiojlaaGreat
