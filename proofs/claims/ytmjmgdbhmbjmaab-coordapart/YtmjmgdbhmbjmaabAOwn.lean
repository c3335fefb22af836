/- Items of several texts. -/
import Derived.Deep.RegionWith
import Derived.Test.YtmjmgdbhmbjmaabAFst
namespace Go.Proofs.Ytmjmgdbhmbjmaab
open Go.RowKit
theorem newTo_any (f : Nat → Int) (w : World) : Calls Try.prog 38 #[.agg #[.int .i64 (f 0), .int .i64 (f 1), .int .i64 (f 2), .int .i64 (f 3), .int .i64 (f 4), .int .i64 (f 5), .int .i64 (f 6), .int .i64 (f 7)]] w fun e w' => e = .returned (.func (.func 46) #[] #[.pointer (some ⟨w.heap.size, 0, none⟩)]) ∧ Cel w.heap.size 27 #[.int .i64 (f 0), .int .i64 (f 1), .int .i64 (f 2), .int .i64 (f 3), .int .i64 (f 4), .int .i64 (f 5), .int .i64 (f 6), .int .i64 (f 7)] w' ∧ Off (fun _ => False) w w' := by
 have hmf : ∀ (fn : Fn) (first cap : Array Value) (w : World), (Instr.makeFunc fn first cap).run Try.prog w = .ok (.func fn first cap) w := fun _ _ _ _ => rfl
 go_enter Try.func38, Try.ntmps38
 go_wp2_with fail
 go_ret
 exact ⟨rfl, Cel.new w _ _, (Off.refl _ w).alloc _⟩
set_option maxRecDepth 100000 in
theorem newTo1_any (f : Nat → Int) (v : V) (p : Nat) (w : World) (hp : Cel p 27 #[.int .i64 (f 0), .int .i64 (f 1), .int .i64 (f 2), .int .i64 (f 3), .int .i64 (f 4), .int .i64 (f 5), .int .i64 (f 6), .int .i64 (f 7)] w) : Calls Try.prog 46 #[.agg #[.int .i64 v.node, .int .i64 v.num, .slice v.ad v.data.length v.cap, .bool v.dead], .pointer (some ⟨p, 0, none⟩)] w fun e w' => e = .returned (.bool (!coversB f v.node v.num)) ∧ Off (fun _ => False) w w' := by
 have hnot := not_any
 have hq := hp.alloc (.cells #[.int .i64 v.node, .int .i64 v.num, .slice v.ad v.data.length v.cap, .bool v.dead] 56)
 obtain ⟨x0, x1, x2, x3, x4, x5, x6, x7⟩ := cel8 hq
 clear hq
 cases hc : coversB f v.node v.num
 all_goals
  go_enter Try.func46, Try.ntmps46
  go_wp2_with fail
  refine (covers_any f _ _ _).mono ?_
  rw [hc]
  rintro e w1 ⟨rfl, o1⟩
  go_wp2_with fail
  go_ret
  exact ⟨rfl, ((Off.refl _ w).alloc _).trans o1 (fun _ _ h => h)⟩
def vcs : List V → List Value
 | [] => []
 | v :: l => .int .i64 v.node :: .int .i64 v.num :: .slice v.ad v.data.length v.cap :: .bool v.dead :: vcs l
theorem vcs_append (a b : List V) : vcs (a ++ b) = vcs a ++ vcs b := by
 induction a with
 | nil => rfl
 | cons v l ih => simp [vcs, ih]
theorem vcs_get {l : List V} {i : Nat} {v : V} (h : l[i]? = some v) : (vcs l)[i * 4]? = some (.int .i64 v.node) ∧ (vcs l)[i * 4 + 1]? = some (.int .i64 v.num) ∧ (vcs l)[i * 4 + 2]? = some (.slice v.ad v.data.length v.cap) ∧ (vcs l)[i * 4 + 3]? = some (.bool v.dead) := by
 induction l generalizing i with
 | nil => simp at h
 | cons u l ih =>
  cases i with
  | zero => simp at h; subst h; simp [vcs]
  | succ i =>
   have := ih (i := i) (by simpa using h)
   simpa [vcs, Nat.succ_mul, Nat.add_right_comm] using this
structure OwnV (w : World) (a : Option Addr) (cap : Nat) (l : List V) : Prop where
 row : w.ownsRow 0 56 4 (.slice a l.length cap) l.length (vcs l)
theorem OwnV.off {D : Nat → Prop} {w w' : World} {a : Option Addr} {cap : Nat} {l : List V} (h : OwnV w a cap l) (k : Off D w w') (hD : ∀ c, blk a = some c → ¬ D c) : OwnV w' a cap l := by
 refine ⟨h.row.1, ?_⟩
 rcases h.row.2 with h2 | ⟨g, c, cur, hv, hg, hh, r⟩
 ·exact .inl h2
 ·have hlt := lt_of_block hh
  simp only [Value.slice.injEq] at hv
  obtain ⟨rfl, -, rfl⟩ := hv
  exact .inr ⟨g, _, cur, rfl, hg, (k.block g hlt (hD g rfl)).trans hh, r⟩
theorem OwnV.nil (w : World) : OwnV w none 0 [] := ⟨World.ownsRow_nil w 0 _ 4⟩
theorem OwnV.lt {w : World} {a : Option Addr} {cap : Nat} {l : List V} (h : OwnV w a cap l) : ∀ c, blk a = some c → c < w.heap.size := fun c hc =>
 (World.ownsRow.lt h.row c (by rw [blk_own]; exact hc)).2
theorem OwnV.toRow {w : World} {a : Option Addr} {cap : Nat} {l : List V} (h : OwnV w a cap l) (hk : ∀ v ∈ l, VOk w v) : Row w a cap l := by
 rcases h.row.2 with ⟨hv, h0⟩ | ⟨g, c, cur, hv, hb, hh, hc, hm, -⟩
 ·simp only [Value.slice.injEq] at hv
  obtain rfl : l = [] := List.eq_nil_of_length_eq_zero h0
  exact ⟨by simp, by omega, fun i v h => by simp at h⟩
 ·simp only [Value.slice.injEq] at hv
  obtain ⟨rfl, -, rfl⟩ := hv
  refine ⟨hc, by unfold maxLen at hm; omega, fun i v hi => ⟨g, 0, rfl, ?_, hk v (List.mem_of_getElem? hi)⟩⟩
  have hx := World.ownsRow.cells h.row (g := g) rfl
  obtain ⟨g0, g1, g2, g3⟩ := vcs_get hi
  have k0 := hx _ _ g0
  have k1 := hx _ _ g1
  have k2 := hx _ _ g2
  have k3 := hx _ _ g3
  rw [add_lit] at k0 k1 k2 k3
  exact ⟨k0, k1, k2, k3⟩
theorem own_slice {w : World} {v : Value} {n : Nat} {xs : List Value} (h : w.ownsRow 0 56 4 v (n + 1) xs) : ∃ a c, v = .slice a (n + 1) c := by
 rcases h.2 with ⟨-, h0⟩ | ⟨g, c, cur, hv, -⟩
 ·omega
 ·exact ⟨_, _, hv⟩
theorem own_snoc {w : World} {a : Option Addr} {c : Nat} {l : List V} {u : V} (h : w.ownsRow 0 56 4 (.slice a (l.length + 1) c) (l.length + 1) (vcs l ++ (#[.int .i64 u.node, .int .i64 u.num, .slice u.ad u.data.length u.cap, .bool u.dead] : Array Value).toList)) : OwnV w a c (l ++ [u]) := by
 constructor
 rw [vcs_append]
 simpa [vcs] using h
theorem at_far {a a2 : Option Addr} {N B M Mm m2 : Nat} (h3 : ∀ k, blk a = some k → N ≤ k ∧ k ≠ B ∧ k < Mm) (hb : B < M ∧ (∀ k, blk a = some k → k < M) ∧ N ≤ M) (hs : M ≤ m2 + 1) (at2 : blk a2 = blk a ∨ blk a2 = some (m2 + 1)) : ∀ k, blk a2 = some k → N ≤ k ∧ k ≠ B := by
 intro k hk
 rcases at2 with e | e
 ·exact ⟨(h3 k (e ▸ hk)).1, (h3 k (e ▸ hk)).2.1⟩
 ·rw [e] at hk
  simp at hk
  omega
theorem wp_append_if {P : Program} {o : Oper} {a : Act} {w w' : World} {K : Act → World → Prop} {Q : Exit → Act → World → Prop} {y : Nat → Option Bool} {E : Prop} (hw : Region.wanted o y = true) (s x : Operand) {t u : TypeId}
  (ho : o.op = .call { callee := .builtin .append, args := #[s, x], argTypes := #[t, u] }) {v v' X : Value} (hs : a.eval s = v) (hx : a.eval x = X) (hr : (Builtin.append_ #[t, u] o.type #[v, X]).run P w = .ok v' w')
  (d : Nat) (hd : o.dst = some d) (h : K (a.put (some d) v') w') : if Region.wanted o y = true then Oper.wp P o a w K Q else E := by
 rw [if_pos hw]
 unfold Oper.wp execOp
 simp only [ho, resolve, invoke, builtin, Sem.run_bind, Sem.run_pure, Result.andThen_ok, List.map_toArray, List.map_cons, List.map_nil, hs, hx, hr]
 rw [← hd] at h
 exact h
structure Out (N M B : Nat) (l : List V) (w : World) : Prop where
 lo : N ≤ B ∧ B < M
 is : ∃ a cap, Cel B 28 #[.slice a l.length cap] w ∧ OwnV w a cap l ∧ (∀ k, blk a = some k → N ≤ k ∧ k ≠ B ∧ k < M) ∧ ∀ v ∈ l, VOk w v ∧ OwnR w v.ad v.cap v.data ∧ ∀ k, blk v.ad = some k → N ≤ k ∧ k ≠ B ∧ blk a ≠ some k
theorem Out.off {N M B : Nat} {l : List V} {w w' : World} (h : Out N M B l w) (o : Off (fun _ => False) w w') : Out N M B l w' := by
 obtain ⟨h0, a, cap, h1, h2, h3, h4⟩ := h
 exact ⟨h0, a, cap, h1.off o (fun h => h), h2.off o (fun _ _ h => h), h3, fun v hv => ⟨(h4 v hv).1.off o (fun _ _ _ h => h), (h4 v hv).2.1.off o (fun _ _ _ h => h), (h4 v hv).2.2⟩⟩
theorem Out.up {N M M' B : Nat} {l : List V} {w : World} (h : Out N M B l w) (hM : M ≤ M') : Out N M' B l w := by
 obtain ⟨h0, a, cap, h1, h2, h3, h4⟩ := h
 exact ⟨⟨h0.1, by omega⟩, a, cap, h1, h2, fun k hk => ⟨(h3 k hk).1, (h3 k hk).2.1, by have := (h3 k hk).2.2; omega⟩, h4⟩
theorem take_no (N M B : Nat) (l : List V) (v : V) (w : World) (h : Out N M B l w) : Calls Try.prog 43 #[.agg #[.int .i64 v.node, .int .i64 v.num, .slice v.ad v.data.length v.cap, .bool v.dead], .bool false, .pointer (some ⟨B, 0, none⟩)] w fun e w' => e = .returned (.tuple #[]) ∧ Out N M B l w' ∧ Off (fun _ => False) w w' := by
 go_enter Try.func43, Try.ntmps43
 go_wp2_with fail
 go_end0
 exact ⟨rfl, h.off ((Off.refl _ w).alloc _), (Off.refl _ w).alloc _⟩
set_option maxRecDepth 100000 in
set_option maxHeartbeats 1000000 in
theorem take_yes (N M B : Nat) (l : List V) (v : V) (w : World) (h : Out N M B l w) (hv : VOk w v) (hl : l.length ≤ 1000) (hN : N ≤ w.heap.size) :
  Calls Try.prog 43 #[.agg #[.int .i64 v.node, .int .i64 v.num, .slice v.ad v.data.length v.cap, .bool v.dead], .bool true, .pointer (some ⟨B, 0, none⟩)] w fun e w' => e = .returned (.tuple #[]) ∧ ∃ u : V, u.abs = v.abs ∧ Out N w'.heap.size B (l ++ [u]) w' ∧ Off (fun c => N ≤ c ∧ c < M) w w' := by
 obtain ⟨h0, a, cap, h1, h2, h3, h4⟩ := h
 have O0 : Off (fun _ => False) w (w.alloc (.cells #[.int .i64 v.node, .int .i64 v.num, .slice v.ad v.data.length v.cap, .bool v.dead] 56)) := (Off.refl _ w).alloc _
 have B1 := h1.off O0 (fun h => h)
 have V1 := Cel.new w 56 #[.int .i64 v.node, .int .i64 v.num, .slice v.ad v.data.length v.cap, .bool v.dead]
 have R1 := h2.off O0 (fun _ _ h => h)
 have K1 := hv.off O0 (fun _ _ _ h => h)
 have hl0 := hN
 have HBX : Hid (¬ blk a = some w.heap.size ∧ w.heap.size ≠ B) := ⟨fun e => by have := h2.lt _ e; omega, fun e => by have := h1.lt; omega⟩
 have HBL : Hid (B < (w.alloc (.cells #[.int .i64 v.node, .int .i64 v.num, .slice v.ad v.data.length v.cap, .bool v.dead] 56)).heap.size ∧ (∀ k, blk a = some k → k < (w.alloc (.cells #[.int .i64 v.node, .int .i64 v.num, .slice v.ad v.data.length v.cap, .bool v.dead] 56)).heap.size) ∧ N ≤ (w.alloc (.cells #[.int .i64 v.node, .int .i64 v.num, .slice v.ad v.data.length v.cap, .bool v.dead] 56)).heap.size) := ⟨by have := h1.lt; simp; omega, fun k hk => by have := h2.lt k hk; simp; omega, by simp; omega⟩
 generalize hW : w.alloc (.cells #[.int .i64 v.node, .int .i64 v.num, .slice v.ad v.data.length v.cap, .bool v.dead] 56) = W at O0 B1 V1 R1 K1 HBL
 have HB : Hid (Cel B 28 #[.slice a l.length cap] W) := B1
 have HOW : Hid (OwnV W a cap l) := R1
 have HVO : Hid _ := K1
 have HO0 : Hid _ := O0
 have HH3 : Hid _ := h3
 have HH4 : Hid _ := h4
 have HLO : Hid _ := h0
 have HW : Hid _ := hW
 clear B1 R1 K1 O0 hW h0 h1 h2 h3 h4 hv
 go_enter Try.func43, Try.ntmps43
 go_wp2_with fail
 rw [HW.out]
 have OC : Off (fun _ => False) W W.drew := (Off.refl _ W).drew
 refine wp_region_held_drew (S := fun w' => Cel w.heap.size 56 #[.int .i64 v.node, .int .i64 v.num, .slice v.ad v.data.length v.cap, .bool v.dead] w') (by kernel_rfl) V1.drew (fun hS => ?_)
 clear V1
 refine take_at (i := 1) 7 (v := .agg #[.int .i64 v.node, .int .i64 v.num, .slice v.ad v.data.length v.cap, .bool v.dead]) rfl rfl (by kernel_rfl) (by kernel_rfl) (by kernel_rfl) (fun _ _ _ h => h) (Or.inl ⟨by rfl, fun w' hw' => by obtain ⟨x0, x1, x2, x3⟩ := cel4 hw'; go_simp⟩) hS ?_
 simp only [Act.put, lsA, lsZ, lsS]
 refine wpAnyH_ready (rs := [0, 2]) (by kernel_rfl) (by simp) ?_
 refine AllReadyH.cons rfl (fun K' hK' => ?_) (AllReadyH.cons rfl (fun K' hK' => ?_) AllReadyH.nil)
 ·have x0 := (HB.out.off OC (fun h => h)).cell 0
  simp at x0
  go_simp
  clear x0
  refine hK'.out _ _ hS (fun hS => ?_)
  clear hK' K'
  refine wpAnyH_ready (rs := [2]) (by kernel_rfl) (by simp) ?_
  refine AllReadyH.cons rfl (fun K' hK' => ?_) AllReadyH.nil
  go_simp
  refine (copyOf_any v _ (HVO.out.off OC (fun _ _ _ h => h))).mono ?_
  rintro e v1 ⟨u, rfl, hu, uo, uk, un, o1⟩
  replace OC := OC.trans o1 (fun _ _ h => h)
  refine hK'.out _ _ (hS.off o1 (fun h => h)) (fun hS => ?_)
  clear hK' K'
  have HUO : Hid _ := uo
  have HUK : Hid _ := uk
  have HUN : Hid _ := un
  have HHU : Hid _ := hu
  have hs1 := o1.size
  clear uo uk un hu o1
  refine wpAnyH_ready (rs := [3]) (by kernel_rfl) (by simp) ?_
  refine AllReadyH.cons rfl (fun K' hK' => ?_) AllReadyH.nil
  go_simp
  refine hK'.out _ _ (hS.alloc _) (fun hS => ?_)
  clear hK' K'
  replace OC := OC.alloc (.cells #[.int .i64 u.node, .int .i64 u.num, .slice u.ad u.data.length u.cap, .bool u.dead] 56)
  refine wpAnyH_ready (rs := [4]) (by kernel_rfl) (by simp) ?_
  refine AllReadyH.cons rfl (fun K' hK' => ?_) AllReadyH.nil
  have R3 := HOW.out.off OC (fun _ _ h => h)
  have N3 := Cel.new v1 56 #[.int .i64 u.node, .int .i64 u.num, .slice u.ad u.data.length u.cap, .bool u.dead]
  obtain ⟨i0, hi, hz0, hz1, hz2⟩ := info_parts Try.infoV
  obtain ⟨s', V2, hr, own2, grow2, -, at2⟩ := run_append_own_at (P := Try.prog) (v1.alloc (.cells #[.int .i64 u.node, .int .i64 u.num, .slice u.ad u.data.length u.cap, .bool u.dead] 56)) 0 28 28 56 i0 (.agg #[.int .i64 0, .int .i64 0, .slice none 0 0, .bool false]) 4 48 Try.underlying28 hi hz0 hz1 hz2 rfl (by decide) _ _ _ R3.row ⟨v1.heap.size, 0, none⟩ 1 1 (#[.int .i64 u.node, .int .i64 u.num, .slice u.ad u.data.length u.cap, .bool u.dead] : Array Value).toList rfl (fun j x hj => by rw [add_lit, Nat.zero_add, N3.cell j]; simpa using hj) (by simp [Value.oneCell']) (by unfold maxLen; omega) (by omega) (Nat.zero_le _)
  obtain ⟨a2, c2, rfl⟩ := own_slice own2
  replace own2 : OwnV V2 a2 c2 (l ++ [u]) := own_snoc own2
  rw [blk_own] at grow2
  rw [blk_own, blk_own] at at2
  simp only [World.size_alloc] at at2
  have o2 := (Off.refl (fun c => blk a = some c) (v1.alloc (.cells #[.int .i64 u.node, .int .i64 u.num, .slice u.ad u.data.length u.cap, .bool u.dead] 56))).grown grow2 (fun k hk => .inl hk)
  have B3 := (HB.out.off OC (fun h => h)).off o2 (fun h => (HH3.out B h).2.1 rfl)
  have bx : V2.cell? ⟨B, 0, none⟩ = some (.slice a l.length cap) := B3.cell 0
  have bf : V2.frozen? ⟨B, 0, none⟩ = false := B3.free 0
  have hsz := OC.size
  simp only [World.size_alloc] at hsz
  refine wp_append_if rfl (.tmp 6) (.tmp 9) rfl rfl rfl hr 10 rfl ?_
  simp only [Act.put, lsA, lsZ, lsS]
  refine hK'.out _ _ (hS.off o2 (fun h => HBX.out.1 h)) (fun hS => ?_)
  clear hK' K' hr
  refine wpAnyH_ready (rs := [5]) (by kernel_rfl) (by simp) ?_
  refine AllReadyH.cons rfl (fun K' hK' => ?_) AllReadyH.nil
  go_simp
  refine hK'.out _ _ (hS.other (HBX.out.2) _) (fun hS => ?_)
  clear hK' K'
  refine wpAnyH_done (by kernel_rfl) ?_ _
  go_wp2_with fail
  go_end0
  have os : Off (fun c => c = B) V2 (V2.setCell ⟨B, 0, none⟩ (.slice a2 (l.length + 1) c2)) := (Off.refl (fun c => c = B) V2).setCell (p := ⟨B, 0, none⟩) (.inl rfl) _
  refine ⟨rfl, u, HHU.out, ⟨⟨HLO.out.1, by have := B3.lt; have := os.size; omega⟩, a2, c2, ?_, ?_, ?_, ?_⟩, ?_⟩
  ·have := B3.set 0 (.slice a2 (l ++ [u]).length c2)
   simpa using this
  ·refine own2.off os (fun c hc e => ?_)
   have := at_far HH3.out HBL.out hsz at2 c hc
   exact this.2 e
  ·intro k hk
   have h1 := at_far HH3.out HBL.out hsz at2 k hk
   have h2 := own2.lt k hk
   have h3 := os.size
   exact ⟨h1.1, h1.2, by omega⟩
  ·intro x hx
   have oo : Off (fun c => c = B ∨ blk a = some c) (v1.alloc (.cells #[.int .i64 u.node, .int .i64 u.num, .slice u.ad u.data.length u.cap, .bool u.dead] 56)) (V2.setCell ⟨B, 0, none⟩ (.slice a2 (l.length + 1) c2)) := (o2.mono (fun _ _ h => .inr h)).setCell (.inl (.inl rfl)) _
   rw [List.mem_append, List.mem_singleton] at hx
   rcases hx with hx | rfl
   ·have hk := HH4.out x hx
    have o3 := HO0.out.trans OC (fun _ _ h => h)
    have hn : ∀ c, blk x.ad = some c → ¬ (c = B ∨ blk a = some c) := fun c hc e => e.elim (hk.2.2 c hc).2.1 (hk.2.2 c hc).2.2
    refine ⟨(hk.1.off o3 (fun _ _ _ h => h)).off oo (fun c _ hc => hn c hc), (hk.2.1.off o3 (fun _ _ _ h => h)).off oo (fun c _ hc => hn c hc), fun k hk2 => ⟨(hk.2.2 k hk2).1, (hk.2.2 k hk2).2.1, fun e => ?_⟩⟩
    rcases at2 with e2 | e2
    ·exact (hk.2.2 k hk2).2.2 (e2 ▸ e)
    ·rw [e2] at e
     simp at e
     have := hk.2.1.lt k hk2
     have s3 := o3.size
     simp only [World.size_alloc] at s3
     omega
   ·have hun := HUN.out
    have e1 : Off (fun _ => False) v1 (v1.alloc (.cells #[.int .i64 x.node, .int .i64 x.num, .slice x.ad x.data.length x.cap, .bool x.dead] 56)) := (Off.refl _ v1).alloc _
    have hlt := HUO.out.lt
    have hn : ∀ c, blk x.ad = some c → ¬ (c = B ∨ blk a = some c) := fun c hc e => by
     have h1 : W.heap.size ≤ c := hun c hc
     rcases e with rfl | e
     ·have := HBL.out.1; omega
     ·have := HBL.out.2.1 c e; omega
    refine ⟨(HUK.out.off e1 (fun _ _ _ h => h)).off oo (fun c _ hc => hn c hc), (HUO.out.off e1 (fun _ _ _ h => h)).off oo (fun c _ hc => hn c hc), fun k hk2 => ⟨?_, fun e => hn k hk2 (.inl e), fun e => ?_⟩⟩
    ·have h1 : W.heap.size ≤ k := hun k hk2
     have := HBL.out.2.2
     omega
    ·rcases at2 with e2 | e2
     ·exact hn k hk2 (.inr (e2 ▸ e))
     ·rw [e2] at e
      simp at e
      have := hlt k hk2
      omega
  ·have o3 := HO0.out.trans OC (fun _ _ h => h)
   exact ((o3.mono (fun _ _ h => h.elim)).trans o2 (fun i _ h => ⟨(HH3.out i h).1, (HH3.out i h).2.2⟩)).setCell (.inl HLO.out) _
 ·go_simp
  refine (copyOf_any v _ (HVO.out.off OC (fun _ _ _ h => h))).mono ?_
  rintro e v1 ⟨u, rfl, hu, uo, uk, un, o1⟩
  replace OC := OC.trans o1 (fun _ _ h => h)
  refine hK'.out _ _ (hS.off o1 (fun h => h)) (fun hS => ?_)
  clear hK' K'
  have HUO : Hid _ := uo
  have HUK : Hid _ := uk
  have HUN : Hid _ := un
  have HHU : Hid _ := hu
  have hs1 := o1.size
  clear uo uk un hu o1
  refine wpAnyH_ready (rs := [0, 3]) (by kernel_rfl) (by simp) ?_
  refine AllReadyH.cons rfl (fun K' hK' => ?_) (AllReadyH.cons rfl (fun K' hK' => ?_) AllReadyH.nil)
  ·have x0 := (HB.out.off OC (fun h => h)).cell 0
   simp at x0
   go_simp
   clear x0
   refine hK'.out _ _ hS (fun hS => ?_)
   clear hK' K'
   refine wpAnyH_ready (rs := [3]) (by kernel_rfl) (by simp) ?_
   refine AllReadyH.cons rfl (fun K' hK' => ?_) AllReadyH.nil
   go_simp
   refine hK'.out _ _ (hS.alloc _) (fun hS => ?_)
   clear hK' K'
   replace OC := OC.alloc (.cells #[.int .i64 u.node, .int .i64 u.num, .slice u.ad u.data.length u.cap, .bool u.dead] 56)
   refine wpAnyH_ready (rs := [4]) (by kernel_rfl) (by simp) ?_
   refine AllReadyH.cons rfl (fun K' hK' => ?_) AllReadyH.nil
   have R3 := HOW.out.off OC (fun _ _ h => h)
   have N3 := Cel.new v1 56 #[.int .i64 u.node, .int .i64 u.num, .slice u.ad u.data.length u.cap, .bool u.dead]
   obtain ⟨i0, hi, hz0, hz1, hz2⟩ := info_parts Try.infoV
   obtain ⟨s', V2, hr, own2, grow2, -, at2⟩ := run_append_own_at (P := Try.prog) (v1.alloc (.cells #[.int .i64 u.node, .int .i64 u.num, .slice u.ad u.data.length u.cap, .bool u.dead] 56)) 0 28 28 56 i0 (.agg #[.int .i64 0, .int .i64 0, .slice none 0 0, .bool false]) 4 48 Try.underlying28 hi hz0 hz1 hz2 rfl (by decide) _ _ _ R3.row ⟨v1.heap.size, 0, none⟩ 1 1 (#[.int .i64 u.node, .int .i64 u.num, .slice u.ad u.data.length u.cap, .bool u.dead] : Array Value).toList rfl (fun j x hj => by rw [add_lit, Nat.zero_add, N3.cell j]; simpa using hj) (by simp [Value.oneCell']) (by unfold maxLen; omega) (by omega) (Nat.zero_le _)
   obtain ⟨a2, c2, rfl⟩ := own_slice own2
   replace own2 : OwnV V2 a2 c2 (l ++ [u]) := own_snoc own2
   rw [blk_own] at grow2
   rw [blk_own, blk_own] at at2
   simp only [World.size_alloc] at at2
   have o2 := (Off.refl (fun c => blk a = some c) (v1.alloc (.cells #[.int .i64 u.node, .int .i64 u.num, .slice u.ad u.data.length u.cap, .bool u.dead] 56))).grown grow2 (fun k hk => .inl hk)
   have B3 := (HB.out.off OC (fun h => h)).off o2 (fun h => (HH3.out B h).2.1 rfl)
   have bx : V2.cell? ⟨B, 0, none⟩ = some (.slice a l.length cap) := B3.cell 0
   have bf : V2.frozen? ⟨B, 0, none⟩ = false := B3.free 0
   have hsz := OC.size
   simp only [World.size_alloc] at hsz
   refine wp_append_if rfl (.tmp 6) (.tmp 9) rfl rfl rfl hr 10 rfl ?_
   simp only [Act.put, lsA, lsZ, lsS]
   refine hK'.out _ _ (hS.off o2 (fun h => HBX.out.1 h)) (fun hS => ?_)
   clear hK' K' hr
   refine wpAnyH_ready (rs := [5]) (by kernel_rfl) (by simp) ?_
   refine AllReadyH.cons rfl (fun K' hK' => ?_) AllReadyH.nil
   go_simp
   refine hK'.out _ _ (hS.other (HBX.out.2) _) (fun hS => ?_)
   clear hK' K'
   refine wpAnyH_done (by kernel_rfl) ?_ _
   go_wp2_with fail
   go_end0
   have os : Off (fun c => c = B) V2 (V2.setCell ⟨B, 0, none⟩ (.slice a2 (l.length + 1) c2)) := (Off.refl (fun c => c = B) V2).setCell (p := ⟨B, 0, none⟩) (.inl rfl) _
   refine ⟨rfl, u, HHU.out, ⟨⟨HLO.out.1, by have := B3.lt; have := os.size; omega⟩, a2, c2, ?_, ?_, ?_, ?_⟩, ?_⟩
   ·have := B3.set 0 (.slice a2 (l ++ [u]).length c2)
    simpa using this
   ·refine own2.off os (fun c hc e => ?_)
    have := at_far HH3.out HBL.out hsz at2 c hc
    exact this.2 e
   ·intro k hk
    have h1 := at_far HH3.out HBL.out hsz at2 k hk
    have h2 := own2.lt k hk
    have h3 := os.size
    exact ⟨h1.1, h1.2, by omega⟩
   ·intro x hx
    have oo : Off (fun c => c = B ∨ blk a = some c) (v1.alloc (.cells #[.int .i64 u.node, .int .i64 u.num, .slice u.ad u.data.length u.cap, .bool u.dead] 56)) (V2.setCell ⟨B, 0, none⟩ (.slice a2 (l.length + 1) c2)) := (o2.mono (fun _ _ h => .inr h)).setCell (.inl (.inl rfl)) _
    rw [List.mem_append, List.mem_singleton] at hx
    rcases hx with hx | rfl
    ·have hk := HH4.out x hx
     have o3 := HO0.out.trans OC (fun _ _ h => h)
     have hn : ∀ c, blk x.ad = some c → ¬ (c = B ∨ blk a = some c) := fun c hc e => e.elim (hk.2.2 c hc).2.1 (hk.2.2 c hc).2.2
     refine ⟨(hk.1.off o3 (fun _ _ _ h => h)).off oo (fun c _ hc => hn c hc), (hk.2.1.off o3 (fun _ _ _ h => h)).off oo (fun c _ hc => hn c hc), fun k hk2 => ⟨(hk.2.2 k hk2).1, (hk.2.2 k hk2).2.1, fun e => ?_⟩⟩
     rcases at2 with e2 | e2
     ·exact (hk.2.2 k hk2).2.2 (e2 ▸ e)
     ·rw [e2] at e
      simp at e
      have := hk.2.1.lt k hk2
      have s3 := o3.size
      simp only [World.size_alloc] at s3
      omega
    ·have hun := HUN.out
     have e1 : Off (fun _ => False) v1 (v1.alloc (.cells #[.int .i64 x.node, .int .i64 x.num, .slice x.ad x.data.length x.cap, .bool x.dead] 56)) := (Off.refl _ v1).alloc _
     have hlt := HUO.out.lt
     have hn : ∀ c, blk x.ad = some c → ¬ (c = B ∨ blk a = some c) := fun c hc e => by
      have h1 : W.heap.size ≤ c := hun c hc
      rcases e with rfl | e
      ·have := HBL.out.1; omega
      ·have := HBL.out.2.1 c e; omega
     refine ⟨(HUK.out.off e1 (fun _ _ _ h => h)).off oo (fun c _ hc => hn c hc), (HUO.out.off e1 (fun _ _ _ h => h)).off oo (fun c _ hc => hn c hc), fun k hk2 => ⟨?_, fun e => hn k hk2 (.inl e), fun e => ?_⟩⟩
     ·have h1 : W.heap.size ≤ k := hun k hk2
      have := HBL.out.2.2
      omega
     ·rcases at2 with e2 | e2
      ·exact hn k hk2 (.inr (e2 ▸ e))
      ·rw [e2] at e
       simp at e
       have := hlt k hk2
       omega
   ·have o3 := HO0.out.trans OC (fun _ _ h => h)
    exact ((o3.mono (fun _ _ h => h.elim)).trans o2 (fun i _ h => ⟨(HH3.out i h).1, (HH3.out i h).2.2⟩)).setCell (.inl HLO.out) _
  ·go_simp
   refine hK'.out _ _ (hS.alloc _) (fun hS => ?_)
   clear hK' K'
   replace OC := OC.alloc (.cells #[.int .i64 u.node, .int .i64 u.num, .slice u.ad u.data.length u.cap, .bool u.dead] 56)
   refine wpAnyH_ready (rs := [0]) (by kernel_rfl) (by simp) ?_
   refine AllReadyH.cons rfl (fun K' hK' => ?_) AllReadyH.nil
   have x0 := (HB.out.off OC (fun h => h)).cell 0
   simp at x0
   go_simp
   clear x0
   refine hK'.out _ _ hS (fun hS => ?_)
   clear hK' K'
   refine wpAnyH_ready (rs := [4]) (by kernel_rfl) (by simp) ?_
   refine AllReadyH.cons rfl (fun K' hK' => ?_) AllReadyH.nil
   have R3 := HOW.out.off OC (fun _ _ h => h)
   have N3 := Cel.new v1 56 #[.int .i64 u.node, .int .i64 u.num, .slice u.ad u.data.length u.cap, .bool u.dead]
   obtain ⟨i0, hi, hz0, hz1, hz2⟩ := info_parts Try.infoV
   obtain ⟨s', V2, hr, own2, grow2, -, at2⟩ := run_append_own_at (P := Try.prog) (v1.alloc (.cells #[.int .i64 u.node, .int .i64 u.num, .slice u.ad u.data.length u.cap, .bool u.dead] 56)) 0 28 28 56 i0 (.agg #[.int .i64 0, .int .i64 0, .slice none 0 0, .bool false]) 4 48 Try.underlying28 hi hz0 hz1 hz2 rfl (by decide) _ _ _ R3.row ⟨v1.heap.size, 0, none⟩ 1 1 (#[.int .i64 u.node, .int .i64 u.num, .slice u.ad u.data.length u.cap, .bool u.dead] : Array Value).toList rfl (fun j x hj => by rw [add_lit, Nat.zero_add, N3.cell j]; simpa using hj) (by simp [Value.oneCell']) (by unfold maxLen; omega) (by omega) (Nat.zero_le _)
   obtain ⟨a2, c2, rfl⟩ := own_slice own2
   replace own2 : OwnV V2 a2 c2 (l ++ [u]) := own_snoc own2
   rw [blk_own] at grow2
   rw [blk_own, blk_own] at at2
   simp only [World.size_alloc] at at2
   have o2 := (Off.refl (fun c => blk a = some c) (v1.alloc (.cells #[.int .i64 u.node, .int .i64 u.num, .slice u.ad u.data.length u.cap, .bool u.dead] 56))).grown grow2 (fun k hk => .inl hk)
   have B3 := (HB.out.off OC (fun h => h)).off o2 (fun h => (HH3.out B h).2.1 rfl)
   have bx : V2.cell? ⟨B, 0, none⟩ = some (.slice a l.length cap) := B3.cell 0
   have bf : V2.frozen? ⟨B, 0, none⟩ = false := B3.free 0
   have hsz := OC.size
   simp only [World.size_alloc] at hsz
   refine wp_append_if rfl (.tmp 6) (.tmp 9) rfl rfl rfl hr 10 rfl ?_
   simp only [Act.put, lsA, lsZ, lsS]
   refine hK'.out _ _ (hS.off o2 (fun h => HBX.out.1 h)) (fun hS => ?_)
   clear hK' K' hr
   refine wpAnyH_ready (rs := [5]) (by kernel_rfl) (by simp) ?_
   refine AllReadyH.cons rfl (fun K' hK' => ?_) AllReadyH.nil
   go_simp
   refine hK'.out _ _ (hS.other (HBX.out.2) _) (fun hS => ?_)
   clear hK' K'
   refine wpAnyH_done (by kernel_rfl) ?_ _
   go_wp2_with fail
   go_end0
   have os : Off (fun c => c = B) V2 (V2.setCell ⟨B, 0, none⟩ (.slice a2 (l.length + 1) c2)) := (Off.refl (fun c => c = B) V2).setCell (p := ⟨B, 0, none⟩) (.inl rfl) _
   refine ⟨rfl, u, HHU.out, ⟨⟨HLO.out.1, by have := B3.lt; have := os.size; omega⟩, a2, c2, ?_, ?_, ?_, ?_⟩, ?_⟩
   ·have := B3.set 0 (.slice a2 (l ++ [u]).length c2)
    simpa using this
   ·refine own2.off os (fun c hc e => ?_)
    have := at_far HH3.out HBL.out hsz at2 c hc
    exact this.2 e
   ·intro k hk
    have h1 := at_far HH3.out HBL.out hsz at2 k hk
    have h2 := own2.lt k hk
    have h3 := os.size
    exact ⟨h1.1, h1.2, by omega⟩
   ·intro x hx
    have oo : Off (fun c => c = B ∨ blk a = some c) (v1.alloc (.cells #[.int .i64 u.node, .int .i64 u.num, .slice u.ad u.data.length u.cap, .bool u.dead] 56)) (V2.setCell ⟨B, 0, none⟩ (.slice a2 (l.length + 1) c2)) := (o2.mono (fun _ _ h => .inr h)).setCell (.inl (.inl rfl)) _
    rw [List.mem_append, List.mem_singleton] at hx
    rcases hx with hx | rfl
    ·have hk := HH4.out x hx
     have o3 := HO0.out.trans OC (fun _ _ h => h)
     have hn : ∀ c, blk x.ad = some c → ¬ (c = B ∨ blk a = some c) := fun c hc e => e.elim (hk.2.2 c hc).2.1 (hk.2.2 c hc).2.2
     refine ⟨(hk.1.off o3 (fun _ _ _ h => h)).off oo (fun c _ hc => hn c hc), (hk.2.1.off o3 (fun _ _ _ h => h)).off oo (fun c _ hc => hn c hc), fun k hk2 => ⟨(hk.2.2 k hk2).1, (hk.2.2 k hk2).2.1, fun e => ?_⟩⟩
     rcases at2 with e2 | e2
     ·exact (hk.2.2 k hk2).2.2 (e2 ▸ e)
     ·rw [e2] at e
      simp at e
      have := hk.2.1.lt k hk2
      have s3 := o3.size
      simp only [World.size_alloc] at s3
      omega
    ·have hun := HUN.out
     have e1 : Off (fun _ => False) v1 (v1.alloc (.cells #[.int .i64 x.node, .int .i64 x.num, .slice x.ad x.data.length x.cap, .bool x.dead] 56)) := (Off.refl _ v1).alloc _
     have hlt := HUO.out.lt
     have hn : ∀ c, blk x.ad = some c → ¬ (c = B ∨ blk a = some c) := fun c hc e => by
      have h1 : W.heap.size ≤ c := hun c hc
      rcases e with rfl | e
      ·have := HBL.out.1; omega
      ·have := HBL.out.2.1 c e; omega
     refine ⟨(HUK.out.off e1 (fun _ _ _ h => h)).off oo (fun c _ hc => hn c hc), (HUO.out.off e1 (fun _ _ _ h => h)).off oo (fun c _ hc => hn c hc), fun k hk2 => ⟨?_, fun e => hn k hk2 (.inl e), fun e => ?_⟩⟩
     ·have h1 : W.heap.size ≤ k := hun k hk2
      have := HBL.out.2.2
      omega
     ·rcases at2 with e2 | e2
      ·exact hn k hk2 (.inr (e2 ▸ e))
      ·rw [e2] at e
       simp at e
       have := hlt k hk2
       omega
   ·have o3 := HO0.out.trans OC (fun _ _ h => h)
    exact ((o3.mono (fun _ _ h => h.elim)).trans o2 (fun i _ h => ⟨(HH3.out i h).1, (HH3.out i h).2.2⟩)).setCell (.inl HLO.out) _
def keep (b : Bool) (x : A) : List A := if b then [x] else []
theorem take_any (N M B : Nat) (l : List V) (v : V) (s : Bool) (w : World) (h : Out N M B l w) (hv : VOk w v) (hl : l.length ≤ 1000) (hN : N ≤ w.heap.size) (hM : M ≤ w.heap.size) :
  Calls Try.prog 43 #[.agg #[.int .i64 v.node, .int .i64 v.num, .slice v.ad v.data.length v.cap, .bool v.dead], .bool s, .pointer (some ⟨B, 0, none⟩)] w fun e w' => e = .returned (.tuple #[]) ∧ ∃ l' : List V, cont l' = cont l ++ keep s v.abs ∧ Out N w'.heap.size B l' w' ∧ Off (fun c => N ≤ c ∧ c < M) w w' := by
 cases s
 ·refine (take_no N M B l v w h).mono ?_
  rintro e w' ⟨rfl, h1, o⟩
  exact ⟨rfl, l, by simp [keep], h1.up (by have := o.size; omega), o.mono (fun _ _ h => h.elim)⟩
 ·refine (take_yes N M B l v w h hv hl hN).mono ?_
  rintro e w' ⟨rfl, u, hu, h1, o⟩
  exact ⟨rfl, l ++ [u], by simp [keep, cont, hu], h1, o⟩
end Go.Proofs.Ytmjmgdbhmbjmaab
