/- Items of several texts. -/
import Derived.Test.YtmeclfgehpbjlaaYQg18
namespace Go.Proofs.Ytmeclfgehpbjlaa
set_option maxRecDepth 100000
open Go.RowKit
theorem Try.infoI : (Try.prog.info? 74).map (fun i => (i.zero, i.size, i.bytes)) = some (some (.agg #[.int .i64 0, .int .i64 0, .int .i64 0, .int .i64 0, .int .i64 0, .string ⟨#[]⟩, .int .i64 0, .slice none 0 0, .slice none 0 0, .slice none 0 0, .int .i64 0]), 11, 144) := by kernel_rfl
structure RQ (N : Int → NF) (W : World) (R : Nat → Prop) (q : Nat) (l : List (Int × Int)) (most r t : Int) (w : World) : Prop where
 dp : R q
 dlt : ∀ c, R c → W.heap.size ≤ c ∧ c < w.heap.size
 is : ∃ (a : Option Addr) (cap : Nat) (xs : List Wt), Cel q 43 #[.slice a xs.length cap, .int .i64 most, .int .i64 r] w ∧ OwnG 74 11 wcs w a cap xs ∧ (∀ g, blk a = some g → R g ∧ g ≠ q) ∧ xs.length = l.length ∧ ∀ (i : Nat) (x : Wt) (y : Int × Int), xs[i]? = some x → l[i]? = some y → x.base = y.2 + t ∧ Rd N y.1 x.m W
 few : (l.length : Int) ≤ most ∧ 0 ≤ most ∧ most ≤ 1000
 wt : ∀ y ∈ l, -1000000000 ≤ y.2 ∧ y.2 ≤ 12
 off : Off (fun _ => False) W w
theorem RQ.keep {N : Int → NF} {W : World} {R E : Nat → Prop} {q : Nat} {l : List (Int × Int)} {most r t : Int} {w w' : World} (h : RQ N W R q l most r t w) (o : Off E w w') (hE : ∀ c, R c → ¬ E c) (hW : ∀ c, E c → W.heap.size ≤ c) : RQ N W R q l most r t w' := by
 obtain ⟨a, cap, xs, h1, h2, h3, h4, h5⟩ := h.is
 exact ⟨h.dp, fun c hc => ⟨(h.dlt c hc).1, Nat.lt_of_lt_of_le (h.dlt c hc).2 o.size⟩, ⟨a, cap, xs, h1.off o (hE q h.dp), h2.off o (fun c _ hc => hE c (h3 c hc).1), h3, h4, h5⟩, h.few, h.wt, h.off.trans o (fun i hi e => by have := hW i e; omega)⟩
theorem RQ.free {N : Int → NF} {W : World} {R : Nat → Prop} {q : Nat} {l : List (Int × Int)} {most r t : Int} {w w' : World} (h : RQ N W R q l most r t w) (o : Off (fun _ => False) w w') : RQ N W R q l most r t w' := h.keep o (fun _ _ h => h) (fun _ h => h.elim)
theorem app_runI {w : World} {a : Option Addr} {cap : Nat} {l : List Wt} (hown : OwnG 74 11 wcs w a cap l) {b : Option Addr} {cb : Nat} {k : List Wt} (hr : Wns w b cb k) (hz : b = none → cb = 0) (hb : l.length + k.length ≤ 1000000) (ty : TypeId) :
  ∃ a' c' w', (Builtin.append_ #[41, 41] ty #[.slice a l.length cap, .slice b k.length cb]).run Try.prog w = .ok (.slice a' (l ++ k).length c') w' ∧ OwnG 74 11 wcs w' a' c' (l ++ k) ∧ Off (fun c => blk a = some c) w w' ∧ (blk a' = blk a ∨ blk a' = some w.heap.size) := by
 obtain ⟨i0, hi, hz0, hz1, hz2⟩ := info_parts Try.infoI
 cases b with
 | none =>
  obtain rfl : cb = 0 := hz rfl
  obtain rfl : k = [] := List.eq_nil_of_length_eq_zero (by have := hr.len; omega)
  refine ⟨a, cap, w, ?_, by rw [List.append_nil]; exact hown, Off.refl _ w, .inl rfl⟩
  rw [List.append_nil]
  exact run_append_owned_none (P := Try.prog) (w := w) 0 41 ty 74 i0 11 Try.underlying41 hi _ _ _ hown.row
 | some ad =>
  obtain ⟨v', w', hrun, own', grow', -, hat⟩ := run_append_own_at (P := Try.prog) w 0 41 ty 74 i0 _ 11 144 Try.underlying41 hi hz0 hz1 hz2 rfl (by decide) _ _ _ hown.row ad k.length cb (k.flatMap wcs) (flw_len wcs_len k) hr.news (flw_one wcs_one k) (by unfold maxLen; omega) (by omega) (Nat.zero_le _)
  rw [← List.flatMap_append, ← List.length_append] at own'
  obtain ⟨t', c', rfl⟩ : ∃ t' c', v' = .slice t' (l ++ k).length c' := by
   rcases own'.2 with ⟨rfl, h0⟩ | ⟨g, c, cur, hv, -⟩
   ·exact ⟨none, 0, by rw [h0]⟩
   ·exact ⟨_, _, hv⟩
  rw [blk_own, blk_own] at hat
  rw [blk_own] at grow'
  exact ⟨t', c', w', hrun, ⟨own'⟩, (Off.refl _ w).grown grow' (fun k hk => .inl hk), hat⟩
theorem OwnG.wnsI {w : World} {a : Option Addr} {cap : Nat} {l : List Wt} (h : OwnG 74 11 wcs w a cap l) : Wns w a cap l := by
 have hb : l.length ≤ cap ∧ cap ≤ 9223372036854775807 := by
  rcases h.row.2 with ⟨hv, h0⟩ | ⟨g, c, cur, hv, hb, hh, hc, hm, -⟩
  ·simp only [Value.slice.injEq] at hv
   omega
  ·simp only [Value.slice.injEq] at hv
   unfold maxLen at hm
   omega
 refine ⟨hb.1, hb.2, fun i v hi => ?_⟩
 obtain ⟨g, e, h1⟩ := h.at_ wcs_len hi
 exact ⟨g, 0, e, ⟨fun j u hj => by rw [Nat.zero_add]; exact h1 j u hj⟩⟩
theorem sizeI (W : World) : (sizeOf (Try.prog.elem 41)).run Try.prog W = .ok 11 W := by
 have : Try.prog.elem 41 = 74 := by kernel_rfl
 rw [this]
 obtain ⟨i0, hi, hz0, hz1, hz2⟩ := info_parts Try.infoI
 simp [sizeOf, typeInfo, hi, hz1]
theorem slhI (g n cap k : Nat) (hk : k ≤ cap) (W : World) : (Instr.slice 41 (.slice (some ⟨g, 0, none⟩) n cap) none (some (.int .i64 (k : Int))) none).run Try.prog W = .ok (.slice (some ⟨g, 0, none⟩) k cap) W := by
 rw [run_slice_h (P := Try.prog) (t := 41) (ht := by kernel_rfl) (h0 := by omega) (h2 := by omega), sizeI]
 simp [Result.andThen, sliced, Addr.add]
theorem sllI (g n cap k : Nat) (kk : Int) (hkk : kk = (k : Int)) (hk : k ≤ n) : ∃ o, (∀ W, (Instr.slice 41 (.slice (some ⟨g, 0, none⟩) n cap) (some (.int .i64 kk)) none none).run Try.prog W = .ok (.slice (some ⟨g, o, none⟩) (n - k) (cap - k)) W) ∧ (k < cap → o = k * 11) := by
 subst hkk
 refine ⟨if cap = k then 0 else k * 11, fun W => ?_, fun h => by rw [if_neg (by omega)]⟩
 rw [run_slice_l (P := Try.prog) (t := 41) (ht := by kernel_rfl) (h0 := by omega) (h1 := by omega), sizeI]
 by_cases e : cap = k
 ·simp [Result.andThen, sliced, e]
 ·simp [Result.andThen, sliced, e, Addr.add]
  omega
def prg (l : List (Int × Int)) : List (Int × Int) := l.foldl (fun acc x => insQ x.2 x.1 acc) []
theorem prg_snoc (l : List (Int × Int)) (k b : Int) : prg (l ++ [(k, b)]) = insQ b k (prg l) := by
 unfold prg
 rw [List.foldl_append]
 rfl
theorem insQ_low {b k b' k' : Int} (h : b' ≤ b) : ∀ P : List (Int × Int), insQ b' k' (P ++ [(k, b)]) = insQ b' k' P ++ [(k, b)]
 | [] => by
  show insQ b' k' [(k, b)] = _
  unfold insQ
  rw [if_neg (by show ¬ b < b'; omega)]
  rfl
 | y :: P => by
  rw [List.cons_append]
  unfold insQ
  split
  ·rw [insQ_low h P, List.cons_append]
  ·rfl
theorem insQ_top {b k : Int} : ∀ {P : List (Int × Int)}, (∀ x ∈ P, x.2 < b) → insQ b k P = P ++ [(k, b)]
 | [], _ => rfl
 | y :: P, h => by
  unfold insQ
  rw [if_pos (h y (List.mem_cons.2 (.inl rfl))), insQ_top (fun x hx => h x (List.mem_cons.2 (.inr hx)))]
  rfl
theorem insI_perm (b k : Int) : ∀ l : List (Int × Int), (insQ b k l).Perm ((k, b) :: l)
 | [] => List.Perm.refl _
 | y :: l => by
  unfold insQ
  split
  ·exact ((insI_perm b k l).cons y).trans (List.Perm.swap _ _ _)
  ·exact List.Perm.refl _
theorem prg_perm (l : List (Int × Int)) : (prg l).Perm l := by
 suffices h : ∀ (l P : List (Int × Int)), (l.foldl (fun acc x => insQ x.2 x.1 acc) P).Perm (P ++ l) by have := h l []; simpa [prg] using this
 intro l
 induction l with
 | nil => intro P; simp
 | cons x l ih =>
  intro P
  refine (ih _).trans ?_
  refine ((insI_perm x.2 x.1 P).append_right l).trans ?_
  exact List.perm_middle.symm
theorem prg_first {l1 l2 : List (Int × Int)} {k b : Int} (h1 : ∀ x ∈ l1, x.2 < b) (h2 : ∀ x ∈ l2, x.2 ≤ b) : prg (l1 ++ (k, b) :: l2) = prg (l1 ++ l2) ++ [(k, b)] := by
 have e : prg (l1 ++ [(k, b)]) = prg l1 ++ [(k, b)] := by
  rw [prg_snoc]
  exact insQ_top (fun x hx => h1 x ((prg_perm l1).mem_iff.1 hx))
 have g : ∀ (l2 P : List (Int × Int)), (∀ x ∈ l2, x.2 ≤ b) → l2.foldl (fun acc x => insQ x.2 x.1 acc) (P ++ [(k, b)]) = l2.foldl (fun acc x => insQ x.2 x.1 acc) P ++ [(k, b)] := by
  intro l2
  induction l2 with
  | nil => intro P _; rfl
  | cons x l2 ih =>
   intro P h
   rw [List.foldl_cons, List.foldl_cons, insQ_low (h x (List.mem_cons.2 (.inl rfl))), ih _ (fun y hy => h y (List.mem_cons.2 (.inr hy)))]
 have e1 : prg (l1 ++ (k, b) :: l2) = l2.foldl (fun acc x => insQ x.2 x.1 acc) (prg (l1 ++ [(k, b)])) := by
  unfold prg
  rw [← List.foldl_append, List.append_assoc]
  rfl
 rw [e1, e, g l2 _ h2]
 unfold prg
 rw [List.foldl_append]
set_option maxHeartbeats 1000000 in
theorem rqnew_any (N : Int → NF) (x : Int) (w : World) :
  Calls Try.prog 10 #[.int .i64 x] w fun e w' => ∃ (q : Nat) (R : Nat → Prop), e = .returned (.pointer (some ⟨q, 0, none⟩)) ∧ RQ N w R q [] (clq x) 0 0 w' ∧ (∀ c, R c → w.heap.size ≤ c) ∧ Off (fun _ => False) w w' := by
 have h1 := min_int x 1000
 have h2 := max_int 0 (min x 1000)
 have hb : 0 ≤ clq x ∧ clq x ≤ 1000 ∧ max 0 (min x 1000) = clq x := by unfold clq; omega
 rw [hb.2.2] at h2
 generalize clq x = m at *
 generalize min x 1000 = mx at *
 obtain ⟨m0, m1, -⟩ := hb
 go_enter Try.func10, Try.ntmps10
 go_wp2_with fail
 go_ret
 have oo := (Off.refl (fun _ => False) w).alloc (.cells #[.slice none 0 0, .int .i64 m, .int .i64 0] 43)
 have hs : (w.alloc (.cells #[.slice none 0 0, .int .i64 m, .int .i64 0] 43)).heap.size = w.heap.size + 1 := World.size_alloc _ _
 exact ⟨w.heap.size, fun c => c = w.heap.size, rfl, ⟨rfl, fun c hc => by have hc : c = w.heap.size := hc; omega, ⟨none, 0, [], Cel.new _ _ _, OwnG.nil _ _ _ _, fun g hg => by simp [blk] at hg, rfl, fun i x y hx => by simp at hx⟩, ⟨m0, m0, m1⟩, (fun y hy => by cases hy), oo⟩, fun c hc => by have hc : c = w.heap.size := hc; omega, oo⟩
end Go.Proofs.Ytmeclfgehpbjlaa
