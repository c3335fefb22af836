/- Items of several texts. -/
import Derived.Test.YtmeclfgehpbjlaaYQc18
import Derived.Test.YtmeclfgehpbjlaaYKee
import Derived.Test.YtmeclfgehpbjlaaYDg0
namespace Go.Proofs.Ytmeclfgehpbjlaa
set_option maxRecDepth 100000
open Go.RowKit
theorem app_runX {α : Type} {t e : TypeId} {size bytes : Nat} {z : Value} {cs : α → List Value}
  (hu : Try.prog.underlying t = some (.slice e)) (hinfo : (Try.prog.info? e).map (fun i => (i.zero, i.size, i.bytes)) = some (some z, size, bytes)) (hz : z.cells.size = size) (hsz : 0 < size) (hcs : ∀ x, (cs x).length = size) (h1 : ∀ x, ∀ u ∈ cs x, u.oneCell' = true)
  {w : World} {a : Option Addr} {cap : Nat} (own : OwnG e size cs w a cap []) (ad : Addr) (cb : Nat) (k : List α) (hr : ∀ j u, (k.flatMap cs)[j]? = some u → w.cell? (ad.add j) = some u) (hb : k.length * bytes ≤ 140737488355328) (hm : k.length ≤ maxLen) (ty : TypeId) :
  ∃ a' c' w', (Builtin.append_ #[t, t] ty #[.slice a 0 cap, .slice (some ad) k.length cb]).run Try.prog w = .ok (.slice a' k.length c') w' ∧ OwnG e size cs w' a' c' k ∧ Off (fun c => blk a = some c) w w' ∧ (blk a' = blk a ∨ blk a' = some w.heap.size) := by
 obtain ⟨i0, hi, hz0, hz1, hz2⟩ := info_parts hinfo
 obtain ⟨v', w', hrun, own', grow', -, hat⟩ := run_append_own_at (P := Try.prog) w 0 t ty e i0 z size bytes hu hi hz0 hz1 hz2 hz hsz _ _ _ own.row ad k.length cb (k.flatMap cs) (flw_len hcs k) hr (flw_one h1 k) (by rw [List.length_nil, Nat.zero_add]; exact hm) (by rw [List.length_nil, Nat.zero_add]; exact hb) (Nat.zero_le _)
 rw [List.flatMap_nil, List.nil_append, List.length_nil, Nat.zero_add] at own'
 obtain ⟨t', c', rfl⟩ : ∃ t' c', v' = .slice t' k.length c' := by
  rcases own'.2 with ⟨rfl, h0⟩ | ⟨g, c, cur, hv, -⟩
  ·exact ⟨none, 0, by rw [h0]⟩
  ·exact ⟨_, _, hv⟩
 rw [blk_own, blk_own] at hat
 rw [blk_own] at grow'
 exact ⟨t', c', w', hrun, ⟨own'⟩, (Off.refl _ w).grown grow' (fun k hk => .inl hk), hat⟩
theorem wpList_appX {α : Type} {t e : TypeId} {size bytes : Nat} {z : Value} {cs : α → List Value}
  (hu : Try.prog.underlying t = some (.slice e)) (hinfo : (Try.prog.info? e).map (fun i => (i.zero, i.size, i.bytes)) = some (some z, size, bytes)) (hz : z.cells.size = size) (hsz : 0 < size) (hcs : ∀ x, (cs x).length = size) (h1 : ∀ x, ∀ u ∈ cs x, u.oneCell' = true)
  {w : World} {ops : Array Oper} {rest : List Oper} {o : Oper} {a : Act} {Q : Exit → Act → World → Prop} (hgd : o.guard = none) (s x : Operand)
  (ho : o.op = .call { callee := .builtin .append, args := #[s, x], argTypes := #[t, t] })
  (tad : Option Addr) (cap : Nat) (hs : a.eval s = .slice tad 0 cap) (own : OwnG e size cs w tad cap [])
  (ad : Addr) (cb : Nat) (k : List α) (hx : a.eval x = .slice (some ad) k.length cb) (hr : ∀ j u, (k.flatMap cs)[j]? = some u → w.cell? (ad.add j) = some u) (hb : k.length * bytes ≤ 140737488355328) (hm : k.length ≤ maxLen)
  (h : ∀ t' c' w', OwnG e size cs w' t' c' k → Off (fun c => blk tad = some c) w w' → (blk t' = blk tad ∨ blk t' = some w.heap.size) → wpList Try.prog ops Q rest (a.put o.dst (.slice t' k.length c')) w') :
  wpList Try.prog ops Q (o :: rest) a w := by
 obtain ⟨a', c', w', hrun, own', off, hat⟩ := app_runX hu hinfo hz hsz hcs h1 own ad cb k hr hb hm o.type
 refine wpList_plain hgd fun K' hK' => ?_
 unfold Oper.wp
 simp only [execOp, ho, resolve, invoke, builtin, Sem.run_bind, Sem.run_pure, Result.andThen_ok, List.map_toArray, List.map_cons, List.map_nil, hs, hx, hrun]
 exact hK' _ _ (h a' c' w' own' off hat)
theorem eql_nxe (a : Option Addr) (l c : Nat) (W : World) : (binOp .eql 27 (.slice a l c) (.slice none 0 0)).run Try.prog W = .ok (.bool a.isNone) W := by
 have h : binOp .eql 27 (.slice a l c) (.slice none 0 0) = (do pure (.bool (← Op.equal 27 (.slice a l c) (.slice none 0 0)))) := rfl
 rw [h]
 simp [run_equal_slice_nil W 27 96 a l c Try.underlying27, Result.andThen]
theorem eclone_big (t : Option Addr) (c : Nat) (l : List E) (w : World) (hn : t = none → l = []) (hr : ∀ ad, t = some ad → ∀ j u, (l.flatMap ecs)[j]? = some u → w.cell? (ad.add j) = some u) (hb : l.length * 104 ≤ 140737488355328) :
  Calls Try.prog 38 #[.slice t l.length c] w fun e w' => ∃ t' c', e = .returned (.slice t' l.length c') ∧ OwnG 96 10 ecs w' t' c' l ∧ (∀ k, blk t' = some k → w.heap.size ≤ k) ∧ Off (fun _ => False) w w' := by
 have hq := eql_nxe
 cases t with
 | none =>
  obtain rfl : l = [] := hn rfl
  go_enter Try.func38, Try.ntmps38
  go_wp2
  go_ret
  exact ⟨none, 0, rfl, OwnG.nil _ _ _ w, fun k hk => by simp [blk] at hk, Off.refl _ w⟩
 | some ad =>
  have L0 : OwnG 96 10 ecs (w.alloc (.cells #[] 96)) (some ⟨w.heap.size, 0, none⟩) 0 ([] : List E) := ⟨World.ownsRow_lit w #[] 0 (Nat.zero_le _) (by decide) rfl⟩
  have O0 : Off (fun _ => False) w (w.alloc (.cells #[] 96)) := (Off.refl _ w).alloc _
  have HR : Hid (∀ j u, (l.flatMap ecs)[j]? = some u → (w.alloc (.cells #[] 96)).cell? (ad.add j) = some u) := fun j u hj => by
   have h := hr ad rfl j u hj
   rw [← h]
   exact World.cell?_of_block (O0.block _ (cell_lt h) (fun h => h))
  clear hr
  go_enter Try.func38, Try.ntmps38
  go_wp2_with (at_builtin; refine wpList_appX (cs := ecs) Try.underlying27 Try.infoE rfl (by decide) ecs_len ecs_one rfl (.tmp 5) (.tmp 6) rfl _ 0 rfl L0 ad c l rfl HR.out hb (by unfold maxLen; omega) ?_; intro t' c' w' own' off' at')
  go_ret
  refine ⟨t', c', rfl, own', fun k hk => ?_, O0.trans off' (fun i hi hb => ?_)⟩
  ·rcases at' with a | a
   ·rw [a] at hk
    simp [blk] at hk
    omega
   ·rw [a] at hk
    simp at hk
    omega
  ·simp [blk] at hb
   omega
theorem eql_nxg (a : Option Addr) (l c : Nat) (W : World) : (binOp .eql 28 (.slice a l c) (.slice none 0 0)).run Try.prog W = .ok (.bool a.isNone) W := by
 have h : binOp .eql 28 (.slice a l c) (.slice none 0 0) = (do pure (.bool (← Op.equal 28 (.slice a l c) (.slice none 0 0)))) := rfl
 rw [h]
 simp [run_equal_slice_nil W 28 102 a l c Try.underlying28, Result.andThen]
theorem gclone_big (t : Option Addr) (c : Nat) (l : List G) (w : World) (hn : t = none → l = []) (hr : ∀ ad, t = some ad → ∀ j u, (l.flatMap gcs)[j]? = some u → w.cell? (ad.add j) = some u) (hb : l.length * 104 ≤ 140737488355328) :
  Calls Try.prog 40 #[.slice t l.length c] w fun e w' => ∃ t' c', e = .returned (.slice t' l.length c') ∧ OwnG 102 10 gcs w' t' c' l ∧ (∀ k, blk t' = some k → w.heap.size ≤ k) ∧ Off (fun _ => False) w w' := by
 have hq := eql_nxg
 cases t with
 | none =>
  obtain rfl : l = [] := hn rfl
  go_enter Try.func40, Try.ntmps40
  go_wp2
  go_ret
  exact ⟨none, 0, rfl, OwnG.nil _ _ _ w, fun k hk => by simp [blk] at hk, Off.refl _ w⟩
 | some ad =>
  have L0 : OwnG 102 10 gcs (w.alloc (.cells #[] 102)) (some ⟨w.heap.size, 0, none⟩) 0 ([] : List G) := ⟨World.ownsRow_lit w #[] 0 (Nat.zero_le _) (by decide) rfl⟩
  have O0 : Off (fun _ => False) w (w.alloc (.cells #[] 102)) := (Off.refl _ w).alloc _
  have HR : Hid (∀ j u, (l.flatMap gcs)[j]? = some u → (w.alloc (.cells #[] 102)).cell? (ad.add j) = some u) := fun j u hj => by
   have h := hr ad rfl j u hj
   rw [← h]
   exact World.cell?_of_block (O0.block _ (cell_lt h) (fun h => h))
  clear hr
  go_enter Try.func40, Try.ntmps40
  go_wp2_with (at_builtin; refine wpList_appX (cs := gcs) Try.underlying28 Try.infoG rfl (by decide) gcs_len gcs_one rfl (.tmp 5) (.tmp 6) rfl _ 0 rfl L0 ad c l rfl HR.out hb (by unfold maxLen; omega) ?_; intro t' c' w' own' off' at')
  go_ret
  refine ⟨t', c', rfl, own', fun k hk => ?_, O0.trans off' (fun i hi hb => ?_)⟩
  ·rcases at' with a | a
   ·rw [a] at hk
    simp [blk] at hk
    omega
   ·rw [a] at hk
    simp at hk
    omega
  ·simp [blk] at hb
   omega
theorem eql_nxd (a : Option Addr) (l c : Nat) (W : World) : (binOp .eql 100 (.slice a l c) (.slice none 0 0)).run Try.prog W = .ok (.bool a.isNone) W := by
 have h : binOp .eql 100 (.slice a l c) (.slice none 0 0) = (do pure (.bool (← Op.equal 100 (.slice a l c) (.slice none 0 0)))) := rfl
 rw [h]
 simp [run_equal_slice_nil W 100 106 a l c Try.underlying100, Result.andThen]
theorem dclone_big (t : Option Addr) (c : Nat) (l : List (Int × Int)) (w : World) (hn : t = none → l = []) (hr : ∀ ad, t = some ad → ∀ j u, (l.flatMap dcs)[j]? = some u → w.cell? (ad.add j) = some u) (hb : l.length * 16 ≤ 140737488355328) :
  Calls Try.prog 41 #[.slice t l.length c] w fun e w' => ∃ t' c', e = .returned (.slice t' l.length c') ∧ OwnG 106 2 dcs w' t' c' l ∧ (∀ k, blk t' = some k → w.heap.size ≤ k) ∧ Off (fun _ => False) w w' := by
 have hq := eql_nxd
 cases t with
 | none =>
  obtain rfl : l = [] := hn rfl
  go_enter Try.func41, Try.ntmps41
  go_wp2
  go_ret
  exact ⟨none, 0, rfl, OwnG.nil _ _ _ w, fun k hk => by simp [blk] at hk, Off.refl _ w⟩
 | some ad =>
  have L0 : OwnG 106 2 dcs (w.alloc (.cells #[] 106)) (some ⟨w.heap.size, 0, none⟩) 0 ([] : List (Int × Int)) := ⟨World.ownsRow_lit w #[] 0 (Nat.zero_le _) (by decide) rfl⟩
  have O0 : Off (fun _ => False) w (w.alloc (.cells #[] 106)) := (Off.refl _ w).alloc _
  have HR : Hid (∀ j u, (l.flatMap dcs)[j]? = some u → (w.alloc (.cells #[] 106)).cell? (ad.add j) = some u) := fun j u hj => by
   have h := hr ad rfl j u hj
   rw [← h]
   exact World.cell?_of_block (O0.block _ (cell_lt h) (fun h => h))
  clear hr
  go_enter Try.func41, Try.ntmps41
  go_wp2_with (at_builtin; refine wpList_appX (cs := dcs) Try.underlying100 Try.infoDt rfl (by decide) dcs_len dcs_one rfl (.tmp 5) (.tmp 6) rfl _ 0 rfl L0 ad c l rfl HR.out hb (by unfold maxLen; omega) ?_; intro t' c' w' own' off' at')
  go_ret
  refine ⟨t', c', rfl, own', fun k hk => ?_, O0.trans off' (fun i hi hb => ?_)⟩
  ·rcases at' with a | a
   ·rw [a] at hk
    simp [blk] at hk
    omega
   ·rw [a] at hk
    simp at hk
    omega
  ·simp [blk] at hb
   omega
theorem Try.infoMb : (Try.prog.info? 80).map (fun i => (i.zero, i.size, i.bytes)) = some (some (.agg #[.int .i64 0, .int .i64 0]), 2, 16) := by kernel_rfl
theorem eql_nxm (a : Option Addr) (l c : Nat) (W : World) : (binOp .eql 29 (.slice a l c) (.slice none 0 0)).run Try.prog W = .ok (.bool a.isNone) W := by
 have h : binOp .eql 29 (.slice a l c) (.slice none 0 0) = (do pure (.bool (← Op.equal 29 (.slice a l c) (.slice none 0 0)))) := rfl
 rw [h]
 simp [run_equal_slice_nil W 29 80 a l c Try.underlying29, Result.andThen]
theorem mclone_big (t : Option Addr) (c : Nat) (l : List (Int × Int)) (w : World) (hn : t = none → l = []) (hr : ∀ ad, t = some ad → ∀ j u, (l.flatMap dcs)[j]? = some u → w.cell? (ad.add j) = some u) (hb : l.length * 16 ≤ 140737488355328) :
  Calls Try.prog 42 #[.slice t l.length c] w fun e w' => ∃ t' c', e = .returned (.slice t' l.length c') ∧ OwnG 80 2 dcs w' t' c' l ∧ (∀ k, blk t' = some k → w.heap.size ≤ k) ∧ Off (fun _ => False) w w' := by
 have hq := eql_nxm
 cases t with
 | none =>
  obtain rfl : l = [] := hn rfl
  go_enter Try.func42, Try.ntmps42
  go_wp2
  go_ret
  exact ⟨none, 0, rfl, OwnG.nil _ _ _ w, fun k hk => by simp [blk] at hk, Off.refl _ w⟩
 | some ad =>
  have L0 : OwnG 80 2 dcs (w.alloc (.cells #[] 80)) (some ⟨w.heap.size, 0, none⟩) 0 ([] : List (Int × Int)) := ⟨World.ownsRow_lit w #[] 0 (Nat.zero_le _) (by decide) rfl⟩
  have O0 : Off (fun _ => False) w (w.alloc (.cells #[] 80)) := (Off.refl _ w).alloc _
  have HR : Hid (∀ j u, (l.flatMap dcs)[j]? = some u → (w.alloc (.cells #[] 80)).cell? (ad.add j) = some u) := fun j u hj => by
   have h := hr ad rfl j u hj
   rw [← h]
   exact World.cell?_of_block (O0.block _ (cell_lt h) (fun h => h))
  clear hr
  go_enter Try.func42, Try.ntmps42
  go_wp2_with (at_builtin; refine wpList_appX (cs := dcs) Try.underlying29 Try.infoMb rfl (by decide) dcs_len dcs_one rfl (.tmp 5) (.tmp 6) rfl _ 0 rfl L0 ad c l rfl HR.out hb (by unfold maxLen; omega) ?_; intro t' c' w' own' off' at')
  go_ret
  refine ⟨t', c', rfl, own', fun k hk => ?_, O0.trans off' (fun i hi hb => ?_)⟩
  ·rcases at' with a | a
   ·rw [a] at hk
    simp [blk] at hk
    omega
   ·rw [a] at hk
    simp at hk
    omega
  ·simp [blk] at hb
   omega
theorem eql_nxv (a : Option Addr) (l c : Nat) (W : World) : (binOp .eql 92 (.slice a l c) (.slice none 0 0)).run Try.prog W = .ok (.bool a.isNone) W := by
 have h : binOp .eql 92 (.slice a l c) (.slice none 0 0) = (do pure (.bool (← Op.equal 92 (.slice a l c) (.slice none 0 0)))) := rfl
 rw [h]
 simp [run_equal_slice_nil W 92 120 a l c Try.underlying92, Result.andThen]
theorem vclone_big (t : Option Addr) (c : Nat) (l : List V) (w : World) (hn : t = none → l = []) (hr : ∀ ad, t = some ad → ∀ j u, (l.flatMap vcl)[j]? = some u → w.cell? (ad.add j) = some u) (hb : l.length * 48 ≤ 140737488355328) :
  Calls Try.prog 51 #[.slice t l.length c] w fun e w' => ∃ t' c', e = .returned (.slice t' l.length c') ∧ OwnG 120 4 vcl w' t' c' l ∧ (∀ k, blk t' = some k → w.heap.size ≤ k) ∧ Off (fun _ => False) w w' := by
 have hq := eql_nxv
 cases t with
 | none =>
  obtain rfl : l = [] := hn rfl
  go_enter Try.func51, Try.ntmps51
  go_wp2
  go_ret
  exact ⟨none, 0, rfl, OwnG.nil _ _ _ w, fun k hk => by simp [blk] at hk, Off.refl _ w⟩
 | some ad =>
  have L0 : OwnG 120 4 vcl (w.alloc (.cells #[] 120)) (some ⟨w.heap.size, 0, none⟩) 0 ([] : List V) := ⟨World.ownsRow_lit w #[] 0 (Nat.zero_le _) (by decide) rfl⟩
  have O0 : Off (fun _ => False) w (w.alloc (.cells #[] 120)) := (Off.refl _ w).alloc _
  have HR : Hid (∀ j u, (l.flatMap vcl)[j]? = some u → (w.alloc (.cells #[] 120)).cell? (ad.add j) = some u) := fun j u hj => by
   have h := hr ad rfl j u hj
   rw [← h]
   exact World.cell?_of_block (O0.block _ (cell_lt h) (fun h => h))
  clear hr
  go_enter Try.func51, Try.ntmps51
  go_wp2_with (at_builtin; refine wpList_appX (cs := vcl) Try.underlying92 Try.infoV rfl (by decide) vcl_len vcl_one rfl (.tmp 5) (.tmp 6) rfl _ 0 rfl L0 ad c l rfl HR.out hb (by unfold maxLen; omega) ?_; intro t' c' w' own' off' at')
  go_ret
  refine ⟨t', c', rfl, own', fun k hk => ?_, O0.trans off' (fun i hi hb => ?_)⟩
  ·rcases at' with a | a
   ·rw [a] at hk
    simp [blk] at hk
    omega
   ·rw [a] at hk
    simp at hk
    omega
  ·simp [blk] at hb
   omega
theorem Row.newsX {w : World} {a : Option Addr} {cap : Nat} {l : List V} (h : Row w a cap l) : (a = none → l = []) ∧ ∀ ad, a = some ad → ∀ j u, (l.flatMap vcl)[j]? = some u → w.cell? (ad.add j) = some u := by
 refine ⟨fun e => ?_, fun ad e j u hj => ?_⟩
 ·cases l with
  | nil => rfl
  | cons v l =>
   obtain ⟨b, off, e1, -⟩ := h.at_ 0 v rfl
   rw [e] at e1
   cases e1
 ·obtain ⟨i, r, x, hx, rfl, hu⟩ := flw_inv vcl_len hj
  obtain ⟨b, off, e1, h1, -⟩ := h.at_ i x hx
  rw [e] at e1
  simp only [Option.some.injEq] at e1
  subst e1
  rw [add_lit, ← Nat.add_assoc]
  match r, hu with
  | 0, hu => simp [vcl] at hu; rw [← hu]; exact h1.c0
  | 1, hu => simp [vcl] at hu; rw [← hu]; exact h1.c1
  | 2, hu => simp [vcl] at hu; rw [← hu]; exact h1.c2
  | 3, hu => simp [vcl] at hu; rw [← hu]; exact h1.c3
  | r + 4, hu => simp [vcl] at hu
set_option maxHeartbeats 2000000 in
theorem copyValues_any (a : Option Addr) (cap : Nat) (l : List V) (w : World) (hr : Row w a cap l) (hl : l.length * 48 ≤ 140737488355328) :
  Calls Try.prog 39 #[.slice a l.length cap] w fun e w' => ∃ (a' : Option Addr) (c' : Nat) (k : List V), e = .returned (.slice a' k.length c') ∧ cont k = cont l ∧ Row w' a' c' k ∧ Far w.heap.size a' k ∧ Off (fun _ => False) w w' := by
 go_enter Try.func39, Try.ntmps39
 go_wp2_with fail
 refine (vclone_big a cap l w hr.newsX.1 hr.newsX.2 hl).mono ?_
 rintro e w1 ⟨t, c, rfl, own, hnew, o1⟩
 have own := own.ownV
 have row1 : Row w1 t c l := own.toRow (fun v hv => (hr.off o1).ok v hv)
 have HOWN : Hid _ := own
 have HROW : Hid _ := row1
 have HNW : Hid _ := hnew
 have HOW : Hid _ := o1
 have hlb : l.length ≤ 9223372036854775807 := by omega
 clear own row1 hnew o1 hr hl
 go_wp2_with fail
 go_loopw [9] (fun y wr => ∃ (n : Nat) (k : List V), y = .int .i64 (n : Int) ∧ n ≤ l.length ∧ Hid (k.length = l.length) ∧ Hid (cont k = cont l) ∧ Hid (∀ i v, i < n → k[i]? = some v → ∀ x, blk v.ad = some x → w.heap.size ≤ x) ∧ Hid (Row wr t c k) ∧ Hid (∀ v ∈ k, ∃ g cur, t = some ⟨g, 0, none⟩ ∧ Cel g 120 cur wr) ∧ Hid (Off (fun _ => False) w wr)) (fun y _ => ((l.length : Int) - intOf y).toNat)
 case atStart =>
  refine ⟨0, l, rfl, by omega, rfl, rfl, (fun i v hi => by omega), HROW.out, (fun v hv => ?_), HOW.out⟩
  rcases HOWN.out.row.2 with ⟨-, h0⟩ | ⟨g, c', cur, hvv, -, hh, -⟩
  ·rw [List.eq_nil_of_length_eq_zero h0] at hv
   simp at hv
  ·simp only [Value.slice.injEq] at hvv
   exact ⟨g, cur, hvv.1, ⟨hh⟩⟩
 case round =>
  clear HOWN HROW HOW
  obtain ⟨n, k, rfl, hn, HL, HK, HBB, HRW, HGG, HO⟩ := hrel
  by_cases hlt : n < l.length
  ·have e1 : decide ((n : Int) < (l.length : Int)) = true := decide_eq_true (by omega)
   have e2 : decide (n < l.length) = true := decide_eq_true hlt
   obtain ⟨v, hv⟩ : ∃ v, k[n]? = some v := ⟨_, List.getElem?_eq_getElem (by rw [HL.out]; exact hlt)⟩
   obtain ⟨g, cur, rfl, hg⟩ := HGG.out v (List.mem_of_getElem? hv)
   have hok := HRW.out.ok v (List.mem_of_getElem? hv)
   have c2 : wr.cell? ⟨g, n * 4 + 2, none⟩ = some (.slice v.ad v.data.length v.cap) := (HRW.out.at0 hv).c2
   have HG : Hid _ := hg
   have HGN : Hid _ := HNW.out g rfl
   have hix := idx_row hlt c g
   have HV : Hid _ := hv
   have HBC : Hid _ := bclone_any v.ad v.cap v.data (by have := hok.len; omega) wr hok.src
   have HWR : Hid (w.heap.size ≤ wr.heap.size) := HO.out.size
   have HW1S : Hid (w.heap.size ≤ g) := HGN.out
   clear hg hv hok
   go_wp2_with fail
   refine Calls.mono HBC.out ?_
   rintro e w9 ⟨t9, c9, rfl, own9, hnw9, o9⟩
   have R9 := HRW.out.off o9
   obtain ⟨cur9, hg9⟩ : ∃ cur, Cel g 120 cur w9 := ⟨_, HG.out.off o9 (fun h => h)⟩
   have f9 := hg9.free
   have hc2 : w9.cell? ⟨g, n * 4 + 2, none⟩ = some (.slice v.ad v.data.length v.cap) := (R9.at0 HV.out).c2
   have R10 := R9.setData HV.out own9.src
   have HNW9 : Hid (∀ x, blk t9 = some x → w.heap.size ≤ x) := fun x hx => by have h1 := hnw9 x hx; have h2 := HWR.out; omega
   have HR10 : Hid _ := R10
   have HG9 : Hid _ := hg9
   have HO9 : Hid _ := o9
   clear own9 R9 R10 hg9 o9 hnw9 HBC c2
   go_wp2_with fail
   go_roundw
   case rel =>
    have o12 : Off (fun c => c = g) wr (w9.setCell ⟨g, n * 4 + 2, none⟩ (.slice t9 v.data.length c9)) := (HO9.out.mono (E := fun c => c = g) (fun _ _ h => h.elim)).setCell (p := ⟨g, n * 4 + 2, none⟩) (.inl rfl) _
    refine ⟨n + 1, k.set n (⟨v.node, v.num, t9, c9, v.data, v.dead⟩ : V), by go_num, by omega, (by show _ = _; rw [List.length_set]; exact HL.out), (by show _ = _; rw [cont_set HV.out]; exact HK.out), set_far HV.out HBB.out HNW9.out, HR10.out, (fun u hu => ⟨g, _, rfl, HG9.out.set _ _⟩), HO.out.trans o12 (fun i hi h => ?_)⟩
    have h : i = g := h
    have := HW1S.out
    omega
   case measure => simp [intOf]; omega
  ·obtain rfl : n = l.length := by omega
   have e1 : decide ((l.length : Int) < (l.length : Int)) = false := decide_eq_false (by omega)
   have e2 : decide (l.length < l.length) = false := decide_eq_false (by omega)
   go_wp2_with fail
   go_ret
   refine ⟨t, c, k, by rw [HL.out]; rfl, HK.out, HRW.out, ⟨fun x hx => ?_, fun v hv x hx => ?_⟩, HO.out⟩
   ·exact Nat.le_trans (Nat.le_refl _) (HNW.out x hx)
   ·obtain ⟨i, hi⟩ := List.getElem?_of_mem hv
    obtain ⟨hlt, -⟩ := List.getElem?_eq_some_iff.1 hi
    exact HBB.out i v (by rw [← HL.out]; exact hlt) hi x hx
end Go.Proofs.Ytmeclfgehpbjlaa
