/- Rows of any elements that a call makes; the contracts of isLive and Live. -/
import Derived.Test.YtbagahlphnafdabPut
namespace Go.Proofs.Ytbagahlphnafdab
open Go.RowKit

/-- A row of the call's own, of elements of so many cells. -/
structure OwnG {α : Type} (e : TypeId) (size : Nat) (cs : α → List Value) (w : World) (a : Option Addr) (cap : Nat) (l : List α) : Prop where
  row : w.ownsRow 0 e size (.slice a l.length cap) l.length (l.flatMap cs)
theorem OwnG.off {α : Type} {e : TypeId} {size : Nat} {cs : α → List Value} {D : Nat → Prop} {w w' : World} {a : Option Addr} {cap : Nat} {l : List α} (h : OwnG e size cs w a cap l) (k : Off D w w') (hD : ∀ c, c < w.heap.size → blk a = some c → ¬ D c) : OwnG e size cs w' a cap l := by
  refine ⟨h.row.1, ?_⟩
  rcases h.row.2 with h2 | ⟨g, c, cur, hv, hg, hh, r⟩
  · exact .inl h2
  · have hlt := lt_of_block hh
    simp only [Value.slice.injEq] at hv
    obtain ⟨rfl, -, rfl⟩ := hv
    exact .inr ⟨g, _, cur, rfl, hg, (k.block g hlt (hD g hlt rfl)).trans hh, r⟩
theorem OwnG.nil {α : Type} (e : TypeId) (size : Nat) (cs : α → List Value) (w : World) : OwnG e size cs w none 0 [] := ⟨World.ownsRow_nil w 0 _ size⟩
theorem OwnG.lt {α : Type} {e : TypeId} {size : Nat} {cs : α → List Value} {w : World} {a : Option Addr} {cap : Nat} {l : List α} (h : OwnG e size cs w a cap l) : ∀ c, blk a = some c → c < w.heap.size := fun c hc =>
  (World.ownsRow.lt h.row c (by rw [blk_own]; exact hc)).2
theorem flat_get {α : Type} {cs : α → List Value} {size : Nat} (hcs : ∀ x, (cs x).length = size) {l : List α} {i j : Nat} {x : α} {u : Value} (h : l[i]? = some x) (hu : (cs x)[j]? = some u) : (l.flatMap cs)[i * size + j]? = some u := by
  have hj : j < size := by
    obtain ⟨h, -⟩ := List.getElem?_eq_some_iff.1 hu
    rwa [hcs] at h
  induction l generalizing i with
  | nil => simp at h
  | cons y l ih =>
    cases i with
    | zero =>
      simp at h
      subst h
      simp only [Nat.zero_mul, Nat.zero_add, List.flatMap_cons]
      rw [List.getElem?_append_left (by rw [hcs]; exact hj)]
      exact hu
    | succ i =>
      have := ih (i := i) (by simpa using h)
      rw [List.flatMap_cons, List.getElem?_append_right (by rw [hcs, Nat.succ_mul]; omega), hcs]
      rw [show (i + 1) * size + j - size = i * size + j by rw [Nat.succ_mul]; omega]
      exact this
/-- Where its elements lie. -/
theorem OwnG.at_ {α : Type} {e : TypeId} {size : Nat} {cs : α → List Value} {w : World} {a : Option Addr} {cap : Nat} {l : List α} (h : OwnG e size cs w a cap l) (hcs : ∀ x, (cs x).length = size) {i : Nat} {x : α} (hi : l[i]? = some x) : ∃ g, a = some ⟨g, 0, none⟩ ∧ ∀ j u, (cs x)[j]? = some u → w.cell? ⟨g, i * size + j, none⟩ = some u := by
  rcases h.row.2 with ⟨hv, h0⟩ | ⟨g, c, cur, hv, hb, hh, hc, hm, -⟩
  · obtain rfl : l = [] := List.eq_nil_of_length_eq_zero h0
    simp at hi
  · simp only [Value.slice.injEq] at hv
    obtain ⟨rfl, -, rfl⟩ := hv
    refine ⟨g, rfl, fun j u hu => ?_⟩
    have := World.ownsRow.cells h.row (g := g) rfl _ _ (flat_get hcs hi hu)
    rw [add_lit, Nat.zero_add] at this
    exact this

/-- 'append(s, x)' of one element, laid in a block of its own. -/
theorem wpList_appG {α : Type} {w : World} {ops : Array Oper} {rest : List Oper} {o : Oper} {a : Act} {Q : Exit → Act → World → Prop} (hgd : o.guard = none) (s x : Operand) {t e : TypeId} {size bytes : Nat} {z : Value} {cs : α → List Value}
    (hu : Try.prog.underlying t = some (.slice e)) (hinfo : (Try.prog.info? e).map (fun i => (i.zero, i.size, i.bytes)) = some (some z, size, bytes)) (hz : z.cells.size = size) (hsz : 0 < size) (hby : bytes ≤ 1000) (hcs : ∀ x, (cs x).length = size) (h1 : ∀ x, ∀ u ∈ cs x, u.oneCell' = true)
    (ho : o.op = .call { callee := .builtin .append, args := #[s, x], argTypes := #[t, t] })
    (tad : Option Addr) (cap : Nat) (l : List α) (hs : a.eval s = .slice tad l.length cap) (own : OwnG e size cs w tad cap l)
    (g c : Nat) (b : α) (hx : a.eval x = .slice (some ⟨g, 0, none⟩) 1 c) (hc : ∀ j u, (cs b)[j]? = some u → w.cell? ⟨g, j, none⟩ = some u) (hb : l.length ≤ 1000000)
    (h : ∀ t' c' w' ys, Hid (ys = l ++ [b]) → OwnG e size cs w' t' c' ys → Off (fun c => blk tad = some c) w w' → (blk t' = blk tad ∨ blk t' = some w.heap.size) → wpList Try.prog ops Q rest (a.put o.dst (.slice t' ys.length c')) w') :
    wpList Try.prog ops Q (o :: rest) a w := by
  obtain ⟨i0, hi, hz0, hz1, hz2⟩ := info_parts hinfo
  have hbm : (l.length + 1) * bytes ≤ 140737488355328 := Nat.le_trans (Nat.mul_le_mul_left _ hby) (by omega)
  refine wpList_append_own_at w hgd s x t ho 0 e i0 z size bytes hu hi hz0 hz1 hz2 hz hsz _ _ _ hs own.row ⟨g, 0, none⟩ 1 c (cs b) hx (by rw [hcs]; simp) (fun j u hj => by rw [add_lit, Nat.zero_add]; exact hc j u hj) (h1 b) (by unfold maxLen; omega) hbm (Nat.zero_le _) ?_
  intro v' w' own' grow' hnil hat
  obtain ⟨t', c', rfl⟩ : ∃ t' c', v' = .slice t' (l ++ [b]).length c' := by
    rcases own'.2 with ⟨-, h0⟩ | ⟨g, c, cur, hv, -⟩
    · omega
    · exact ⟨_, _, by simpa using hv⟩
  rw [blk_own, blk_own] at hat
  rw [blk_own] at grow'
  refine h t' c' w' _ (show l ++ [b] = l ++ [b] from rfl) ⟨?_⟩ ((Off.refl _ w).grown grow' (fun k hk => .inl hk)) hat
  simpa using own'

/-- Bytes, and where they lie. -/
structure B where
  ad : Option Addr
  cap : Nat
  data : List Nat
def bcs (b : B) : List Value := [.slice b.ad b.data.length b.cap]
theorem bcs_len (b : B) : (bcs b).length = 1 := rfl
theorem bcs_one (b : B) : ∀ u ∈ bcs b, u.oneCell' = true := by simp [bcs, Value.oneCell']
theorem Try.infoBs : (Try.prog.info? 51).map (fun i => (i.zero, i.size, i.bytes)) = some (some (.slice none 0 0), 1, 24) := by kernel_rfl
/-- The bytes of the values that live. -/
def liveA (l : List A) : List (List Nat) := (l.filter fun x => !x.dead).map A.data
theorem live_step {l : List V} {n : Nat} {v : V} (h : l[n]? = some v) : liveA (cont (l.take (n + 1))) = liveA (cont (l.take n)) ++ (if v.dead then [] else [v.data]) := by
  obtain ⟨hn, e⟩ := List.getElem?_eq_some_iff.1 h
  have : l.take (n + 1) = l.take n ++ [v] := by rw [List.take_add_one, h]; rfl
  rw [this, cont_append]
  cases hd : v.dead <;> simp [liveA, cont, V.abs, hd]

theorem isLive_any (v : V) (w : World) : Calls Try.prog 29 #[.agg #[.int .i64 v.node, .int .i64 v.num, .slice v.ad v.data.length v.cap, .bool v.dead]] w fun e w' => e = .returned (.bool (!v.dead)) ∧ Off (fun _ => False) w w' := by
  have hnot := not_any
  go_enter Try.func29, Try.ntmps29
  go_wp2_with fail
  go_ret
  exact ⟨rfl, (Off.refl _ w).alloc _⟩

set_option maxRecDepth 100000 in
set_option maxHeartbeats 2000000 in
theorem slive_any (f : Nat → Int) (a : Option Addr) (cap : Nat) (l : List V) (w : World) (hr : Row w a cap l) :
    Calls Try.prog 17 #[.agg #[.int .i64 (f 0), .int .i64 (f 1), .int .i64 (f 2), .int .i64 (f 3), .int .i64 (f 4), .int .i64 (f 5), .int .i64 (f 6), .int .i64 (f 7), .slice a l.length cap]] w fun e w' => ∃ (t : Option Addr) (c : Nat) (bl : List B), e = .returned (.slice t bl.length c) ∧ OwnG 51 1 bcs w' t c bl ∧ (∀ b ∈ bl, Src w' b.ad b.cap b.data ∧ ∀ x ∈ b.data, x < 256) ∧ bl.map B.data = (if mayS f (cont l) = true then liveA (cont l) else []) ∧ Off (fun _ => False) w w' := by
  have hnot := not_any
  have B0 := Cel.new w 27 #[.int .i64 (f 0), .int .i64 (f 1), .int .i64 (f 2), .int .i64 (f 3), .int .i64 (f 4), .int .i64 (f 5), .int .i64 (f 6), .int .i64 (f 7), .slice a l.length cap]
  have O0 : Off (fun _ => False) w (w.alloc (.cells #[.int .i64 (f 0), .int .i64 (f 1), .int .i64 (f 2), .int .i64 (f 3), .int .i64 (f 4), .int .i64 (f 5), .int .i64 (f 6), .int .i64 (f 7), .slice a l.length cap] 27)) := (Off.refl _ w).alloc _
  have R0 := hr.off O0
  have HW : Hid (∃ W, w.alloc (.cells #[.int .i64 (f 0), .int .i64 (f 1), .int .i64 (f 2), .int .i64 (f 3), .int .i64 (f 4), .int .i64 (f 5), .int .i64 (f 6), .int .i64 (f 7), .slice a l.length cap] 27) = W) := ⟨_, rfl⟩
  obtain ⟨W, hW⟩ := HW.out
  rw [hW] at B0 O0 R0
  obtain ⟨x0, x1, x2, x3, x4, x5, x6, x7, x8⟩ := cel9 B0
  have HB0 : Hid _ := B0
  have HO0 : Hid _ := O0
  have HR0 : Hid _ := R0
  have HWW : Hid _ := hW
  have HRW : Hid _ := hr
  clear B0 O0 R0 hr HW hW
  cases hm : mayS f (cont l)
  · go_enter Try.func17, Try.ntmps17
    go_wp2_with fail
    rw [HWW.out]
    refine (smay_any f a cap l W HR0.out).mono ?_
    rw [hm]
    rintro e w1 ⟨rfl, o1⟩
    go_wp2_with fail
    go_ret
    exact ⟨none, 0, [], rfl, OwnG.nil _ _ _ _, by simp, by simp, HO0.out.trans o1 (fun _ _ h => h)⟩
  have hl : l.length ≤ 16 := by have := (may_iff.1 hm).few; rwa [cont_len] at this
  go_enter Try.func17, Try.ntmps17
  go_wp2_with fail
  rw [HWW.out]
  refine (smay_any f a cap l W HR0.out).mono ?_
  rw [hm]
  rintro e w1 ⟨rfl, o1⟩
  have B1 := HB0.out.off o1 (fun h => h)
  have O1 := HO0.out.trans o1 (fun _ _ h => h)
  have c8 : w1.cell? ⟨w.heap.size, 8, none⟩ = some (.slice a l.length cap) := B1.cell 8
  have HO1 : Hid _ := O1
  clear B1 O1 o1 x0 x1 x2 x3 x4 x5 x6 x7 x8 HB0 HO0 HR0 HWW
  go_wp2_with fail
  go_loopw [3, 12] (fun x y wr => ∃ (n : Nat) (t : Option Addr) (c : Nat) (bl : List B), y = .int .i64 (n : Int) ∧ x = .slice t bl.length c ∧ n ≤ l.length ∧ bl.length ≤ n ∧ OwnG 51 1 bcs wr t c bl ∧ (∀ k, blk t = some k → w.heap.size ≤ k) ∧ (∀ b ∈ bl, OwnR wr b.ad b.cap b.data ∧ (∀ k, blk b.ad = some k → w.heap.size ≤ k ∧ blk t ≠ some k) ∧ ∀ x ∈ b.data, x < 256) ∧ bl.map B.data = liveA (cont (l.take n)) ∧ Off (fun _ => False) w wr) (fun _ y _ => (l.length - intOf y).toNat)
  case atStart => exact ⟨0, none, 0, [], rfl, rfl, by omega, by simp, OwnG.nil _ _ _ _, fun k hk => by simp [blk] at hk, by simp, by simp [liveA, cont], HO1.out⟩
  case round =>
    clear HO1 c8
    obtain ⟨n, t, c, bl, rfl, rfl, hn, hbn, own, hlo, hbl, hdat, O⟩ := hrel
    have hr1 := HRW.out.off O
    have HOWN : Hid _ := own
    have HLO : Hid _ := hlo
    have HBL : Hid _ := hbl
    have HDA : Hid _ := hdat
    clear own hlo hbl hdat
    by_cases hlt : n < l.length
    · have e1 : decide ((n : Int) < (l.length : Int)) = true := decide_eq_true (by omega)
      have e2 : decide (n < l.length) = true := decide_eq_true hlt
      obtain ⟨v, hv⟩ : ∃ v, l[n]? = some v := ⟨_, List.getElem?_eq_getElem hlt⟩
      obtain ⟨b, off, rfl, k, hvo⟩ := hr1.at_ n v hv
      obtain ⟨k0, k1, k2, k3⟩ := k
      have hst := live_step hv
      have C1 := Cel.new wr 53 #[.int .i64 v.node, .int .i64 v.num, .slice v.ad v.data.length v.cap, .bool v.dead]
      have O1 : Off (fun _ => False) wr (wr.alloc (.cells #[.int .i64 v.node, .int .i64 v.num, .slice v.ad v.data.length v.cap, .bool v.dead] 53)) := (Off.refl _ wr).alloc _
      have HST : Hid _ := hst
      have HVO : Hid _ := hvo
      have HO : Hid _ := O
      clear hst hvo hr1 O hv
      go_wp2_with fail
      generalize hz : wr.heap.size = Z at C1 ⊢
      generalize hw1 : wr.alloc (.cells #[.int .i64 v.node, .int .i64 v.num, .slice v.ad v.data.length v.cap, .bool v.dead] 53) = W1 at C1 O1 ⊢
      have HZ : Hid _ := hz
      have HC1 : Hid _ := C1
      have HO1 : Hid _ := O1
      clear hw1 k0 k1 k2 k3 C1 O1 hz
      refine (isLive_any v _).mono ?_
      rintro e w2 ⟨rfl, o2⟩
      have O2 := HO1.out.trans o2 (fun _ _ h => h)
      have C2 := HC1.out.off o2 (fun h => h)
      cases hd : v.dead
      · obtain ⟨x0, x1, x2, x3⟩ := cel4 C2
        clear x3 C2
        have hs2 := HVO.out.src.off O2 (fun _ _ _ h => h)
        have HHD : Hid _ := hd
        clear hd
        have HO2 : Hid _ := O2
        clear O2 o2
        go_wp2_with fail
        refine (bclone_any v.ad v.cap v.data (by have := HVO.out.len; omega) _ hs2).mono ?_
        rintro e w3 ⟨td, cd, rfl, ownd, hnd, o3⟩
        have O3 := HO2.out.trans o3 (fun _ _ h => h)
        have HOD : Hid _ := ownd
        have HND : Hid _ := hnd
        have HO3 : Hid _ := O3
        clear hs2 x0 x1 x2 ownd hnd o3 O3
        have OA : Off (fun _ => False) w3 (w3.alloc (.cells #[.slice td v.data.length cd] 51)) := (Off.refl _ w3).alloc _
        have O4 := HO3.out.trans OA (fun _ _ h => h)
        have own4 := HOWN.out.off O4 (fun _ _ _ h => h)
        have cn := Cel.new w3 51 #[.slice td v.data.length cd]
        have hcn : ∀ j u, (bcs ⟨td, cd, v.data⟩)[j]? = some u → (w3.alloc (.cells #[.slice td v.data.length cd] 51)).cell? ⟨w3.heap.size, j, none⟩ = some u := fun j u hj => by
          rw [cn.cell j]
          simpa [bcs] using hj
        have HO4 : Hid _ := O4
        have HOA : Hid _ := OA
        clear O4 OA cn
        go_wp2_with (at_builtin; refine wpList_appG rfl (.tmp 18) (.tmp 22) Try.underlying46 Try.infoBs rfl (by decide) (by decide) bcs_len bcs_one rfl t c bl rfl own4 w3.heap.size 1 ⟨td, cd, v.data⟩ rfl hcn (by omega) ?_; intro t' c' w' ys hys own' off' at')
        have HYS : Hid _ := hys.out
        have hyl : ys.length = bl.length + 1 := by rw [hys.out]; simp
        have HYL : Hid _ := hyl
        clear hys hyl
        have HOW' : Hid _ := own'
        have HOF' : Hid _ := off'
        clear own' off' own4 hcn
        go_wp2_with fail
        go_roundw
        case rel =>
          have hyl := HYL.out
          have s3 := HO3.out.size
          have s4 := HO4.out.size
          simp only [World.size_alloc] at s4 at'
          have so := HO.out.size
          have tf : ∀ k, blk t' = some k → w.heap.size ≤ k := fun k hk => by
            rcases at' with h9 | h9
            · exact HLO.out k (h9 ▸ hk)
            · rw [h9] at hk; simp at hk; omega
          have old : ∀ b ∈ bl, ∀ k, blk b.ad = some k → blk t' ≠ some k := fun b hb k hk e => by
            rcases at' with h9 | h9
            · exact ((HBL.out b hb).2.1 k hk).2 (h9 ▸ e)
            · rw [h9] at e
              simp at e
              have := (HBL.out b hb).1.lt k hk
              omega
          have hnd : ∀ k, blk td = some k → wr.heap.size ≤ k ∧ k < w3.heap.size := fun k hk => ⟨Nat.le_trans HO2.out.size (HND.out k hk), HOD.out.lt k hk⟩
          have hnt : ∀ k, blk td = some k → blk t ≠ some k := fun k hk e => by
            have h1 := (hnd k hk).1
            have h2 := HOWN.out.lt k e
            omega
          refine ⟨n + 1, t', c', ys, by go_num, rfl, by omega, by omega, HOW'.out, tf, fun b hb => ?_, ?_, (HO.out.trans HO4.out (fun _ _ h => h)).trans HOF'.out (fun i hi e => by have := HLO.out i e; omega)⟩
          · rw [HYS.out, List.mem_append, List.mem_singleton] at hb
            rcases hb with hb | rfl
            · exact ⟨((HBL.out b hb).1.off HO4.out (fun _ _ _ h => h)).off HOF'.out (fun c _ hc e => ((HBL.out b hb).2.1 c hc).2 e), fun k hk => ⟨((HBL.out b hb).2.1 k hk).1, old b hb k hk⟩, (HBL.out b hb).2.2⟩
            · refine ⟨(HOD.out.off HOA.out (fun _ _ _ h => h)).off HOF'.out (fun c _ hc e => hnt c hc e), fun k hk => ⟨?_, fun e => ?_⟩, HVO.out.lt⟩
              · have := (hnd k hk).1
                omega
              · rcases at' with h9 | h9
                · exact hnt k hk (h9 ▸ e)
                · rw [h9] at e
                  simp at e
                  have := (hnd k hk).2
                  omega
          · rw [HYS.out, List.map_append, HDA.out, HST.out, HHD.out]
            simp
        case measure => simp [intOf]; omega
      · have HO2 : Hid _ := O2
        clear C2 O2 o2
        go_wp2_with fail
        go_roundw
        case rel => exact ⟨n + 1, t, c, bl, by go_num, rfl, by omega, by omega, HOWN.out.off HO2.out (fun _ _ _ h => h), HLO.out, fun x hx => ⟨(HBL.out x hx).1.off HO2.out (fun _ _ _ h => h), (HBL.out x hx).2⟩, by rw [HDA.out, HST.out, hd]; simp, HO.out.trans HO2.out (fun _ _ h => h)⟩
        case measure => simp [intOf]; omega
    · obtain rfl : n = l.length := by omega
      have e1 : decide ((l.length : Int) < (l.length : Int)) = false := decide_eq_false (by omega)
      have e2 : decide (l.length < l.length) = false := decide_eq_false (by omega)
      go_wp2_with fail
      go_ret
      refine ⟨t, c, bl, rfl, HOWN.out, fun x hx => ⟨(HBL.out x hx).1.src, (HBL.out x hx).2.2⟩, ?_, O⟩
      rw [HDA.out, List.take_length]
end Go.Proofs.Ytbagahlphnafdab
