/- The keys in order; the contracts of entries, All, Bucket. -/
import Derived.Test.YtbagahlphnafdaaTop
import Derived.Test.YtbagahlphnafdaaIter
import Derived.Test.YtbagahlphnafdaaBkt
import Derived.Test.YtbagahlphnafdaaLiv
namespace Go.Proofs.Ytbagahlphnafdaa
open Go.RowKit

theorem before_lt : ∀ {a b : List UInt8}, bytesBefore a b = true → a < b
  | [], [], h => by simp [bytesBefore] at h
  | [], _ :: _, _ => List.nil_lt_cons _ _
  | _ :: _, [], h => by simp [bytesBefore] at h
  | x :: r, y :: s, h => by
    simp only [bytesBefore, Bool.or_eq_true, Bool.and_eq_true, decide_eq_true_eq, beq_iff_eq] at h
    rw [List.cons_lt_cons_iff]
    rcases h with h | ⟨h1, h2⟩
    · exact .inl h
    · exact .inr ⟨h1, before_lt h2⟩
theorem sorted_keys {t : List E} (h : Sor E.key t) {ss : List (List UInt8)} (hp : ss.Perm (strKeys (datum t))) : ss.mergeSort (fun x y => decide (x ≤ y)) = t.map fun e => kb e.key := by
  rw [strKeys_datum] at hp
  refine (mergeSort_of_perm hp).trans ?_
  refine List.mergeSort_of_pairwise ?_
  rw [List.pairwise_map]
  refine List.Pairwise.imp (fun {x y} hxy => ?_) h
  exact decide_eq_true (List.le_of_lt (before_lt hxy))
theorem enc_kb (k : ByteArray) : encStr (kb k) = .string k := by
  obtain ⟨⟨l⟩⟩ := k
  rfl
theorem keys_any (b : Nat) (w : World) : Calls Try.prog 59 #[.map (some b)] w fun e w' => e = .returned (.func (.func 77) #[] #[.pointer (some ⟨w.heap.size, 0, none⟩)]) ∧ w' = w.alloc (.cells #[.map (some b)] 60) :=
  callsIn_wide.1 (Try.maps_Keys_59 (some b) w)
theorem sorted_any (p b : Nat) (t : List E) (w : World) (h : Tab p b t w) :
    Calls Try.prog 58 #[.func (.func 77) #[] #[.pointer (some ⟨w.heap.size, 0, none⟩)]] (w.alloc (.cells #[.map (some b)] 60)) fun e w' => ∃ a c, e = .returned (.slice a t.length c) ∧ (∀ i x, t[i]? = some x → ∃ g, a = some ⟨g, 0, none⟩ ∧ w'.cell? ⟨g, i, none⟩ = some (.string x.key)) ∧ Off (fun _ => False) (w.alloc (.cells #[.map (some b)] 60)) w' := by
  have hf := h.few
  refine (callsIn_wide.1 (Try.slices_Sorted_keys_58_59 b t.length (datum t) hR w h.own (by rw [size_datum]; unfold maxLen; omega) (by rw [size_datum]; omega))).mono ?_
  rintro e w' ⟨v, ss, rfl, hp, hrow, hnil, hb⟩
  rw [sorted_keys h.sor hp] at hrow
  have hl : ss.length = t.length := by
    have := hp.length_eq
    rw [strKeys_datum, List.length_map] at this
    exact this
  rw [hl] at hrow
  have off : Off (fun _ => False) (w.alloc (.cells #[.map (some b)] 60)) w' := ⟨hb.os, hb.tape, hb.output, hb.size, fun k hk _ => hb.block k hk⟩
  have hv : ∃ a c, v = .slice a t.length c := by
    rcases hrow.2 with ⟨e, h0⟩ | ⟨g, c, cur, e, -⟩
    · exact ⟨none, 0, by rw [h0]; exact e⟩
    · exact ⟨_, _, e⟩
  obtain ⟨a, c, rfl⟩ := hv
  refine ⟨a, c, rfl, fun i x hx => ?_, off⟩
  rcases hrow.2 with ⟨e, h0⟩ | ⟨g, c', cur, e, -⟩
  · rw [List.eq_nil_of_length_eq_zero h0] at hx
    simp at hx
  · simp only [Value.slice.injEq] at e
    obtain ⟨rfl, -, rfl⟩ := e
    refine ⟨g, rfl, ?_⟩
    have := World.ownsRow.cells hrow (g := g) rfl i (.string x.key) (by
      rw [List.map_map, List.getElem?_map, hx]
      show some (encStr (kb x.key)) = _
      rw [enc_kb])
    rw [add_lit, Nat.zero_add] at this
    exact this
theorem idx_strs {m n : Nat} (h : n < m) (c g : Nat) (W : World) : (Instr.indexAt 23 (.slice (some ⟨g, 0, none⟩) m c) (.int .i64 (n : Int))).run Try.prog W = .ok (.pointer (some ⟨g, n, none⟩)) W := by
  go_simp

/-- An entry's cells. -/
def ecs (e : E) : List Value := [.string e.key, .int .i64 (e.f 0), .int .i64 (e.f 1), .int .i64 (e.f 2), .int .i64 (e.f 3), .int .i64 (e.f 4), .int .i64 (e.f 5), .int .i64 (e.f 6), .int .i64 (e.f 7), .slice e.a e.l.length e.cap]
theorem ecs_len (e : E) : (ecs e).length = 10 := rfl
theorem ecs_one (e : E) : ∀ u ∈ ecs e, u.oneCell' = true := by simp [ecs, Value.oneCell']
theorem Try.infoE : (Try.prog.info? 37).map (fun i => (i.zero, i.size, i.bytes)) = some (some (.agg #[.string ⟨#[]⟩, .int .i64 0, .int .i64 0, .int .i64 0, .int .i64 0, .int .i64 0, .int .i64 0, .int .i64 0, .int .i64 0, .slice none 0 0]), 10, 104) := by kernel_rfl
theorem get_at {t : List E} (h : Sor E.key t) {n : Nat} {x : E} (hx : t[n]? = some x) : getE t x.key = x := by
  unfold getE
  rw [(fnd_some E.key h).2 ⟨List.mem_of_getElem? hx, rfl⟩]
  rfl
theorem snoc_abs (es : List E) (x : E) : absE (es ++ [x]) = absE es ++ [x.abs] := by simp [absE]
theorem flt_step (f : K → Bool) {t : List E} {n : Nat} {x : E} (hx : t[n]? = some x) : (absE (t.take (n + 1))).filter f = (absE (t.take n)).filter f ++ (if f x.abs = true then [x.abs] else []) := by
  rw [List.take_add_one, hx]
  show (absE (t.take n ++ [x])).filter f = _
  rw [snoc_abs, List.filter_append]
  simp [List.filter_cons]
/-- A row, and the bytes of its values, lie apart from another row. -/
structure Apt (to : Option Addr) (a : Option Addr) (l : List V) : Prop where
  row : l ≠ [] → ∀ c, blk a = some c → blk to ≠ some c
  val : ∀ v ∈ l, v.data ≠ [] → ∀ c, blk v.ad = some c → blk to ≠ some c
theorem src_lt {w : World} {t : Option Addr} {c : Nat} {bs : List Nat} (h : Src w t c bs) (hb : bs ≠ []) : ∀ x, blk t = some x → x < w.heap.size := by
  rcases h.is with ⟨-, e, -⟩ | ⟨ad, rfl, h0⟩
  · exact absurd e hb
  · intro x hx
    cases bs with
    | nil => exact absurd rfl hb
    | cons y r =>
      have h1 := h0 0 _ rfl
      have h2 := cell_lt h1
      rw [add_block] at h2
      simp [blk] at hx
      omega
theorem Src.offX {D : Nat → Prop} {w w' : World} {t : Option Addr} {c : Nat} {bs : List Nat} (h : Src w t c bs) (o : Off D w w') (hD : bs ≠ [] → ∀ x, blk t = some x → ¬ D x) : Src w' t c bs := by
  rcases h.is with e | ⟨ad, rfl, h0⟩
  · exact ⟨.inl e⟩
  · refine ⟨.inr ⟨ad, rfl, fun j u hj => ?_⟩⟩
    have h1 := h0 j u hj
    rw [← h1]
    refine World.cell?_of_block (o.block _ (cell_lt h1) (hD (fun e => ?_) _ (by rw [add_block]; rfl)))
    rw [e] at hj
    simp [vl] at hj
theorem Apt.row_off {to a : Option Addr} {cap : Nat} {l : List V} {w w' : World} (h : Apt to a l) (hr : Row w a cap l) (o : Off (fun c => blk to = some c) w w') : Row w' a cap l :=
  ⟨hr.len, hr.bound, fun i v hi => by
    obtain ⟨b, off, e, h1, h2⟩ := hr.at_ i v hi
    exact ⟨b, off, e, h1.off o (fun _ => h.row (fun e => by rw [e] at hi; simp at hi) b (by rw [e]; rfl)), ⟨h2.src.offX o (h.val v (List.mem_of_getElem? hi)), h2.lt, h2.n0, h2.n1, h2.m0, h2.m1, h2.len⟩⟩⟩
theorem Apt.step {to to' a : Option Addr} {cap N : Nat} {l : List V} {w : World} (h : Apt to a l) (hr : Row w a cap l) (hN : w.heap.size ≤ N) (hat : blk to' = blk to ∨ blk to' = some N) : Apt to' a l := by
  refine ⟨fun hl c hc e => ?_, fun v hv hd c hc e => ?_⟩
  · rcases hat with k | k
    · exact h.row hl c hc (k ▸ e)
    · cases l with
      | nil => exact hl rfl
      | cons v r =>
        obtain ⟨b, off, ea, h1, -⟩ := hr.at_ 0 v rfl
        have := h1.lt
        rw [ea] at hc
        rw [k] at e
        simp [blk] at hc e
        omega
  · rcases hat with k | k
    · exact h.val v hv hd c hc (k ▸ e)
    · have := src_lt (hr.ok v hv).src hd c hc
      rw [k] at e
      simp at e
      omega
theorem all1_any (k : ByteArray) (w : World) : Calls Try.prog 37 #[.string k] w fun e w' => e = .returned (.bool true) ∧ Off (fun _ => False) w w' := by
  go_enter Try.func37, Try.ntmps37
  go_wp2_with fail
  go_ret
  exact ⟨rfl, Off.refl _ w⟩
set_option maxRecDepth 100000 in
theorem bkt1_any (k : ByteArray) (hk : k.size ≤ 1000000) (bb : Int) (q : Nat) (w : World) (hq : Cel q 3 #[.int .i64 bb] w) : Calls Try.prog 38 #[.string k, .pointer (some ⟨q, 0, none⟩)] w fun e w' => e = .returned (.bool (decide (((bkt (tx k) : Nat) : Int) = bb))) ∧ Off (fun _ => False) w w' := by
  have HQ : Hid _ := hq
  clear hq
  go_enter Try.func38, Try.ntmps38
  go_wp2_with fail
  refine wp_region_held_drew (S := fun w' => Off (fun _ => False) w w') (by kernel_rfl) ((Off.refl _ w).drew) (fun hS => ?_)
  refine take_at (i := 0) 4 (v := .string k) rfl rfl (by kernel_rfl) (by kernel_rfl) (by kernel_rfl) (fun _ _ _ h => h) (Or.inl ⟨by rfl, fun w' hw' => by go_simp⟩) hS ?_
  simp only [Act.put, List.setIfInBounds_toArray, List.set_cons_zero, List.set_cons_succ]
  refine take_at (i := 2) 6 (v := .int .i64 bb) rfl rfl (by kernel_rfl) (by kernel_rfl) (by kernel_rfl) (fun _ _ _ h => h) (Or.inl ⟨by rfl, fun w' hw' => by have e := (HQ.out.off hw' (fun h => h)).cell 0; simp only [List.getElem?_toArray, List.getElem?_cons_zero] at e; go_simp⟩) hS ?_
  simp only [Act.put, List.setIfInBounds_toArray, List.set_cons_zero, List.set_cons_succ]
  refine wpAnyH_ready (rs := [1]) (by kernel_rfl) (by simp) ?_
  refine AllReadyH.cons rfl (fun K' hK' => ?_) AllReadyH.nil
  go_simp
  refine (bucket_any k (by omega) _).mono ?_
  rintro e v1 ⟨rfl, hv1⟩
  rw [hv1]
  refine hK'.out _ _ hS (fun hS => ?_)
  clear hK' K' hv1 v1
  refine take_at (i := 3) 7 (v := .bool (decide (((bkt (tx k) : Nat) : Int) = bb))) rfl rfl (by kernel_rfl) (by kernel_rfl) (by kernel_rfl) (fun _ _ _ h => h) (Or.inl ⟨by rfl, fun w' hw' => by go_simp; rw [Bool.eq_iff_iff]; simp⟩) hS ?_
  simp only [Act.put, List.setIfInBounds_toArray, List.set_cons_zero, List.set_cons_succ]
  refine take_at (i := 4) 3 (v := .bool (decide (((bkt (tx k) : Nat) : Int) = bb))) rfl rfl (by kernel_rfl) (by kernel_rfl) (by kernel_rfl) (fun _ _ _ h => h) (Or.inl ⟨by rfl, fun w' hw' => by go_simp⟩) hS ?_
  simp only [Act.put, List.setIfInBounds_toArray, List.set_cons_zero, List.set_cons_succ]
  refine wpAnyH_done (by kernel_rfl) ?_ _
  go_wp2_with fail
  go_ret
  exact ⟨rfl, hS⟩

set_option maxRecDepth 100000 in
set_option maxHeartbeats 2000000 in
theorem entries_all (p b : Nat) (t : List E)  (w : World) (h : Tab p b t w) (hb : ∀ e ∈ t, e.l.length ≤ 1000)  :
    Calls Try.prog 36 #[.pointer (some ⟨p, 0, none⟩), .func (.func 37) #[] #[]] w fun e w' => ∃ (a : Option Addr) (c : Nat) (es : List E), e = .returned (.slice a es.length c) ∧ absE es = (absE t).filter (fun _ : K => true) ∧ OwnG 37 10 ecs w' a c es ∧ (∀ e ∈ es, Row w' e.a e.cap e.l) ∧ (∀ x, blk a = some x → w.heap.size ≤ x) ∧ Off (fun _ => False) w w' := by
  have hq0 := eql_ptr
  have c0 : w.cell? ⟨p, 0, none⟩ = some (.map (some b)) := h.cel.cell 0
  have HT : Hid (Tab p b t w) := h
  have HB : Hid (∀ e ∈ t, e.l.length ≤ 1000) := hb
  have _ := True.intro
  clear h hb 
  go_enter Try.func36, Try.ntmps36
  go_wp2_with fail
  refine (keys_any b w).mono ?_
  rintro e w0 ⟨rfl, hw0⟩
  rw [hw0]
  clear hw0 w0 c0
  go_wp2_with fail
  refine (sorted_any p b t w HT.out).mono ?_
  rintro e wS ⟨ak, ck, rfl, hks, o1⟩
  have O1 : Off (fun _ => False) w wS := ((Off.refl _ w).alloc _).trans o1 (fun _ _ h => h)
  have HKS : Hid _ := hks
  have HOS : Hid _ := O1
  have HTS : Hid _ := HT.out.free O1
  clear hks O1 o1
  go_wp2_with fail
  go_loopw [5, 17] (fun y z wr => ∃ (n : Nat) (to : Option Addr) (co : Nat) (es : List E), y = .slice to es.length co ∧ z = .int .i64 (n : Int) ∧ n ≤ t.length ∧ absE es = (absE (t.take n)).filter (fun _ : K => true) ∧ OwnG 37 10 ecs wr to co es ∧ (∀ e ∈ es, Row wr e.a e.cap e.l ∧ Apt to e.a e.l) ∧ (∀ x, blk to = some x → wS.heap.size ≤ x) ∧ Off (fun _ => False) wS wr) (fun _ z _ => (t.length - intOf z).toNat)
  case atStart =>
    exact ⟨0, none, 0, [], rfl, rfl, by omega, rfl, OwnG.nil _ _ _ _, fun e he => by simp at he, fun x hx => by simp [blk] at hx, Off.refl _ wS⟩
  case round =>
    obtain ⟨n, to, co, es, rfl, rfl, hn, hes, hog, hrs, hnw, O⟩ := hrel
    have HEL : Hid (es.length ≤ 256) := by
      have e1 := congrArg List.length hes
      have e2 := List.length_filter_le (fun _ : K => true) (absE (t.take n))
      have e3 := HT.out.few
      rw [absE_len] at e1 e2
      rw [List.length_take] at e2
      show _ ≤ _
      omega
    have HES : Hid _ := hes
    have HOG : Hid _ := hog
    have HRS : Hid _ := hrs
    have HNW : Hid _ := hnw
    have HO : Hid _ := O
    clear hes hog hrs hnw O
    have hfew := HT.out.few
    by_cases hlt : n < t.length
    · have e1 : decide ((n : Int) < (t.length : Int)) = true := decide_eq_true (by omega)
      have e2 : decide (n < t.length) = true := decide_eq_true hlt
      obtain ⟨x, hx⟩ : ∃ x, t[n]? = some x := ⟨_, List.getElem?_eq_getElem hlt⟩
      obtain ⟨gk, rfl, hk⟩ := HKS.out n x hx
      have hxs : x.key.size ≤ 32 := HT.out.len x (List.mem_of_getElem? hx)
      have kc : wr.cell? ⟨gk, n, none⟩ = some (.string x.key) := by
        rw [← hk]
        exact World.cell?_of_block (a := ⟨gk, n, none⟩) (HO.out.block gk (cell_lt hk) (fun h => h))
      have hix := idx_strs hlt ck gk
      clear hk
      go_wp2_with fail
      refine (all1_any x.key _).mono ?_
      rintro e w1 ⟨rfl, o2⟩
      have O1 := HO.out.trans o2 (fun _ _ h => h)
      have HO1 : Hid _ := O1
      have HT1 : Hid _ := HTS.out.free O1
      have HOG1 : Hid _ := HOG.out.off o2 (fun _ _ _ h => h)
      have HRS1 : Hid (∀ e ∈ es, Row w1 e.a e.cap e.l ∧ Apt to e.a e.l) := fun e he => ⟨(HRS.out e he).1.off o2, (HRS.out e he).2⟩
      clear O1 o2 HOG HRS
      have hlk : (Instr.lookup 60 (.map (some b)) (.string x.key) false).run Try.prog w1 = .ok x.val w1 := by
        have e := HT1.out.look1 (k := x.key) (by unfold maxLen; omega)
        rw [get_at HT1.out.sor hx] at e
        exact e
      unfold E.val at hlk
      have c1 : w1.cell? ⟨p, 0, none⟩ = some (.map (some b)) := HT1.out.cel.cell 0
      go_wp2_with fail
      clear hlk c1
      refine (tcopy_any x.f x.a x.cap x.l _ (HT1.out.row x (List.mem_of_getElem? hx)) (HB.out x (List.mem_of_getElem? hx))).mono ?_
      rintro e w2 ⟨a1, c1, l1, rfl, hc1, hr1, hf1, o2⟩
      have HC1 : Hid _ := hc1
      have HR1 : Hid _ := hr1
      have HF1 : Hid _ := hf1
      have HOG2 : Hid _ := HOG1.out.off o2 (fun _ _ _ h => h)
      have HRS2 : Hid (∀ e ∈ es, Row w2 e.a e.cap e.l ∧ Apt to e.a e.l) := fun e he => ⟨(HRS1.out e he).1.off o2, (HRS1.out e he).2⟩
      have HO2 : Hid _ := HO1.out.trans o2 (fun _ _ h => h)
      have hto : Hid (∀ c, blk to = some c → c < w1.heap.size) := HOG1.out.lt
      clear hc1 hr1 hf1 o2 HT1 HOG1 HRS1 HO1
      have G : Cel w2.heap.size 37 #[.string x.key, .int .i64 (x.f 0), .int .i64 (x.f 1), .int .i64 (x.f 2), .int .i64 (x.f 3), .int .i64 (x.f 4), .int .i64 (x.f 5), .int .i64 (x.f 6), .int .i64 (x.f 7), .slice a1 l1.length c1] (w2.alloc (.cells #[.string x.key, .int .i64 (x.f 0), .int .i64 (x.f 1), .int .i64 (x.f 2), .int .i64 (x.f 3), .int .i64 (x.f 4), .int .i64 (x.f 5), .int .i64 (x.f 6), .int .i64 (x.f 7), .slice a1 l1.length c1] 37)) := Cel.new w2 _ _
      have OA : Off (fun _ => False) w2 (w2.alloc (.cells #[.string x.key, .int .i64 (x.f 0), .int .i64 (x.f 1), .int .i64 (x.f 2), .int .i64 (x.f 3), .int .i64 (x.f 4), .int .i64 (x.f 5), .int .i64 (x.f 6), .int .i64 (x.f 7), .slice a1 l1.length c1] 37)) := (Off.refl _ w2).alloc _
      have G2 : ∀ j u, (ecs ⟨x.key, x.f, a1, c1, l1⟩)[j]? = some u → (w2.alloc (.cells #[.string x.key, .int .i64 (x.f 0), .int .i64 (x.f 1), .int .i64 (x.f 2), .int .i64 (x.f 3), .int .i64 (x.f 4), .int .i64 (x.f 5), .int .i64 (x.f 6), .int .i64 (x.f 7), .slice a1 l1.length c1] 37)).cell? ⟨w2.heap.size, j, none⟩ = some u := fun j u hj => by
        rw [G.cell j, ← hj, List.getElem?_toArray]
        rfl
      have HG2 : Hid _ := G2
      have HOA : Hid _ := OA
      clear G G2 OA
      go_wp2_with (at_builtin; refine wpList_appG (cs := ecs) rfl (.tmp 24) (.tmp 34) Try.underlying22 Try.infoE rfl (by decide) (by decide) ecs_len ecs_one rfl to co es rfl (HOG2.out.off HOA.out (fun _ _ _ h => h)) w2.heap.size 1 ⟨x.key, x.f, a1, c1, l1⟩ rfl HG2.out (by have := HEL.out; omega) ?_; intro to' co' w3 ys hys own3 o3 at3; have HOWN3 : Hid _ := own3; have HO3 : Hid _ := o3; have HAT : Hid _ := at3; clear own3 o3 at3)
      go_roundw
      case rel =>
        have fo : Off (fun c => blk to = some c) w2 w3 := (HOA.out.mono (fun _ _ h => h.elim)).trans HO3.out (fun _ _ h => h)
        have hat : blk to' = blk to ∨ blk to' = some (w2.heap.size + 1) := by
          have e := HAT.out
          simpa [World.size_alloc] using e
        have hap : Apt to a1 l1 := ⟨fun _ c hc e => by have h1 := HF1.out.row c hc; have h2 := hto.out c e; omega, fun v hv _ c hc e => by have h1 := HF1.out.val v hv c hc; have h2 := hto.out c e; omega⟩
        have hsz : wS.heap.size ≤ w2.heap.size := HO2.out.size
        refine ⟨n + 1, to', co', ys, rfl, by go_num, by omega, ?_, HOWN3.out, ?_, ?_, ?_⟩
        · rw [hys.out, snoc_abs, HES.out, flt_step (fun _ : K => true) hx, if_pos rfl]
          show _ ++ [(⟨x.key, x.f, cont l1⟩ : K)] = _ ++ [x.abs]
          rw [HC1.out]
          rfl
        · intro e he
          rw [hys.out, List.mem_append, List.mem_singleton] at he
          rcases he with he | rfl
          · exact ⟨(HRS2.out e he).2.row_off (HRS2.out e he).1 fo, (HRS2.out e he).2.step (HRS2.out e he).1 (by omega) hat⟩
          · exact ⟨hap.row_off HR1.out fo, hap.step HR1.out (by omega) hat⟩
        · intro c hc
          rcases hat with h | h
          · exact HNW.out c (h ▸ hc)
          · rw [h] at hc
            simp at hc
            omega
        · exact HO2.out.trans fo (fun i hi h => by have := HNW.out i h; omega)
      case measure => simp [intOf]; omega
    · obtain rfl : n = t.length := by omega
      have e1 : decide ((t.length : Int) < (t.length : Int)) = false := decide_eq_false (by omega)
      have e2 : decide (t.length < t.length) = false := decide_eq_false (by omega)
      go_wp2_with fail
      go_ret
      exact ⟨to, co, es, rfl, by rw [HES.out, List.take_length], HOG.out, fun e he => (HRS.out e he).1, fun x hx => Nat.le_trans HOS.out.size (HNW.out x hx), HOS.out.trans HO.out (fun _ _ h => h)⟩


set_option maxRecDepth 100000 in
set_option maxHeartbeats 2000000 in
theorem entries_bkt (p b : Nat) (t : List E) (bb : Int) (q : Nat) (w : World) (h : Tab p b t w) (hb : ∀ e ∈ t, e.l.length ≤ 1000) (hq : Cel q 3 #[.int .i64 bb] w) :
    Calls Try.prog 36 #[.pointer (some ⟨p, 0, none⟩), .func (.func 38) #[] #[.pointer (some ⟨q, 0, none⟩)]] w fun e w' => ∃ (a : Option Addr) (c : Nat) (es : List E), e = .returned (.slice a es.length c) ∧ absE es = (absE t).filter (fun e : K => decide (((bkt (tx e.key) : Nat) : Int) = bb)) ∧ OwnG 37 10 ecs w' a c es ∧ (∀ e ∈ es, Row w' e.a e.cap e.l) ∧ (∀ x, blk a = some x → w.heap.size ≤ x) ∧ Off (fun _ => False) w w' := by
  have hq0 := eql_ptr
  have c0 : w.cell? ⟨p, 0, none⟩ = some (.map (some b)) := h.cel.cell 0
  have HT : Hid (Tab p b t w) := h
  have HB : Hid (∀ e ∈ t, e.l.length ≤ 1000) := hb
  have HQ0 : Hid (Cel q 3 #[.int .i64 bb] w) := hq
  clear h hb hq
  go_enter Try.func36, Try.ntmps36
  go_wp2_with fail
  refine (keys_any b w).mono ?_
  rintro e w0 ⟨rfl, hw0⟩
  rw [hw0]
  clear hw0 w0 c0
  go_wp2_with fail
  refine (sorted_any p b t w HT.out).mono ?_
  rintro e wS ⟨ak, ck, rfl, hks, o1⟩
  have O1 : Off (fun _ => False) w wS := ((Off.refl _ w).alloc _).trans o1 (fun _ _ h => h)
  have HKS : Hid _ := hks
  have HOS : Hid _ := O1
  have HTS : Hid _ := HT.out.free O1
  clear hks O1 o1
  go_wp2_with fail
  go_loopw [5, 17] (fun y z wr => ∃ (n : Nat) (to : Option Addr) (co : Nat) (es : List E), y = .slice to es.length co ∧ z = .int .i64 (n : Int) ∧ n ≤ t.length ∧ absE es = (absE (t.take n)).filter (fun e : K => decide (((bkt (tx e.key) : Nat) : Int) = bb)) ∧ OwnG 37 10 ecs wr to co es ∧ (∀ e ∈ es, Row wr e.a e.cap e.l ∧ Apt to e.a e.l) ∧ (∀ x, blk to = some x → wS.heap.size ≤ x) ∧ Off (fun _ => False) wS wr) (fun _ z _ => (t.length - intOf z).toNat)
  case atStart =>
    exact ⟨0, none, 0, [], rfl, rfl, by omega, rfl, OwnG.nil _ _ _ _, fun e he => by simp at he, fun x hx => by simp [blk] at hx, Off.refl _ wS⟩
  case round =>
    obtain ⟨n, to, co, es, rfl, rfl, hn, hes, hog, hrs, hnw, O⟩ := hrel
    have HEL : Hid (es.length ≤ 256) := by
      have e1 := congrArg List.length hes
      have e2 := List.length_filter_le (fun e : K => decide (((bkt (tx e.key) : Nat) : Int) = bb)) (absE (t.take n))
      have e3 := HT.out.few
      rw [absE_len] at e1 e2
      rw [List.length_take] at e2
      show _ ≤ _
      omega
    have HES : Hid _ := hes
    have HOG : Hid _ := hog
    have HRS : Hid _ := hrs
    have HNW : Hid _ := hnw
    have HO : Hid _ := O
    clear hes hog hrs hnw O
    have hfew := HT.out.few
    by_cases hlt : n < t.length
    · have e1 : decide ((n : Int) < (t.length : Int)) = true := decide_eq_true (by omega)
      have e2 : decide (n < t.length) = true := decide_eq_true hlt
      obtain ⟨x, hx⟩ : ∃ x, t[n]? = some x := ⟨_, List.getElem?_eq_getElem hlt⟩
      obtain ⟨gk, rfl, hk⟩ := HKS.out n x hx
      have hxs : x.key.size ≤ 32 := HT.out.len x (List.mem_of_getElem? hx)
      have kc : wr.cell? ⟨gk, n, none⟩ = some (.string x.key) := by
        rw [← hk]
        exact World.cell?_of_block (a := ⟨gk, n, none⟩) (HO.out.block gk (cell_lt hk) (fun h => h))
      have hix := idx_strs hlt ck gk
      clear hk
      go_wp2_with fail
      refine (bkt1_any x.key (by omega) bb q _ (HQ0.out.off (HOS.out.trans HO.out (fun _ _ h => h)) (fun h => h))).mono ?_
      cases hpred : decide (((bkt (tx x.key) : Nat) : Int) = bb)
      · rintro e w1 ⟨rfl, o2⟩
        have O1 := HO.out.trans o2 (fun _ _ h => h)
        have HO1 : Hid _ := O1
        have HT1 : Hid _ := HTS.out.free O1
        have HOG1 : Hid _ := HOG.out.off o2 (fun _ _ _ h => h)
        have HRS1 : Hid (∀ e ∈ es, Row w1 e.a e.cap e.l ∧ Apt to e.a e.l) := fun e he => ⟨(HRS.out e he).1.off o2, (HRS.out e he).2⟩
        clear O1 o2 HOG HRS
        go_wp2_with fail
        go_roundw
        case rel =>
          refine ⟨n + 1, to, co, es, rfl, by go_num, by omega, ?_, HOG1.out, HRS1.out, HNW.out, HO1.out⟩
          have hp : decide (((bkt (tx x.abs.key) : Nat) : Int) = bb) = false := hpred
          rw [HES.out, flt_step (fun e : K => decide (((bkt (tx e.key) : Nat) : Int) = bb)) hx, hp, if_neg (by simp), List.append_nil]
        case measure => simp [intOf]; omega
      · rintro e w1 ⟨rfl, o2⟩
        have O1 := HO.out.trans o2 (fun _ _ h => h)
        have HO1 : Hid _ := O1
        have HT1 : Hid _ := HTS.out.free O1
        have HOG1 : Hid _ := HOG.out.off o2 (fun _ _ _ h => h)
        have HRS1 : Hid (∀ e ∈ es, Row w1 e.a e.cap e.l ∧ Apt to e.a e.l) := fun e he => ⟨(HRS.out e he).1.off o2, (HRS.out e he).2⟩
        clear O1 o2 HOG HRS
        have hlk : (Instr.lookup 60 (.map (some b)) (.string x.key) false).run Try.prog w1 = .ok x.val w1 := by
          have e := HT1.out.look1 (k := x.key) (by unfold maxLen; omega)
          rw [get_at HT1.out.sor hx] at e
          exact e
        unfold E.val at hlk
        have c1 : w1.cell? ⟨p, 0, none⟩ = some (.map (some b)) := HT1.out.cel.cell 0
        go_wp2_with fail
        clear hlk c1
        refine (tcopy_any x.f x.a x.cap x.l _ (HT1.out.row x (List.mem_of_getElem? hx)) (HB.out x (List.mem_of_getElem? hx))).mono ?_
        rintro e w2 ⟨a1, c1, l1, rfl, hc1, hr1, hf1, o2⟩
        have HC1 : Hid _ := hc1
        have HR1 : Hid _ := hr1
        have HF1 : Hid _ := hf1
        have HOG2 : Hid _ := HOG1.out.off o2 (fun _ _ _ h => h)
        have HRS2 : Hid (∀ e ∈ es, Row w2 e.a e.cap e.l ∧ Apt to e.a e.l) := fun e he => ⟨(HRS1.out e he).1.off o2, (HRS1.out e he).2⟩
        have HO2 : Hid _ := HO1.out.trans o2 (fun _ _ h => h)
        have hto : Hid (∀ c, blk to = some c → c < w1.heap.size) := HOG1.out.lt
        clear hc1 hr1 hf1 o2 HT1 HOG1 HRS1 HO1
        have G : Cel w2.heap.size 37 #[.string x.key, .int .i64 (x.f 0), .int .i64 (x.f 1), .int .i64 (x.f 2), .int .i64 (x.f 3), .int .i64 (x.f 4), .int .i64 (x.f 5), .int .i64 (x.f 6), .int .i64 (x.f 7), .slice a1 l1.length c1] (w2.alloc (.cells #[.string x.key, .int .i64 (x.f 0), .int .i64 (x.f 1), .int .i64 (x.f 2), .int .i64 (x.f 3), .int .i64 (x.f 4), .int .i64 (x.f 5), .int .i64 (x.f 6), .int .i64 (x.f 7), .slice a1 l1.length c1] 37)) := Cel.new w2 _ _
        have OA : Off (fun _ => False) w2 (w2.alloc (.cells #[.string x.key, .int .i64 (x.f 0), .int .i64 (x.f 1), .int .i64 (x.f 2), .int .i64 (x.f 3), .int .i64 (x.f 4), .int .i64 (x.f 5), .int .i64 (x.f 6), .int .i64 (x.f 7), .slice a1 l1.length c1] 37)) := (Off.refl _ w2).alloc _
        have G2 : ∀ j u, (ecs ⟨x.key, x.f, a1, c1, l1⟩)[j]? = some u → (w2.alloc (.cells #[.string x.key, .int .i64 (x.f 0), .int .i64 (x.f 1), .int .i64 (x.f 2), .int .i64 (x.f 3), .int .i64 (x.f 4), .int .i64 (x.f 5), .int .i64 (x.f 6), .int .i64 (x.f 7), .slice a1 l1.length c1] 37)).cell? ⟨w2.heap.size, j, none⟩ = some u := fun j u hj => by
          rw [G.cell j, ← hj, List.getElem?_toArray]
          rfl
        have HG2 : Hid _ := G2
        have HOA : Hid _ := OA
        clear G G2 OA
        go_wp2_with (at_builtin; refine wpList_appG (cs := ecs) rfl (.tmp 24) (.tmp 34) Try.underlying22 Try.infoE rfl (by decide) (by decide) ecs_len ecs_one rfl to co es rfl (HOG2.out.off HOA.out (fun _ _ _ h => h)) w2.heap.size 1 ⟨x.key, x.f, a1, c1, l1⟩ rfl HG2.out (by have := HEL.out; omega) ?_; intro to' co' w3 ys hys own3 o3 at3; have HOWN3 : Hid _ := own3; have HO3 : Hid _ := o3; have HAT : Hid _ := at3; clear own3 o3 at3)
        go_roundw
        case rel =>
          have fo : Off (fun c => blk to = some c) w2 w3 := (HOA.out.mono (fun _ _ h => h.elim)).trans HO3.out (fun _ _ h => h)
          have hat : blk to' = blk to ∨ blk to' = some (w2.heap.size + 1) := by
            have e := HAT.out
            simpa [World.size_alloc] using e
          have hap : Apt to a1 l1 := ⟨fun _ c hc e => by have h1 := HF1.out.row c hc; have h2 := hto.out c e; omega, fun v hv _ c hc e => by have h1 := HF1.out.val v hv c hc; have h2 := hto.out c e; omega⟩
          have hsz : wS.heap.size ≤ w2.heap.size := HO2.out.size
          refine ⟨n + 1, to', co', ys, rfl, by go_num, by omega, ?_, HOWN3.out, ?_, ?_, ?_⟩
          · have hp : decide (((bkt (tx x.abs.key) : Nat) : Int) = bb) = true := hpred
            rw [hys.out, snoc_abs, HES.out, flt_step (fun e : K => decide (((bkt (tx e.key) : Nat) : Int) = bb)) hx, hp, if_pos rfl]
            show _ ++ [(⟨x.key, x.f, cont l1⟩ : K)] = _ ++ [x.abs]
            rw [HC1.out]
            rfl
          · intro e he
            rw [hys.out, List.mem_append, List.mem_singleton] at he
            rcases he with he | rfl
            · exact ⟨(HRS2.out e he).2.row_off (HRS2.out e he).1 fo, (HRS2.out e he).2.step (HRS2.out e he).1 (by omega) hat⟩
            · exact ⟨hap.row_off HR1.out fo, hap.step HR1.out (by omega) hat⟩
          · intro c hc
            rcases hat with h | h
            · exact HNW.out c (h ▸ hc)
            · rw [h] at hc
              simp at hc
              omega
          · exact HO2.out.trans fo (fun i hi h => by have := HNW.out i h; omega)
        case measure => simp [intOf]; omega
    · obtain rfl : n = t.length := by omega
      have e1 : decide ((t.length : Int) < (t.length : Int)) = false := decide_eq_false (by omega)
      have e2 : decide (t.length < t.length) = false := decide_eq_false (by omega)
      go_wp2_with fail
      go_ret
      exact ⟨to, co, es, rfl, by rw [HES.out, List.take_length], HOG.out, fun e he => (HRS.out e he).1, fun x hx => Nat.le_trans HOS.out.size (HNW.out x hx), HOS.out.trans HO.out (fun _ _ h => h)⟩

theorem tall_any (p b : Nat) (t : List E) (w : World) (h : Tab p b t w) (hb : ∀ e ∈ t, e.l.length ≤ 1000) :
    Calls Try.prog 17 #[.pointer (some ⟨p, 0, none⟩)] w fun e w' => ∃ (a : Option Addr) (c : Nat) (es : List E), e = .returned (.slice a es.length c) ∧ absE es = absE t ∧ OwnG 37 10 ecs w' a c es ∧ (∀ e ∈ es, Row w' e.a e.cap e.l) ∧ (∀ x, blk a = some x → w.heap.size ≤ x) ∧ Off (fun _ => False) w w' := by
  have HT : Hid _ := h
  clear h
  go_enter Try.func17, Try.ntmps17
  go_wp2_with fail
  refine (entries_all p b t w HT.out hb).mono ?_
  rintro e w1 ⟨a, c, es, rfl, h1, h2, h3, h4, h5⟩
  have HA : Hid _ := h1
  clear h1
  go_wp2_with fail
  go_ret
  exact ⟨a, c, es, rfl, by rw [HA.out]; simp, h2, h3, h4, h5⟩
theorem tbucket_any (p b : Nat) (t : List E) (bb : Int) (w : World) (h : Tab p b t w) (hb : ∀ e ∈ t, e.l.length ≤ 1000) :
    Calls Try.prog 19 #[.pointer (some ⟨p, 0, none⟩), .int .i64 bb] w fun e w' => ∃ (a : Option Addr) (c : Nat) (es : List E), e = .returned (.slice a es.length c) ∧ absE es = (absE t).filter (fun e : K => decide (((bkt (tx e.key) : Nat) : Int) = bb)) ∧ OwnG 37 10 ecs w' a c es ∧ (∀ e ∈ es, Row w' e.a e.cap e.l) ∧ (∀ x, blk a = some x → w.heap.size ≤ x) ∧ Off (fun _ => False) w w' := by
  have hmf : ∀ (fn : Fn) (first cap : Array Value) (w : World), (Instr.makeFunc fn first cap).run Try.prog w = .ok (.func fn first cap) w := fun _ _ _ _ => rfl
  have O : Off (fun _ => False) w (w.alloc (.cells #[.int .i64 bb] 3)) := (Off.refl _ w).alloc _
  have HT : Hid _ := h.free O
  have HO : Hid _ := O
  clear h O
  go_enter Try.func19, Try.ntmps19
  go_wp2_with fail
  refine (entries_bkt p b t bb w.heap.size _ HT.out hb (Cel.new w _ _)).mono ?_
  rintro e w1 ⟨a, c, es, rfl, h1, h2, h3, h4, h5⟩
  have HA : Hid _ := h1
  clear h1
  go_wp2_with fail
  go_ret
  exact ⟨a, c, es, rfl, HA.out, h2, h3, fun x hx => by have := h4 x hx; rw [World.size_alloc] at this; omega, HO.out.trans h5 (fun _ _ h => h)⟩
end Go.Proofs.Ytbagahlphnafdaa
