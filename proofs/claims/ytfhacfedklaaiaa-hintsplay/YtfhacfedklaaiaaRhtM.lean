/- Several texts in one. -/
import Derived.Test.YtfhacfedklaaiaaHptM
import Derived.Test.YtfhacfedklaaiaaGSm
import Derived.Test.YtfhacfedklaaiaaGJoin
import Derived.Test.YtfhacfedklaaiaaGSame
/- The reference's set of hints: in memory, its at. -/
namespace Go.Proofs.Ytfhacfedklaaiaa
open Go.RowKit

/-- The reference's set: q its struct, R its territory. -/
structure RHt (R : Nat → Prop) (q : Nat) (xs : List H) (w : World) : Prop where
  dp : R q
  dlt : ∀ c, R c → c < w.heap.size
  is : ∃ a cap, Cel q 30 #[.slice a xs.length cap] w ∧ OwnG 39 11 hcs w a cap xs ∧ ∀ g, blk a = some g → R g ∧ g ≠ q
  row : ∀ x ∈ xs, Row w x.e.a x.e.cap x.e.l
  ter : ∀ x ∈ xs, Ter (fun c => R c ∧ c ≠ q) x.e.a x.e.l
  ok : OkS (absH xs)
theorem RHt.off {R E : Nat → Prop} {q : Nat} {xs : List H} {w w' : World} (h : RHt R q xs w) (o : Off E w w') (hE : ∀ c, c < w.heap.size → R c → ¬ E c) : RHt R q xs w' := by
  obtain ⟨a, cap, h1, h2, h3⟩ := h.is
  exact ⟨h.dp, fun c hc => Nat.lt_of_lt_of_le (h.dlt c hc) o.size, ⟨a, cap, h1.off o (hE q h1.lt h.dp), h2.off o (fun c hc e => hE c hc (h3 c e).1), h3⟩, fun x hx => (h.row x hx).offT (h.ter x hx) o (fun c hc hd => hE c hc hd.1), h.ter, h.ok⟩
theorem RHt.free {R : Nat → Prop} {q : Nat} {xs : List H} {w w' : World} (h : RHt R q xs w) (o : Off (fun _ => False) w w') : RHt R q xs w' := h.off o (fun _ _ _ h => h)
theorem RHt.lt {R : Nat → Prop} {q : Nat} {xs : List H} {w : World} (h : RHt R q xs w) : q < w.heap.size := h.dlt q h.dp
theorem RHt.sor {R : Nat → Prop} {q : Nat} {xs : List H} {w : World} (h : RHt R q xs w) : Sor H.nk xs := absH_sor.1 h.ok.sor
theorem RHt.few {R : Nat → Prop} {q : Nat} {xs : List H} {w : World} (h : RHt R q xs w) : xs.length ≤ 64 := by
  have := h.ok.few
  rwa [absH_len] at this
/-- What stands while the reference's set is written: all but q; q holds a slice. -/
structure StS (q : Nat) (V w : World) : Prop where
  off : Off (fun c => c = q) V w
  cel : ∃ a n c, Cel q 30 #[.slice a n c] w
theorem StS.step {q : Nat} {V v v' : World} {D : Nat → Prop} (h : StS q V v) (o : Off D v v') (hD : ∀ c, D c → V.heap.size ≤ c) (hq : q < V.heap.size) : StS q V v' := by
  obtain ⟨a, n, c, hc⟩ := h.cel
  exact ⟨(h.off.mono (E := fun c => c = q ∨ D c) (fun _ _ e => .inl e)).trans (o.mono (E := fun c => c = q ∨ D c) (fun _ _ e => .inr e)) (fun _ _ e => e) |>.mono (fun i hi e => e.elim id (fun hd => by have := hD i hd; omega)), a, n, c, hc.off o (fun hd => by have := hD q hd; omega)⟩
theorem StS.free {q : Nat} {V v v' : World} (h : StS q V v) (o : Off (fun _ => False) v v') (hq : q < V.heap.size) : StS q V v' := h.step o (fun _ h => h.elim) hq
theorem StS.put {q : Nat} {V v : World} (h : StS q V v) (a : Option Addr) (n c : Nat) : StS q V (v.setCell ⟨q, 0, none⟩ (.slice a n c)) := by
  obtain ⟨a0, n0, c0, hc⟩ := h.cel
  exact ⟨h.off.setCell (p := ⟨q, 0, none⟩) (.inl rfl) _, a, n, c, hc.set 0 _⟩
theorem add_nil (ad : Addr) : ad.add 0 = ad := by
  obtain ⟨b, o, c⟩ := ad
  rfl
theorem Hns.slh {w : World} {a : Option Addr} {cap : Nat} {l : List H} (h : Hns w a cap l) {k : Nat} (hk : k ≤ l.length) :
    (∀ W, (Instr.slice 28 (.slice a l.length cap) none (some (.int .i64 (k : Int))) none).run Try.prog W = .ok (.slice a (l.take k).length cap) W) ∧ Hns w a cap (l.take k) := by
  have hc := h.len
  have hb := h.bound
  refine ⟨fun W => ?_, ⟨by simp; omega, hb, fun i v hi => ?_⟩⟩
  · rw [run_slice_h (P := Try.prog) (t := 28) (ht := by kernel_rfl) (h0 := by omega) (h2 := by omega), sizeH]
    have e : (l.take k).length = k := by simp; omega
    rw [e]
    cases a <;> simp [Result.andThen, sliced, add_nil]
  · refine h.at_ i v ?_
    rw [List.getElem?_take] at hi
    split at hi
    · exact hi
    · simp at hi
theorem Hns.sll {w : World} {a : Option Addr} {cap : Nat} {l : List H} (h : Hns w a cap l) (hz : a = none → cap = 0) {k : Nat} {kk : Int} (hkk : kk = (k : Int)) (hk : k ≤ l.length) :
    ∃ a', (∀ W, (Instr.slice 28 (.slice a l.length cap) (some (.int .i64 kk)) none none).run Try.prog W = .ok (.slice a' (l.drop k).length (cap - k)) W) ∧ Hns w a' (cap - k) (l.drop k) ∧ (a' = none → cap - k = 0) := by
  subst hkk
  have hc := h.len
  have hb := h.bound
  refine ⟨if cap = k then a else a.map (·.add (k * 11)), fun W => ?_, ⟨by simp; omega, by omega, fun i v hi => ?_⟩, fun e => ?_⟩
  · rw [run_slice_l (P := Try.prog) (t := 28) (ht := by kernel_rfl) (h0 := by omega) (h1 := by omega), sizeH]
    simp [Result.andThen, sliced]
  · obtain ⟨b, off, rfl, h1⟩ := h.at_ (k + i) v (by simpa using hi)
    have hl : k + i < l.length := by
      obtain ⟨h, -⟩ := List.getElem?_eq_some_iff.1 hi
      simp at h
      omega
    rw [if_neg (by omega)]
    refine ⟨b, off + k * 11, by simp [add_lit], ⟨fun j u hj => ?_⟩⟩
    rw [show off + k * 11 + i * 11 = off + (k + i) * 11 by omega]
    exact h1.at_ j u hj
  · split at e
    · omega
    · rw [Option.map_eq_none_iff] at e
      have := hz e
      omega
theorem sll_blk {w : World} {a a' : Option Addr} {cap : Nat} {l : List H} (h : Hns w a cap l) {k : Nat} (hk : k ≤ l.length) {n c : Nat} (hs : ∀ W, (Instr.slice 28 (.slice a l.length cap) (some (.int .i64 (k : Int))) none none).run Try.prog W = .ok (.slice a' n c) W) : ∀ x, blk a' = some x → blk a = some x := by
  have hc := h.len
  have hb := h.bound
  have e := hs w
  rw [run_slice_l (P := Try.prog) (t := 28) (ht := by kernel_rfl) (h0 := by omega) (h1 := by omega), sizeH] at e
  simp [Result.andThen, sliced] at e
  intro x hx
  rw [← e.1] at hx
  split at hx
  · exact hx
  · cases a with
    | none => simp [blk] at hx
    | some ad => simpa [blk, add_block] using hx
theorem Hns.offQ {D : Nat → Prop} {w w' : World} {a : Option Addr} {cap : Nat} {l : List H} (h : Hns w a cap l) (o : Off D w w') (hD : ∀ c, blk a = some c → ¬ D c) : Hns w' a cap l :=
  ⟨h.len, h.bound, fun i v hi => by
    obtain ⟨b, off, e, h1⟩ := h.at_ i v hi
    exact ⟨b, off, e, h1.off o (fun _ => hD b (by rw [e]; rfl))⟩⟩
theorem cel_hns {b : Nat} {v : H} {w : World} (h : Cel b 39 #[.int .i64 v.node, .string v.e.key, .int .i64 (v.e.f 0), .int .i64 (v.e.f 1), .int .i64 (v.e.f 2), .int .i64 (v.e.f 3), .int .i64 (v.e.f 4), .int .i64 (v.e.f 5), .int .i64 (v.e.f 6), .int .i64 (v.e.f 7), .slice v.e.a v.e.l.length v.e.cap] w) : Hns w (some ⟨b, 0, none⟩) 1 [v] := by
  refine ⟨by simp, by omega, fun i u hi => ?_⟩
  cases i with
  | zero =>
    simp at hi
    subst hi
    refine ⟨b, 0, rfl, ⟨fun j u hj => ?_⟩⟩
    rw [Nat.zero_mul, Nat.add_zero, Nat.zero_add]
    rw [h.cell j]
    simpa [hcs] using hj
  | succ i => simp at hi
theorem hless (a b : ByteArray) : Op.bytesLess a.toList b.toList = blt a b := by
  rw [toL, toL]
  unfold blt kb
  generalize a.data.toList = x
  generalize b.data.toList = y
  induction x generalizing y with
  | nil => cases y <;> rfl
  | cons c x ih =>
    cases y with
    | nil => rfl
    | cons d y =>
      show (_ || _) = (_ || _)
      rw [ih]
theorem lss_str {a b : ByteArray} {r : Bool} (h : Op.bytesLess a.toList b.toList = r) (t : TypeId) (w : World) : (binOp .lss t (.string a) (.string b)).run Try.prog w = .ok (.bool r) w := by
  simp [binOp, Op.stringOp, h]
/-- What at tells. -/
def atR (xs : List H) (k : NK) (r : Int) : Prop := (fndG H.nk k xs = none ∧ r = -1) ∨ ∃ (n : Nat) (x : H), r = (n : Int) ∧ xs[n]? = some x ∧ x.nk = k
set_option maxRecDepth 100000 in
set_option maxHeartbeats 1000000 in
theorem rhat_any (R : Nat → Prop) (q : Nat) (xs : List H) (node : Int) (key : ByteArray) (w : World) (h : RHt R q xs w) : Calls Try.prog 32 #[.pointer (some ⟨q, 0, none⟩), .int .i64 node, .string key] w fun e w' => ∃ r : Int, e = .returned (.int .i64 r) ∧ atR xs (node, key) r ∧ Off (fun _ => False) w w' := by
  have hfew := h.few
  obtain ⟨a, cap, h1, h2, -⟩ := h.is
  have c0 : w.cell? ⟨q, 0, none⟩ = some (.slice a xs.length cap) := h1.cell 0
  have HE : Hid _ := h2
  clear h1 h2 h
  go_enter Try.func32, Try.ntmps32
  go_wp2_with fail
  clear c0
  go_loopw [14] (fun y wr => ∃ n : Nat, y = .int .i64 (n : Int) ∧ n ≤ xs.length ∧ (∀ i x, i < n → xs[i]? = some x → x.nk ≠ (node, key)) ∧ Off (fun _ => False) w wr) (fun y _ => (xs.length - intOf y).toNat)
  case atStart => exact ⟨0, rfl, by omega, fun i x hi => by omega, Off.refl _ w⟩
  case round =>
    obtain ⟨n, rfl, hn, hg, O⟩ := hrel
    have HG : Hid _ := hg
    have HO : Hid _ := O
    clear hg O
    by_cases hlt : n < xs.length
    · have e1 : decide ((n : Int) < (xs.length : Int)) = true := decide_eq_true (by omega)
      have e2 : decide (n < xs.length) = true := decide_eq_true hlt
      obtain ⟨x, hx⟩ : ∃ x, xs[n]? = some x := ⟨_, List.getElem?_eq_getElem hlt⟩
      obtain ⟨g, rfl, hat⟩ := (HE.out.off HO.out (fun _ _ _ h => h)).atH hx
      obtain ⟨k0, k1, k2, k3, k4, k5, k6, k7, k8, k9, k10⟩ := hat.cells
      have hix := idx_hin hlt
      clear hat
      go_upto_region 4 with fail
      have Cq6 := Cel.new wr 39 #[.int .i64 x.node, .string x.e.key, .int .i64 (x.e.f 0), .int .i64 (x.e.f 1), .int .i64 (x.e.f 2), .int .i64 (x.e.f 3), .int .i64 (x.e.f 4), .int .i64 (x.e.f 5), .int .i64 (x.e.f 6), .int .i64 (x.e.f 7), .slice x.e.a x.e.l.length x.e.cap]
      have OA : Off (fun _ => False) wr (wr.alloc (.cells #[.int .i64 x.node, .string x.e.key, .int .i64 (x.e.f 0), .int .i64 (x.e.f 1), .int .i64 (x.e.f 2), .int .i64 (x.e.f 3), .int .i64 (x.e.f 4), .int .i64 (x.e.f 5), .int .i64 (x.e.f 6), .int .i64 (x.e.f 7), .slice x.e.a x.e.l.length x.e.cap] 39)) := (Off.refl _ wr).alloc _
      generalize hq : wr.heap.size = q6 at Cq6 ⊢
      generalize hv : wr.alloc (.cells #[.int .i64 x.node, .string x.e.key, .int .i64 (x.e.f 0), .int .i64 (x.e.f 1), .int .i64 (x.e.f 2), .int .i64 (x.e.f 3), .int .i64 (x.e.f 4), .int .i64 (x.e.f 5), .int .i64 (x.e.f 6), .int .i64 (x.e.f 7), .slice x.e.a x.e.l.length x.e.cap] 39) = V6 at Cq6 OA ⊢
      clear hq hv
      clear k0 k1 k2 k3 k4 k5 k6 k7 k8 k9 k10 hix
      have x0 : V6.cell? ⟨q6, 0, none⟩ = some (.int .i64 x.node) := Cq6.cell 0
      have x1 : V6.cell? ⟨q6, 1, none⟩ = some (.string x.e.key) := Cq6.cell 1
      have HO6 : Hid _ := HO.out.trans OA (fun _ _ h => h)
      clear OA Cq6
      have HST : Hid (x.nk ≠ (node, key) → ∀ i z, i < n + 1 → xs[i]? = some z → z.nk ≠ (node, key)) := fun hk i y hi hy => by
        by_cases e : i = n
        · subst e
          rw [hx] at hy
          cases hy
          exact hk
        · exact HG.out i y (by omega) hy
      by_cases hnd : x.node = node
      · have d1 : decide (x.node = node) = true := decide_eq_true hnd
        have HND : Hid _ := hnd
        clear hnd
        by_cases hk : x.e.key = key
        · have kq1 : (x.e.key.toList == key.toList) = true := by rw [hk]; simp
          have kq2 : x.e.key.toList = key.toList := by rw [hk]
          have HK : Hid _ := hk
          clear hk
          go_wp2_with fail
          go_ret
          exact ⟨(n : Int), rfl, .inr ⟨n, x, rfl, hx, by unfold H.nk; rw [HK.out, HND.out]⟩, HO6.out⟩
        · have kq1 : (x.e.key.toList == key.toList) = false := by rw [toL, toL, beq_eq_false_iff_ne]; exact fun e => hk (kb_inj e)
          have HK : Hid _ := hk
          clear hk
          go_wp2_with fail
          go_roundw
          case rel => exact ⟨n + 1, by go_num, by omega, HST.out (fun e => HK.out (congrArg Prod.snd e)), HO6.out⟩
          case measure => simp [intOf]; omega
      · have d1 : decide (x.node = node) = false := decide_eq_false hnd
        have HND : Hid _ := hnd
        clear hnd
        go_wp2_with fail
        go_roundw
        case rel => exact ⟨n + 1, by go_num, by omega, HST.out (fun e => HND.out (congrArg Prod.fst e)), HO6.out⟩
        case measure => simp [intOf]; omega
    · obtain rfl : n = xs.length := by omega
      have e1 : decide ((xs.length : Int) < (xs.length : Int)) = false := decide_eq_false (by omega)
      have e2 : decide (xs.length < xs.length) = false := decide_eq_false (by omega)
      go_wp2_with fail
      go_ret
      refine ⟨-1, rfl, .inl ⟨(fnd_none H.nk).2 (fun x hx => ?_), rfl⟩, HO.out⟩
      obtain ⟨i, hi⟩ := List.getElem?_of_mem hx
      have : i < xs.length := by
        obtain ⟨h, -⟩ := List.getElem?_eq_some_iff.1 hi
        exact h
      exact HG.out i x this hi
theorem at_fnd {xs : List H} (hs : Sor H.nk xs) {k : NK} {n : Nat} {x : H} (hx : xs[n]? = some x) (hk : x.nk = k) : fndG H.nk k xs = some x := (fnd_some H.nk hs).2 ⟨List.mem_of_getElem? hx, hk⟩
theorem up_all {xs : List H} (hs : Sor H.nk xs) {k : NK} {m : Nat} {x : H} (hx : xs[m]? = some x) (hb : plt k x.nk = true) : ∀ i z, m ≤ i → xs[i]? = some z → plt k z.nk = true := by
  intro i z hi hz
  by_cases e : i = m
  · subst e
    rw [hx] at hz
    cases hz
    exact hb
  · obtain ⟨l1, e1⟩ := List.getElem?_eq_some_iff.1 hx
    obtain ⟨l2, e2⟩ := List.getElem?_eq_some_iff.1 hz
    have := List.pairwise_iff_getElem.1 hs m i l1 l2 (by omega)
    rw [e1, e2] at this
    exact plt_trans hb this
end Go.Proofs.Ytfhacfedklaaiaa

/- Put of the reference's set. -/
namespace Go.Proofs.Ytfhacfedklaaiaa
open Go.RowKit

theorem lss_i {a b : Int} {r : Bool} (h : decide (a < b) = r) (W : World) : (binOp .lss 3 (.int .i64 a) (.int .i64 b)).run Try.prog W = .ok (.bool r) W := by
  subst h
  go_simp
theorem eql_i {a b : Int} {r : Bool} (h : decide (a = b) = r) (W : World) : (binOp .eql 3 (.int .i64 a) (.int .i64 b)).run Try.prog W = .ok (.bool r) W := by
  subst h
  go_simp
  rfl
set_option maxRecDepth 100000 in
set_option maxHeartbeats 4000000 in
theorem rhput_any (R : Nat → Prop) (q : Nat) (xs : List H) (h : H) (w : World) (S : RHt R q xs w) (hr : Row w h.e.a h.e.cap h.e.l) (hn : Nrm h.e.f) :
    Calls Try.prog 13 #[.pointer (some ⟨q, 0, none⟩), (.agg #[.int .i64 h.node, .string h.e.key, .int .i64 (h.e.f 0), .int .i64 (h.e.f 1), .int .i64 (h.e.f 2), .int .i64 (h.e.f 3), .int .i64 (h.e.f 4), .int .i64 (h.e.f 5), .int .i64 (h.e.f 6), .int .i64 (h.e.f 7), .slice h.e.a h.e.l.length h.e.cap])] w fun e w' => e = .returned (.tuple #[.bool (hpR (absH xs) h.abs).ch, .int .i64 (hpR (absH xs) h.abs).er]) ∧ ∃ R' xs', RHt R' q xs' w' ∧ absH xs' = (hpR (absH xs) h.abs).x ∧ Off (fun c => c = q) w w' ∧ ∀ c, R' c → R c ∨ w.heap.size ≤ c := by
  have hnot := not_any
  have C := Cel.new w 39 #[.int .i64 h.node, .string h.e.key, .int .i64 (h.e.f 0), .int .i64 (h.e.f 1), .int .i64 (h.e.f 2), .int .i64 (h.e.f 3), .int .i64 (h.e.f 4), .int .i64 (h.e.f 5), .int .i64 (h.e.f 6), .int .i64 (h.e.f 7), .slice h.e.a h.e.l.length h.e.cap]
  have O : Off (fun _ => False) w (w.alloc (.cells #[.int .i64 h.node, .string h.e.key, .int .i64 (h.e.f 0), .int .i64 (h.e.f 1), .int .i64 (h.e.f 2), .int .i64 (h.e.f 3), .int .i64 (h.e.f 4), .int .i64 (h.e.f 5), .int .i64 (h.e.f 6), .int .i64 (h.e.f 7), .slice h.e.a h.e.l.length h.e.cap] 39)) := (Off.refl _ w).alloc _
  have HST : Hid _ := S
  have hfew := S.few
  have HNRM : Hid _ := hn
  go_enter Try.func13, Try.ntmps13
  go_upto_region 1 with fail
  generalize hv : w.alloc (.cells #[.int .i64 h.node, .string h.e.key, .int .i64 (h.e.f 0), .int .i64 (h.e.f 1), .int .i64 (h.e.f 2), .int .i64 (h.e.f 3), .int .i64 (h.e.f 4), .int .i64 (h.e.f 5), .int .i64 (h.e.f 6), .int .i64 (h.e.f 7), .slice h.e.a h.e.l.length h.e.cap] 39) = V at C O ⊢
  obtain ⟨x0, x1, x2, x3, x4, x5, x6, x7, x8, x9, x10⟩ := cel11 C
  have HC : Hid _ := C
  have HO : Hid _ := O
  have HR : Hid _ := hr.off O
  clear hv C O hr hn S
  by_cases hn0 : h.node < 0
  · have d0 : decide (h.node < 0) = true := decide_eq_true hn0
    go_wp2_with fail
    go_ret2
    rw [hpR_arg (by show okH h.abs = false; unfold okH nodeOk; rw [show h.abs.node = h.node from rfl, decide_eq_false (show ¬ (0 : Int) ≤ h.node by omega)]; rfl)]
    exact ⟨rfl, R, xs, HST.out.free HO.out, rfl, HO.out.mono (fun _ _ h => h.elim), fun c hc => .inl hc⟩
  have d0 : decide (h.node < 0) = false := decide_eq_false hn0
  by_cases hn8 : 8 ≤ h.node
  · have d8 : decide (8 ≤ h.node) = true := decide_eq_true hn8
    go_wp2_with fail
    go_ret2
    rw [hpR_arg (by show okH h.abs = false; unfold okH nodeOk; rw [show h.abs.node = h.node from rfl, decide_eq_false (show ¬ h.node < (8 : Int) by omega), Bool.and_false]; rfl)]
    exact ⟨rfl, R, xs, HST.out.free HO.out, rfl, HO.out.mono (fun _ _ h => h.elim), fun c hc => .inl hc⟩
  have d8 : decide (8 ≤ h.node) = false := decide_eq_false hn8
  have hk : nodeOk h.node = true := by unfold nodeOk; rw [decide_eq_true (show (0 : Int) ≤ h.node by omega), decide_eq_true (show h.node < (8 : Int) by omega)]; rfl
  go_wp2_with fail
  refine (gmayentry_any h.e.key h.e.f h.e.a h.e.cap h.e.l V HR.out).mono ?_
  cases hm : (keyB h.e.key && mayS h.e.f (cont h.e.l))
  · rintro e w1 ⟨rfl, o1⟩
    go_wp2_with fail
    go_ret2
    have HO1 := HO.out.trans o1 (fun _ _ h => h)
    rw [hpR_arg (by show okH h.abs = false; unfold okH; rw [show h.abs.node = h.node from rfl, hk]; exact hm)]
    exact ⟨rfl, R, xs, HST.out.free HO1, rfl, HO1.mono (fun _ _ h => h.elim), fun c hc => .inl hc⟩
  rintro e w1 ⟨rfl, o1⟩
  have HM : Hid (okH h.abs = true) := by show okH h.abs = true; unfold okH; rw [show h.abs.node = h.node from rfl, hk]; exact hm
  have C1 := HC.out.off o1 (fun h => h)
  have HO1 : Hid _ := HO.out.trans o1 (fun _ _ h => h)
  have HR1 : Hid _ := HR.out.off o1
  clear x0 x1 x2 x3 x4 x5 x6 x7 x8 x9 x10 hk hm o1 hn0 hn8 d0 d8
  obtain ⟨x0, x1, x2, x3, x4, x5, x6, x7, x8, x9, x10⟩ := cel11 C1
  have HC1 : Hid _ := C1
  clear C1 HC HR HO
  go_wp2_with fail
  refine (rhat_any R q xs h.node h.e.key w1 (HST.out.free HO1.out)).mono ?_
  rintro e w2 ⟨r, rfl, hr, o2⟩
  have HO2 : Hid _ := HO1.out.trans o2 (fun _ _ h => h)
  have HC2 : Hid _ := HC1.out.off o2 (fun h => h)
  have HR2 : Hid _ := HR1.out.off o2
  clear x0 x1 x2 x3 x4 x5 x6 x7 x8 x9 x10 o2 HC1 HR1
  obtain ⟨a0, cap0, hcp, how, -⟩ := (HST.out.free HO2.out).is
  have c0 : w2.cell? ⟨q, 0, none⟩ = some (.slice a0 xs.length cap0) := hcp.cell 0
  have HE2 : Hid _ := how
  clear hcp how
  rcases hr with ⟨hf, rfl⟩ | ⟨n, x, rfl, hx, hk⟩
  · have HNF : Hid (fndG HK.nk h.abs.nk (absH xs) = none) := by show fndG HK.nk (h.node, h.e.key) (absH xs) = none; rw [← absH_fnd, hf]; rfl
    have HNE0 : Hid (∀ x ∈ xs, x.nk ≠ (h.node, h.e.key)) := (fnd_none H.nk).1 hf
    clear hf
    by_cases hful : 64 ≤ xs.length
    · have d1 : decide ((64 : Int) ≤ (xs.length : Int)) = true := decide_eq_true (by omega)
      have d1' : decide (64 ≤ xs.length) = true := decide_eq_true hful
      go_wp2_with fail
      go_ret2
      rw [hpR_full HM.out HNF.out (by rw [absH_len]; exact hful)]
      exact ⟨rfl, R, xs, HST.out.free HO2.out, rfl, HO2.out.mono (fun _ _ h => h.elim), fun c hc => .inl hc⟩
    · have d1 : decide ((64 : Int) ≤ (xs.length : Int)) = false := decide_eq_false (by omega)
      have d1' : decide (64 ≤ xs.length) = false := decide_eq_false hful
      have HNL : Hid _ := hful
      clear hful
      go_upto_region 7 with (at_builtin; refine wpList_appH rfl (.const (.slice none 0 0)) (.tmp 44) rfl none 0 [] rfl (OwnG.nil _ _ _ _) a0 cap0 xs rfl HE2.out.hns HE2.out.zero (by simp; omega) ?_; intro a4 c4 v4 ys hys own4 o4 at4; obtain rfl : xs = ys := hys.out.symm; have HOWN4 : Hid _ := own4; have HO4 : Hid (Off (fun _ => False) w2 v4) := o4.mono (fun _ _ h => by simp [blk] at h); have HAT4 : Hid (∀ c, blk a4 = some c → w2.heap.size ≤ c) := fun c hc => (by rcases at4 with e | e <;> (rw [e] at hc; simp [blk] at hc; try omega)); clear own4 o4 at4)
      clear c0 d1 d1'
      have HC4 : Hid _ := HC2.out.off HO4.out (fun h => h)
      have HR4 : Hid _ := HR2.out.off HO4.out
      obtain ⟨x0, x1, x2, x3, x4, x5, x6, x7, x8, x9, x10⟩ := cel11 HC4.out
      go_wp2_with fail
      clear x0 x1 x2 x3 x4 x5 x6 x7 x8 x9 x10
      refine (gjoinN_any zer h.e.f none h.e.a 0 h.e.cap [] h.e.l _ (Row.nil _ none 0 (by omega)) HR4.out).mono ?_
      rintro e v5 ⟨j, aj, cj, lj, rfl, hj, hlj, rj, o5, hn1, hn2⟩
      have HJ : Hid (j = h.e.f ∧ cont lj = cont h.e.l) := by
        obtain ⟨e1, e2⟩ := join_zero (okH_iff.1 HM.out).2.2 HNRM.out
        exact ⟨hj.trans e1, hlj.trans e2⟩
      have HTJ : Hid (Ter (fun c => v4.heap.size ≤ c) aj lj) := ⟨fun _ x hx => hn1 x hx, fun v hv _ x hx => hn2 v hv x hx⟩
      have HRJ : Hid _ := rj
      have HO5 : Hid _ := o5
      clear hj hlj hn1 hn2 rj o5
      have C5 := HC4.out.off HO5.out (fun h => h)
      obtain ⟨x0, x1, x2, x3, x4, x5, x6, x7, x8, x9, x10⟩ := cel11 C5
      have fr := C5.free
      have HC5 : Hid _ := C5
      clear C5
      go_upto_region 15 with fail
      clear x0 x1 x2 x3 x4 x5 x6 x7 x8 x9 x10 fr
      obtain ⟨V, hV⟩ : ∃ V, V = wrs w.heap.size 2 (sib9 j (.slice aj lj.length cj)) v5 := ⟨_, rfl⟩
      rw [show (((((((((v5.setCell ⟨w.heap.size, 2, none⟩ (.int .i64 (j 0))).setCell ⟨w.heap.size, 3, none⟩ (.int .i64 (j 1))).setCell ⟨w.heap.size, 4, none⟩ (.int .i64 (j 2))).setCell ⟨w.heap.size, 5, none⟩ (.int .i64 (j 3))).setCell ⟨w.heap.size, 6, none⟩ (.int .i64 (j 4))).setCell ⟨w.heap.size, 7, none⟩ (.int .i64 (j 5))).setCell ⟨w.heap.size, 8, none⟩ (.int .i64 (j 6))).setCell ⟨w.heap.size, 9, none⟩ (.int .i64 (j 7))).setCell ⟨w.heap.size, 10, none⟩ (.slice aj lj.length cj)) = V from hV.symm]
      obtain ⟨y, hy⟩ : ∃ y : H, y = ⟨h.node, ⟨h.e.key, j, aj, cj, lj⟩⟩ := ⟨_, rfl⟩
      have HCB : Hid (Cel w.heap.size 39 #[.int .i64 y.node, .string y.e.key, .int .i64 (y.e.f 0), .int .i64 (y.e.f 1), .int .i64 (y.e.f 2), .int .i64 (y.e.f 3), .int .i64 (y.e.f 4), .int .i64 (y.e.f 5), .int .i64 (y.e.f 6), .int .i64 (y.e.f 7), .slice y.e.a y.e.l.length y.e.cap] V) := by show Cel _ _ _ _; rw [hV, hy]; exact HC5.out.sets (o := 2) (vs := sib9 j (.slice aj lj.length cj))
      have OS : Off (fun c => c = w.heap.size) v5 V := by rw [hV]; exact off_wrs (Off.refl _ v5) (.inl rfl)
      have HV4 : Hid (w.heap.size < v4.heap.size) := HC4.out.lt
      have HRY : Hid (Row V y.e.a y.e.cap y.e.l) := by show Row _ _ _ _; rw [hy]; exact HRJ.out.offT HTJ.out OS (fun c hc hd e => by have := HV4.out; omega)
      have HTY : Hid (Ter (fun c => v4.heap.size ≤ c) y.e.a y.e.l) := by show Ter _ _ _; rw [hy]; exact HTJ.out
      have HYA : Hid (y.abs = h.abs) := by show y.abs = h.abs; rw [hy]; show (⟨h.node, ⟨h.e.key, j, cont lj⟩⟩ : HK) = _; rw [HJ.out.1, HJ.out.2]; rfl
      have HYN : Hid (y.nk = (h.node, h.e.key)) := by show y.nk = _; rw [hy]; rfl
      have HOV : Hid (Off (fun _ => False) w V) := ((((HO2.out.trans HO4.out (fun _ _ h => h)).trans HO5.out (fun _ _ h => h)).mono (E := fun c => c = w.heap.size) (fun _ _ h => h.elim)).trans OS (fun _ _ h => h)).mono (fun i hi e => by omega)
      have HOV4 : Hid (Off (fun c => c = w.heap.size) v4 V) := (HO5.out.mono (fun _ _ h => h.elim)).trans OS (fun _ _ h => h)
      replace HOV4 : Hid (Off (fun c => c = w.heap.size) v4 V) := HOV4
      have HOWNV : Hid (OwnG 39 11 hcs V a4 c4 xs) := HOWN4.out.off HOV4.out (fun c hc hb e => by have h1 := HAT4.out c hb; have h2 := HC2.out.lt; omega)
      have HNE : Hid (∀ x ∈ xs, x.nk ≠ y.nk) := fun x hx => by rw [HYN.out]; exact HNE0.out x hx
      clear HJ HTJ HRJ OS hV hy HC5 HNE0 HYN
      clear HOV4
      go_wp2_with fail
      go_loopw [9] (fun yy wr => ∃ m : Nat, yy = .int .i64 (m : Int) ∧ m ≤ xs.length ∧ (∀ i u, i < m → xs[i]? = some u → plt u.nk y.nk = true) ∧ Off (fun _ => False) V wr) (fun yy _ => (xs.length - intOf yy).toNat)
      case atStart => exact ⟨0, rfl, by omega, fun i u hi => by omega, Off.refl _ _⟩
      case round =>
        obtain ⟨m, rfl, hm, hup, oo⟩ := hrel
        have HP : Hid _ := oo
        have HUP : Hid _ := hup
        clear oo hup
        by_cases hlm : m < xs.length
        · have i1 : decide ((m : Int) < (xs.length : Int)) = true := decide_eq_true (by omega)
          have i2 : decide (m < xs.length) = true := decide_eq_true hlm
          obtain ⟨z, hz⟩ : ∃ z, xs[m]? = some z := ⟨_, List.getElem?_eq_getElem hlm⟩
          obtain ⟨g4, eg4, hat⟩ := HOWNV.out.atH hz
          have HAT : Hid _ := hat
          have HZX : Hid _ := hz
          have HZN : Hid (z.nk ≠ y.nk) := HNE.out z (List.mem_of_getElem? hz)
          clear hat hz
          subst eg4
          by_cases hl : z.node < y.node
          · have HL : Hid (decide (z.node < y.node) = true) := decide_eq_true hl
            have HT9 : Hid (∀ i u, i < m + 1 → xs[i]? = some u → plt u.nk y.nk = true) := fun i u hi hu => by
              by_cases e : i = m
              · subst e
                rw [HZX.out] at hu
                cases hu
                exact plt_iff.2 (.inl hl)
              · exact HUP.out i u (by omega) hu
            go_upto_region 16 with fail
            refine wp_region_held_drew (S := fun w' => Off (fun _ => False) wr w') (by kernel_rfl) ((Off.refl _ wr).drew) (fun hS => ?_)
            refine take_at (i := 0) 83 (v := .int .i64 (m : Int)) rfl rfl (by kernel_rfl) (by kernel_rfl) (by kernel_rfl) (fun _ _ _ h => h) (Or.inl ⟨by rfl, fun w' hw' => by go_simp⟩) hS ?_
            simp only [Act.put, List.setIfInBounds_toArray, List.set_cons_zero, List.set_cons_succ]
            refine take_at (i := 1) 84 (v := .slice (some ⟨g4, 0, none⟩) xs.length c4) rfl rfl (by kernel_rfl) (by kernel_rfl) (by kernel_rfl) (fun _ _ _ h => h) (Or.inl ⟨by rfl, fun w' hw' => by go_simp⟩) hS ?_
            simp only [Act.put, List.setIfInBounds_toArray, List.set_cons_zero, List.set_cons_succ]
            refine take_at (i := 2) 85 (v := .int .i64 (xs.length : Int)) rfl rfl (by kernel_rfl) (by kernel_rfl) (by kernel_rfl) (fun _ _ _ h => h) (Or.inl ⟨by rfl, fun w' hw' => by go_simp⟩) hS ?_
            simp only [Act.put, List.setIfInBounds_toArray, List.set_cons_zero, List.set_cons_succ]
            refine take_at (i := 3) 86 (v := .bool true) rfl rfl (by kernel_rfl) (by kernel_rfl) (by kernel_rfl) (fun _ _ _ h => h) (Or.inl ⟨by rfl, fun w' hw' => by go_simp⟩) hS ?_
            simp only [Act.put, List.setIfInBounds_toArray, List.set_cons_zero, List.set_cons_succ]
            refine take_at (i := 4) 87 (v := .bool true) rfl rfl (by kernel_rfl) (by kernel_rfl) (by kernel_rfl) (fun _ _ _ h => h) (Or.inl ⟨by rfl, fun w' hw' => by go_simp⟩) hS ?_
            simp only [Act.put, List.setIfInBounds_toArray, List.set_cons_zero, List.set_cons_succ]
            refine take_at (i := 5) 88 (v := .slice (some ⟨g4, 0, none⟩) xs.length c4) rfl rfl (by kernel_rfl) (by kernel_rfl) (by kernel_rfl) (fun _ _ _ h => h) (Or.inl ⟨by rfl, fun w' hw' => by go_simp⟩) hS ?_
            simp only [Act.put, List.setIfInBounds_toArray, List.set_cons_zero, List.set_cons_succ]
            refine take_at (i := 6) 89 (v := .int .i64 (m : Int)) rfl rfl (by kernel_rfl) (by kernel_rfl) (by kernel_rfl) (fun _ _ _ h => h) (Or.inl ⟨by rfl, fun w' hw' => by go_simp⟩) hS ?_
            simp only [Act.put, List.setIfInBounds_toArray, List.set_cons_zero, List.set_cons_succ]
            refine take_at (i := 7) 90 (v := .pointer (some ⟨g4, m * 11, none⟩)) rfl rfl (by kernel_rfl) (by kernel_rfl) (by kernel_rfl) (fun _ _ _ h => h) (Or.inl ⟨by rfl, fun w' hw' => exec_idx10 rfl (idx_hin hlm c4 g4 w')⟩) hS ?_
            simp only [Act.put, List.setIfInBounds_toArray, List.set_cons_zero, List.set_cons_succ]
            refine take_at (i := 8) 91 (v := .pointer (some ⟨g4, m * 11, none⟩)) rfl rfl (by kernel_rfl) (by kernel_rfl) (by kernel_rfl) (fun _ _ _ h => h) (Or.inl ⟨by rfl, fun w' hw' => by go_simp⟩) hS ?_
            simp only [Act.put, List.setIfInBounds_toArray, List.set_cons_zero, List.set_cons_succ]
            refine take_at (i := 9) 92 (v := .int .i64 z.node) rfl rfl (by kernel_rfl) (by kernel_rfl) (by kernel_rfl) (fun _ _ _ h => h) (Or.inl ⟨by rfl, fun w' hw' => by obtain ⟨x0, x1, x2, x3, x4, x5, x6, x7, x8, x9, x10⟩ := (HAT.out.off (HP.out.trans hw' (fun _ _ h => h)) (fun _ h => h)).cells; go_simp⟩) hS ?_
            simp only [Act.put, List.setIfInBounds_toArray, List.set_cons_zero, List.set_cons_succ]
            refine take_at (i := 10) 93 (v := .pointer (some ⟨w.heap.size, 0, none⟩)) rfl rfl (by kernel_rfl) (by kernel_rfl) (by kernel_rfl) (fun _ _ _ h => h) (Or.inl ⟨by rfl, fun w' hw' => by go_simp⟩) hS ?_
            simp only [Act.put, List.setIfInBounds_toArray, List.set_cons_zero, List.set_cons_succ]
            refine take_at (i := 11) 94 (v := .int .i64 y.node) rfl rfl (by kernel_rfl) (by kernel_rfl) (by kernel_rfl) (fun _ _ _ h => h) (Or.inl ⟨by rfl, fun w' hw' => by obtain ⟨x0, x1, x2, x3, x4, x5, x6, x7, x8, x9, x10⟩ := cel11 (HCB.out.off (HP.out.trans hw' (fun _ _ h => h)) (fun h => h)); go_simp⟩) hS ?_
            simp only [Act.put, List.setIfInBounds_toArray, List.set_cons_zero, List.set_cons_succ]
            refine take_at (i := 12) 95 (v := .bool true) rfl rfl (by kernel_rfl) (by kernel_rfl) (by kernel_rfl) (fun _ _ _ h => h) (Or.inl ⟨by rfl, fun w' hw' => exec_bin10 rfl (by go_simp) (lss_i HL.out w')⟩) hS ?_
            simp only [Act.put, List.setIfInBounds_toArray, List.set_cons_zero, List.set_cons_succ]
            refine take_at (i := 13) 96 (v := .bool true) rfl rfl (by kernel_rfl) (by kernel_rfl) (by kernel_rfl) (fun _ _ _ h => h) (Or.inl ⟨by rfl, fun w' hw' => by go_simp⟩) hS ?_
            simp only [Act.put, List.setIfInBounds_toArray, List.set_cons_zero, List.set_cons_succ]
            refine take_at (i := 14) 97 (v := undef) rfl rfl (by kernel_rfl) (by kernel_rfl) (by kernel_rfl) (fun _ _ _ h => h) (Or.inr ⟨by rfl, rfl⟩) hS ?_
            simp only [Act.put, List.setIfInBounds_toArray, List.set_cons_zero, List.set_cons_succ]
            refine take_at (i := 15) 98 (v := undef) rfl rfl (by kernel_rfl) (by kernel_rfl) (by kernel_rfl) (fun _ _ _ h => h) (Or.inr ⟨by rfl, rfl⟩) hS ?_
            simp only [Act.put, List.setIfInBounds_toArray, List.set_cons_zero, List.set_cons_succ]
            refine take_at (i := 16) 99 (v := undef) rfl rfl (by kernel_rfl) (by kernel_rfl) (by kernel_rfl) (fun _ _ _ h => h) (Or.inr ⟨by rfl, rfl⟩) hS ?_
            simp only [Act.put, List.setIfInBounds_toArray, List.set_cons_zero, List.set_cons_succ]
            refine take_at (i := 17) 100 (v := undef) rfl rfl (by kernel_rfl) (by kernel_rfl) (by kernel_rfl) (fun _ _ _ h => h) (Or.inr ⟨by rfl, rfl⟩) hS ?_
            simp only [Act.put, List.setIfInBounds_toArray, List.set_cons_zero, List.set_cons_succ]
            refine take_at (i := 18) 101 (v := undef) rfl rfl (by kernel_rfl) (by kernel_rfl) (by kernel_rfl) (fun _ _ _ h => h) (Or.inr ⟨by rfl, rfl⟩) hS ?_
            simp only [Act.put, List.setIfInBounds_toArray, List.set_cons_zero, List.set_cons_succ]
            refine take_at (i := 19) 102 (v := undef) rfl rfl (by kernel_rfl) (by kernel_rfl) (by kernel_rfl) (fun _ _ _ h => h) (Or.inr ⟨by rfl, rfl⟩) hS ?_
            simp only [Act.put, List.setIfInBounds_toArray, List.set_cons_zero, List.set_cons_succ]
            refine take_at (i := 20) 103 (v := undef) rfl rfl (by kernel_rfl) (by kernel_rfl) (by kernel_rfl) (fun _ _ _ h => h) (Or.inr ⟨by rfl, rfl⟩) hS ?_
            simp only [Act.put, List.setIfInBounds_toArray, List.set_cons_zero, List.set_cons_succ]
            refine take_at (i := 21) 104 (v := undef) rfl rfl (by kernel_rfl) (by kernel_rfl) (by kernel_rfl) (fun _ _ _ h => h) (Or.inr ⟨by rfl, rfl⟩) hS ?_
            simp only [Act.put, List.setIfInBounds_toArray, List.set_cons_zero, List.set_cons_succ]
            refine take_at (i := 22) 105 (v := undef) rfl rfl (by kernel_rfl) (by kernel_rfl) (by kernel_rfl) (fun _ _ _ h => h) (Or.inr ⟨by rfl, rfl⟩) hS ?_
            simp only [Act.put, List.setIfInBounds_toArray, List.set_cons_zero, List.set_cons_succ]
            refine take_at (i := 23) 106 (v := undef) rfl rfl (by kernel_rfl) (by kernel_rfl) (by kernel_rfl) (fun _ _ _ h => h) (Or.inr ⟨by rfl, rfl⟩) hS ?_
            simp only [Act.put, List.setIfInBounds_toArray, List.set_cons_zero, List.set_cons_succ]
            refine take_at (i := 24) 107 (v := undef) rfl rfl (by kernel_rfl) (by kernel_rfl) (by kernel_rfl) (fun _ _ _ h => h) (Or.inr ⟨by rfl, rfl⟩) hS ?_
            simp only [Act.put, List.setIfInBounds_toArray, List.set_cons_zero, List.set_cons_succ]
            refine take_at (i := 25) 108 (v := undef) rfl rfl (by kernel_rfl) (by kernel_rfl) (by kernel_rfl) (fun _ _ _ h => h) (Or.inr ⟨by rfl, rfl⟩) hS ?_
            simp only [Act.put, List.setIfInBounds_toArray, List.set_cons_zero, List.set_cons_succ]
            refine take_at (i := 26) 109 (v := undef) rfl rfl (by kernel_rfl) (by kernel_rfl) (by kernel_rfl) (fun _ _ _ h => h) (Or.inr ⟨by rfl, rfl⟩) hS ?_
            simp only [Act.put, List.setIfInBounds_toArray, List.set_cons_zero, List.set_cons_succ]
            refine take_at (i := 27) 110 (v := undef) rfl rfl (by kernel_rfl) (by kernel_rfl) (by kernel_rfl) (fun _ _ _ h => h) (Or.inr ⟨by rfl, rfl⟩) hS ?_
            simp only [Act.put, List.setIfInBounds_toArray, List.set_cons_zero, List.set_cons_succ]
            refine take_at (i := 28) 111 (v := undef) rfl rfl (by kernel_rfl) (by kernel_rfl) (by kernel_rfl) (fun _ _ _ h => h) (Or.inr ⟨by rfl, rfl⟩) hS ?_
            simp only [Act.put, List.setIfInBounds_toArray, List.set_cons_zero, List.set_cons_succ]
            refine take_at (i := 29) 112 (v := undef) rfl rfl (by kernel_rfl) (by kernel_rfl) (by kernel_rfl) (fun _ _ _ h => h) (Or.inr ⟨by rfl, rfl⟩) hS ?_
            simp only [Act.put, List.setIfInBounds_toArray, List.set_cons_zero, List.set_cons_succ]
            refine take_at (i := 30) 113 (v := undef) rfl rfl (by kernel_rfl) (by kernel_rfl) (by kernel_rfl) (fun _ _ _ h => h) (Or.inr ⟨by rfl, rfl⟩) hS ?_
            simp only [Act.put, List.setIfInBounds_toArray, List.set_cons_zero, List.set_cons_succ]
            refine take_at (i := 31) 114 (v := undef) rfl rfl (by kernel_rfl) (by kernel_rfl) (by kernel_rfl) (fun _ _ _ h => h) (Or.inr ⟨by rfl, rfl⟩) hS ?_
            simp only [Act.put, List.setIfInBounds_toArray, List.set_cons_zero, List.set_cons_succ]
            refine take_at (i := 32) 115 (v := undef) rfl rfl (by kernel_rfl) (by kernel_rfl) (by kernel_rfl) (fun _ _ _ h => h) (Or.inr ⟨by rfl, rfl⟩) hS ?_
            simp only [Act.put, List.setIfInBounds_toArray, List.set_cons_zero, List.set_cons_succ]
            refine take_at (i := 33) 116 (v := undef) rfl rfl (by kernel_rfl) (by kernel_rfl) (by kernel_rfl) (fun _ _ _ h => h) (Or.inr ⟨by rfl, rfl⟩) hS ?_
            simp only [Act.put, List.setIfInBounds_toArray, List.set_cons_zero, List.set_cons_succ]
            refine take_at (i := 34) 117 (v := .bool true) rfl rfl (by kernel_rfl) (by kernel_rfl) (by kernel_rfl) (fun _ _ _ h => h) (Or.inl ⟨by rfl, fun w' hw' => by go_simp⟩) hS ?_
            simp only [Act.put, List.setIfInBounds_toArray, List.set_cons_zero, List.set_cons_succ]
            refine take_at (i := 35) 118 (v := .bool true) rfl rfl (by kernel_rfl) (by kernel_rfl) (by kernel_rfl) (fun _ _ _ h => h) (Or.inl ⟨by rfl, fun w' hw' => by go_simp⟩) hS ?_
            simp only [Act.put, List.setIfInBounds_toArray, List.set_cons_zero, List.set_cons_succ]
            refine wpAnyH_done (by kernel_rfl) ?_ _
            have HP1 : Hid _ := HP.out.drew
            clear hS HP
            generalize hdr : wr.drew = v1 at HP1 ⊢
            clear hdr
            go_wp2_with fail
            go_roundw
            case rel => exact ⟨m + 1, by go_num, by omega, HT9.out, HP1.out⟩
            case measure => simp [intOf]; omega
          · have HL : Hid (decide (z.node < y.node) = false) := decide_eq_false hl
            by_cases hq : z.node = y.node
            · have HQ : Hid (decide (z.node = y.node) = true) := decide_eq_true hq
              cases hr : blt z.e.key y.e.key
              · have HS : Hid (Op.bytesLess z.e.key.toList y.e.key.toList = false) := by show _ = false; rw [hless]; exact hr
                have HHI : Hid (∀ i u, m ≤ i → xs[i]? = some u → plt y.nk u.nk = true) := up_all HST.out.sor HZX.out (by
                  rcases plt_tot HZN.out with e | e
                  · rcases plt_iff.1 e with e | e
                    · exact absurd e hl
                    · have e2 : blt z.e.key y.e.key = true := e.2
                      rw [hr] at e2
                      cases e2
                  · exact e)
                go_upto_region 16 with fail
                refine wp_region_held_drew (S := fun w' => Off (fun _ => False) wr w') (by kernel_rfl) ((Off.refl _ wr).drew) (fun hS => ?_)
                refine take_at (i := 0) 83 (v := .int .i64 (m : Int)) rfl rfl (by kernel_rfl) (by kernel_rfl) (by kernel_rfl) (fun _ _ _ h => h) (Or.inl ⟨by rfl, fun w' hw' => by go_simp⟩) hS ?_
                simp only [Act.put, List.setIfInBounds_toArray, List.set_cons_zero, List.set_cons_succ]
                refine take_at (i := 1) 84 (v := .slice (some ⟨g4, 0, none⟩) xs.length c4) rfl rfl (by kernel_rfl) (by kernel_rfl) (by kernel_rfl) (fun _ _ _ h => h) (Or.inl ⟨by rfl, fun w' hw' => by go_simp⟩) hS ?_
                simp only [Act.put, List.setIfInBounds_toArray, List.set_cons_zero, List.set_cons_succ]
                refine take_at (i := 2) 85 (v := .int .i64 (xs.length : Int)) rfl rfl (by kernel_rfl) (by kernel_rfl) (by kernel_rfl) (fun _ _ _ h => h) (Or.inl ⟨by rfl, fun w' hw' => by go_simp⟩) hS ?_
                simp only [Act.put, List.setIfInBounds_toArray, List.set_cons_zero, List.set_cons_succ]
                refine take_at (i := 3) 86 (v := .bool true) rfl rfl (by kernel_rfl) (by kernel_rfl) (by kernel_rfl) (fun _ _ _ h => h) (Or.inl ⟨by rfl, fun w' hw' => by go_simp⟩) hS ?_
                simp only [Act.put, List.setIfInBounds_toArray, List.set_cons_zero, List.set_cons_succ]
                refine take_at (i := 4) 87 (v := .bool true) rfl rfl (by kernel_rfl) (by kernel_rfl) (by kernel_rfl) (fun _ _ _ h => h) (Or.inl ⟨by rfl, fun w' hw' => by go_simp⟩) hS ?_
                simp only [Act.put, List.setIfInBounds_toArray, List.set_cons_zero, List.set_cons_succ]
                refine take_at (i := 5) 88 (v := .slice (some ⟨g4, 0, none⟩) xs.length c4) rfl rfl (by kernel_rfl) (by kernel_rfl) (by kernel_rfl) (fun _ _ _ h => h) (Or.inl ⟨by rfl, fun w' hw' => by go_simp⟩) hS ?_
                simp only [Act.put, List.setIfInBounds_toArray, List.set_cons_zero, List.set_cons_succ]
                refine take_at (i := 6) 89 (v := .int .i64 (m : Int)) rfl rfl (by kernel_rfl) (by kernel_rfl) (by kernel_rfl) (fun _ _ _ h => h) (Or.inl ⟨by rfl, fun w' hw' => by go_simp⟩) hS ?_
                simp only [Act.put, List.setIfInBounds_toArray, List.set_cons_zero, List.set_cons_succ]
                refine take_at (i := 7) 90 (v := .pointer (some ⟨g4, m * 11, none⟩)) rfl rfl (by kernel_rfl) (by kernel_rfl) (by kernel_rfl) (fun _ _ _ h => h) (Or.inl ⟨by rfl, fun w' hw' => exec_idx10 rfl (idx_hin hlm c4 g4 w')⟩) hS ?_
                simp only [Act.put, List.setIfInBounds_toArray, List.set_cons_zero, List.set_cons_succ]
                refine take_at (i := 8) 91 (v := .pointer (some ⟨g4, m * 11, none⟩)) rfl rfl (by kernel_rfl) (by kernel_rfl) (by kernel_rfl) (fun _ _ _ h => h) (Or.inl ⟨by rfl, fun w' hw' => by go_simp⟩) hS ?_
                simp only [Act.put, List.setIfInBounds_toArray, List.set_cons_zero, List.set_cons_succ]
                refine take_at (i := 9) 92 (v := .int .i64 z.node) rfl rfl (by kernel_rfl) (by kernel_rfl) (by kernel_rfl) (fun _ _ _ h => h) (Or.inl ⟨by rfl, fun w' hw' => by obtain ⟨x0, x1, x2, x3, x4, x5, x6, x7, x8, x9, x10⟩ := (HAT.out.off (HP.out.trans hw' (fun _ _ h => h)) (fun _ h => h)).cells; go_simp⟩) hS ?_
                simp only [Act.put, List.setIfInBounds_toArray, List.set_cons_zero, List.set_cons_succ]
                refine take_at (i := 10) 93 (v := .pointer (some ⟨w.heap.size, 0, none⟩)) rfl rfl (by kernel_rfl) (by kernel_rfl) (by kernel_rfl) (fun _ _ _ h => h) (Or.inl ⟨by rfl, fun w' hw' => by go_simp⟩) hS ?_
                simp only [Act.put, List.setIfInBounds_toArray, List.set_cons_zero, List.set_cons_succ]
                refine take_at (i := 11) 94 (v := .int .i64 y.node) rfl rfl (by kernel_rfl) (by kernel_rfl) (by kernel_rfl) (fun _ _ _ h => h) (Or.inl ⟨by rfl, fun w' hw' => by obtain ⟨x0, x1, x2, x3, x4, x5, x6, x7, x8, x9, x10⟩ := cel11 (HCB.out.off (HP.out.trans hw' (fun _ _ h => h)) (fun h => h)); go_simp⟩) hS ?_
                simp only [Act.put, List.setIfInBounds_toArray, List.set_cons_zero, List.set_cons_succ]
                refine take_at (i := 12) 95 (v := .bool false) rfl rfl (by kernel_rfl) (by kernel_rfl) (by kernel_rfl) (fun _ _ _ h => h) (Or.inl ⟨by rfl, fun w' hw' => exec_bin10 rfl (by go_simp) (lss_i HL.out w')⟩) hS ?_
                simp only [Act.put, List.setIfInBounds_toArray, List.set_cons_zero, List.set_cons_succ]
                refine take_at (i := 13) 96 (v := .bool false) rfl rfl (by kernel_rfl) (by kernel_rfl) (by kernel_rfl) (fun _ _ _ h => h) (Or.inl ⟨by rfl, fun w' hw' => by go_simp⟩) hS ?_
                simp only [Act.put, List.setIfInBounds_toArray, List.set_cons_zero, List.set_cons_succ]
                refine take_at (i := 14) 97 (v := .slice (some ⟨g4, 0, none⟩) xs.length c4) rfl rfl (by kernel_rfl) (by kernel_rfl) (by kernel_rfl) (fun _ _ _ h => h) (Or.inl ⟨by rfl, fun w' hw' => by go_simp⟩) hS ?_
                simp only [Act.put, List.setIfInBounds_toArray, List.set_cons_zero, List.set_cons_succ]
                refine take_at (i := 15) 98 (v := .int .i64 (m : Int)) rfl rfl (by kernel_rfl) (by kernel_rfl) (by kernel_rfl) (fun _ _ _ h => h) (Or.inl ⟨by rfl, fun w' hw' => by go_simp⟩) hS ?_
                simp only [Act.put, List.setIfInBounds_toArray, List.set_cons_zero, List.set_cons_succ]
                refine take_at (i := 16) 99 (v := .pointer (some ⟨g4, m * 11, none⟩)) rfl rfl (by kernel_rfl) (by kernel_rfl) (by kernel_rfl) (fun _ _ _ h => h) (Or.inl ⟨by rfl, fun w' hw' => exec_idx10 rfl (idx_hin hlm c4 g4 w')⟩) hS ?_
                simp only [Act.put, List.setIfInBounds_toArray, List.set_cons_zero, List.set_cons_succ]
                refine take_at (i := 17) 100 (v := .pointer (some ⟨g4, m * 11, none⟩)) rfl rfl (by kernel_rfl) (by kernel_rfl) (by kernel_rfl) (fun _ _ _ h => h) (Or.inl ⟨by rfl, fun w' hw' => by go_simp⟩) hS ?_
                simp only [Act.put, List.setIfInBounds_toArray, List.set_cons_zero, List.set_cons_succ]
                refine take_at (i := 18) 101 (v := .int .i64 z.node) rfl rfl (by kernel_rfl) (by kernel_rfl) (by kernel_rfl) (fun _ _ _ h => h) (Or.inl ⟨by rfl, fun w' hw' => by obtain ⟨x0, x1, x2, x3, x4, x5, x6, x7, x8, x9, x10⟩ := (HAT.out.off (HP.out.trans hw' (fun _ _ h => h)) (fun _ h => h)).cells; go_simp⟩) hS ?_
                simp only [Act.put, List.setIfInBounds_toArray, List.set_cons_zero, List.set_cons_succ]
                refine take_at (i := 19) 102 (v := .pointer (some ⟨w.heap.size, 0, none⟩)) rfl rfl (by kernel_rfl) (by kernel_rfl) (by kernel_rfl) (fun _ _ _ h => h) (Or.inl ⟨by rfl, fun w' hw' => by go_simp⟩) hS ?_
                simp only [Act.put, List.setIfInBounds_toArray, List.set_cons_zero, List.set_cons_succ]
                refine take_at (i := 20) 103 (v := .int .i64 y.node) rfl rfl (by kernel_rfl) (by kernel_rfl) (by kernel_rfl) (fun _ _ _ h => h) (Or.inl ⟨by rfl, fun w' hw' => by obtain ⟨x0, x1, x2, x3, x4, x5, x6, x7, x8, x9, x10⟩ := cel11 (HCB.out.off (HP.out.trans hw' (fun _ _ h => h)) (fun h => h)); go_simp⟩) hS ?_
                simp only [Act.put, List.setIfInBounds_toArray, List.set_cons_zero, List.set_cons_succ]
                refine take_at (i := 21) 104 (v := .bool true) rfl rfl (by kernel_rfl) (by kernel_rfl) (by kernel_rfl) (fun _ _ _ h => h) (Or.inl ⟨by rfl, fun w' hw' => exec_bin10 rfl (by go_simp) (eql_i HQ.out w')⟩) hS ?_
                simp only [Act.put, List.setIfInBounds_toArray, List.set_cons_zero, List.set_cons_succ]
                refine take_at (i := 22) 105 (v := .bool true) rfl rfl (by kernel_rfl) (by kernel_rfl) (by kernel_rfl) (fun _ _ _ h => h) (Or.inl ⟨by rfl, fun w' hw' => by go_simp⟩) hS ?_
                simp only [Act.put, List.setIfInBounds_toArray, List.set_cons_zero, List.set_cons_succ]
                refine take_at (i := 23) 106 (v := .slice (some ⟨g4, 0, none⟩) xs.length c4) rfl rfl (by kernel_rfl) (by kernel_rfl) (by kernel_rfl) (fun _ _ _ h => h) (Or.inl ⟨by rfl, fun w' hw' => by go_simp⟩) hS ?_
                simp only [Act.put, List.setIfInBounds_toArray, List.set_cons_zero, List.set_cons_succ]
                refine take_at (i := 24) 107 (v := .int .i64 (m : Int)) rfl rfl (by kernel_rfl) (by kernel_rfl) (by kernel_rfl) (fun _ _ _ h => h) (Or.inl ⟨by rfl, fun w' hw' => by go_simp⟩) hS ?_
                simp only [Act.put, List.setIfInBounds_toArray, List.set_cons_zero, List.set_cons_succ]
                refine take_at (i := 25) 108 (v := .pointer (some ⟨g4, m * 11, none⟩)) rfl rfl (by kernel_rfl) (by kernel_rfl) (by kernel_rfl) (fun _ _ _ h => h) (Or.inl ⟨by rfl, fun w' hw' => exec_idx10 rfl (idx_hin hlm c4 g4 w')⟩) hS ?_
                simp only [Act.put, List.setIfInBounds_toArray, List.set_cons_zero, List.set_cons_succ]
                refine take_at (i := 26) 109 (v := .pointer (some ⟨g4, m * 11 + 1, none⟩)) rfl rfl (by kernel_rfl) (by kernel_rfl) (by kernel_rfl) (fun _ _ _ h => h) (Or.inl ⟨by rfl, fun w' hw' => by go_simp⟩) hS ?_
                simp only [Act.put, List.setIfInBounds_toArray, List.set_cons_zero, List.set_cons_succ]
                refine take_at (i := 27) 110 (v := .pointer (some ⟨g4, m * 11 + 1, none⟩)) rfl rfl (by kernel_rfl) (by kernel_rfl) (by kernel_rfl) (fun _ _ _ h => h) (Or.inl ⟨by rfl, fun w' hw' => by go_simp⟩) hS ?_
                simp only [Act.put, List.setIfInBounds_toArray, List.set_cons_zero, List.set_cons_succ]
                refine take_at (i := 28) 111 (v := .string z.e.key) rfl rfl (by kernel_rfl) (by kernel_rfl) (by kernel_rfl) (fun _ _ _ h => h) (Or.inl ⟨by rfl, fun w' hw' => by obtain ⟨x0, x1, x2, x3, x4, x5, x6, x7, x8, x9, x10⟩ := (HAT.out.off (HP.out.trans hw' (fun _ _ h => h)) (fun _ h => h)).cells; go_simp⟩) hS ?_
                simp only [Act.put, List.setIfInBounds_toArray, List.set_cons_zero, List.set_cons_succ]
                refine take_at (i := 29) 112 (v := .pointer (some ⟨w.heap.size, 1, none⟩)) rfl rfl (by kernel_rfl) (by kernel_rfl) (by kernel_rfl) (fun _ _ _ h => h) (Or.inl ⟨by rfl, fun w' hw' => by go_simp⟩) hS ?_
                simp only [Act.put, List.setIfInBounds_toArray, List.set_cons_zero, List.set_cons_succ]
                refine take_at (i := 30) 113 (v := .pointer (some ⟨w.heap.size, 1, none⟩)) rfl rfl (by kernel_rfl) (by kernel_rfl) (by kernel_rfl) (fun _ _ _ h => h) (Or.inl ⟨by rfl, fun w' hw' => by go_simp⟩) hS ?_
                simp only [Act.put, List.setIfInBounds_toArray, List.set_cons_zero, List.set_cons_succ]
                refine take_at (i := 31) 114 (v := .string y.e.key) rfl rfl (by kernel_rfl) (by kernel_rfl) (by kernel_rfl) (fun _ _ _ h => h) (Or.inl ⟨by rfl, fun w' hw' => by obtain ⟨x0, x1, x2, x3, x4, x5, x6, x7, x8, x9, x10⟩ := cel11 (HCB.out.off (HP.out.trans hw' (fun _ _ h => h)) (fun h => h)); go_simp⟩) hS ?_
                simp only [Act.put, List.setIfInBounds_toArray, List.set_cons_zero, List.set_cons_succ]
                refine take_at (i := 32) 115 (v := .bool false) rfl rfl (by kernel_rfl) (by kernel_rfl) (by kernel_rfl) (fun _ _ _ h => h) (Or.inl ⟨by rfl, fun w' hw' => exec_bin10 rfl (by go_simp) (lss_str HS.out _ w')⟩) hS ?_
                simp only [Act.put, List.setIfInBounds_toArray, List.set_cons_zero, List.set_cons_succ]
                refine take_at (i := 33) 116 (v := .bool false) rfl rfl (by kernel_rfl) (by kernel_rfl) (by kernel_rfl) (fun _ _ _ h => h) (Or.inl ⟨by rfl, fun w' hw' => by go_simp⟩) hS ?_
                simp only [Act.put, List.setIfInBounds_toArray, List.set_cons_zero, List.set_cons_succ]
                refine take_at (i := 34) 117 (v := .bool false) rfl rfl (by kernel_rfl) (by kernel_rfl) (by kernel_rfl) (fun _ _ _ h => h) (Or.inl ⟨by rfl, fun w' hw' => by go_simp⟩) hS ?_
                simp only [Act.put, List.setIfInBounds_toArray, List.set_cons_zero, List.set_cons_succ]
                refine take_at (i := 35) 118 (v := .bool false) rfl rfl (by kernel_rfl) (by kernel_rfl) (by kernel_rfl) (fun _ _ _ h => h) (Or.inl ⟨by rfl, fun w' hw' => by go_simp⟩) hS ?_
                simp only [Act.put, List.setIfInBounds_toArray, List.set_cons_zero, List.set_cons_succ]
                refine wpAnyH_done (by kernel_rfl) ?_ _
                have HP1 : Hid _ := HP.out.drew
                clear hS HP
                generalize hdr : wr.drew = v1 at HP1 ⊢
                clear hdr
                clear hr HAT HZX i1 i2 hlm HS HL HQ HZN hl hq
                generalize hbb : (some ⟨g4, 0, none⟩ : Option Addr) = a4 at HOWN4 HOWNV HAT4 ⊢
                clear hbb
                have HQL : Hid (q < v1.heap.size) := by have h1 := HST.out.lt; have h2 := HOV.out.size; have h3 := HP1.out.size; show _ < _; omega
                have own1 := HOWNV.out.off HP1.out (fun _ _ _ h => h)
                have hns := own1.hns
                have HZ4 : Hid _ := HOWN4.out.zero
                have HQ4 : Hid (∀ c, blk a4 = some c → ¬ c = q) := fun c hc e => by have h1 := HAT4.out c hc; have h2 := HST.out.lt; have h3 := HO2.out.size; omega
                obtain ⟨hsh, hrt⟩ := hns.slh (k := m) hm
                obtain ⟨a2, hsl, hrd, hz2⟩ := hns.sll HZ4.out (k := m) rfl hm
                have HQ2 : Hid (∀ c, blk a2 = some c → ¬ c = q) := fun c hc => HQ4.out c (sll_blk hns hm hsl c hc)
                obtain ⟨ys, hys⟩ : ∃ ys, ys = xs.take m ++ y :: xs.drop m := ⟨_, rfl⟩
                have HYS : Hid (ys = putG H.nk y xs) := by show _ = _; rw [hys]; exact ins_put H.nk HST.out.sor hm HUP.out HHI.out
                have HE : Hid ((xs.take m ++ [y]) ++ xs.drop m = ys) := by show _ = _; rw [hys]; simp
                have hlt : (xs.take m).length ≤ 1000 := by simp; omega
                have hld : (xs.drop m).length ≤ 1000 := by simp; omega
                have HRT : Hid _ := hrt
                have HRD : Hid _ := hrd
                have HZ2 : Hid _ := hz2
                clear hrt hrd hz2 hys hns own1
                generalize hltt : xs.take m = lt at hsh HRT HE hlt
                generalize hldd : xs.drop m = ld at hsl HRD HE hld
                clear hltt hldd
                have HS0 : Hid (StS q v1 v1) := ⟨Off.refl _ v1, by obtain ⟨a, c, h1, -, -⟩ := ((HST.out.free HOV.out).free HP1.out).is; exact ⟨a, _, c, h1⟩⟩
                have HBQ : Hid (¬ w.heap.size = q) := fun e => by have := HST.out.lt; omega
                have HCB1 : Hid _ := HCB.out.off HP1.out (fun h => h)
                go_upto_region 18 with fail
                refine wp_region_held_drew (S := fun w' => StS q v1 w') (by kernel_rfl) (HS0.out.free ((Off.refl _ v1).drew) HQL.out) (fun hS => ?_)
                generalize hdr : v1.drew = v2 at hS ⊢
                clear hdr
                refine take_at (i := 0) 121 (v := .pointer (some ⟨q, 0, none⟩)) rfl rfl (by kernel_rfl) (by kernel_rfl) (by kernel_rfl) (fun _ _ _ h => h) (Or.inl ⟨by rfl, fun w' hw' => by go_simp⟩) hS ?_
                simp only [Act.put, List.setIfInBounds_toArray, List.set_cons_zero, List.set_cons_succ]
                refine take_at (i := 1) 122 (v := .slice a4 xs.length c4) rfl rfl (by kernel_rfl) (by kernel_rfl) (by kernel_rfl) (fun _ _ _ h => h) (Or.inl ⟨by rfl, fun w' hw' => by go_simp⟩) hS ?_
                simp only [Act.put, List.setIfInBounds_toArray, List.set_cons_zero, List.set_cons_succ]
                refine take_at (i := 2) 123 (v := .int .i64 (m : Int)) rfl rfl (by kernel_rfl) (by kernel_rfl) (by kernel_rfl) (fun _ _ _ h => h) (Or.inl ⟨by rfl, fun w' hw' => by go_simp⟩) hS ?_
                simp only [Act.put, List.setIfInBounds_toArray, List.set_cons_zero, List.set_cons_succ]
                refine take_at (i := 3) 124 (v := .slice a4 lt.length c4) rfl rfl (by kernel_rfl) (by kernel_rfl) (by kernel_rfl) (fun _ _ _ h => h) (Or.inl ⟨by rfl, fun w' hw' => by go_simp⟩) hS ?_
                simp only [Act.put, List.setIfInBounds_toArray, List.set_cons_zero, List.set_cons_succ]
                refine take_at (i := 5) 126 (v := .agg #[.int .i64 y.node, .string y.e.key, .int .i64 (y.e.f 0), .int .i64 (y.e.f 1), .int .i64 (y.e.f 2), .int .i64 (y.e.f 3), .int .i64 (y.e.f 4), .int .i64 (y.e.f 5), .int .i64 (y.e.f 6), .int .i64 (y.e.f 7), .slice y.e.a y.e.l.length y.e.cap]) rfl rfl (by kernel_rfl) (by kernel_rfl) (by kernel_rfl) (fun _ _ _ h => h) (Or.inl ⟨by rfl, fun w' hw' => by obtain ⟨x0, x1, x2, x3, x4, x5, x6, x7, x8, x9, x10⟩ := cel11 (HCB1.out.off hw'.off HBQ.out); go_simp⟩) hS ?_
                simp only [Act.put, List.setIfInBounds_toArray, List.set_cons_zero, List.set_cons_succ]
                refine take_at (i := 8) 129 (v := .slice a4 xs.length c4) rfl rfl (by kernel_rfl) (by kernel_rfl) (by kernel_rfl) (fun _ _ _ h => h) (Or.inl ⟨by rfl, fun w' hw' => by go_simp⟩) hS ?_
                simp only [Act.put, List.setIfInBounds_toArray, List.set_cons_zero, List.set_cons_succ]
                refine take_at (i := 9) 130 (v := .int .i64 (m : Int)) rfl rfl (by kernel_rfl) (by kernel_rfl) (by kernel_rfl) (fun _ _ _ h => h) (Or.inl ⟨by rfl, fun w' hw' => by go_simp⟩) hS ?_
                simp only [Act.put, List.setIfInBounds_toArray, List.set_cons_zero, List.set_cons_succ]
                refine take_at (i := 10) 131 (v := .slice a2 ld.length (c4 - m)) rfl rfl (by kernel_rfl) (by kernel_rfl) (by kernel_rfl) (fun _ _ _ h => h) (Or.inl ⟨by rfl, fun w' hw' => by go_simp⟩) hS ?_
                simp only [Act.put, List.setIfInBounds_toArray, List.set_cons_zero, List.set_cons_succ]
                refine wpAnyH_ready (rs := [4, 6]) (by kernel_rfl) (by simp) ?_
                refine AllReadyH.cons rfl (fun K' hK' => ?_) (AllReadyH.cons rfl (fun K' hK' => ?_) AllReadyH.nil)
                · obtain ⟨a3, c3, v3, hr, own3, o3, at3⟩ := app_runH (OwnG.nil _ _ _ v2) (HRT.out.offQ hS.off HQ4.out) HZ4.out (by simp; omega) 28
                  rw [List.nil_append] at hr own3
                  replace o3 : Off (fun _ => False) v2 v3 := o3.mono (fun _ _ h => by simp [blk] at h)
                  replace at3 : ∀ c, blk a3 = some c → v1.heap.size ≤ c := fun c hc => by have := hS.off.size; rcases at3 with e | e <;> (rw [e] at hc; simp [blk] at hc; try omega)
                  have hS3 := hS.free o3 HQL.out
                  refine wp_append_if rfl (.const (.slice none 0 0)) (.tmp 124) rfl rfl rfl hr 125 rfl ?_
                  simp only [Act.put, List.setIfInBounds_toArray, List.set_cons_zero, List.set_cons_succ]
                  refine hK'.out _ _ hS3 (fun hS => ?_)
                  clear hK' K' hr
                  refine wpAnyH_ready (rs := [6]) (by kernel_rfl) (by simp) ?_
                  refine AllReadyH.cons rfl (fun K' hK' => ?_) AllReadyH.nil
                  go_simp
                  have CB := Cel.new v3 39 #[.int .i64 y.node, .string y.e.key, .int .i64 (y.e.f 0), .int .i64 (y.e.f 1), .int .i64 (y.e.f 2), .int .i64 (y.e.f 3), .int .i64 (y.e.f 4), .int .i64 (y.e.f 5), .int .i64 (y.e.f 6), .int .i64 (y.e.f 7), .slice y.e.a y.e.l.length y.e.cap]
                  have OB : Off (fun _ => False) v3 (v3.alloc (.cells #[.int .i64 y.node, .string y.e.key, .int .i64 (y.e.f 0), .int .i64 (y.e.f 1), .int .i64 (y.e.f 2), .int .i64 (y.e.f 3), .int .i64 (y.e.f 4), .int .i64 (y.e.f 5), .int .i64 (y.e.f 6), .int .i64 (y.e.f 7), .slice y.e.a y.e.l.length y.e.cap] 39)) := (Off.refl _ v3).alloc _
                  refine hK'.out _ _ (hS.free OB HQL.out) (fun hS => ?_)
                  clear hK' K'
                  generalize hq5 : v3.heap.size = q5 at CB ⊢
                  generalize hv5 : v3.alloc (.cells #[.int .i64 y.node, .string y.e.key, .int .i64 (y.e.f 0), .int .i64 (y.e.f 1), .int .i64 (y.e.f 2), .int .i64 (y.e.f 3), .int .i64 (y.e.f 4), .int .i64 (y.e.f 5), .int .i64 (y.e.f 6), .int .i64 (y.e.f 7), .slice y.e.a y.e.l.length y.e.cap] 39) = v5b at CB OB hS ⊢
                  clear hv5 hq5
                  refine wpAnyH_ready (rs := [7]) (by kernel_rfl) (by simp) ?_
                  refine AllReadyH.cons rfl (fun K' hK' => ?_) AllReadyH.nil
                  have RB := cel_hns (v := y) CB
                  obtain ⟨a6, c6, v6, hr, own6, o6, at6⟩ := app_runH (own3.off OB (fun _ _ _ h => h)) RB (fun h => by simp at h) (by simp; omega) 28
                  have hS6 := hS.step o6 at3 HQL.out
                  replace at6 : ∀ c, blk a6 = some c → v1.heap.size ≤ c := fun c hc => by
                    have := hS.off.size
                    rcases at6 with e | e
                    · exact at3 c (e ▸ hc)
                    · rw [e] at hc
                      simp at hc
                      omega
                  refine wp_append_if rfl (.tmp 125) (.tmp 127) rfl rfl rfl hr 128 rfl ?_
                  simp only [Act.put, List.setIfInBounds_toArray, List.set_cons_zero, List.set_cons_succ]
                  refine hK'.out _ _ hS6 (fun hS => ?_)
                  clear hK' K' hr
                  clear o6 RB
                  refine wpAnyH_ready (rs := [11]) (by kernel_rfl) (by simp) ?_
                  refine AllReadyH.cons rfl (fun K' hK' => ?_) AllReadyH.nil
                  obtain ⟨a10, c10, v10, hr, own10, o10, at10⟩ := app_runH own6 (HRD.out.offQ hS.off HQ2.out) HZ2.out (by simp; omega) 28
                  have hS10 := hS.step o10 at6 HQL.out
                  replace at10 : ∀ c, blk a10 = some c → v1.heap.size ≤ c := fun c hc => by
                    have := hS.off.size
                    rcases at10 with e | e
                    · exact at6 c (e ▸ hc)
                    · rw [e] at hc
                      simp at hc
                      omega
                  refine wp_append_if rfl (.tmp 128) (.tmp 131) rfl rfl rfl hr 132 rfl ?_
                  simp only [Act.put, List.setIfInBounds_toArray, List.set_cons_zero, List.set_cons_succ]
                  refine hK'.out _ _ hS10 (fun hS => ?_)
                  clear hK' K' hr
                  clear o10
                  have HOWN : Hid _ := own10
                  have HAT10 : Hid _ := at10
                  have HLL : Hid (((lt ++ [y]) ++ ld).length = ys.length) := by show _ = _; rw [HE.out]
                  generalize hzz : ((lt ++ [y]) ++ ld).length = zz at HLL ⊢
                  refine take_at (i := 12) 133 (v := .pointer (some ⟨q, 0, none⟩)) rfl rfl (by kernel_rfl) (by kernel_rfl) (by kernel_rfl) (fun _ _ _ h => h) (Or.inl ⟨by rfl, fun w' hw' => by go_simp⟩) hS ?_
                  simp only [Act.put, List.setIfInBounds_toArray, List.set_cons_zero, List.set_cons_succ]
                  refine take_at (i := 13) 134 (v := .pointer (some ⟨q, 0, none⟩)) rfl rfl (by kernel_rfl) (by kernel_rfl) (by kernel_rfl) (fun _ _ _ h => h) (Or.inl ⟨by rfl, fun w' hw' => by go_simp⟩) hS ?_
                  simp only [Act.put, List.setIfInBounds_toArray, List.set_cons_zero, List.set_cons_succ]
                  obtain ⟨b0, n0, k0, hc0⟩ := hS.cel
                  have c0 := hc0.cell 0
                  have fr := hc0.free
                  simp only [List.getElem?_toArray, List.getElem?_cons_zero] at c0
                  refine wpAnyH_ready (rs := [14]) (by kernel_rfl) (by simp) ?_
                  refine AllReadyH.cons rfl (fun K' hK' => ?_) AllReadyH.nil
                  go_simp
                  refine hK'.out _ _ (hS.put a10 zz c10) (fun hS' => ?_)
                  clear hK' K'
                  have CQ := hc0.set 0 (.slice a10 zz c10)
                  have OQ : Off (fun c => c = q) v10 (v10.setCell ⟨q, 0, none⟩ (.slice a10 zz c10)) := (Off.refl (fun c => c = q) v10).setCell (p := ⟨q, 0, none⟩) (.inl rfl) _
                  generalize hv11 : v10.setCell ⟨q, 0, none⟩ (.slice a10 zz c10) = v11 at hS' CQ OQ ⊢
                  clear hv11 hc0 c0 fr
                  refine wpAnyH_done (by kernel_rfl) ?_ _
                  have HCQ : Hid (Cel q 30 #[.slice a10 zz c10] v11) := CQ
                  have HOQ : Hid _ := OQ
                  have HSQ : Hid _ := hS'
                  clear CQ OQ hS' hS hzz
                  go_wp2_with fail
                  go_ret2
                  rw [hpR_new HM.out HNF.out (by rw [absH_len]; exact HNL.out)]
                  have OZ : Off (fun c => c = q) w v11 := ((HOV.out.trans HP1.out (fun _ _ h => h)).mono (fun _ _ h => h.elim)).trans HSQ.out.off (fun _ _ h => h)
                  have own := HOWN.out.off HOQ.out (fun c _ hc e => by have := HAT10.out c hc; have := HQL.out; omega)
                  rw [HE.out] at own
                  have CF := HCQ.out
                  rw [HLL.out] at CF
                  have hAB : absH ys = putG HK.nk h.abs (absH xs) := by rw [HYS.out, absH_put, HYA.out]
                  have hq0 := HST.out.lt
                  have hv0 := HOV.out.size
                  have hv1 := HP1.out.size
                  have hv4 := HV4.out
                  have rowY : Row v11 y.e.a y.e.cap y.e.l := (HRY.out.off HP1.out).offT HTY.out HSQ.out.off (fun c hc hd e => by omega)
                  have rowX : ∀ z ∈ xs, Row v11 z.e.a z.e.cap z.e.l := fun z hz => (HST.out.row z hz).offT (HST.out.ter z hz) OZ (fun c _ hd e => hd.2 e)
                  refine ⟨rfl, fun c => (R c ∨ w.heap.size ≤ c) ∧ c < v11.heap.size, ys, ⟨⟨.inl HST.out.dp, by have := OZ.size; omega⟩, fun c hc => hc.2, ⟨a10, c10, CF, own, fun g hg => ?_⟩, fun z hz => ?_, fun z hz => ?_, ?_⟩, hAB, OZ, fun c hc => hc.1⟩
                  · have h1 := HAT10.out g hg
                    exact ⟨⟨.inr (by omega), own.lt g hg⟩, by omega⟩
                  · rw [HYS.out, mem_putG] at hz
                    rcases hz with rfl | ⟨hz, -⟩
                    · exact rowY
                    · exact rowX z hz
                  · rw [HYS.out, mem_putG] at hz
                    rcases hz with rfl | ⟨hz, -⟩
                    · exact (HTY.out.and rowY.below).mono (fun c hc => ⟨⟨.inr (by omega), hc.2⟩, by omega⟩)
                    · exact ((HST.out.ter z hz).and (rowX z hz).below).mono (fun c hc => ⟨⟨.inl hc.1.1, hc.2⟩, hc.1.2⟩)
                  · rw [hAB]
                    have e := HST.out.ok.hpR (x := h.abs) HNRM.out
                    rw [hpR_new HM.out HNF.out (by rw [absH_len]; exact HNL.out)] at e
                    exact e
                · go_simp
                  have CB := Cel.new v2 39 #[.int .i64 y.node, .string y.e.key, .int .i64 (y.e.f 0), .int .i64 (y.e.f 1), .int .i64 (y.e.f 2), .int .i64 (y.e.f 3), .int .i64 (y.e.f 4), .int .i64 (y.e.f 5), .int .i64 (y.e.f 6), .int .i64 (y.e.f 7), .slice y.e.a y.e.l.length y.e.cap]
                  have OB : Off (fun _ => False) v2 (v2.alloc (.cells #[.int .i64 y.node, .string y.e.key, .int .i64 (y.e.f 0), .int .i64 (y.e.f 1), .int .i64 (y.e.f 2), .int .i64 (y.e.f 3), .int .i64 (y.e.f 4), .int .i64 (y.e.f 5), .int .i64 (y.e.f 6), .int .i64 (y.e.f 7), .slice y.e.a y.e.l.length y.e.cap] 39)) := (Off.refl _ v2).alloc _
                  refine hK'.out _ _ (hS.free OB HQL.out) (fun hS => ?_)
                  clear hK' K'
                  generalize hq5 : v2.heap.size = q5 at CB ⊢
                  generalize hv5 : v2.alloc (.cells #[.int .i64 y.node, .string y.e.key, .int .i64 (y.e.f 0), .int .i64 (y.e.f 1), .int .i64 (y.e.f 2), .int .i64 (y.e.f 3), .int .i64 (y.e.f 4), .int .i64 (y.e.f 5), .int .i64 (y.e.f 6), .int .i64 (y.e.f 7), .slice y.e.a y.e.l.length y.e.cap] 39) = v3 at CB OB hS ⊢
                  clear hv5 hq5
                  refine wpAnyH_ready (rs := [4]) (by kernel_rfl) (by simp) ?_
                  refine AllReadyH.cons rfl (fun K' hK' => ?_) AllReadyH.nil
                  obtain ⟨a3, c3, v5b, hr, own3, o3, at3⟩ := app_runH (OwnG.nil _ _ _ v3) (HRT.out.offQ hS.off HQ4.out) HZ4.out (by simp; omega) 28
                  rw [List.nil_append] at hr own3
                  replace o3 : Off (fun _ => False) v3 v5b := o3.mono (fun _ _ h => by simp [blk] at h)
                  replace at3 : ∀ c, blk a3 = some c → v1.heap.size ≤ c := fun c hc => by have := hS.off.size; rcases at3 with e | e <;> (rw [e] at hc; simp [blk] at hc; try omega)
                  have hS3 := hS.free o3 HQL.out
                  refine wp_append_if rfl (.const (.slice none 0 0)) (.tmp 124) rfl rfl rfl hr 125 rfl ?_
                  simp only [Act.put, List.setIfInBounds_toArray, List.set_cons_zero, List.set_cons_succ]
                  refine hK'.out _ _ hS3 (fun hS => ?_)
                  clear hK' K' hr
                  refine wpAnyH_ready (rs := [7]) (by kernel_rfl) (by simp) ?_
                  refine AllReadyH.cons rfl (fun K' hK' => ?_) AllReadyH.nil
                  have RB := cel_hns (v := y) (CB.off o3 (fun h => h))
                  obtain ⟨a6, c6, v6, hr, own6, o6, at6⟩ := app_runH own3 RB (fun h => by simp at h) (by simp; omega) 28
                  have hS6 := hS.step o6 at3 HQL.out
                  replace at6 : ∀ c, blk a6 = some c → v1.heap.size ≤ c := fun c hc => by
                    have := hS.off.size
                    rcases at6 with e | e
                    · exact at3 c (e ▸ hc)
                    · rw [e] at hc
                      simp at hc
                      omega
                  refine wp_append_if rfl (.tmp 125) (.tmp 127) rfl rfl rfl hr 128 rfl ?_
                  simp only [Act.put, List.setIfInBounds_toArray, List.set_cons_zero, List.set_cons_succ]
                  refine hK'.out _ _ hS6 (fun hS => ?_)
                  clear hK' K' hr
                  clear o6 RB
                  refine wpAnyH_ready (rs := [11]) (by kernel_rfl) (by simp) ?_
                  refine AllReadyH.cons rfl (fun K' hK' => ?_) AllReadyH.nil
                  obtain ⟨a10, c10, v10, hr, own10, o10, at10⟩ := app_runH own6 (HRD.out.offQ hS.off HQ2.out) HZ2.out (by simp; omega) 28
                  have hS10 := hS.step o10 at6 HQL.out
                  replace at10 : ∀ c, blk a10 = some c → v1.heap.size ≤ c := fun c hc => by
                    have := hS.off.size
                    rcases at10 with e | e
                    · exact at6 c (e ▸ hc)
                    · rw [e] at hc
                      simp at hc
                      omega
                  refine wp_append_if rfl (.tmp 128) (.tmp 131) rfl rfl rfl hr 132 rfl ?_
                  simp only [Act.put, List.setIfInBounds_toArray, List.set_cons_zero, List.set_cons_succ]
                  refine hK'.out _ _ hS10 (fun hS => ?_)
                  clear hK' K' hr
                  clear o10
                  have HOWN : Hid _ := own10
                  have HAT10 : Hid _ := at10
                  have HLL : Hid (((lt ++ [y]) ++ ld).length = ys.length) := by show _ = _; rw [HE.out]
                  generalize hzz : ((lt ++ [y]) ++ ld).length = zz at HLL ⊢
                  refine take_at (i := 12) 133 (v := .pointer (some ⟨q, 0, none⟩)) rfl rfl (by kernel_rfl) (by kernel_rfl) (by kernel_rfl) (fun _ _ _ h => h) (Or.inl ⟨by rfl, fun w' hw' => by go_simp⟩) hS ?_
                  simp only [Act.put, List.setIfInBounds_toArray, List.set_cons_zero, List.set_cons_succ]
                  refine take_at (i := 13) 134 (v := .pointer (some ⟨q, 0, none⟩)) rfl rfl (by kernel_rfl) (by kernel_rfl) (by kernel_rfl) (fun _ _ _ h => h) (Or.inl ⟨by rfl, fun w' hw' => by go_simp⟩) hS ?_
                  simp only [Act.put, List.setIfInBounds_toArray, List.set_cons_zero, List.set_cons_succ]
                  obtain ⟨b0, n0, k0, hc0⟩ := hS.cel
                  have c0 := hc0.cell 0
                  have fr := hc0.free
                  simp only [List.getElem?_toArray, List.getElem?_cons_zero] at c0
                  refine wpAnyH_ready (rs := [14]) (by kernel_rfl) (by simp) ?_
                  refine AllReadyH.cons rfl (fun K' hK' => ?_) AllReadyH.nil
                  go_simp
                  refine hK'.out _ _ (hS.put a10 zz c10) (fun hS' => ?_)
                  clear hK' K'
                  have CQ := hc0.set 0 (.slice a10 zz c10)
                  have OQ : Off (fun c => c = q) v10 (v10.setCell ⟨q, 0, none⟩ (.slice a10 zz c10)) := (Off.refl (fun c => c = q) v10).setCell (p := ⟨q, 0, none⟩) (.inl rfl) _
                  generalize hv11 : v10.setCell ⟨q, 0, none⟩ (.slice a10 zz c10) = v11 at hS' CQ OQ ⊢
                  clear hv11 hc0 c0 fr
                  refine wpAnyH_done (by kernel_rfl) ?_ _
                  have HCQ : Hid (Cel q 30 #[.slice a10 zz c10] v11) := CQ
                  have HOQ : Hid _ := OQ
                  have HSQ : Hid _ := hS'
                  clear CQ OQ hS' hS hzz
                  go_wp2_with fail
                  go_ret2
                  rw [hpR_new HM.out HNF.out (by rw [absH_len]; exact HNL.out)]
                  have OZ : Off (fun c => c = q) w v11 := ((HOV.out.trans HP1.out (fun _ _ h => h)).mono (fun _ _ h => h.elim)).trans HSQ.out.off (fun _ _ h => h)
                  have own := HOWN.out.off HOQ.out (fun c _ hc e => by have := HAT10.out c hc; have := HQL.out; omega)
                  rw [HE.out] at own
                  have CF := HCQ.out
                  rw [HLL.out] at CF
                  have hAB : absH ys = putG HK.nk h.abs (absH xs) := by rw [HYS.out, absH_put, HYA.out]
                  have hq0 := HST.out.lt
                  have hv0 := HOV.out.size
                  have hv1 := HP1.out.size
                  have hv4 := HV4.out
                  have rowY : Row v11 y.e.a y.e.cap y.e.l := (HRY.out.off HP1.out).offT HTY.out HSQ.out.off (fun c hc hd e => by omega)
                  have rowX : ∀ z ∈ xs, Row v11 z.e.a z.e.cap z.e.l := fun z hz => (HST.out.row z hz).offT (HST.out.ter z hz) OZ (fun c _ hd e => hd.2 e)
                  refine ⟨rfl, fun c => (R c ∨ w.heap.size ≤ c) ∧ c < v11.heap.size, ys, ⟨⟨.inl HST.out.dp, by have := OZ.size; omega⟩, fun c hc => hc.2, ⟨a10, c10, CF, own, fun g hg => ?_⟩, fun z hz => ?_, fun z hz => ?_, ?_⟩, hAB, OZ, fun c hc => hc.1⟩
                  · have h1 := HAT10.out g hg
                    exact ⟨⟨.inr (by omega), own.lt g hg⟩, by omega⟩
                  · rw [HYS.out, mem_putG] at hz
                    rcases hz with rfl | ⟨hz, -⟩
                    · exact rowY
                    · exact rowX z hz
                  · rw [HYS.out, mem_putG] at hz
                    rcases hz with rfl | ⟨hz, -⟩
                    · exact (HTY.out.and rowY.below).mono (fun c hc => ⟨⟨.inr (by omega), hc.2⟩, by omega⟩)
                    · exact ((HST.out.ter z hz).and (rowX z hz).below).mono (fun c hc => ⟨⟨.inl hc.1.1, hc.2⟩, hc.1.2⟩)
                  · rw [hAB]
                    have e := HST.out.ok.hpR (x := h.abs) HNRM.out
                    rw [hpR_new HM.out HNF.out (by rw [absH_len]; exact HNL.out)] at e
                    exact e
              · have HS : Hid (Op.bytesLess z.e.key.toList y.e.key.toList = true) := by show _ = true; rw [hless]; exact hr
                have HT9 : Hid (∀ i u, i < m + 1 → xs[i]? = some u → plt u.nk y.nk = true) := fun i u hi hu => by
                  by_cases e : i = m
                  · subst e
                    rw [HZX.out] at hu
                    cases hu
                    exact plt_iff.2 (.inr ⟨hq, hr⟩)
                  · exact HUP.out i u (by omega) hu
                go_upto_region 16 with fail
                refine wp_region_held_drew (S := fun w' => Off (fun _ => False) wr w') (by kernel_rfl) ((Off.refl _ wr).drew) (fun hS => ?_)
                refine take_at (i := 0) 83 (v := .int .i64 (m : Int)) rfl rfl (by kernel_rfl) (by kernel_rfl) (by kernel_rfl) (fun _ _ _ h => h) (Or.inl ⟨by rfl, fun w' hw' => by go_simp⟩) hS ?_
                simp only [Act.put, List.setIfInBounds_toArray, List.set_cons_zero, List.set_cons_succ]
                refine take_at (i := 1) 84 (v := .slice (some ⟨g4, 0, none⟩) xs.length c4) rfl rfl (by kernel_rfl) (by kernel_rfl) (by kernel_rfl) (fun _ _ _ h => h) (Or.inl ⟨by rfl, fun w' hw' => by go_simp⟩) hS ?_
                simp only [Act.put, List.setIfInBounds_toArray, List.set_cons_zero, List.set_cons_succ]
                refine take_at (i := 2) 85 (v := .int .i64 (xs.length : Int)) rfl rfl (by kernel_rfl) (by kernel_rfl) (by kernel_rfl) (fun _ _ _ h => h) (Or.inl ⟨by rfl, fun w' hw' => by go_simp⟩) hS ?_
                simp only [Act.put, List.setIfInBounds_toArray, List.set_cons_zero, List.set_cons_succ]
                refine take_at (i := 3) 86 (v := .bool true) rfl rfl (by kernel_rfl) (by kernel_rfl) (by kernel_rfl) (fun _ _ _ h => h) (Or.inl ⟨by rfl, fun w' hw' => by go_simp⟩) hS ?_
                simp only [Act.put, List.setIfInBounds_toArray, List.set_cons_zero, List.set_cons_succ]
                refine take_at (i := 4) 87 (v := .bool true) rfl rfl (by kernel_rfl) (by kernel_rfl) (by kernel_rfl) (fun _ _ _ h => h) (Or.inl ⟨by rfl, fun w' hw' => by go_simp⟩) hS ?_
                simp only [Act.put, List.setIfInBounds_toArray, List.set_cons_zero, List.set_cons_succ]
                refine take_at (i := 5) 88 (v := .slice (some ⟨g4, 0, none⟩) xs.length c4) rfl rfl (by kernel_rfl) (by kernel_rfl) (by kernel_rfl) (fun _ _ _ h => h) (Or.inl ⟨by rfl, fun w' hw' => by go_simp⟩) hS ?_
                simp only [Act.put, List.setIfInBounds_toArray, List.set_cons_zero, List.set_cons_succ]
                refine take_at (i := 6) 89 (v := .int .i64 (m : Int)) rfl rfl (by kernel_rfl) (by kernel_rfl) (by kernel_rfl) (fun _ _ _ h => h) (Or.inl ⟨by rfl, fun w' hw' => by go_simp⟩) hS ?_
                simp only [Act.put, List.setIfInBounds_toArray, List.set_cons_zero, List.set_cons_succ]
                refine take_at (i := 7) 90 (v := .pointer (some ⟨g4, m * 11, none⟩)) rfl rfl (by kernel_rfl) (by kernel_rfl) (by kernel_rfl) (fun _ _ _ h => h) (Or.inl ⟨by rfl, fun w' hw' => exec_idx10 rfl (idx_hin hlm c4 g4 w')⟩) hS ?_
                simp only [Act.put, List.setIfInBounds_toArray, List.set_cons_zero, List.set_cons_succ]
                refine take_at (i := 8) 91 (v := .pointer (some ⟨g4, m * 11, none⟩)) rfl rfl (by kernel_rfl) (by kernel_rfl) (by kernel_rfl) (fun _ _ _ h => h) (Or.inl ⟨by rfl, fun w' hw' => by go_simp⟩) hS ?_
                simp only [Act.put, List.setIfInBounds_toArray, List.set_cons_zero, List.set_cons_succ]
                refine take_at (i := 9) 92 (v := .int .i64 z.node) rfl rfl (by kernel_rfl) (by kernel_rfl) (by kernel_rfl) (fun _ _ _ h => h) (Or.inl ⟨by rfl, fun w' hw' => by obtain ⟨x0, x1, x2, x3, x4, x5, x6, x7, x8, x9, x10⟩ := (HAT.out.off (HP.out.trans hw' (fun _ _ h => h)) (fun _ h => h)).cells; go_simp⟩) hS ?_
                simp only [Act.put, List.setIfInBounds_toArray, List.set_cons_zero, List.set_cons_succ]
                refine take_at (i := 10) 93 (v := .pointer (some ⟨w.heap.size, 0, none⟩)) rfl rfl (by kernel_rfl) (by kernel_rfl) (by kernel_rfl) (fun _ _ _ h => h) (Or.inl ⟨by rfl, fun w' hw' => by go_simp⟩) hS ?_
                simp only [Act.put, List.setIfInBounds_toArray, List.set_cons_zero, List.set_cons_succ]
                refine take_at (i := 11) 94 (v := .int .i64 y.node) rfl rfl (by kernel_rfl) (by kernel_rfl) (by kernel_rfl) (fun _ _ _ h => h) (Or.inl ⟨by rfl, fun w' hw' => by obtain ⟨x0, x1, x2, x3, x4, x5, x6, x7, x8, x9, x10⟩ := cel11 (HCB.out.off (HP.out.trans hw' (fun _ _ h => h)) (fun h => h)); go_simp⟩) hS ?_
                simp only [Act.put, List.setIfInBounds_toArray, List.set_cons_zero, List.set_cons_succ]
                refine take_at (i := 12) 95 (v := .bool false) rfl rfl (by kernel_rfl) (by kernel_rfl) (by kernel_rfl) (fun _ _ _ h => h) (Or.inl ⟨by rfl, fun w' hw' => exec_bin10 rfl (by go_simp) (lss_i HL.out w')⟩) hS ?_
                simp only [Act.put, List.setIfInBounds_toArray, List.set_cons_zero, List.set_cons_succ]
                refine take_at (i := 13) 96 (v := .bool false) rfl rfl (by kernel_rfl) (by kernel_rfl) (by kernel_rfl) (fun _ _ _ h => h) (Or.inl ⟨by rfl, fun w' hw' => by go_simp⟩) hS ?_
                simp only [Act.put, List.setIfInBounds_toArray, List.set_cons_zero, List.set_cons_succ]
                refine take_at (i := 14) 97 (v := .slice (some ⟨g4, 0, none⟩) xs.length c4) rfl rfl (by kernel_rfl) (by kernel_rfl) (by kernel_rfl) (fun _ _ _ h => h) (Or.inl ⟨by rfl, fun w' hw' => by go_simp⟩) hS ?_
                simp only [Act.put, List.setIfInBounds_toArray, List.set_cons_zero, List.set_cons_succ]
                refine take_at (i := 15) 98 (v := .int .i64 (m : Int)) rfl rfl (by kernel_rfl) (by kernel_rfl) (by kernel_rfl) (fun _ _ _ h => h) (Or.inl ⟨by rfl, fun w' hw' => by go_simp⟩) hS ?_
                simp only [Act.put, List.setIfInBounds_toArray, List.set_cons_zero, List.set_cons_succ]
                refine take_at (i := 16) 99 (v := .pointer (some ⟨g4, m * 11, none⟩)) rfl rfl (by kernel_rfl) (by kernel_rfl) (by kernel_rfl) (fun _ _ _ h => h) (Or.inl ⟨by rfl, fun w' hw' => exec_idx10 rfl (idx_hin hlm c4 g4 w')⟩) hS ?_
                simp only [Act.put, List.setIfInBounds_toArray, List.set_cons_zero, List.set_cons_succ]
                refine take_at (i := 17) 100 (v := .pointer (some ⟨g4, m * 11, none⟩)) rfl rfl (by kernel_rfl) (by kernel_rfl) (by kernel_rfl) (fun _ _ _ h => h) (Or.inl ⟨by rfl, fun w' hw' => by go_simp⟩) hS ?_
                simp only [Act.put, List.setIfInBounds_toArray, List.set_cons_zero, List.set_cons_succ]
                refine take_at (i := 18) 101 (v := .int .i64 z.node) rfl rfl (by kernel_rfl) (by kernel_rfl) (by kernel_rfl) (fun _ _ _ h => h) (Or.inl ⟨by rfl, fun w' hw' => by obtain ⟨x0, x1, x2, x3, x4, x5, x6, x7, x8, x9, x10⟩ := (HAT.out.off (HP.out.trans hw' (fun _ _ h => h)) (fun _ h => h)).cells; go_simp⟩) hS ?_
                simp only [Act.put, List.setIfInBounds_toArray, List.set_cons_zero, List.set_cons_succ]
                refine take_at (i := 19) 102 (v := .pointer (some ⟨w.heap.size, 0, none⟩)) rfl rfl (by kernel_rfl) (by kernel_rfl) (by kernel_rfl) (fun _ _ _ h => h) (Or.inl ⟨by rfl, fun w' hw' => by go_simp⟩) hS ?_
                simp only [Act.put, List.setIfInBounds_toArray, List.set_cons_zero, List.set_cons_succ]
                refine take_at (i := 20) 103 (v := .int .i64 y.node) rfl rfl (by kernel_rfl) (by kernel_rfl) (by kernel_rfl) (fun _ _ _ h => h) (Or.inl ⟨by rfl, fun w' hw' => by obtain ⟨x0, x1, x2, x3, x4, x5, x6, x7, x8, x9, x10⟩ := cel11 (HCB.out.off (HP.out.trans hw' (fun _ _ h => h)) (fun h => h)); go_simp⟩) hS ?_
                simp only [Act.put, List.setIfInBounds_toArray, List.set_cons_zero, List.set_cons_succ]
                refine take_at (i := 21) 104 (v := .bool true) rfl rfl (by kernel_rfl) (by kernel_rfl) (by kernel_rfl) (fun _ _ _ h => h) (Or.inl ⟨by rfl, fun w' hw' => exec_bin10 rfl (by go_simp) (eql_i HQ.out w')⟩) hS ?_
                simp only [Act.put, List.setIfInBounds_toArray, List.set_cons_zero, List.set_cons_succ]
                refine take_at (i := 22) 105 (v := .bool true) rfl rfl (by kernel_rfl) (by kernel_rfl) (by kernel_rfl) (fun _ _ _ h => h) (Or.inl ⟨by rfl, fun w' hw' => by go_simp⟩) hS ?_
                simp only [Act.put, List.setIfInBounds_toArray, List.set_cons_zero, List.set_cons_succ]
                refine take_at (i := 23) 106 (v := .slice (some ⟨g4, 0, none⟩) xs.length c4) rfl rfl (by kernel_rfl) (by kernel_rfl) (by kernel_rfl) (fun _ _ _ h => h) (Or.inl ⟨by rfl, fun w' hw' => by go_simp⟩) hS ?_
                simp only [Act.put, List.setIfInBounds_toArray, List.set_cons_zero, List.set_cons_succ]
                refine take_at (i := 24) 107 (v := .int .i64 (m : Int)) rfl rfl (by kernel_rfl) (by kernel_rfl) (by kernel_rfl) (fun _ _ _ h => h) (Or.inl ⟨by rfl, fun w' hw' => by go_simp⟩) hS ?_
                simp only [Act.put, List.setIfInBounds_toArray, List.set_cons_zero, List.set_cons_succ]
                refine take_at (i := 25) 108 (v := .pointer (some ⟨g4, m * 11, none⟩)) rfl rfl (by kernel_rfl) (by kernel_rfl) (by kernel_rfl) (fun _ _ _ h => h) (Or.inl ⟨by rfl, fun w' hw' => exec_idx10 rfl (idx_hin hlm c4 g4 w')⟩) hS ?_
                simp only [Act.put, List.setIfInBounds_toArray, List.set_cons_zero, List.set_cons_succ]
                refine take_at (i := 26) 109 (v := .pointer (some ⟨g4, m * 11 + 1, none⟩)) rfl rfl (by kernel_rfl) (by kernel_rfl) (by kernel_rfl) (fun _ _ _ h => h) (Or.inl ⟨by rfl, fun w' hw' => by go_simp⟩) hS ?_
                simp only [Act.put, List.setIfInBounds_toArray, List.set_cons_zero, List.set_cons_succ]
                refine take_at (i := 27) 110 (v := .pointer (some ⟨g4, m * 11 + 1, none⟩)) rfl rfl (by kernel_rfl) (by kernel_rfl) (by kernel_rfl) (fun _ _ _ h => h) (Or.inl ⟨by rfl, fun w' hw' => by go_simp⟩) hS ?_
                simp only [Act.put, List.setIfInBounds_toArray, List.set_cons_zero, List.set_cons_succ]
                refine take_at (i := 28) 111 (v := .string z.e.key) rfl rfl (by kernel_rfl) (by kernel_rfl) (by kernel_rfl) (fun _ _ _ h => h) (Or.inl ⟨by rfl, fun w' hw' => by obtain ⟨x0, x1, x2, x3, x4, x5, x6, x7, x8, x9, x10⟩ := (HAT.out.off (HP.out.trans hw' (fun _ _ h => h)) (fun _ h => h)).cells; go_simp⟩) hS ?_
                simp only [Act.put, List.setIfInBounds_toArray, List.set_cons_zero, List.set_cons_succ]
                refine take_at (i := 29) 112 (v := .pointer (some ⟨w.heap.size, 1, none⟩)) rfl rfl (by kernel_rfl) (by kernel_rfl) (by kernel_rfl) (fun _ _ _ h => h) (Or.inl ⟨by rfl, fun w' hw' => by go_simp⟩) hS ?_
                simp only [Act.put, List.setIfInBounds_toArray, List.set_cons_zero, List.set_cons_succ]
                refine take_at (i := 30) 113 (v := .pointer (some ⟨w.heap.size, 1, none⟩)) rfl rfl (by kernel_rfl) (by kernel_rfl) (by kernel_rfl) (fun _ _ _ h => h) (Or.inl ⟨by rfl, fun w' hw' => by go_simp⟩) hS ?_
                simp only [Act.put, List.setIfInBounds_toArray, List.set_cons_zero, List.set_cons_succ]
                refine take_at (i := 31) 114 (v := .string y.e.key) rfl rfl (by kernel_rfl) (by kernel_rfl) (by kernel_rfl) (fun _ _ _ h => h) (Or.inl ⟨by rfl, fun w' hw' => by obtain ⟨x0, x1, x2, x3, x4, x5, x6, x7, x8, x9, x10⟩ := cel11 (HCB.out.off (HP.out.trans hw' (fun _ _ h => h)) (fun h => h)); go_simp⟩) hS ?_
                simp only [Act.put, List.setIfInBounds_toArray, List.set_cons_zero, List.set_cons_succ]
                refine take_at (i := 32) 115 (v := .bool true) rfl rfl (by kernel_rfl) (by kernel_rfl) (by kernel_rfl) (fun _ _ _ h => h) (Or.inl ⟨by rfl, fun w' hw' => exec_bin10 rfl (by go_simp) (lss_str HS.out _ w')⟩) hS ?_
                simp only [Act.put, List.setIfInBounds_toArray, List.set_cons_zero, List.set_cons_succ]
                refine take_at (i := 33) 116 (v := .bool true) rfl rfl (by kernel_rfl) (by kernel_rfl) (by kernel_rfl) (fun _ _ _ h => h) (Or.inl ⟨by rfl, fun w' hw' => by go_simp⟩) hS ?_
                simp only [Act.put, List.setIfInBounds_toArray, List.set_cons_zero, List.set_cons_succ]
                refine take_at (i := 34) 117 (v := .bool true) rfl rfl (by kernel_rfl) (by kernel_rfl) (by kernel_rfl) (fun _ _ _ h => h) (Or.inl ⟨by rfl, fun w' hw' => by go_simp⟩) hS ?_
                simp only [Act.put, List.setIfInBounds_toArray, List.set_cons_zero, List.set_cons_succ]
                refine take_at (i := 35) 118 (v := .bool true) rfl rfl (by kernel_rfl) (by kernel_rfl) (by kernel_rfl) (fun _ _ _ h => h) (Or.inl ⟨by rfl, fun w' hw' => by go_simp⟩) hS ?_
                simp only [Act.put, List.setIfInBounds_toArray, List.set_cons_zero, List.set_cons_succ]
                refine wpAnyH_done (by kernel_rfl) ?_ _
                have HP1 : Hid _ := HP.out.drew
                clear hS HP
                generalize hdr : wr.drew = v1 at HP1 ⊢
                clear hdr
                go_wp2_with fail
                go_roundw
                case rel => exact ⟨m + 1, by go_num, by omega, HT9.out, HP1.out⟩
                case measure => simp [intOf]; omega
            · have HQ : Hid (decide (z.node = y.node) = false) := decide_eq_false hq
              have HHI : Hid (∀ i u, m ≤ i → xs[i]? = some u → plt y.nk u.nk = true) := up_all HST.out.sor HZX.out (plt_iff.2 (.inl (show y.node < z.node by omega)))
              go_upto_region 16 with fail
              refine wp_region_held_drew (S := fun w' => Off (fun _ => False) wr w') (by kernel_rfl) ((Off.refl _ wr).drew) (fun hS => ?_)
              refine take_at (i := 0) 83 (v := .int .i64 (m : Int)) rfl rfl (by kernel_rfl) (by kernel_rfl) (by kernel_rfl) (fun _ _ _ h => h) (Or.inl ⟨by rfl, fun w' hw' => by go_simp⟩) hS ?_
              simp only [Act.put, List.setIfInBounds_toArray, List.set_cons_zero, List.set_cons_succ]
              refine take_at (i := 1) 84 (v := .slice (some ⟨g4, 0, none⟩) xs.length c4) rfl rfl (by kernel_rfl) (by kernel_rfl) (by kernel_rfl) (fun _ _ _ h => h) (Or.inl ⟨by rfl, fun w' hw' => by go_simp⟩) hS ?_
              simp only [Act.put, List.setIfInBounds_toArray, List.set_cons_zero, List.set_cons_succ]
              refine take_at (i := 2) 85 (v := .int .i64 (xs.length : Int)) rfl rfl (by kernel_rfl) (by kernel_rfl) (by kernel_rfl) (fun _ _ _ h => h) (Or.inl ⟨by rfl, fun w' hw' => by go_simp⟩) hS ?_
              simp only [Act.put, List.setIfInBounds_toArray, List.set_cons_zero, List.set_cons_succ]
              refine take_at (i := 3) 86 (v := .bool true) rfl rfl (by kernel_rfl) (by kernel_rfl) (by kernel_rfl) (fun _ _ _ h => h) (Or.inl ⟨by rfl, fun w' hw' => by go_simp⟩) hS ?_
              simp only [Act.put, List.setIfInBounds_toArray, List.set_cons_zero, List.set_cons_succ]
              refine take_at (i := 4) 87 (v := .bool true) rfl rfl (by kernel_rfl) (by kernel_rfl) (by kernel_rfl) (fun _ _ _ h => h) (Or.inl ⟨by rfl, fun w' hw' => by go_simp⟩) hS ?_
              simp only [Act.put, List.setIfInBounds_toArray, List.set_cons_zero, List.set_cons_succ]
              refine take_at (i := 5) 88 (v := .slice (some ⟨g4, 0, none⟩) xs.length c4) rfl rfl (by kernel_rfl) (by kernel_rfl) (by kernel_rfl) (fun _ _ _ h => h) (Or.inl ⟨by rfl, fun w' hw' => by go_simp⟩) hS ?_
              simp only [Act.put, List.setIfInBounds_toArray, List.set_cons_zero, List.set_cons_succ]
              refine take_at (i := 6) 89 (v := .int .i64 (m : Int)) rfl rfl (by kernel_rfl) (by kernel_rfl) (by kernel_rfl) (fun _ _ _ h => h) (Or.inl ⟨by rfl, fun w' hw' => by go_simp⟩) hS ?_
              simp only [Act.put, List.setIfInBounds_toArray, List.set_cons_zero, List.set_cons_succ]
              refine take_at (i := 7) 90 (v := .pointer (some ⟨g4, m * 11, none⟩)) rfl rfl (by kernel_rfl) (by kernel_rfl) (by kernel_rfl) (fun _ _ _ h => h) (Or.inl ⟨by rfl, fun w' hw' => exec_idx10 rfl (idx_hin hlm c4 g4 w')⟩) hS ?_
              simp only [Act.put, List.setIfInBounds_toArray, List.set_cons_zero, List.set_cons_succ]
              refine take_at (i := 8) 91 (v := .pointer (some ⟨g4, m * 11, none⟩)) rfl rfl (by kernel_rfl) (by kernel_rfl) (by kernel_rfl) (fun _ _ _ h => h) (Or.inl ⟨by rfl, fun w' hw' => by go_simp⟩) hS ?_
              simp only [Act.put, List.setIfInBounds_toArray, List.set_cons_zero, List.set_cons_succ]
              refine take_at (i := 9) 92 (v := .int .i64 z.node) rfl rfl (by kernel_rfl) (by kernel_rfl) (by kernel_rfl) (fun _ _ _ h => h) (Or.inl ⟨by rfl, fun w' hw' => by obtain ⟨x0, x1, x2, x3, x4, x5, x6, x7, x8, x9, x10⟩ := (HAT.out.off (HP.out.trans hw' (fun _ _ h => h)) (fun _ h => h)).cells; go_simp⟩) hS ?_
              simp only [Act.put, List.setIfInBounds_toArray, List.set_cons_zero, List.set_cons_succ]
              refine take_at (i := 10) 93 (v := .pointer (some ⟨w.heap.size, 0, none⟩)) rfl rfl (by kernel_rfl) (by kernel_rfl) (by kernel_rfl) (fun _ _ _ h => h) (Or.inl ⟨by rfl, fun w' hw' => by go_simp⟩) hS ?_
              simp only [Act.put, List.setIfInBounds_toArray, List.set_cons_zero, List.set_cons_succ]
              refine take_at (i := 11) 94 (v := .int .i64 y.node) rfl rfl (by kernel_rfl) (by kernel_rfl) (by kernel_rfl) (fun _ _ _ h => h) (Or.inl ⟨by rfl, fun w' hw' => by obtain ⟨x0, x1, x2, x3, x4, x5, x6, x7, x8, x9, x10⟩ := cel11 (HCB.out.off (HP.out.trans hw' (fun _ _ h => h)) (fun h => h)); go_simp⟩) hS ?_
              simp only [Act.put, List.setIfInBounds_toArray, List.set_cons_zero, List.set_cons_succ]
              refine take_at (i := 12) 95 (v := .bool false) rfl rfl (by kernel_rfl) (by kernel_rfl) (by kernel_rfl) (fun _ _ _ h => h) (Or.inl ⟨by rfl, fun w' hw' => exec_bin10 rfl (by go_simp) (lss_i HL.out w')⟩) hS ?_
              simp only [Act.put, List.setIfInBounds_toArray, List.set_cons_zero, List.set_cons_succ]
              refine take_at (i := 13) 96 (v := .bool false) rfl rfl (by kernel_rfl) (by kernel_rfl) (by kernel_rfl) (fun _ _ _ h => h) (Or.inl ⟨by rfl, fun w' hw' => by go_simp⟩) hS ?_
              simp only [Act.put, List.setIfInBounds_toArray, List.set_cons_zero, List.set_cons_succ]
              refine take_at (i := 14) 97 (v := .slice (some ⟨g4, 0, none⟩) xs.length c4) rfl rfl (by kernel_rfl) (by kernel_rfl) (by kernel_rfl) (fun _ _ _ h => h) (Or.inl ⟨by rfl, fun w' hw' => by go_simp⟩) hS ?_
              simp only [Act.put, List.setIfInBounds_toArray, List.set_cons_zero, List.set_cons_succ]
              refine take_at (i := 15) 98 (v := .int .i64 (m : Int)) rfl rfl (by kernel_rfl) (by kernel_rfl) (by kernel_rfl) (fun _ _ _ h => h) (Or.inl ⟨by rfl, fun w' hw' => by go_simp⟩) hS ?_
              simp only [Act.put, List.setIfInBounds_toArray, List.set_cons_zero, List.set_cons_succ]
              refine take_at (i := 16) 99 (v := .pointer (some ⟨g4, m * 11, none⟩)) rfl rfl (by kernel_rfl) (by kernel_rfl) (by kernel_rfl) (fun _ _ _ h => h) (Or.inl ⟨by rfl, fun w' hw' => exec_idx10 rfl (idx_hin hlm c4 g4 w')⟩) hS ?_
              simp only [Act.put, List.setIfInBounds_toArray, List.set_cons_zero, List.set_cons_succ]
              refine take_at (i := 17) 100 (v := .pointer (some ⟨g4, m * 11, none⟩)) rfl rfl (by kernel_rfl) (by kernel_rfl) (by kernel_rfl) (fun _ _ _ h => h) (Or.inl ⟨by rfl, fun w' hw' => by go_simp⟩) hS ?_
              simp only [Act.put, List.setIfInBounds_toArray, List.set_cons_zero, List.set_cons_succ]
              refine take_at (i := 18) 101 (v := .int .i64 z.node) rfl rfl (by kernel_rfl) (by kernel_rfl) (by kernel_rfl) (fun _ _ _ h => h) (Or.inl ⟨by rfl, fun w' hw' => by obtain ⟨x0, x1, x2, x3, x4, x5, x6, x7, x8, x9, x10⟩ := (HAT.out.off (HP.out.trans hw' (fun _ _ h => h)) (fun _ h => h)).cells; go_simp⟩) hS ?_
              simp only [Act.put, List.setIfInBounds_toArray, List.set_cons_zero, List.set_cons_succ]
              refine take_at (i := 19) 102 (v := .pointer (some ⟨w.heap.size, 0, none⟩)) rfl rfl (by kernel_rfl) (by kernel_rfl) (by kernel_rfl) (fun _ _ _ h => h) (Or.inl ⟨by rfl, fun w' hw' => by go_simp⟩) hS ?_
              simp only [Act.put, List.setIfInBounds_toArray, List.set_cons_zero, List.set_cons_succ]
              refine take_at (i := 20) 103 (v := .int .i64 y.node) rfl rfl (by kernel_rfl) (by kernel_rfl) (by kernel_rfl) (fun _ _ _ h => h) (Or.inl ⟨by rfl, fun w' hw' => by obtain ⟨x0, x1, x2, x3, x4, x5, x6, x7, x8, x9, x10⟩ := cel11 (HCB.out.off (HP.out.trans hw' (fun _ _ h => h)) (fun h => h)); go_simp⟩) hS ?_
              simp only [Act.put, List.setIfInBounds_toArray, List.set_cons_zero, List.set_cons_succ]
              refine take_at (i := 21) 104 (v := .bool false) rfl rfl (by kernel_rfl) (by kernel_rfl) (by kernel_rfl) (fun _ _ _ h => h) (Or.inl ⟨by rfl, fun w' hw' => exec_bin10 rfl (by go_simp) (eql_i HQ.out w')⟩) hS ?_
              simp only [Act.put, List.setIfInBounds_toArray, List.set_cons_zero, List.set_cons_succ]
              refine take_at (i := 22) 105 (v := .bool false) rfl rfl (by kernel_rfl) (by kernel_rfl) (by kernel_rfl) (fun _ _ _ h => h) (Or.inl ⟨by rfl, fun w' hw' => by go_simp⟩) hS ?_
              simp only [Act.put, List.setIfInBounds_toArray, List.set_cons_zero, List.set_cons_succ]
              refine take_at (i := 23) 106 (v := undef) rfl rfl (by kernel_rfl) (by kernel_rfl) (by kernel_rfl) (fun _ _ _ h => h) (Or.inr ⟨by rfl, rfl⟩) hS ?_
              simp only [Act.put, List.setIfInBounds_toArray, List.set_cons_zero, List.set_cons_succ]
              refine take_at (i := 24) 107 (v := undef) rfl rfl (by kernel_rfl) (by kernel_rfl) (by kernel_rfl) (fun _ _ _ h => h) (Or.inr ⟨by rfl, rfl⟩) hS ?_
              simp only [Act.put, List.setIfInBounds_toArray, List.set_cons_zero, List.set_cons_succ]
              refine take_at (i := 25) 108 (v := undef) rfl rfl (by kernel_rfl) (by kernel_rfl) (by kernel_rfl) (fun _ _ _ h => h) (Or.inr ⟨by rfl, rfl⟩) hS ?_
              simp only [Act.put, List.setIfInBounds_toArray, List.set_cons_zero, List.set_cons_succ]
              refine take_at (i := 26) 109 (v := undef) rfl rfl (by kernel_rfl) (by kernel_rfl) (by kernel_rfl) (fun _ _ _ h => h) (Or.inr ⟨by rfl, rfl⟩) hS ?_
              simp only [Act.put, List.setIfInBounds_toArray, List.set_cons_zero, List.set_cons_succ]
              refine take_at (i := 27) 110 (v := undef) rfl rfl (by kernel_rfl) (by kernel_rfl) (by kernel_rfl) (fun _ _ _ h => h) (Or.inr ⟨by rfl, rfl⟩) hS ?_
              simp only [Act.put, List.setIfInBounds_toArray, List.set_cons_zero, List.set_cons_succ]
              refine take_at (i := 28) 111 (v := undef) rfl rfl (by kernel_rfl) (by kernel_rfl) (by kernel_rfl) (fun _ _ _ h => h) (Or.inr ⟨by rfl, rfl⟩) hS ?_
              simp only [Act.put, List.setIfInBounds_toArray, List.set_cons_zero, List.set_cons_succ]
              refine take_at (i := 29) 112 (v := undef) rfl rfl (by kernel_rfl) (by kernel_rfl) (by kernel_rfl) (fun _ _ _ h => h) (Or.inr ⟨by rfl, rfl⟩) hS ?_
              simp only [Act.put, List.setIfInBounds_toArray, List.set_cons_zero, List.set_cons_succ]
              refine take_at (i := 30) 113 (v := undef) rfl rfl (by kernel_rfl) (by kernel_rfl) (by kernel_rfl) (fun _ _ _ h => h) (Or.inr ⟨by rfl, rfl⟩) hS ?_
              simp only [Act.put, List.setIfInBounds_toArray, List.set_cons_zero, List.set_cons_succ]
              refine take_at (i := 31) 114 (v := undef) rfl rfl (by kernel_rfl) (by kernel_rfl) (by kernel_rfl) (fun _ _ _ h => h) (Or.inr ⟨by rfl, rfl⟩) hS ?_
              simp only [Act.put, List.setIfInBounds_toArray, List.set_cons_zero, List.set_cons_succ]
              refine take_at (i := 32) 115 (v := undef) rfl rfl (by kernel_rfl) (by kernel_rfl) (by kernel_rfl) (fun _ _ _ h => h) (Or.inr ⟨by rfl, rfl⟩) hS ?_
              simp only [Act.put, List.setIfInBounds_toArray, List.set_cons_zero, List.set_cons_succ]
              refine take_at (i := 33) 116 (v := .bool false) rfl rfl (by kernel_rfl) (by kernel_rfl) (by kernel_rfl) (fun _ _ _ h => h) (Or.inl ⟨by rfl, fun w' hw' => by go_simp⟩) hS ?_
              simp only [Act.put, List.setIfInBounds_toArray, List.set_cons_zero, List.set_cons_succ]
              refine take_at (i := 34) 117 (v := .bool false) rfl rfl (by kernel_rfl) (by kernel_rfl) (by kernel_rfl) (fun _ _ _ h => h) (Or.inl ⟨by rfl, fun w' hw' => by go_simp⟩) hS ?_
              simp only [Act.put, List.setIfInBounds_toArray, List.set_cons_zero, List.set_cons_succ]
              refine take_at (i := 35) 118 (v := .bool false) rfl rfl (by kernel_rfl) (by kernel_rfl) (by kernel_rfl) (fun _ _ _ h => h) (Or.inl ⟨by rfl, fun w' hw' => by go_simp⟩) hS ?_
              simp only [Act.put, List.setIfInBounds_toArray, List.set_cons_zero, List.set_cons_succ]
              refine wpAnyH_done (by kernel_rfl) ?_ _
              have HP1 : Hid _ := HP.out.drew
              clear hS HP
              generalize hdr : wr.drew = v1 at HP1 ⊢
              clear hdr
              clear HAT HZX i1 i2 hlm HL HQ HZN hl hq
              generalize hbb : (some ⟨g4, 0, none⟩ : Option Addr) = a4 at HOWN4 HOWNV HAT4 ⊢
              clear hbb
              have HQL : Hid (q < v1.heap.size) := by have h1 := HST.out.lt; have h2 := HOV.out.size; have h3 := HP1.out.size; show _ < _; omega
              have own1 := HOWNV.out.off HP1.out (fun _ _ _ h => h)
              have hns := own1.hns
              have HZ4 : Hid _ := HOWN4.out.zero
              have HQ4 : Hid (∀ c, blk a4 = some c → ¬ c = q) := fun c hc e => by have h1 := HAT4.out c hc; have h2 := HST.out.lt; have h3 := HO2.out.size; omega
              obtain ⟨hsh, hrt⟩ := hns.slh (k := m) hm
              obtain ⟨a2, hsl, hrd, hz2⟩ := hns.sll HZ4.out (k := m) rfl hm
              have HQ2 : Hid (∀ c, blk a2 = some c → ¬ c = q) := fun c hc => HQ4.out c (sll_blk hns hm hsl c hc)
              obtain ⟨ys, hys⟩ : ∃ ys, ys = xs.take m ++ y :: xs.drop m := ⟨_, rfl⟩
              have HYS : Hid (ys = putG H.nk y xs) := by show _ = _; rw [hys]; exact ins_put H.nk HST.out.sor hm HUP.out HHI.out
              have HE : Hid ((xs.take m ++ [y]) ++ xs.drop m = ys) := by show _ = _; rw [hys]; simp
              have hlt : (xs.take m).length ≤ 1000 := by simp; omega
              have hld : (xs.drop m).length ≤ 1000 := by simp; omega
              have HRT : Hid _ := hrt
              have HRD : Hid _ := hrd
              have HZ2 : Hid _ := hz2
              clear hrt hrd hz2 hys hns own1
              generalize hltt : xs.take m = lt at hsh HRT HE hlt
              generalize hldd : xs.drop m = ld at hsl HRD HE hld
              clear hltt hldd
              have HS0 : Hid (StS q v1 v1) := ⟨Off.refl _ v1, by obtain ⟨a, c, h1, -, -⟩ := ((HST.out.free HOV.out).free HP1.out).is; exact ⟨a, _, c, h1⟩⟩
              have HBQ : Hid (¬ w.heap.size = q) := fun e => by have := HST.out.lt; omega
              have HCB1 : Hid _ := HCB.out.off HP1.out (fun h => h)
              go_upto_region 18 with fail
              refine wp_region_held_drew (S := fun w' => StS q v1 w') (by kernel_rfl) (HS0.out.free ((Off.refl _ v1).drew) HQL.out) (fun hS => ?_)
              generalize hdr : v1.drew = v2 at hS ⊢
              clear hdr
              refine take_at (i := 0) 121 (v := .pointer (some ⟨q, 0, none⟩)) rfl rfl (by kernel_rfl) (by kernel_rfl) (by kernel_rfl) (fun _ _ _ h => h) (Or.inl ⟨by rfl, fun w' hw' => by go_simp⟩) hS ?_
              simp only [Act.put, List.setIfInBounds_toArray, List.set_cons_zero, List.set_cons_succ]
              refine take_at (i := 1) 122 (v := .slice a4 xs.length c4) rfl rfl (by kernel_rfl) (by kernel_rfl) (by kernel_rfl) (fun _ _ _ h => h) (Or.inl ⟨by rfl, fun w' hw' => by go_simp⟩) hS ?_
              simp only [Act.put, List.setIfInBounds_toArray, List.set_cons_zero, List.set_cons_succ]
              refine take_at (i := 2) 123 (v := .int .i64 (m : Int)) rfl rfl (by kernel_rfl) (by kernel_rfl) (by kernel_rfl) (fun _ _ _ h => h) (Or.inl ⟨by rfl, fun w' hw' => by go_simp⟩) hS ?_
              simp only [Act.put, List.setIfInBounds_toArray, List.set_cons_zero, List.set_cons_succ]
              refine take_at (i := 3) 124 (v := .slice a4 lt.length c4) rfl rfl (by kernel_rfl) (by kernel_rfl) (by kernel_rfl) (fun _ _ _ h => h) (Or.inl ⟨by rfl, fun w' hw' => by go_simp⟩) hS ?_
              simp only [Act.put, List.setIfInBounds_toArray, List.set_cons_zero, List.set_cons_succ]
              refine take_at (i := 5) 126 (v := .agg #[.int .i64 y.node, .string y.e.key, .int .i64 (y.e.f 0), .int .i64 (y.e.f 1), .int .i64 (y.e.f 2), .int .i64 (y.e.f 3), .int .i64 (y.e.f 4), .int .i64 (y.e.f 5), .int .i64 (y.e.f 6), .int .i64 (y.e.f 7), .slice y.e.a y.e.l.length y.e.cap]) rfl rfl (by kernel_rfl) (by kernel_rfl) (by kernel_rfl) (fun _ _ _ h => h) (Or.inl ⟨by rfl, fun w' hw' => by obtain ⟨x0, x1, x2, x3, x4, x5, x6, x7, x8, x9, x10⟩ := cel11 (HCB1.out.off hw'.off HBQ.out); go_simp⟩) hS ?_
              simp only [Act.put, List.setIfInBounds_toArray, List.set_cons_zero, List.set_cons_succ]
              refine take_at (i := 8) 129 (v := .slice a4 xs.length c4) rfl rfl (by kernel_rfl) (by kernel_rfl) (by kernel_rfl) (fun _ _ _ h => h) (Or.inl ⟨by rfl, fun w' hw' => by go_simp⟩) hS ?_
              simp only [Act.put, List.setIfInBounds_toArray, List.set_cons_zero, List.set_cons_succ]
              refine take_at (i := 9) 130 (v := .int .i64 (m : Int)) rfl rfl (by kernel_rfl) (by kernel_rfl) (by kernel_rfl) (fun _ _ _ h => h) (Or.inl ⟨by rfl, fun w' hw' => by go_simp⟩) hS ?_
              simp only [Act.put, List.setIfInBounds_toArray, List.set_cons_zero, List.set_cons_succ]
              refine take_at (i := 10) 131 (v := .slice a2 ld.length (c4 - m)) rfl rfl (by kernel_rfl) (by kernel_rfl) (by kernel_rfl) (fun _ _ _ h => h) (Or.inl ⟨by rfl, fun w' hw' => by go_simp⟩) hS ?_
              simp only [Act.put, List.setIfInBounds_toArray, List.set_cons_zero, List.set_cons_succ]
              refine wpAnyH_ready (rs := [4, 6]) (by kernel_rfl) (by simp) ?_
              refine AllReadyH.cons rfl (fun K' hK' => ?_) (AllReadyH.cons rfl (fun K' hK' => ?_) AllReadyH.nil)
              · obtain ⟨a3, c3, v3, hr, own3, o3, at3⟩ := app_runH (OwnG.nil _ _ _ v2) (HRT.out.offQ hS.off HQ4.out) HZ4.out (by simp; omega) 28
                rw [List.nil_append] at hr own3
                replace o3 : Off (fun _ => False) v2 v3 := o3.mono (fun _ _ h => by simp [blk] at h)
                replace at3 : ∀ c, blk a3 = some c → v1.heap.size ≤ c := fun c hc => by have := hS.off.size; rcases at3 with e | e <;> (rw [e] at hc; simp [blk] at hc; try omega)
                have hS3 := hS.free o3 HQL.out
                refine wp_append_if rfl (.const (.slice none 0 0)) (.tmp 124) rfl rfl rfl hr 125 rfl ?_
                simp only [Act.put, List.setIfInBounds_toArray, List.set_cons_zero, List.set_cons_succ]
                refine hK'.out _ _ hS3 (fun hS => ?_)
                clear hK' K' hr
                refine wpAnyH_ready (rs := [6]) (by kernel_rfl) (by simp) ?_
                refine AllReadyH.cons rfl (fun K' hK' => ?_) AllReadyH.nil
                go_simp
                have CB := Cel.new v3 39 #[.int .i64 y.node, .string y.e.key, .int .i64 (y.e.f 0), .int .i64 (y.e.f 1), .int .i64 (y.e.f 2), .int .i64 (y.e.f 3), .int .i64 (y.e.f 4), .int .i64 (y.e.f 5), .int .i64 (y.e.f 6), .int .i64 (y.e.f 7), .slice y.e.a y.e.l.length y.e.cap]
                have OB : Off (fun _ => False) v3 (v3.alloc (.cells #[.int .i64 y.node, .string y.e.key, .int .i64 (y.e.f 0), .int .i64 (y.e.f 1), .int .i64 (y.e.f 2), .int .i64 (y.e.f 3), .int .i64 (y.e.f 4), .int .i64 (y.e.f 5), .int .i64 (y.e.f 6), .int .i64 (y.e.f 7), .slice y.e.a y.e.l.length y.e.cap] 39)) := (Off.refl _ v3).alloc _
                refine hK'.out _ _ (hS.free OB HQL.out) (fun hS => ?_)
                clear hK' K'
                generalize hq5 : v3.heap.size = q5 at CB ⊢
                generalize hv5 : v3.alloc (.cells #[.int .i64 y.node, .string y.e.key, .int .i64 (y.e.f 0), .int .i64 (y.e.f 1), .int .i64 (y.e.f 2), .int .i64 (y.e.f 3), .int .i64 (y.e.f 4), .int .i64 (y.e.f 5), .int .i64 (y.e.f 6), .int .i64 (y.e.f 7), .slice y.e.a y.e.l.length y.e.cap] 39) = v5b at CB OB hS ⊢
                clear hv5 hq5
                refine wpAnyH_ready (rs := [7]) (by kernel_rfl) (by simp) ?_
                refine AllReadyH.cons rfl (fun K' hK' => ?_) AllReadyH.nil
                have RB := cel_hns (v := y) CB
                obtain ⟨a6, c6, v6, hr, own6, o6, at6⟩ := app_runH (own3.off OB (fun _ _ _ h => h)) RB (fun h => by simp at h) (by simp; omega) 28
                have hS6 := hS.step o6 at3 HQL.out
                replace at6 : ∀ c, blk a6 = some c → v1.heap.size ≤ c := fun c hc => by
                  have := hS.off.size
                  rcases at6 with e | e
                  · exact at3 c (e ▸ hc)
                  · rw [e] at hc
                    simp at hc
                    omega
                refine wp_append_if rfl (.tmp 125) (.tmp 127) rfl rfl rfl hr 128 rfl ?_
                simp only [Act.put, List.setIfInBounds_toArray, List.set_cons_zero, List.set_cons_succ]
                refine hK'.out _ _ hS6 (fun hS => ?_)
                clear hK' K' hr
                clear o6 RB
                refine wpAnyH_ready (rs := [11]) (by kernel_rfl) (by simp) ?_
                refine AllReadyH.cons rfl (fun K' hK' => ?_) AllReadyH.nil
                obtain ⟨a10, c10, v10, hr, own10, o10, at10⟩ := app_runH own6 (HRD.out.offQ hS.off HQ2.out) HZ2.out (by simp; omega) 28
                have hS10 := hS.step o10 at6 HQL.out
                replace at10 : ∀ c, blk a10 = some c → v1.heap.size ≤ c := fun c hc => by
                  have := hS.off.size
                  rcases at10 with e | e
                  · exact at6 c (e ▸ hc)
                  · rw [e] at hc
                    simp at hc
                    omega
                refine wp_append_if rfl (.tmp 128) (.tmp 131) rfl rfl rfl hr 132 rfl ?_
                simp only [Act.put, List.setIfInBounds_toArray, List.set_cons_zero, List.set_cons_succ]
                refine hK'.out _ _ hS10 (fun hS => ?_)
                clear hK' K' hr
                clear o10
                have HOWN : Hid _ := own10
                have HAT10 : Hid _ := at10
                have HLL : Hid (((lt ++ [y]) ++ ld).length = ys.length) := by show _ = _; rw [HE.out]
                generalize hzz : ((lt ++ [y]) ++ ld).length = zz at HLL ⊢
                refine take_at (i := 12) 133 (v := .pointer (some ⟨q, 0, none⟩)) rfl rfl (by kernel_rfl) (by kernel_rfl) (by kernel_rfl) (fun _ _ _ h => h) (Or.inl ⟨by rfl, fun w' hw' => by go_simp⟩) hS ?_
                simp only [Act.put, List.setIfInBounds_toArray, List.set_cons_zero, List.set_cons_succ]
                refine take_at (i := 13) 134 (v := .pointer (some ⟨q, 0, none⟩)) rfl rfl (by kernel_rfl) (by kernel_rfl) (by kernel_rfl) (fun _ _ _ h => h) (Or.inl ⟨by rfl, fun w' hw' => by go_simp⟩) hS ?_
                simp only [Act.put, List.setIfInBounds_toArray, List.set_cons_zero, List.set_cons_succ]
                obtain ⟨b0, n0, k0, hc0⟩ := hS.cel
                have c0 := hc0.cell 0
                have fr := hc0.free
                simp only [List.getElem?_toArray, List.getElem?_cons_zero] at c0
                refine wpAnyH_ready (rs := [14]) (by kernel_rfl) (by simp) ?_
                refine AllReadyH.cons rfl (fun K' hK' => ?_) AllReadyH.nil
                go_simp
                refine hK'.out _ _ (hS.put a10 zz c10) (fun hS' => ?_)
                clear hK' K'
                have CQ := hc0.set 0 (.slice a10 zz c10)
                have OQ : Off (fun c => c = q) v10 (v10.setCell ⟨q, 0, none⟩ (.slice a10 zz c10)) := (Off.refl (fun c => c = q) v10).setCell (p := ⟨q, 0, none⟩) (.inl rfl) _
                generalize hv11 : v10.setCell ⟨q, 0, none⟩ (.slice a10 zz c10) = v11 at hS' CQ OQ ⊢
                clear hv11 hc0 c0 fr
                refine wpAnyH_done (by kernel_rfl) ?_ _
                have HCQ : Hid (Cel q 30 #[.slice a10 zz c10] v11) := CQ
                have HOQ : Hid _ := OQ
                have HSQ : Hid _ := hS'
                clear CQ OQ hS' hS hzz
                go_wp2_with fail
                go_ret2
                rw [hpR_new HM.out HNF.out (by rw [absH_len]; exact HNL.out)]
                have OZ : Off (fun c => c = q) w v11 := ((HOV.out.trans HP1.out (fun _ _ h => h)).mono (fun _ _ h => h.elim)).trans HSQ.out.off (fun _ _ h => h)
                have own := HOWN.out.off HOQ.out (fun c _ hc e => by have := HAT10.out c hc; have := HQL.out; omega)
                rw [HE.out] at own
                have CF := HCQ.out
                rw [HLL.out] at CF
                have hAB : absH ys = putG HK.nk h.abs (absH xs) := by rw [HYS.out, absH_put, HYA.out]
                have hq0 := HST.out.lt
                have hv0 := HOV.out.size
                have hv1 := HP1.out.size
                have hv4 := HV4.out
                have rowY : Row v11 y.e.a y.e.cap y.e.l := (HRY.out.off HP1.out).offT HTY.out HSQ.out.off (fun c hc hd e => by omega)
                have rowX : ∀ z ∈ xs, Row v11 z.e.a z.e.cap z.e.l := fun z hz => (HST.out.row z hz).offT (HST.out.ter z hz) OZ (fun c _ hd e => hd.2 e)
                refine ⟨rfl, fun c => (R c ∨ w.heap.size ≤ c) ∧ c < v11.heap.size, ys, ⟨⟨.inl HST.out.dp, by have := OZ.size; omega⟩, fun c hc => hc.2, ⟨a10, c10, CF, own, fun g hg => ?_⟩, fun z hz => ?_, fun z hz => ?_, ?_⟩, hAB, OZ, fun c hc => hc.1⟩
                · have h1 := HAT10.out g hg
                  exact ⟨⟨.inr (by omega), own.lt g hg⟩, by omega⟩
                · rw [HYS.out, mem_putG] at hz
                  rcases hz with rfl | ⟨hz, -⟩
                  · exact rowY
                  · exact rowX z hz
                · rw [HYS.out, mem_putG] at hz
                  rcases hz with rfl | ⟨hz, -⟩
                  · exact (HTY.out.and rowY.below).mono (fun c hc => ⟨⟨.inr (by omega), hc.2⟩, by omega⟩)
                  · exact ((HST.out.ter z hz).and (rowX z hz).below).mono (fun c hc => ⟨⟨.inl hc.1.1, hc.2⟩, hc.1.2⟩)
                · rw [hAB]
                  have e := HST.out.ok.hpR (x := h.abs) HNRM.out
                  rw [hpR_new HM.out HNF.out (by rw [absH_len]; exact HNL.out)] at e
                  exact e
              · go_simp
                have CB := Cel.new v2 39 #[.int .i64 y.node, .string y.e.key, .int .i64 (y.e.f 0), .int .i64 (y.e.f 1), .int .i64 (y.e.f 2), .int .i64 (y.e.f 3), .int .i64 (y.e.f 4), .int .i64 (y.e.f 5), .int .i64 (y.e.f 6), .int .i64 (y.e.f 7), .slice y.e.a y.e.l.length y.e.cap]
                have OB : Off (fun _ => False) v2 (v2.alloc (.cells #[.int .i64 y.node, .string y.e.key, .int .i64 (y.e.f 0), .int .i64 (y.e.f 1), .int .i64 (y.e.f 2), .int .i64 (y.e.f 3), .int .i64 (y.e.f 4), .int .i64 (y.e.f 5), .int .i64 (y.e.f 6), .int .i64 (y.e.f 7), .slice y.e.a y.e.l.length y.e.cap] 39)) := (Off.refl _ v2).alloc _
                refine hK'.out _ _ (hS.free OB HQL.out) (fun hS => ?_)
                clear hK' K'
                generalize hq5 : v2.heap.size = q5 at CB ⊢
                generalize hv5 : v2.alloc (.cells #[.int .i64 y.node, .string y.e.key, .int .i64 (y.e.f 0), .int .i64 (y.e.f 1), .int .i64 (y.e.f 2), .int .i64 (y.e.f 3), .int .i64 (y.e.f 4), .int .i64 (y.e.f 5), .int .i64 (y.e.f 6), .int .i64 (y.e.f 7), .slice y.e.a y.e.l.length y.e.cap] 39) = v3 at CB OB hS ⊢
                clear hv5 hq5
                refine wpAnyH_ready (rs := [4]) (by kernel_rfl) (by simp) ?_
                refine AllReadyH.cons rfl (fun K' hK' => ?_) AllReadyH.nil
                obtain ⟨a3, c3, v5b, hr, own3, o3, at3⟩ := app_runH (OwnG.nil _ _ _ v3) (HRT.out.offQ hS.off HQ4.out) HZ4.out (by simp; omega) 28
                rw [List.nil_append] at hr own3
                replace o3 : Off (fun _ => False) v3 v5b := o3.mono (fun _ _ h => by simp [blk] at h)
                replace at3 : ∀ c, blk a3 = some c → v1.heap.size ≤ c := fun c hc => by have := hS.off.size; rcases at3 with e | e <;> (rw [e] at hc; simp [blk] at hc; try omega)
                have hS3 := hS.free o3 HQL.out
                refine wp_append_if rfl (.const (.slice none 0 0)) (.tmp 124) rfl rfl rfl hr 125 rfl ?_
                simp only [Act.put, List.setIfInBounds_toArray, List.set_cons_zero, List.set_cons_succ]
                refine hK'.out _ _ hS3 (fun hS => ?_)
                clear hK' K' hr
                refine wpAnyH_ready (rs := [7]) (by kernel_rfl) (by simp) ?_
                refine AllReadyH.cons rfl (fun K' hK' => ?_) AllReadyH.nil
                have RB := cel_hns (v := y) (CB.off o3 (fun h => h))
                obtain ⟨a6, c6, v6, hr, own6, o6, at6⟩ := app_runH own3 RB (fun h => by simp at h) (by simp; omega) 28
                have hS6 := hS.step o6 at3 HQL.out
                replace at6 : ∀ c, blk a6 = some c → v1.heap.size ≤ c := fun c hc => by
                  have := hS.off.size
                  rcases at6 with e | e
                  · exact at3 c (e ▸ hc)
                  · rw [e] at hc
                    simp at hc
                    omega
                refine wp_append_if rfl (.tmp 125) (.tmp 127) rfl rfl rfl hr 128 rfl ?_
                simp only [Act.put, List.setIfInBounds_toArray, List.set_cons_zero, List.set_cons_succ]
                refine hK'.out _ _ hS6 (fun hS => ?_)
                clear hK' K' hr
                clear o6 RB
                refine wpAnyH_ready (rs := [11]) (by kernel_rfl) (by simp) ?_
                refine AllReadyH.cons rfl (fun K' hK' => ?_) AllReadyH.nil
                obtain ⟨a10, c10, v10, hr, own10, o10, at10⟩ := app_runH own6 (HRD.out.offQ hS.off HQ2.out) HZ2.out (by simp; omega) 28
                have hS10 := hS.step o10 at6 HQL.out
                replace at10 : ∀ c, blk a10 = some c → v1.heap.size ≤ c := fun c hc => by
                  have := hS.off.size
                  rcases at10 with e | e
                  · exact at6 c (e ▸ hc)
                  · rw [e] at hc
                    simp at hc
                    omega
                refine wp_append_if rfl (.tmp 128) (.tmp 131) rfl rfl rfl hr 132 rfl ?_
                simp only [Act.put, List.setIfInBounds_toArray, List.set_cons_zero, List.set_cons_succ]
                refine hK'.out _ _ hS10 (fun hS => ?_)
                clear hK' K' hr
                clear o10
                have HOWN : Hid _ := own10
                have HAT10 : Hid _ := at10
                have HLL : Hid (((lt ++ [y]) ++ ld).length = ys.length) := by show _ = _; rw [HE.out]
                generalize hzz : ((lt ++ [y]) ++ ld).length = zz at HLL ⊢
                refine take_at (i := 12) 133 (v := .pointer (some ⟨q, 0, none⟩)) rfl rfl (by kernel_rfl) (by kernel_rfl) (by kernel_rfl) (fun _ _ _ h => h) (Or.inl ⟨by rfl, fun w' hw' => by go_simp⟩) hS ?_
                simp only [Act.put, List.setIfInBounds_toArray, List.set_cons_zero, List.set_cons_succ]
                refine take_at (i := 13) 134 (v := .pointer (some ⟨q, 0, none⟩)) rfl rfl (by kernel_rfl) (by kernel_rfl) (by kernel_rfl) (fun _ _ _ h => h) (Or.inl ⟨by rfl, fun w' hw' => by go_simp⟩) hS ?_
                simp only [Act.put, List.setIfInBounds_toArray, List.set_cons_zero, List.set_cons_succ]
                obtain ⟨b0, n0, k0, hc0⟩ := hS.cel
                have c0 := hc0.cell 0
                have fr := hc0.free
                simp only [List.getElem?_toArray, List.getElem?_cons_zero] at c0
                refine wpAnyH_ready (rs := [14]) (by kernel_rfl) (by simp) ?_
                refine AllReadyH.cons rfl (fun K' hK' => ?_) AllReadyH.nil
                go_simp
                refine hK'.out _ _ (hS.put a10 zz c10) (fun hS' => ?_)
                clear hK' K'
                have CQ := hc0.set 0 (.slice a10 zz c10)
                have OQ : Off (fun c => c = q) v10 (v10.setCell ⟨q, 0, none⟩ (.slice a10 zz c10)) := (Off.refl (fun c => c = q) v10).setCell (p := ⟨q, 0, none⟩) (.inl rfl) _
                generalize hv11 : v10.setCell ⟨q, 0, none⟩ (.slice a10 zz c10) = v11 at hS' CQ OQ ⊢
                clear hv11 hc0 c0 fr
                refine wpAnyH_done (by kernel_rfl) ?_ _
                have HCQ : Hid (Cel q 30 #[.slice a10 zz c10] v11) := CQ
                have HOQ : Hid _ := OQ
                have HSQ : Hid _ := hS'
                clear CQ OQ hS' hS hzz
                go_wp2_with fail
                go_ret2
                rw [hpR_new HM.out HNF.out (by rw [absH_len]; exact HNL.out)]
                have OZ : Off (fun c => c = q) w v11 := ((HOV.out.trans HP1.out (fun _ _ h => h)).mono (fun _ _ h => h.elim)).trans HSQ.out.off (fun _ _ h => h)
                have own := HOWN.out.off HOQ.out (fun c _ hc e => by have := HAT10.out c hc; have := HQL.out; omega)
                rw [HE.out] at own
                have CF := HCQ.out
                rw [HLL.out] at CF
                have hAB : absH ys = putG HK.nk h.abs (absH xs) := by rw [HYS.out, absH_put, HYA.out]
                have hq0 := HST.out.lt
                have hv0 := HOV.out.size
                have hv1 := HP1.out.size
                have hv4 := HV4.out
                have rowY : Row v11 y.e.a y.e.cap y.e.l := (HRY.out.off HP1.out).offT HTY.out HSQ.out.off (fun c hc hd e => by omega)
                have rowX : ∀ z ∈ xs, Row v11 z.e.a z.e.cap z.e.l := fun z hz => (HST.out.row z hz).offT (HST.out.ter z hz) OZ (fun c _ hd e => hd.2 e)
                refine ⟨rfl, fun c => (R c ∨ w.heap.size ≤ c) ∧ c < v11.heap.size, ys, ⟨⟨.inl HST.out.dp, by have := OZ.size; omega⟩, fun c hc => hc.2, ⟨a10, c10, CF, own, fun g hg => ?_⟩, fun z hz => ?_, fun z hz => ?_, ?_⟩, hAB, OZ, fun c hc => hc.1⟩
                · have h1 := HAT10.out g hg
                  exact ⟨⟨.inr (by omega), own.lt g hg⟩, by omega⟩
                · rw [HYS.out, mem_putG] at hz
                  rcases hz with rfl | ⟨hz, -⟩
                  · exact rowY
                  · exact rowX z hz
                · rw [HYS.out, mem_putG] at hz
                  rcases hz with rfl | ⟨hz, -⟩
                  · exact (HTY.out.and rowY.below).mono (fun c hc => ⟨⟨.inr (by omega), hc.2⟩, by omega⟩)
                  · exact ((HST.out.ter z hz).and (rowX z hz).below).mono (fun c hc => ⟨⟨.inl hc.1.1, hc.2⟩, hc.1.2⟩)
                · rw [hAB]
                  have e := HST.out.ok.hpR (x := h.abs) HNRM.out
                  rw [hpR_new HM.out HNF.out (by rw [absH_len]; exact HNL.out)] at e
                  exact e
        · have i1 : decide ((m : Int) < (xs.length : Int)) = false := decide_eq_false (by omega)
          have i2 : decide (m < xs.length) = false := decide_eq_false hlm
          have HHI : Hid (∀ i u, m ≤ i → xs[i]? = some u → plt y.nk u.nk = true) := fun i u hi hu => by
            obtain ⟨h, -⟩ := List.getElem?_eq_some_iff.1 hu
            omega
          go_upto_region 16 with fail
          refine wp_region_held_drew (S := fun w' => w' = wr.drew) (by kernel_rfl) rfl (fun hS => ?_)
          refine take_at (i := 0) 83 (v := .int .i64 (m : Int)) rfl rfl (by kernel_rfl) (by kernel_rfl) (by kernel_rfl) (fun _ _ _ h => h) (Or.inl ⟨by rfl, fun w' hw' => by go_simp⟩) hS ?_
          simp only [Act.put, List.setIfInBounds_toArray, List.set_cons_zero, List.set_cons_succ]
          refine take_at (i := 1) 84 (v := .slice a4 xs.length c4) rfl rfl (by kernel_rfl) (by kernel_rfl) (by kernel_rfl) (fun _ _ _ h => h) (Or.inl ⟨by rfl, fun w' hw' => by go_simp⟩) hS ?_
          simp only [Act.put, List.setIfInBounds_toArray, List.set_cons_zero, List.set_cons_succ]
          refine take_at (i := 2) 85 (v := .int .i64 (xs.length : Int)) rfl rfl (by kernel_rfl) (by kernel_rfl) (by kernel_rfl) (fun _ _ _ h => h) (Or.inl ⟨by rfl, fun w' hw' => by go_simp⟩) hS ?_
          simp only [Act.put, List.setIfInBounds_toArray, List.set_cons_zero, List.set_cons_succ]
          refine take_at (i := 3) 86 (v := .bool false) rfl rfl (by kernel_rfl) (by kernel_rfl) (by kernel_rfl) (fun _ _ _ h => h) (Or.inl ⟨by rfl, fun w' hw' => by go_simp⟩) hS ?_
          simp only [Act.put, List.setIfInBounds_toArray, List.set_cons_zero, List.set_cons_succ]
          refine take_at (i := 4) 87 (v := .bool false) rfl rfl (by kernel_rfl) (by kernel_rfl) (by kernel_rfl) (fun _ _ _ h => h) (Or.inl ⟨by rfl, fun w' hw' => by go_simp⟩) hS ?_
          simp only [Act.put, List.setIfInBounds_toArray, List.set_cons_zero, List.set_cons_succ]
          refine take_at (i := 5) 88 (v := undef) rfl rfl (by kernel_rfl) (by kernel_rfl) (by kernel_rfl) (fun _ _ _ h => h) (Or.inr ⟨by rfl, rfl⟩) hS ?_
          simp only [Act.put, List.setIfInBounds_toArray, List.set_cons_zero, List.set_cons_succ]
          refine take_at (i := 6) 89 (v := undef) rfl rfl (by kernel_rfl) (by kernel_rfl) (by kernel_rfl) (fun _ _ _ h => h) (Or.inr ⟨by rfl, rfl⟩) hS ?_
          simp only [Act.put, List.setIfInBounds_toArray, List.set_cons_zero, List.set_cons_succ]
          refine take_at (i := 7) 90 (v := undef) rfl rfl (by kernel_rfl) (by kernel_rfl) (by kernel_rfl) (fun _ _ _ h => h) (Or.inr ⟨by rfl, rfl⟩) hS ?_
          simp only [Act.put, List.setIfInBounds_toArray, List.set_cons_zero, List.set_cons_succ]
          refine take_at (i := 8) 91 (v := undef) rfl rfl (by kernel_rfl) (by kernel_rfl) (by kernel_rfl) (fun _ _ _ h => h) (Or.inr ⟨by rfl, rfl⟩) hS ?_
          simp only [Act.put, List.setIfInBounds_toArray, List.set_cons_zero, List.set_cons_succ]
          refine take_at (i := 9) 92 (v := undef) rfl rfl (by kernel_rfl) (by kernel_rfl) (by kernel_rfl) (fun _ _ _ h => h) (Or.inr ⟨by rfl, rfl⟩) hS ?_
          simp only [Act.put, List.setIfInBounds_toArray, List.set_cons_zero, List.set_cons_succ]
          refine take_at (i := 10) 93 (v := undef) rfl rfl (by kernel_rfl) (by kernel_rfl) (by kernel_rfl) (fun _ _ _ h => h) (Or.inr ⟨by rfl, rfl⟩) hS ?_
          simp only [Act.put, List.setIfInBounds_toArray, List.set_cons_zero, List.set_cons_succ]
          refine take_at (i := 11) 94 (v := undef) rfl rfl (by kernel_rfl) (by kernel_rfl) (by kernel_rfl) (fun _ _ _ h => h) (Or.inr ⟨by rfl, rfl⟩) hS ?_
          simp only [Act.put, List.setIfInBounds_toArray, List.set_cons_zero, List.set_cons_succ]
          refine take_at (i := 12) 95 (v := undef) rfl rfl (by kernel_rfl) (by kernel_rfl) (by kernel_rfl) (fun _ _ _ h => h) (Or.inr ⟨by rfl, rfl⟩) hS ?_
          simp only [Act.put, List.setIfInBounds_toArray, List.set_cons_zero, List.set_cons_succ]
          refine take_at (i := 13) 96 (v := undef) rfl rfl (by kernel_rfl) (by kernel_rfl) (by kernel_rfl) (fun _ _ _ h => h) (Or.inr ⟨by rfl, rfl⟩) hS ?_
          simp only [Act.put, List.setIfInBounds_toArray, List.set_cons_zero, List.set_cons_succ]
          refine take_at (i := 14) 97 (v := undef) rfl rfl (by kernel_rfl) (by kernel_rfl) (by kernel_rfl) (fun _ _ _ h => h) (Or.inr ⟨by rfl, rfl⟩) hS ?_
          simp only [Act.put, List.setIfInBounds_toArray, List.set_cons_zero, List.set_cons_succ]
          refine take_at (i := 15) 98 (v := undef) rfl rfl (by kernel_rfl) (by kernel_rfl) (by kernel_rfl) (fun _ _ _ h => h) (Or.inr ⟨by rfl, rfl⟩) hS ?_
          simp only [Act.put, List.setIfInBounds_toArray, List.set_cons_zero, List.set_cons_succ]
          refine take_at (i := 16) 99 (v := undef) rfl rfl (by kernel_rfl) (by kernel_rfl) (by kernel_rfl) (fun _ _ _ h => h) (Or.inr ⟨by rfl, rfl⟩) hS ?_
          simp only [Act.put, List.setIfInBounds_toArray, List.set_cons_zero, List.set_cons_succ]
          refine take_at (i := 17) 100 (v := undef) rfl rfl (by kernel_rfl) (by kernel_rfl) (by kernel_rfl) (fun _ _ _ h => h) (Or.inr ⟨by rfl, rfl⟩) hS ?_
          simp only [Act.put, List.setIfInBounds_toArray, List.set_cons_zero, List.set_cons_succ]
          refine take_at (i := 18) 101 (v := undef) rfl rfl (by kernel_rfl) (by kernel_rfl) (by kernel_rfl) (fun _ _ _ h => h) (Or.inr ⟨by rfl, rfl⟩) hS ?_
          simp only [Act.put, List.setIfInBounds_toArray, List.set_cons_zero, List.set_cons_succ]
          refine take_at (i := 19) 102 (v := undef) rfl rfl (by kernel_rfl) (by kernel_rfl) (by kernel_rfl) (fun _ _ _ h => h) (Or.inr ⟨by rfl, rfl⟩) hS ?_
          simp only [Act.put, List.setIfInBounds_toArray, List.set_cons_zero, List.set_cons_succ]
          refine take_at (i := 20) 103 (v := undef) rfl rfl (by kernel_rfl) (by kernel_rfl) (by kernel_rfl) (fun _ _ _ h => h) (Or.inr ⟨by rfl, rfl⟩) hS ?_
          simp only [Act.put, List.setIfInBounds_toArray, List.set_cons_zero, List.set_cons_succ]
          refine take_at (i := 21) 104 (v := undef) rfl rfl (by kernel_rfl) (by kernel_rfl) (by kernel_rfl) (fun _ _ _ h => h) (Or.inr ⟨by rfl, rfl⟩) hS ?_
          simp only [Act.put, List.setIfInBounds_toArray, List.set_cons_zero, List.set_cons_succ]
          refine take_at (i := 22) 105 (v := undef) rfl rfl (by kernel_rfl) (by kernel_rfl) (by kernel_rfl) (fun _ _ _ h => h) (Or.inr ⟨by rfl, rfl⟩) hS ?_
          simp only [Act.put, List.setIfInBounds_toArray, List.set_cons_zero, List.set_cons_succ]
          refine take_at (i := 23) 106 (v := undef) rfl rfl (by kernel_rfl) (by kernel_rfl) (by kernel_rfl) (fun _ _ _ h => h) (Or.inr ⟨by rfl, rfl⟩) hS ?_
          simp only [Act.put, List.setIfInBounds_toArray, List.set_cons_zero, List.set_cons_succ]
          refine take_at (i := 24) 107 (v := undef) rfl rfl (by kernel_rfl) (by kernel_rfl) (by kernel_rfl) (fun _ _ _ h => h) (Or.inr ⟨by rfl, rfl⟩) hS ?_
          simp only [Act.put, List.setIfInBounds_toArray, List.set_cons_zero, List.set_cons_succ]
          refine take_at (i := 25) 108 (v := undef) rfl rfl (by kernel_rfl) (by kernel_rfl) (by kernel_rfl) (fun _ _ _ h => h) (Or.inr ⟨by rfl, rfl⟩) hS ?_
          simp only [Act.put, List.setIfInBounds_toArray, List.set_cons_zero, List.set_cons_succ]
          refine take_at (i := 26) 109 (v := undef) rfl rfl (by kernel_rfl) (by kernel_rfl) (by kernel_rfl) (fun _ _ _ h => h) (Or.inr ⟨by rfl, rfl⟩) hS ?_
          simp only [Act.put, List.setIfInBounds_toArray, List.set_cons_zero, List.set_cons_succ]
          refine take_at (i := 27) 110 (v := undef) rfl rfl (by kernel_rfl) (by kernel_rfl) (by kernel_rfl) (fun _ _ _ h => h) (Or.inr ⟨by rfl, rfl⟩) hS ?_
          simp only [Act.put, List.setIfInBounds_toArray, List.set_cons_zero, List.set_cons_succ]
          refine take_at (i := 28) 111 (v := undef) rfl rfl (by kernel_rfl) (by kernel_rfl) (by kernel_rfl) (fun _ _ _ h => h) (Or.inr ⟨by rfl, rfl⟩) hS ?_
          simp only [Act.put, List.setIfInBounds_toArray, List.set_cons_zero, List.set_cons_succ]
          refine take_at (i := 29) 112 (v := undef) rfl rfl (by kernel_rfl) (by kernel_rfl) (by kernel_rfl) (fun _ _ _ h => h) (Or.inr ⟨by rfl, rfl⟩) hS ?_
          simp only [Act.put, List.setIfInBounds_toArray, List.set_cons_zero, List.set_cons_succ]
          refine take_at (i := 30) 113 (v := undef) rfl rfl (by kernel_rfl) (by kernel_rfl) (by kernel_rfl) (fun _ _ _ h => h) (Or.inr ⟨by rfl, rfl⟩) hS ?_
          simp only [Act.put, List.setIfInBounds_toArray, List.set_cons_zero, List.set_cons_succ]
          refine take_at (i := 31) 114 (v := undef) rfl rfl (by kernel_rfl) (by kernel_rfl) (by kernel_rfl) (fun _ _ _ h => h) (Or.inr ⟨by rfl, rfl⟩) hS ?_
          simp only [Act.put, List.setIfInBounds_toArray, List.set_cons_zero, List.set_cons_succ]
          refine take_at (i := 32) 115 (v := undef) rfl rfl (by kernel_rfl) (by kernel_rfl) (by kernel_rfl) (fun _ _ _ h => h) (Or.inr ⟨by rfl, rfl⟩) hS ?_
          simp only [Act.put, List.setIfInBounds_toArray, List.set_cons_zero, List.set_cons_succ]
          refine take_at (i := 33) 116 (v := undef) rfl rfl (by kernel_rfl) (by kernel_rfl) (by kernel_rfl) (fun _ _ _ h => h) (Or.inr ⟨by rfl, rfl⟩) hS ?_
          simp only [Act.put, List.setIfInBounds_toArray, List.set_cons_zero, List.set_cons_succ]
          refine take_at (i := 34) 117 (v := undef) rfl rfl (by kernel_rfl) (by kernel_rfl) (by kernel_rfl) (fun _ _ _ h => h) (Or.inr ⟨by rfl, rfl⟩) hS ?_
          simp only [Act.put, List.setIfInBounds_toArray, List.set_cons_zero, List.set_cons_succ]
          refine take_at (i := 35) 118 (v := .bool false) rfl rfl (by kernel_rfl) (by kernel_rfl) (by kernel_rfl) (fun _ _ _ h => h) (Or.inl ⟨by rfl, fun w' hw' => by go_simp⟩) hS ?_
          simp only [Act.put, List.setIfInBounds_toArray, List.set_cons_zero, List.set_cons_succ]
          refine wpAnyH_done (by kernel_rfl) ?_ _
          have HP1 : Hid _ := HP.out.drew
          clear HP hS
          generalize hdr : wr.drew = v1 at HP1 ⊢
          clear hdr i1 i2 hlm
          have HQL : Hid (q < v1.heap.size) := by have h1 := HST.out.lt; have h2 := HOV.out.size; have h3 := HP1.out.size; show _ < _; omega
          have own1 := HOWNV.out.off HP1.out (fun _ _ _ h => h)
          have hns := own1.hns
          have HZ4 : Hid _ := HOWN4.out.zero
          have HQ4 : Hid (∀ c, blk a4 = some c → ¬ c = q) := fun c hc e => by have h1 := HAT4.out c hc; have h2 := HST.out.lt; have h3 := HO2.out.size; omega
          obtain ⟨hsh, hrt⟩ := hns.slh (k := m) hm
          obtain ⟨a2, hsl, hrd, hz2⟩ := hns.sll HZ4.out (k := m) rfl hm
          have HQ2 : Hid (∀ c, blk a2 = some c → ¬ c = q) := fun c hc => HQ4.out c (sll_blk hns hm hsl c hc)
          obtain ⟨ys, hys⟩ : ∃ ys, ys = xs.take m ++ y :: xs.drop m := ⟨_, rfl⟩
          have HYS : Hid (ys = putG H.nk y xs) := by show _ = _; rw [hys]; exact ins_put H.nk HST.out.sor hm HUP.out HHI.out
          have HE : Hid ((xs.take m ++ [y]) ++ xs.drop m = ys) := by show _ = _; rw [hys]; simp
          have hlt : (xs.take m).length ≤ 1000 := by simp; omega
          have hld : (xs.drop m).length ≤ 1000 := by simp; omega
          have HRT : Hid _ := hrt
          have HRD : Hid _ := hrd
          have HZ2 : Hid _ := hz2
          clear hrt hrd hz2 hys hns own1
          generalize hltt : xs.take m = lt at hsh HRT HE hlt
          generalize hldd : xs.drop m = ld at hsl HRD HE hld
          clear hltt hldd
          have HS0 : Hid (StS q v1 v1) := ⟨Off.refl _ v1, by obtain ⟨a, c, h1, -, -⟩ := ((HST.out.free HOV.out).free HP1.out).is; exact ⟨a, _, c, h1⟩⟩
          have HBQ : Hid (¬ w.heap.size = q) := fun e => by have := HST.out.lt; omega
          have HCB1 : Hid _ := HCB.out.off HP1.out (fun h => h)
          go_upto_region 18 with fail
          refine wp_region_held_drew (S := fun w' => StS q v1 w') (by kernel_rfl) (HS0.out.free ((Off.refl _ v1).drew) HQL.out) (fun hS => ?_)
          generalize hdr : v1.drew = v2 at hS ⊢
          clear hdr
          refine take_at (i := 0) 121 (v := .pointer (some ⟨q, 0, none⟩)) rfl rfl (by kernel_rfl) (by kernel_rfl) (by kernel_rfl) (fun _ _ _ h => h) (Or.inl ⟨by rfl, fun w' hw' => by go_simp⟩) hS ?_
          simp only [Act.put, List.setIfInBounds_toArray, List.set_cons_zero, List.set_cons_succ]
          refine take_at (i := 1) 122 (v := .slice a4 xs.length c4) rfl rfl (by kernel_rfl) (by kernel_rfl) (by kernel_rfl) (fun _ _ _ h => h) (Or.inl ⟨by rfl, fun w' hw' => by go_simp⟩) hS ?_
          simp only [Act.put, List.setIfInBounds_toArray, List.set_cons_zero, List.set_cons_succ]
          refine take_at (i := 2) 123 (v := .int .i64 (m : Int)) rfl rfl (by kernel_rfl) (by kernel_rfl) (by kernel_rfl) (fun _ _ _ h => h) (Or.inl ⟨by rfl, fun w' hw' => by go_simp⟩) hS ?_
          simp only [Act.put, List.setIfInBounds_toArray, List.set_cons_zero, List.set_cons_succ]
          refine take_at (i := 3) 124 (v := .slice a4 lt.length c4) rfl rfl (by kernel_rfl) (by kernel_rfl) (by kernel_rfl) (fun _ _ _ h => h) (Or.inl ⟨by rfl, fun w' hw' => by go_simp⟩) hS ?_
          simp only [Act.put, List.setIfInBounds_toArray, List.set_cons_zero, List.set_cons_succ]
          refine take_at (i := 5) 126 (v := .agg #[.int .i64 y.node, .string y.e.key, .int .i64 (y.e.f 0), .int .i64 (y.e.f 1), .int .i64 (y.e.f 2), .int .i64 (y.e.f 3), .int .i64 (y.e.f 4), .int .i64 (y.e.f 5), .int .i64 (y.e.f 6), .int .i64 (y.e.f 7), .slice y.e.a y.e.l.length y.e.cap]) rfl rfl (by kernel_rfl) (by kernel_rfl) (by kernel_rfl) (fun _ _ _ h => h) (Or.inl ⟨by rfl, fun w' hw' => by obtain ⟨x0, x1, x2, x3, x4, x5, x6, x7, x8, x9, x10⟩ := cel11 (HCB1.out.off hw'.off HBQ.out); go_simp⟩) hS ?_
          simp only [Act.put, List.setIfInBounds_toArray, List.set_cons_zero, List.set_cons_succ]
          refine take_at (i := 8) 129 (v := .slice a4 xs.length c4) rfl rfl (by kernel_rfl) (by kernel_rfl) (by kernel_rfl) (fun _ _ _ h => h) (Or.inl ⟨by rfl, fun w' hw' => by go_simp⟩) hS ?_
          simp only [Act.put, List.setIfInBounds_toArray, List.set_cons_zero, List.set_cons_succ]
          refine take_at (i := 9) 130 (v := .int .i64 (m : Int)) rfl rfl (by kernel_rfl) (by kernel_rfl) (by kernel_rfl) (fun _ _ _ h => h) (Or.inl ⟨by rfl, fun w' hw' => by go_simp⟩) hS ?_
          simp only [Act.put, List.setIfInBounds_toArray, List.set_cons_zero, List.set_cons_succ]
          refine take_at (i := 10) 131 (v := .slice a2 ld.length (c4 - m)) rfl rfl (by kernel_rfl) (by kernel_rfl) (by kernel_rfl) (fun _ _ _ h => h) (Or.inl ⟨by rfl, fun w' hw' => by go_simp⟩) hS ?_
          simp only [Act.put, List.setIfInBounds_toArray, List.set_cons_zero, List.set_cons_succ]
          refine wpAnyH_ready (rs := [4, 6]) (by kernel_rfl) (by simp) ?_
          refine AllReadyH.cons rfl (fun K' hK' => ?_) (AllReadyH.cons rfl (fun K' hK' => ?_) AllReadyH.nil)
          · obtain ⟨a3, c3, v3, hr, own3, o3, at3⟩ := app_runH (OwnG.nil _ _ _ v2) (HRT.out.offQ hS.off HQ4.out) HZ4.out (by simp; omega) 28
            rw [List.nil_append] at hr own3
            replace o3 : Off (fun _ => False) v2 v3 := o3.mono (fun _ _ h => by simp [blk] at h)
            replace at3 : ∀ c, blk a3 = some c → v1.heap.size ≤ c := fun c hc => by have := hS.off.size; rcases at3 with e | e <;> (rw [e] at hc; simp [blk] at hc; try omega)
            have hS3 := hS.free o3 HQL.out
            refine wp_append_if rfl (.const (.slice none 0 0)) (.tmp 124) rfl rfl rfl hr 125 rfl ?_
            simp only [Act.put, List.setIfInBounds_toArray, List.set_cons_zero, List.set_cons_succ]
            refine hK'.out _ _ hS3 (fun hS => ?_)
            clear hK' K' hr
            refine wpAnyH_ready (rs := [6]) (by kernel_rfl) (by simp) ?_
            refine AllReadyH.cons rfl (fun K' hK' => ?_) AllReadyH.nil
            go_simp
            have CB := Cel.new v3 39 #[.int .i64 y.node, .string y.e.key, .int .i64 (y.e.f 0), .int .i64 (y.e.f 1), .int .i64 (y.e.f 2), .int .i64 (y.e.f 3), .int .i64 (y.e.f 4), .int .i64 (y.e.f 5), .int .i64 (y.e.f 6), .int .i64 (y.e.f 7), .slice y.e.a y.e.l.length y.e.cap]
            have OB : Off (fun _ => False) v3 (v3.alloc (.cells #[.int .i64 y.node, .string y.e.key, .int .i64 (y.e.f 0), .int .i64 (y.e.f 1), .int .i64 (y.e.f 2), .int .i64 (y.e.f 3), .int .i64 (y.e.f 4), .int .i64 (y.e.f 5), .int .i64 (y.e.f 6), .int .i64 (y.e.f 7), .slice y.e.a y.e.l.length y.e.cap] 39)) := (Off.refl _ v3).alloc _
            refine hK'.out _ _ (hS.free OB HQL.out) (fun hS => ?_)
            clear hK' K'
            generalize hq5 : v3.heap.size = q5 at CB ⊢
            generalize hv5 : v3.alloc (.cells #[.int .i64 y.node, .string y.e.key, .int .i64 (y.e.f 0), .int .i64 (y.e.f 1), .int .i64 (y.e.f 2), .int .i64 (y.e.f 3), .int .i64 (y.e.f 4), .int .i64 (y.e.f 5), .int .i64 (y.e.f 6), .int .i64 (y.e.f 7), .slice y.e.a y.e.l.length y.e.cap] 39) = v5b at CB OB hS ⊢
            clear hv5 hq5
            refine wpAnyH_ready (rs := [7]) (by kernel_rfl) (by simp) ?_
            refine AllReadyH.cons rfl (fun K' hK' => ?_) AllReadyH.nil
            have RB := cel_hns (v := y) CB
            obtain ⟨a6, c6, v6, hr, own6, o6, at6⟩ := app_runH (own3.off OB (fun _ _ _ h => h)) RB (fun h => by simp at h) (by simp; omega) 28
            have hS6 := hS.step o6 at3 HQL.out
            replace at6 : ∀ c, blk a6 = some c → v1.heap.size ≤ c := fun c hc => by
              have := hS.off.size
              rcases at6 with e | e
              · exact at3 c (e ▸ hc)
              · rw [e] at hc
                simp at hc
                omega
            refine wp_append_if rfl (.tmp 125) (.tmp 127) rfl rfl rfl hr 128 rfl ?_
            simp only [Act.put, List.setIfInBounds_toArray, List.set_cons_zero, List.set_cons_succ]
            refine hK'.out _ _ hS6 (fun hS => ?_)
            clear hK' K' hr
            clear o6 RB
            refine wpAnyH_ready (rs := [11]) (by kernel_rfl) (by simp) ?_
            refine AllReadyH.cons rfl (fun K' hK' => ?_) AllReadyH.nil
            obtain ⟨a10, c10, v10, hr, own10, o10, at10⟩ := app_runH own6 (HRD.out.offQ hS.off HQ2.out) HZ2.out (by simp; omega) 28
            have hS10 := hS.step o10 at6 HQL.out
            replace at10 : ∀ c, blk a10 = some c → v1.heap.size ≤ c := fun c hc => by
              have := hS.off.size
              rcases at10 with e | e
              · exact at6 c (e ▸ hc)
              · rw [e] at hc
                simp at hc
                omega
            refine wp_append_if rfl (.tmp 128) (.tmp 131) rfl rfl rfl hr 132 rfl ?_
            simp only [Act.put, List.setIfInBounds_toArray, List.set_cons_zero, List.set_cons_succ]
            refine hK'.out _ _ hS10 (fun hS => ?_)
            clear hK' K' hr
            clear o10
            have HOWN : Hid _ := own10
            have HAT10 : Hid _ := at10
            have HLL : Hid (((lt ++ [y]) ++ ld).length = ys.length) := by show _ = _; rw [HE.out]
            generalize hzz : ((lt ++ [y]) ++ ld).length = zz at HLL ⊢
            refine take_at (i := 12) 133 (v := .pointer (some ⟨q, 0, none⟩)) rfl rfl (by kernel_rfl) (by kernel_rfl) (by kernel_rfl) (fun _ _ _ h => h) (Or.inl ⟨by rfl, fun w' hw' => by go_simp⟩) hS ?_
            simp only [Act.put, List.setIfInBounds_toArray, List.set_cons_zero, List.set_cons_succ]
            refine take_at (i := 13) 134 (v := .pointer (some ⟨q, 0, none⟩)) rfl rfl (by kernel_rfl) (by kernel_rfl) (by kernel_rfl) (fun _ _ _ h => h) (Or.inl ⟨by rfl, fun w' hw' => by go_simp⟩) hS ?_
            simp only [Act.put, List.setIfInBounds_toArray, List.set_cons_zero, List.set_cons_succ]
            obtain ⟨b0, n0, k0, hc0⟩ := hS.cel
            have c0 := hc0.cell 0
            have fr := hc0.free
            simp only [List.getElem?_toArray, List.getElem?_cons_zero] at c0
            refine wpAnyH_ready (rs := [14]) (by kernel_rfl) (by simp) ?_
            refine AllReadyH.cons rfl (fun K' hK' => ?_) AllReadyH.nil
            go_simp
            refine hK'.out _ _ (hS.put a10 zz c10) (fun hS' => ?_)
            clear hK' K'
            have CQ := hc0.set 0 (.slice a10 zz c10)
            have OQ : Off (fun c => c = q) v10 (v10.setCell ⟨q, 0, none⟩ (.slice a10 zz c10)) := (Off.refl (fun c => c = q) v10).setCell (p := ⟨q, 0, none⟩) (.inl rfl) _
            generalize hv11 : v10.setCell ⟨q, 0, none⟩ (.slice a10 zz c10) = v11 at hS' CQ OQ ⊢
            clear hv11 hc0 c0 fr
            refine wpAnyH_done (by kernel_rfl) ?_ _
            have HCQ : Hid (Cel q 30 #[.slice a10 zz c10] v11) := CQ
            have HOQ : Hid _ := OQ
            have HSQ : Hid _ := hS'
            clear CQ OQ hS' hS hzz
            go_wp2_with fail
            go_ret2
            rw [hpR_new HM.out HNF.out (by rw [absH_len]; exact HNL.out)]
            have OZ : Off (fun c => c = q) w v11 := ((HOV.out.trans HP1.out (fun _ _ h => h)).mono (fun _ _ h => h.elim)).trans HSQ.out.off (fun _ _ h => h)
            have own := HOWN.out.off HOQ.out (fun c _ hc e => by have := HAT10.out c hc; have := HQL.out; omega)
            rw [HE.out] at own
            have CF := HCQ.out
            rw [HLL.out] at CF
            have hAB : absH ys = putG HK.nk h.abs (absH xs) := by rw [HYS.out, absH_put, HYA.out]
            have hq0 := HST.out.lt
            have hv0 := HOV.out.size
            have hv1 := HP1.out.size
            have hv4 := HV4.out
            have rowY : Row v11 y.e.a y.e.cap y.e.l := (HRY.out.off HP1.out).offT HTY.out HSQ.out.off (fun c hc hd e => by omega)
            have rowX : ∀ z ∈ xs, Row v11 z.e.a z.e.cap z.e.l := fun z hz => (HST.out.row z hz).offT (HST.out.ter z hz) OZ (fun c _ hd e => hd.2 e)
            refine ⟨rfl, fun c => (R c ∨ w.heap.size ≤ c) ∧ c < v11.heap.size, ys, ⟨⟨.inl HST.out.dp, by have := OZ.size; omega⟩, fun c hc => hc.2, ⟨a10, c10, CF, own, fun g hg => ?_⟩, fun z hz => ?_, fun z hz => ?_, ?_⟩, hAB, OZ, fun c hc => hc.1⟩
            · have h1 := HAT10.out g hg
              exact ⟨⟨.inr (by omega), own.lt g hg⟩, by omega⟩
            · rw [HYS.out, mem_putG] at hz
              rcases hz with rfl | ⟨hz, -⟩
              · exact rowY
              · exact rowX z hz
            · rw [HYS.out, mem_putG] at hz
              rcases hz with rfl | ⟨hz, -⟩
              · exact (HTY.out.and rowY.below).mono (fun c hc => ⟨⟨.inr (by omega), hc.2⟩, by omega⟩)
              · exact ((HST.out.ter z hz).and (rowX z hz).below).mono (fun c hc => ⟨⟨.inl hc.1.1, hc.2⟩, hc.1.2⟩)
            · rw [hAB]
              have e := HST.out.ok.hpR (x := h.abs) HNRM.out
              rw [hpR_new HM.out HNF.out (by rw [absH_len]; exact HNL.out)] at e
              exact e
          · go_simp
            have CB := Cel.new v2 39 #[.int .i64 y.node, .string y.e.key, .int .i64 (y.e.f 0), .int .i64 (y.e.f 1), .int .i64 (y.e.f 2), .int .i64 (y.e.f 3), .int .i64 (y.e.f 4), .int .i64 (y.e.f 5), .int .i64 (y.e.f 6), .int .i64 (y.e.f 7), .slice y.e.a y.e.l.length y.e.cap]
            have OB : Off (fun _ => False) v2 (v2.alloc (.cells #[.int .i64 y.node, .string y.e.key, .int .i64 (y.e.f 0), .int .i64 (y.e.f 1), .int .i64 (y.e.f 2), .int .i64 (y.e.f 3), .int .i64 (y.e.f 4), .int .i64 (y.e.f 5), .int .i64 (y.e.f 6), .int .i64 (y.e.f 7), .slice y.e.a y.e.l.length y.e.cap] 39)) := (Off.refl _ v2).alloc _
            refine hK'.out _ _ (hS.free OB HQL.out) (fun hS => ?_)
            clear hK' K'
            generalize hq5 : v2.heap.size = q5 at CB ⊢
            generalize hv5 : v2.alloc (.cells #[.int .i64 y.node, .string y.e.key, .int .i64 (y.e.f 0), .int .i64 (y.e.f 1), .int .i64 (y.e.f 2), .int .i64 (y.e.f 3), .int .i64 (y.e.f 4), .int .i64 (y.e.f 5), .int .i64 (y.e.f 6), .int .i64 (y.e.f 7), .slice y.e.a y.e.l.length y.e.cap] 39) = v3 at CB OB hS ⊢
            clear hv5 hq5
            refine wpAnyH_ready (rs := [4]) (by kernel_rfl) (by simp) ?_
            refine AllReadyH.cons rfl (fun K' hK' => ?_) AllReadyH.nil
            obtain ⟨a3, c3, v5b, hr, own3, o3, at3⟩ := app_runH (OwnG.nil _ _ _ v3) (HRT.out.offQ hS.off HQ4.out) HZ4.out (by simp; omega) 28
            rw [List.nil_append] at hr own3
            replace o3 : Off (fun _ => False) v3 v5b := o3.mono (fun _ _ h => by simp [blk] at h)
            replace at3 : ∀ c, blk a3 = some c → v1.heap.size ≤ c := fun c hc => by have := hS.off.size; rcases at3 with e | e <;> (rw [e] at hc; simp [blk] at hc; try omega)
            have hS3 := hS.free o3 HQL.out
            refine wp_append_if rfl (.const (.slice none 0 0)) (.tmp 124) rfl rfl rfl hr 125 rfl ?_
            simp only [Act.put, List.setIfInBounds_toArray, List.set_cons_zero, List.set_cons_succ]
            refine hK'.out _ _ hS3 (fun hS => ?_)
            clear hK' K' hr
            refine wpAnyH_ready (rs := [7]) (by kernel_rfl) (by simp) ?_
            refine AllReadyH.cons rfl (fun K' hK' => ?_) AllReadyH.nil
            have RB := cel_hns (v := y) (CB.off o3 (fun h => h))
            obtain ⟨a6, c6, v6, hr, own6, o6, at6⟩ := app_runH own3 RB (fun h => by simp at h) (by simp; omega) 28
            have hS6 := hS.step o6 at3 HQL.out
            replace at6 : ∀ c, blk a6 = some c → v1.heap.size ≤ c := fun c hc => by
              have := hS.off.size
              rcases at6 with e | e
              · exact at3 c (e ▸ hc)
              · rw [e] at hc
                simp at hc
                omega
            refine wp_append_if rfl (.tmp 125) (.tmp 127) rfl rfl rfl hr 128 rfl ?_
            simp only [Act.put, List.setIfInBounds_toArray, List.set_cons_zero, List.set_cons_succ]
            refine hK'.out _ _ hS6 (fun hS => ?_)
            clear hK' K' hr
            clear o6 RB
            refine wpAnyH_ready (rs := [11]) (by kernel_rfl) (by simp) ?_
            refine AllReadyH.cons rfl (fun K' hK' => ?_) AllReadyH.nil
            obtain ⟨a10, c10, v10, hr, own10, o10, at10⟩ := app_runH own6 (HRD.out.offQ hS.off HQ2.out) HZ2.out (by simp; omega) 28
            have hS10 := hS.step o10 at6 HQL.out
            replace at10 : ∀ c, blk a10 = some c → v1.heap.size ≤ c := fun c hc => by
              have := hS.off.size
              rcases at10 with e | e
              · exact at6 c (e ▸ hc)
              · rw [e] at hc
                simp at hc
                omega
            refine wp_append_if rfl (.tmp 128) (.tmp 131) rfl rfl rfl hr 132 rfl ?_
            simp only [Act.put, List.setIfInBounds_toArray, List.set_cons_zero, List.set_cons_succ]
            refine hK'.out _ _ hS10 (fun hS => ?_)
            clear hK' K' hr
            clear o10
            have HOWN : Hid _ := own10
            have HAT10 : Hid _ := at10
            have HLL : Hid (((lt ++ [y]) ++ ld).length = ys.length) := by show _ = _; rw [HE.out]
            generalize hzz : ((lt ++ [y]) ++ ld).length = zz at HLL ⊢
            refine take_at (i := 12) 133 (v := .pointer (some ⟨q, 0, none⟩)) rfl rfl (by kernel_rfl) (by kernel_rfl) (by kernel_rfl) (fun _ _ _ h => h) (Or.inl ⟨by rfl, fun w' hw' => by go_simp⟩) hS ?_
            simp only [Act.put, List.setIfInBounds_toArray, List.set_cons_zero, List.set_cons_succ]
            refine take_at (i := 13) 134 (v := .pointer (some ⟨q, 0, none⟩)) rfl rfl (by kernel_rfl) (by kernel_rfl) (by kernel_rfl) (fun _ _ _ h => h) (Or.inl ⟨by rfl, fun w' hw' => by go_simp⟩) hS ?_
            simp only [Act.put, List.setIfInBounds_toArray, List.set_cons_zero, List.set_cons_succ]
            obtain ⟨b0, n0, k0, hc0⟩ := hS.cel
            have c0 := hc0.cell 0
            have fr := hc0.free
            simp only [List.getElem?_toArray, List.getElem?_cons_zero] at c0
            refine wpAnyH_ready (rs := [14]) (by kernel_rfl) (by simp) ?_
            refine AllReadyH.cons rfl (fun K' hK' => ?_) AllReadyH.nil
            go_simp
            refine hK'.out _ _ (hS.put a10 zz c10) (fun hS' => ?_)
            clear hK' K'
            have CQ := hc0.set 0 (.slice a10 zz c10)
            have OQ : Off (fun c => c = q) v10 (v10.setCell ⟨q, 0, none⟩ (.slice a10 zz c10)) := (Off.refl (fun c => c = q) v10).setCell (p := ⟨q, 0, none⟩) (.inl rfl) _
            generalize hv11 : v10.setCell ⟨q, 0, none⟩ (.slice a10 zz c10) = v11 at hS' CQ OQ ⊢
            clear hv11 hc0 c0 fr
            refine wpAnyH_done (by kernel_rfl) ?_ _
            have HCQ : Hid (Cel q 30 #[.slice a10 zz c10] v11) := CQ
            have HOQ : Hid _ := OQ
            have HSQ : Hid _ := hS'
            clear CQ OQ hS' hS hzz
            go_wp2_with fail
            go_ret2
            rw [hpR_new HM.out HNF.out (by rw [absH_len]; exact HNL.out)]
            have OZ : Off (fun c => c = q) w v11 := ((HOV.out.trans HP1.out (fun _ _ h => h)).mono (fun _ _ h => h.elim)).trans HSQ.out.off (fun _ _ h => h)
            have own := HOWN.out.off HOQ.out (fun c _ hc e => by have := HAT10.out c hc; have := HQL.out; omega)
            rw [HE.out] at own
            have CF := HCQ.out
            rw [HLL.out] at CF
            have hAB : absH ys = putG HK.nk h.abs (absH xs) := by rw [HYS.out, absH_put, HYA.out]
            have hq0 := HST.out.lt
            have hv0 := HOV.out.size
            have hv1 := HP1.out.size
            have hv4 := HV4.out
            have rowY : Row v11 y.e.a y.e.cap y.e.l := (HRY.out.off HP1.out).offT HTY.out HSQ.out.off (fun c hc hd e => by omega)
            have rowX : ∀ z ∈ xs, Row v11 z.e.a z.e.cap z.e.l := fun z hz => (HST.out.row z hz).offT (HST.out.ter z hz) OZ (fun c _ hd e => hd.2 e)
            refine ⟨rfl, fun c => (R c ∨ w.heap.size ≤ c) ∧ c < v11.heap.size, ys, ⟨⟨.inl HST.out.dp, by have := OZ.size; omega⟩, fun c hc => hc.2, ⟨a10, c10, CF, own, fun g hg => ?_⟩, fun z hz => ?_, fun z hz => ?_, ?_⟩, hAB, OZ, fun c hc => hc.1⟩
            · have h1 := HAT10.out g hg
              exact ⟨⟨.inr (by omega), own.lt g hg⟩, by omega⟩
            · rw [HYS.out, mem_putG] at hz
              rcases hz with rfl | ⟨hz, -⟩
              · exact rowY
              · exact rowX z hz
            · rw [HYS.out, mem_putG] at hz
              rcases hz with rfl | ⟨hz, -⟩
              · exact (HTY.out.and rowY.below).mono (fun c hc => ⟨⟨.inr (by omega), hc.2⟩, by omega⟩)
              · exact ((HST.out.ter z hz).and (rowX z hz).below).mono (fun c hc => ⟨⟨.inl hc.1.1, hc.2⟩, hc.1.2⟩)
            · rw [hAB]
              have e := HST.out.ok.hpR (x := h.abs) HNRM.out
              rw [hpR_new HM.out HNF.out (by rw [absH_len]; exact HNL.out)] at e
              exact e
  · have HFX : Hid (fndG HK.nk h.abs.nk (absH xs) = some x.abs) := by show fndG HK.nk (h.node, h.e.key) (absH xs) = _; rw [← absH_fnd, at_fnd HST.out.sor hx hk]; rfl
    have HX : Hid _ := hx
    have HXK : Hid _ := hk
    obtain ⟨hlt, -⟩ := List.getElem?_eq_some_iff.1 hx
    clear hx hk
    have d1 : decide ((n : Int) < 0) = false := decide_eq_false (by omega)
    have d2 : decide ((0 : Int) ≤ (n : Int)) = true := decide_eq_true (by omega)
    go_upto_region 7 with (at_builtin; refine wpList_appH rfl (.const (.slice none 0 0)) (.tmp 44) rfl none 0 [] rfl (OwnG.nil _ _ _ _) a0 cap0 xs rfl HE2.out.hns HE2.out.zero (by simp; omega) ?_; intro a4 c4 v4 ys hys own4 o4 at4; obtain rfl : xs = ys := hys.out.symm; have HOWN4 : Hid _ := own4; have HO4 : Hid (Off (fun _ => False) w2 v4) := o4.mono (fun _ _ h => by simp [blk] at h); have HAT4 : Hid (∀ c, blk a4 = some c → w2.heap.size ≤ c) := fun c hc => (by rcases at4 with e | e <;> (rw [e] at hc; simp [blk] at hc; try omega)); clear own4 o4 at4)
    clear c0
    obtain ⟨g4, rfl, hat⟩ := HOWN4.out.atH HX.out
    have HAT : Hid _ := hat
    clear hat
    have HC4 : Hid _ := HC2.out.off HO4.out (fun h => h)
    have HR4 : Hid _ := HR2.out.off HO4.out
    have HRX : Hid _ := ((HST.out.row x (List.mem_of_getElem? HX.out)).off HO2.out).off HO4.out
    go_upto_region 8 with fail
    refine wp_region_held_drew (S := fun w' => Off (fun _ => False) v4 w') (by kernel_rfl) ((Off.refl _ v4).drew) (fun hS => ?_)
    generalize hdr : v4.drew = v5 at hS ⊢
    have HV5 : Hid (v4.heap.size ≤ v5.heap.size) := hS.size
    clear hdr
    refine take_at (i := 0) 48 (v := .slice (some ⟨g4, 0, none⟩) xs.length c4) rfl rfl (by kernel_rfl) (by kernel_rfl) (by kernel_rfl) (fun _ _ _ h => h) (Or.inl ⟨by rfl, fun w' hw' => by go_simp⟩) hS ?_
    simp only [Act.put, List.setIfInBounds_toArray, List.set_cons_zero, List.set_cons_succ]
    refine take_at (i := 1) 49 (v := .int .i64 (n : Int)) rfl rfl (by kernel_rfl) (by kernel_rfl) (by kernel_rfl) (fun _ _ _ h => h) (Or.inl ⟨by rfl, fun w' hw' => by go_simp⟩) hS ?_
    simp only [Act.put, List.setIfInBounds_toArray, List.set_cons_zero, List.set_cons_succ]
    refine take_at (i := 2) 50 (v := .pointer (some ⟨g4, n * 11, none⟩)) rfl rfl (by kernel_rfl) (by kernel_rfl) (by kernel_rfl) (fun _ _ _ h => h) (Or.inl ⟨by rfl, fun w' hw' => exec_idx10 rfl (idx_hin hlt c4 g4 w')⟩) hS ?_
    simp only [Act.put, List.setIfInBounds_toArray, List.set_cons_zero, List.set_cons_succ]
    refine take_at (i := 3) 51 (v := .pointer (some ⟨g4, n * 11 + 1, none⟩)) rfl rfl (by kernel_rfl) (by kernel_rfl) (by kernel_rfl) (fun _ _ _ h => h) (Or.inl ⟨by rfl, fun w' hw' => by go_simp⟩) hS ?_
    simp only [Act.put, List.setIfInBounds_toArray, List.set_cons_zero, List.set_cons_succ]
    refine take_at (i := 4) 52 (v := .pointer (some ⟨g4, n * 11 + 2, none⟩)) rfl rfl (by kernel_rfl) (by kernel_rfl) (by kernel_rfl) (fun _ _ _ h => h) (Or.inl ⟨by rfl, fun w' hw' => by go_simp⟩) hS ?_
    simp only [Act.put, List.setIfInBounds_toArray, List.set_cons_zero, List.set_cons_succ]
    refine take_at (i := 5) 53 (v := .agg #[.int .i64 (x.e.f 0), .int .i64 (x.e.f 1), .int .i64 (x.e.f 2), .int .i64 (x.e.f 3), .int .i64 (x.e.f 4), .int .i64 (x.e.f 5), .int .i64 (x.e.f 6), .int .i64 (x.e.f 7), .slice x.e.a x.e.l.length x.e.cap]) rfl rfl (by kernel_rfl) (by kernel_rfl) (by kernel_rfl) (fun _ _ _ h => h) (Or.inl ⟨by rfl, fun w' hw' => by obtain ⟨x0, x1, x2, x3, x4, x5, x6, x7, x8, x9, x10⟩ := (HAT.out.off hw' (fun _ h => h)).cells; go_simp⟩) hS ?_
    simp only [Act.put, List.setIfInBounds_toArray, List.set_cons_zero, List.set_cons_succ]
    refine take_at (i := 6) 54 (v := .pointer (some ⟨w.heap.size, 1, none⟩)) rfl rfl (by kernel_rfl) (by kernel_rfl) (by kernel_rfl) (fun _ _ _ h => h) (Or.inl ⟨by rfl, fun w' hw' => by go_simp⟩) hS ?_
    simp only [Act.put, List.setIfInBounds_toArray, List.set_cons_zero, List.set_cons_succ]
    refine take_at (i := 7) 55 (v := .pointer (some ⟨w.heap.size, 2, none⟩)) rfl rfl (by kernel_rfl) (by kernel_rfl) (by kernel_rfl) (fun _ _ _ h => h) (Or.inl ⟨by rfl, fun w' hw' => by go_simp⟩) hS ?_
    simp only [Act.put, List.setIfInBounds_toArray, List.set_cons_zero, List.set_cons_succ]
    refine take_at (i := 8) 56 (v := .agg #[.int .i64 (h.e.f 0), .int .i64 (h.e.f 1), .int .i64 (h.e.f 2), .int .i64 (h.e.f 3), .int .i64 (h.e.f 4), .int .i64 (h.e.f 5), .int .i64 (h.e.f 6), .int .i64 (h.e.f 7), .slice h.e.a h.e.l.length h.e.cap]) rfl rfl (by kernel_rfl) (by kernel_rfl) (by kernel_rfl) (fun _ _ _ h => h) (Or.inl ⟨by rfl, fun w' hw' => by obtain ⟨x0, x1, x2, x3, x4, x5, x6, x7, x8, x9, x10⟩ := cel11 (HC4.out.off hw' (fun h => h)); go_simp⟩) hS ?_
    simp only [Act.put, List.setIfInBounds_toArray, List.set_cons_zero, List.set_cons_succ]
    refine wpAnyH_ready (rs := [9, 10]) (by kernel_rfl) (by simp) ?_
    refine AllReadyH.cons rfl (fun K' hK' => ?_) (AllReadyH.cons rfl (fun K' hK' => ?_) AllReadyH.nil)
    · go_simp
      refine (gjoinN_any x.e.f h.e.f x.e.a h.e.a x.e.cap h.e.cap x.e.l h.e.l _ (HRX.out.off hS) (HR4.out.off hS)).mono ?_
      rintro e v6 ⟨j, aj, cj, lj, rfl, hj, hlj, rj, o6, hn1, hn2⟩
      have HJ : Hid _ := hj
      have HLJ : Hid _ := hlj
      clear hj hlj
      have TJ0 : Ter (fun c => v5.heap.size ≤ c) aj lj := ⟨fun _ x hx => hn1 x hx, fun v hv _ x hx => hn2 v hv x hx⟩
      clear hn1 hn2
      refine hK'.out _ _ (hS.trans o6 (fun _ _ h => h)) (fun hS => ?_)
      clear hK' K'
      refine wpAnyH_ready (rs := [10]) (by kernel_rfl) (by simp) ?_
      refine AllReadyH.cons rfl (fun K' hK' => ?_) AllReadyH.nil
      go_simp
      have CA := Cel.new v6 35 #[.int .i64 0, .int .i64 0, .int .i64 0, .int .i64 0, .int .i64 0, .int .i64 0, .int .i64 0, .int .i64 0, .slice none 0 0]
      have OA : Off (fun _ => False) v6 (v6.alloc (.cells #[.int .i64 0, .int .i64 0, .int .i64 0, .int .i64 0, .int .i64 0, .int .i64 0, .int .i64 0, .int .i64 0, .slice none 0 0] 35)) := (Off.refl _ v6).alloc _
      have hw0 := hS.size
      refine hK'.out _ _ (hS.trans OA (fun _ _ h => h)) (fun hS => ?_)
      clear hK' K'
      generalize hqa : v6.heap.size = qa at CA ⊢
      generalize hva : v6.alloc (.cells #[.int .i64 0, .int .i64 0, .int .i64 0, .int .i64 0, .int .i64 0, .int .i64 0, .int .i64 0, .int .i64 0, .slice none 0 0] 35) = v7 at CA OA hS ⊢
      have HQA : Hid (v6.heap.size = qa ∧ v4.heap.size ≤ qa) := ⟨hqa, by omega⟩
      clear hva hqa hw0
      obtain ⟨z0, z1, z2, z3, z4, z5, z6, z7, z8⟩ := cel9 (f := zer) CA
      have fr := CA.free
      refine wpAnyH_ready (rs := [11]) (by kernel_rfl) (by simp) ?_
      refine AllReadyH.cons rfl (fun K' hK' => ?_) AllReadyH.nil
      go_simp
      have hS5 := hS.st9 (b := qa) (.inr HQA.out.2) j (.slice aj lj.length cj)
      refine hK'.out _ _ hS5 (fun hS => ?_)
      clear hK' K' hS5
      clear z0 z1 z2 z3 z4 z5 z6 z7 z8 fr
      have CJ := Cel.st9 (f := zer) CA j (.slice aj lj.length cj)
      have OJ := (Off.refl (fun c => c = qa) v7).st9 (b := qa) (.inl rfl) j (.slice aj lj.length cj)
      generalize hv8 : (((((((((v7.setCell ⟨qa, 0, none⟩ (.int .i64 (j 0))).setCell ⟨qa, 1, none⟩ (.int .i64 (j 1))).setCell ⟨qa, 2, none⟩ (.int .i64 (j 2))).setCell ⟨qa, 3, none⟩ (.int .i64 (j 3))).setCell ⟨qa, 4, none⟩ (.int .i64 (j 4))).setCell ⟨qa, 5, none⟩ (.int .i64 (j 5))).setCell ⟨qa, 6, none⟩ (.int .i64 (j 6))).setCell ⟨qa, 7, none⟩ (.int .i64 (j 7))).setCell ⟨qa, 8, none⟩ (.slice aj lj.length cj)) = v8 at CJ OJ hS ⊢
      clear hv8
      have TJ := TJ0.mono (E := fun c => v4.heap.size ≤ c) (fun c hc => by have := HV5.out; omega)
      have RJ := (rj.off OA).offT (TJ.and rj.below) OJ (fun c hc hd e => by have := HQA.out.1; omega)
      clear CA OA OJ
      refine wpAnyH_done (by kernel_rfl) ?_ _
      have HCJ : Hid _ := CJ
      have HP8 : Hid (Off (fun _ => False) v4 v8) := hS
      have HRJ : Hid _ := RJ
      have HTJ : Hid (Ter (fun c => v4.heap.size ≤ c) aj lj) := TJ
      clear CJ hS RJ TJ TJ0 rj o6
      clear HQA
      go_upto_region 9 with fail
      refine wp_region_held_drew (S := fun w' => Off (fun _ => False) v8 w') (by kernel_rfl) ((Off.refl _ v8).drew) (fun hS => ?_)
      refine take_at (i := 0) 58 (v := .agg #[.int .i64 (j 0), .int .i64 (j 1), .int .i64 (j 2), .int .i64 (j 3), .int .i64 (j 4), .int .i64 (j 5), .int .i64 (j 6), .int .i64 (j 7), .slice aj lj.length cj]) rfl rfl (by kernel_rfl) (by kernel_rfl) (by kernel_rfl) (fun _ _ _ h => h) (Or.inl ⟨by rfl, fun w' hw' => by obtain ⟨x0, x1, x2, x3, x4, x5, x6, x7, x8⟩ := cel9 (HCJ.out.off hw' (fun h => h)); go_simp⟩) hS ?_
      simp only [Act.put, List.setIfInBounds_toArray, List.set_cons_zero, List.set_cons_succ]
      refine take_at (i := 1) 59 (v := .slice (some ⟨g4, 0, none⟩) xs.length c4) rfl rfl (by kernel_rfl) (by kernel_rfl) (by kernel_rfl) (fun _ _ _ h => h) (Or.inl ⟨by rfl, fun w' hw' => by go_simp⟩) hS ?_
      simp only [Act.put, List.setIfInBounds_toArray, List.set_cons_zero, List.set_cons_succ]
      refine take_at (i := 2) 60 (v := .int .i64 (n : Int)) rfl rfl (by kernel_rfl) (by kernel_rfl) (by kernel_rfl) (fun _ _ _ h => h) (Or.inl ⟨by rfl, fun w' hw' => by go_simp⟩) hS ?_
      simp only [Act.put, List.setIfInBounds_toArray, List.set_cons_zero, List.set_cons_succ]
      refine take_at (i := 3) 61 (v := .pointer (some ⟨g4, n * 11, none⟩)) rfl rfl (by kernel_rfl) (by kernel_rfl) (by kernel_rfl) (fun _ _ _ h => h) (Or.inl ⟨by rfl, fun w' hw' => exec_idx10 rfl (idx_hin hlt c4 g4 w')⟩) hS ?_
      simp only [Act.put, List.setIfInBounds_toArray, List.set_cons_zero, List.set_cons_succ]
      refine take_at (i := 4) 62 (v := .pointer (some ⟨g4, n * 11 + 1, none⟩)) rfl rfl (by kernel_rfl) (by kernel_rfl) (by kernel_rfl) (fun _ _ _ h => h) (Or.inl ⟨by rfl, fun w' hw' => by go_simp⟩) hS ?_
      simp only [Act.put, List.setIfInBounds_toArray, List.set_cons_zero, List.set_cons_succ]
      refine take_at (i := 5) 63 (v := .pointer (some ⟨g4, n * 11 + 2, none⟩)) rfl rfl (by kernel_rfl) (by kernel_rfl) (by kernel_rfl) (fun _ _ _ h => h) (Or.inl ⟨by rfl, fun w' hw' => by go_simp⟩) hS ?_
      simp only [Act.put, List.setIfInBounds_toArray, List.set_cons_zero, List.set_cons_succ]
      refine take_at (i := 6) 64 (v := .agg #[.int .i64 (x.e.f 0), .int .i64 (x.e.f 1), .int .i64 (x.e.f 2), .int .i64 (x.e.f 3), .int .i64 (x.e.f 4), .int .i64 (x.e.f 5), .int .i64 (x.e.f 6), .int .i64 (x.e.f 7), .slice x.e.a x.e.l.length x.e.cap]) rfl rfl (by kernel_rfl) (by kernel_rfl) (by kernel_rfl) (fun _ _ _ h => h) (Or.inl ⟨by rfl, fun w' hw' => by obtain ⟨x0, x1, x2, x3, x4, x5, x6, x7, x8, x9, x10⟩ := ((HAT.out.off HP8.out (fun _ h => h)).off hw' (fun _ h => h)).cells; go_simp⟩) hS ?_
      simp only [Act.put, List.setIfInBounds_toArray, List.set_cons_zero, List.set_cons_succ]
      refine wpAnyH_ready (rs := [7]) (by kernel_rfl) (by simp) ?_
      refine AllReadyH.cons rfl (fun K' hK' => ?_) AllReadyH.nil
      go_simp
      refine (gsame_any j x.e.f aj x.e.a cj x.e.cap lj x.e.l _ (HRJ.out.off hS) ((HRX.out.off HP8.out).off hS)).mono ?_
      generalize hsm : sameS j x.e.f (cont lj) (cont x.e.l) = sm
      rintro e v9 ⟨rfl, o9⟩
      refine hK'.out _ _ (hS.trans o9 (fun _ _ h => h)) (fun hS => ?_)
      clear hK' K'
      refine wpAnyH_done (by kernel_rfl) ?_ _
      have HP9 : Hid (Off (fun _ => False) v4 v9) := HP8.out.trans hS (fun _ _ h => h)
      have HCJ9 : Hid _ := HCJ.out.off hS (fun h => h)
      have HRJ9 : Hid _ := HRJ.out.off hS
      have HSM : Hid _ := hsm
      clear hS o9 hsm HCJ HRJ
      have HO9 : Hid _ := (HO2.out.trans HO4.out (fun _ _ h => h)).trans HP9.out (fun _ _ h => h)
      cases sm
      · have AT9 := (HAT.out.off HP9.out (fun _ h => h)).cells
        obtain ⟨y0, y1, y2, y3, y4, y5, y6, y7, y8, y9, y10⟩ := AT9
        obtain ⟨x0, x1, x2, x3, x4, x5, x6, x7, x8⟩ := cel9 HCJ9.out
        have HOW9 : Hid _ := HOWN4.out.off HP9.out (fun _ _ _ h => h)
        have frg : ∀ o, v9.frozen? ⟨g4, o, none⟩ = false := by
          obtain ⟨g', cur, eg, hc, -⟩ := HOW9.out.cel (by simp)
          simp only [Option.some.injEq, Addr.mk.injEq, and_true] at eg
          subst eg
          exact hc.free
        have hix4 := idx_hin hlt c4 g4
        go_upto_region 12 with fail
        clear y0 y1 y2 y3 y4 y5 y6 y7 y8 y9 y10 x0 x1 x2 x3 x4 x5 x6 x7 x8 frg hix4
        obtain ⟨V, hV⟩ : ∃ V, V = wrs g4 (n * 11 + 2) (sib9 j (.slice aj lj.length cj)) v9 := ⟨_, rfl⟩
        rw [show (((((((((v9.setCell ⟨g4, n * 11 + 2, none⟩ (.int .i64 (j 0))).setCell ⟨g4, n * 11 + 2 + 1, none⟩ (.int .i64 (j 1))).setCell ⟨g4, n * 11 + 2 + 2, none⟩ (.int .i64 (j 2))).setCell ⟨g4, n * 11 + 2 + 3, none⟩ (.int .i64 (j 3))).setCell ⟨g4, n * 11 + 2 + 4, none⟩ (.int .i64 (j 4))).setCell ⟨g4, n * 11 + 2 + 5, none⟩ (.int .i64 (j 5))).setCell ⟨g4, n * 11 + 2 + 6, none⟩ (.int .i64 (j 6))).setCell ⟨g4, n * 11 + 2 + 7, none⟩ (.int .i64 (j 7))).setCell ⟨g4, n * 11 + 2 + 8, none⟩ (.slice aj lj.length cj)) = V from hV.symm]
        obtain ⟨y, hy⟩ : ∃ y : H, y = ⟨h.node, ⟨h.e.key, j, aj, cj, lj⟩⟩ := ⟨_, rfl⟩
        have HYA : Hid (y.abs = jnH x.abs h.abs) := by show y.abs = _; rw [hy]; show (⟨h.node, ⟨h.e.key, j, cont lj⟩⟩ : HK) = _; rw [HLJ.out, HJ.out]; rfl
        have hn1 : x.node = h.node := congrArg Prod.fst HXK.out
        have hn2 : x.e.key = h.e.key := congrArg Prod.snd HXK.out
        have HOWV : Hid (OwnG 39 11 hcs V (some ⟨g4, 0, none⟩) c4 (xs.set n y)) := by
          have := HOW9.out.setS (y := y) HX.out (by rw [hy]; exact hn1.symm) (by rw [hy]; exact hn2.symm)
          rw [hV]
          rw [hy] at this ⊢
          exact this
        have OG : Off (fun c => c = g4) v9 V := by rw [hV]; exact off_wrs (Off.refl _ v9) (.inl rfl)
        have HG2 : Hid (w2.heap.size ≤ g4) := HAT4.out g4 rfl
        have HG4 : Hid (g4 < v4.heap.size) := HOWN4.out.lt g4 rfl
        have HOV : Hid (Off (fun _ => False) w V) := ((HO9.out.mono (E := fun c => c = g4) (fun _ _ h => h.elim)).trans OG (fun _ _ h => h)).mono (fun i hi e => by have := HG2.out; have := HO2.out.size; omega)
        have HRY : Hid (Row V y.e.a y.e.cap y.e.l) := by show Row _ _ _ _; rw [hy]; exact HRJ9.out.offT HTJ.out OG (fun c hc hd e => by have := HG4.out; omega)
        have HTY : Hid (Ter (fun c => v4.heap.size ≤ c) y.e.a y.e.l) := by show Ter _ _ _; rw [hy]; exact HTJ.out
        have HPX : Hid (xs.set n y = putG H.nk y xs) := set_put H.nk HST.out.sor HX.out (by rw [hy]; exact HXK.out.symm)
        have HVL : Hid (g4 < V.heap.size ∧ w.heap.size ≤ g4 ∧ w.heap.size ≤ v4.heap.size) := by have h1 := OG.size; have h2 := HP9.out.size; have h3 := HG4.out; have h4 := HG2.out; have h5 := HO2.out.size; have h6 := HO4.out.size; exact ⟨by omega, by omega, by omega⟩
        clear OG hV hy hn1 hn2
        obtain ⟨b0, k0, hc0, -, -⟩ := (HST.out.free HOV.out).is
        have c0 : V.cell? ⟨q, 0, none⟩ = some (.slice b0 xs.length k0) := hc0.cell 0
        have fr := hc0.free
        have HCQ : Hid (Cel q 30 #[.slice (some ⟨g4, 0, none⟩) xs.length c4] (V.setCell ⟨q, 0, none⟩ (.slice (some ⟨g4, 0, none⟩) xs.length c4))) := hc0.set 0 (.slice (some ⟨g4, 0, none⟩) xs.length c4)
        clear hc0
        go_wp2_with fail
        go_ret2
        clear c0 fr
        have OQ : Off (fun c => c = q) V (V.setCell ⟨q, 0, none⟩ (.slice (some ⟨g4, 0, none⟩) xs.length c4)) := (Off.refl (fun c => c = q) V).setCell (p := ⟨q, 0, none⟩) (.inl rfl) _
        generalize hv2 : V.setCell ⟨q, 0, none⟩ (.slice (some ⟨g4, 0, none⟩) xs.length c4) = V2 at HCQ OQ ⊢
        clear hv2
        rw [hpR_old HM.out HFX.out]
        have OZ : Off (fun c => c = q) w V2 := (HOV.out.mono (fun _ _ h => h.elim)).trans OQ (fun _ _ h => h)
        have hq0 := HST.out.lt
        have hvl := HVL.out
        have hv2 := OQ.size
        have hoz := OZ.size
        have hAB : absH (xs.set n y) = putG HK.nk (jnH x.abs h.abs) (absH xs) := by rw [HPX.out, absH_put, HYA.out]
        have rowY : Row V2 y.e.a y.e.cap y.e.l := HRY.out.offT HTY.out OQ (fun c hc hd e => by omega)
        have rowX : ∀ z ∈ xs, Row V2 z.e.a z.e.cap z.e.l := fun z hz => (HST.out.row z hz).offT (HST.out.ter z hz) OZ (fun c _ hd e => hd.2 e)
        have memY : ∀ z ∈ xs.set n y, z = y ∨ z ∈ xs := fun z hz => by rw [HPX.out] at hz; rcases (mem_putG H.nk).1 hz with e | e; exact .inl e; exact .inr e.1
        have own := HOWV.out.off OQ (fun c _ hc e => by simp [blk] at hc; omega)
        refine ⟨?_, fun c => (R c ∨ w.heap.size ≤ c) ∧ c < V2.heap.size, xs.set n y, ⟨⟨.inl HST.out.dp, by omega⟩, fun c hc => hc.2, ⟨some ⟨g4, 0, none⟩, c4, by rw [List.length_set]; exact HCQ.out, own, fun c hc => ?_⟩, fun z hz => ?_, fun z hz => ?_, ?_⟩, hAB, OZ, fun c hc => hc.1⟩
        · show _ = Ending.returned (Value.tuple #[Value.bool (!sameS x.e.f (joinV x.e.f h.e.f (cont x.e.l) (cont h.e.l)) (cont x.e.l) (joinL x.e.f h.e.f (cont x.e.l) (cont h.e.l))), _])
          rw [same_comm, ← HJ.out, ← HLJ.out, HSM.out]
          rfl
        · simp [blk] at hc
          subst hc
          exact ⟨⟨.inr (by omega), by omega⟩, by omega⟩
        · rcases memY z hz with e | hz
          · rw [e]
            exact rowY
          · exact rowX z hz
        · rcases memY z hz with e | hz
          · rw [e]
            exact (HTY.out.and rowY.below).mono (fun c hc => ⟨⟨.inr (by omega), hc.2⟩, by omega⟩)
          · exact ((HST.out.ter z hz).and (rowX z hz).below).mono (fun c hc => ⟨⟨.inl hc.1.1, hc.2⟩, hc.1.2⟩)
        · rw [hAB]
          have e := HST.out.ok.hpR (x := h.abs) HNRM.out
          rw [hpR_old HM.out HFX.out] at e
          exact e
      · go_wp2_with fail
        go_ret2
        rw [hpR_old HM.out HFX.out]
        have hmx := HST.out.ok.nrm x.abs (List.mem_map.2 ⟨x, List.mem_of_getElem? HX.out, rfl⟩)
        obtain ⟨e1, e2⟩ := same_eq (f := j) (g := x.e.f) (by rw [HJ.out]; exact nrm_join hmx HNRM.out _ _) hmx HSM.out
        have hjn : jnH x.abs h.abs = x.abs := by
          have h1 : (⟨h.node, ⟨h.e.key, j, cont lj⟩⟩ : HK) = jnH x.abs h.abs := by rw [HLJ.out, HJ.out]; rfl
          rw [← h1, e1, e2, ← show x.node = h.node from congrArg Prod.fst HXK.out, ← show x.e.key = h.e.key from congrArg Prod.snd HXK.out]
          rfl
        rw [hjn, same_refl, put_self HK.nk HST.out.ok.sor (List.mem_map.2 ⟨x, List.mem_of_getElem? HX.out, rfl⟩)]
        exact ⟨rfl, R, xs, HST.out.free HO9.out, rfl, HO9.out.mono (fun _ _ h => h.elim), fun c hc => .inl hc⟩
    · go_simp
      have CA := Cel.new v5 35 #[.int .i64 0, .int .i64 0, .int .i64 0, .int .i64 0, .int .i64 0, .int .i64 0, .int .i64 0, .int .i64 0, .slice none 0 0]
      have OA : Off (fun _ => False) v5 (v5.alloc (.cells #[.int .i64 0, .int .i64 0, .int .i64 0, .int .i64 0, .int .i64 0, .int .i64 0, .int .i64 0, .int .i64 0, .slice none 0 0] 35)) := (Off.refl _ v5).alloc _
      have hw0 := hS.size
      refine hK'.out _ _ (hS.trans OA (fun _ _ h => h)) (fun hS => ?_)
      clear hK' K'
      generalize hqa : v5.heap.size = qa at CA ⊢
      generalize hva : v5.alloc (.cells #[.int .i64 0, .int .i64 0, .int .i64 0, .int .i64 0, .int .i64 0, .int .i64 0, .int .i64 0, .int .i64 0, .slice none 0 0] 35) = v6 at CA OA hS ⊢
      have HQA : Hid (v5.heap.size = qa ∧ v4.heap.size ≤ qa) := ⟨hqa, by omega⟩
      clear hva hqa hw0
      refine wpAnyH_ready (rs := [9]) (by kernel_rfl) (by simp) ?_
      refine AllReadyH.cons rfl (fun K' hK' => ?_) AllReadyH.nil
      go_simp
      refine (gjoinN_any x.e.f h.e.f x.e.a h.e.a x.e.cap h.e.cap x.e.l h.e.l _ (HRX.out.off hS) (HR4.out.off hS)).mono ?_
      rintro e v7 ⟨j, aj, cj, lj, rfl, hj, hlj, rj, o6, hn1, hn2⟩
      have HJ : Hid _ := hj
      have HLJ : Hid _ := hlj
      clear hj hlj
      have TJ0 : Ter (fun c => v6.heap.size ≤ c) aj lj := ⟨fun _ x hx => hn1 x hx, fun v hv _ x hx => hn2 v hv x hx⟩
      clear hn1 hn2
      refine hK'.out _ _ (hS.trans o6 (fun _ _ h => h)) (fun hS => ?_)
      clear hK' K'
      have HQ6 : Hid (qa < v6.heap.size) := CA.lt
      replace CA := CA.off (D := fun _ => False) o6 (fun h => h)
      obtain ⟨z0, z1, z2, z3, z4, z5, z6, z7, z8⟩ := cel9 (f := zer) CA
      have fr := CA.free
      refine wpAnyH_ready (rs := [11]) (by kernel_rfl) (by simp) ?_
      refine AllReadyH.cons rfl (fun K' hK' => ?_) AllReadyH.nil
      go_simp
      have hS5 := hS.st9 (b := qa) (.inr HQA.out.2) j (.slice aj lj.length cj)
      refine hK'.out _ _ hS5 (fun hS => ?_)
      clear hK' K' hS5
      clear z0 z1 z2 z3 z4 z5 z6 z7 z8 fr
      have CJ := Cel.st9 (f := zer) CA j (.slice aj lj.length cj)
      have OJ := (Off.refl (fun c => c = qa) v7).st9 (b := qa) (.inl rfl) j (.slice aj lj.length cj)
      generalize hv8 : (((((((((v7.setCell ⟨qa, 0, none⟩ (.int .i64 (j 0))).setCell ⟨qa, 1, none⟩ (.int .i64 (j 1))).setCell ⟨qa, 2, none⟩ (.int .i64 (j 2))).setCell ⟨qa, 3, none⟩ (.int .i64 (j 3))).setCell ⟨qa, 4, none⟩ (.int .i64 (j 4))).setCell ⟨qa, 5, none⟩ (.int .i64 (j 5))).setCell ⟨qa, 6, none⟩ (.int .i64 (j 6))).setCell ⟨qa, 7, none⟩ (.int .i64 (j 7))).setCell ⟨qa, 8, none⟩ (.slice aj lj.length cj)) = v8 at CJ OJ hS ⊢
      clear hv8
      have hq6 := HQ6.out
      have TJ := TJ0.mono (E := fun c => v4.heap.size ≤ c) (fun c hc => by have := HQA.out; omega)
      have RJ := rj.offT TJ0 OJ (fun c hc hd e => by omega)
      clear CA OA OJ
      refine wpAnyH_done (by kernel_rfl) ?_ _
      have HCJ : Hid _ := CJ
      have HP8 : Hid (Off (fun _ => False) v4 v8) := hS
      have HRJ : Hid _ := RJ
      have HTJ : Hid (Ter (fun c => v4.heap.size ≤ c) aj lj) := TJ
      clear CJ hS RJ TJ TJ0 rj o6
      clear HQA
      go_upto_region 9 with fail
      refine wp_region_held_drew (S := fun w' => Off (fun _ => False) v8 w') (by kernel_rfl) ((Off.refl _ v8).drew) (fun hS => ?_)
      refine take_at (i := 0) 58 (v := .agg #[.int .i64 (j 0), .int .i64 (j 1), .int .i64 (j 2), .int .i64 (j 3), .int .i64 (j 4), .int .i64 (j 5), .int .i64 (j 6), .int .i64 (j 7), .slice aj lj.length cj]) rfl rfl (by kernel_rfl) (by kernel_rfl) (by kernel_rfl) (fun _ _ _ h => h) (Or.inl ⟨by rfl, fun w' hw' => by obtain ⟨x0, x1, x2, x3, x4, x5, x6, x7, x8⟩ := cel9 (HCJ.out.off hw' (fun h => h)); go_simp⟩) hS ?_
      simp only [Act.put, List.setIfInBounds_toArray, List.set_cons_zero, List.set_cons_succ]
      refine take_at (i := 1) 59 (v := .slice (some ⟨g4, 0, none⟩) xs.length c4) rfl rfl (by kernel_rfl) (by kernel_rfl) (by kernel_rfl) (fun _ _ _ h => h) (Or.inl ⟨by rfl, fun w' hw' => by go_simp⟩) hS ?_
      simp only [Act.put, List.setIfInBounds_toArray, List.set_cons_zero, List.set_cons_succ]
      refine take_at (i := 2) 60 (v := .int .i64 (n : Int)) rfl rfl (by kernel_rfl) (by kernel_rfl) (by kernel_rfl) (fun _ _ _ h => h) (Or.inl ⟨by rfl, fun w' hw' => by go_simp⟩) hS ?_
      simp only [Act.put, List.setIfInBounds_toArray, List.set_cons_zero, List.set_cons_succ]
      refine take_at (i := 3) 61 (v := .pointer (some ⟨g4, n * 11, none⟩)) rfl rfl (by kernel_rfl) (by kernel_rfl) (by kernel_rfl) (fun _ _ _ h => h) (Or.inl ⟨by rfl, fun w' hw' => exec_idx10 rfl (idx_hin hlt c4 g4 w')⟩) hS ?_
      simp only [Act.put, List.setIfInBounds_toArray, List.set_cons_zero, List.set_cons_succ]
      refine take_at (i := 4) 62 (v := .pointer (some ⟨g4, n * 11 + 1, none⟩)) rfl rfl (by kernel_rfl) (by kernel_rfl) (by kernel_rfl) (fun _ _ _ h => h) (Or.inl ⟨by rfl, fun w' hw' => by go_simp⟩) hS ?_
      simp only [Act.put, List.setIfInBounds_toArray, List.set_cons_zero, List.set_cons_succ]
      refine take_at (i := 5) 63 (v := .pointer (some ⟨g4, n * 11 + 2, none⟩)) rfl rfl (by kernel_rfl) (by kernel_rfl) (by kernel_rfl) (fun _ _ _ h => h) (Or.inl ⟨by rfl, fun w' hw' => by go_simp⟩) hS ?_
      simp only [Act.put, List.setIfInBounds_toArray, List.set_cons_zero, List.set_cons_succ]
      refine take_at (i := 6) 64 (v := .agg #[.int .i64 (x.e.f 0), .int .i64 (x.e.f 1), .int .i64 (x.e.f 2), .int .i64 (x.e.f 3), .int .i64 (x.e.f 4), .int .i64 (x.e.f 5), .int .i64 (x.e.f 6), .int .i64 (x.e.f 7), .slice x.e.a x.e.l.length x.e.cap]) rfl rfl (by kernel_rfl) (by kernel_rfl) (by kernel_rfl) (fun _ _ _ h => h) (Or.inl ⟨by rfl, fun w' hw' => by obtain ⟨x0, x1, x2, x3, x4, x5, x6, x7, x8, x9, x10⟩ := ((HAT.out.off HP8.out (fun _ h => h)).off hw' (fun _ h => h)).cells; go_simp⟩) hS ?_
      simp only [Act.put, List.setIfInBounds_toArray, List.set_cons_zero, List.set_cons_succ]
      refine wpAnyH_ready (rs := [7]) (by kernel_rfl) (by simp) ?_
      refine AllReadyH.cons rfl (fun K' hK' => ?_) AllReadyH.nil
      go_simp
      refine (gsame_any j x.e.f aj x.e.a cj x.e.cap lj x.e.l _ (HRJ.out.off hS) ((HRX.out.off HP8.out).off hS)).mono ?_
      generalize hsm : sameS j x.e.f (cont lj) (cont x.e.l) = sm
      rintro e v9 ⟨rfl, o9⟩
      refine hK'.out _ _ (hS.trans o9 (fun _ _ h => h)) (fun hS => ?_)
      clear hK' K'
      refine wpAnyH_done (by kernel_rfl) ?_ _
      have HP9 : Hid (Off (fun _ => False) v4 v9) := HP8.out.trans hS (fun _ _ h => h)
      have HCJ9 : Hid _ := HCJ.out.off hS (fun h => h)
      have HRJ9 : Hid _ := HRJ.out.off hS
      have HSM : Hid _ := hsm
      clear hS o9 hsm HCJ HRJ
      have HO9 : Hid _ := (HO2.out.trans HO4.out (fun _ _ h => h)).trans HP9.out (fun _ _ h => h)
      cases sm
      · have AT9 := (HAT.out.off HP9.out (fun _ h => h)).cells
        obtain ⟨y0, y1, y2, y3, y4, y5, y6, y7, y8, y9, y10⟩ := AT9
        obtain ⟨x0, x1, x2, x3, x4, x5, x6, x7, x8⟩ := cel9 HCJ9.out
        have HOW9 : Hid _ := HOWN4.out.off HP9.out (fun _ _ _ h => h)
        have frg : ∀ o, v9.frozen? ⟨g4, o, none⟩ = false := by
          obtain ⟨g', cur, eg, hc, -⟩ := HOW9.out.cel (by simp)
          simp only [Option.some.injEq, Addr.mk.injEq, and_true] at eg
          subst eg
          exact hc.free
        have hix4 := idx_hin hlt c4 g4
        go_upto_region 12 with fail
        clear y0 y1 y2 y3 y4 y5 y6 y7 y8 y9 y10 x0 x1 x2 x3 x4 x5 x6 x7 x8 frg hix4
        obtain ⟨V, hV⟩ : ∃ V, V = wrs g4 (n * 11 + 2) (sib9 j (.slice aj lj.length cj)) v9 := ⟨_, rfl⟩
        rw [show (((((((((v9.setCell ⟨g4, n * 11 + 2, none⟩ (.int .i64 (j 0))).setCell ⟨g4, n * 11 + 2 + 1, none⟩ (.int .i64 (j 1))).setCell ⟨g4, n * 11 + 2 + 2, none⟩ (.int .i64 (j 2))).setCell ⟨g4, n * 11 + 2 + 3, none⟩ (.int .i64 (j 3))).setCell ⟨g4, n * 11 + 2 + 4, none⟩ (.int .i64 (j 4))).setCell ⟨g4, n * 11 + 2 + 5, none⟩ (.int .i64 (j 5))).setCell ⟨g4, n * 11 + 2 + 6, none⟩ (.int .i64 (j 6))).setCell ⟨g4, n * 11 + 2 + 7, none⟩ (.int .i64 (j 7))).setCell ⟨g4, n * 11 + 2 + 8, none⟩ (.slice aj lj.length cj)) = V from hV.symm]
        obtain ⟨y, hy⟩ : ∃ y : H, y = ⟨h.node, ⟨h.e.key, j, aj, cj, lj⟩⟩ := ⟨_, rfl⟩
        have HYA : Hid (y.abs = jnH x.abs h.abs) := by show y.abs = _; rw [hy]; show (⟨h.node, ⟨h.e.key, j, cont lj⟩⟩ : HK) = _; rw [HLJ.out, HJ.out]; rfl
        have hn1 : x.node = h.node := congrArg Prod.fst HXK.out
        have hn2 : x.e.key = h.e.key := congrArg Prod.snd HXK.out
        have HOWV : Hid (OwnG 39 11 hcs V (some ⟨g4, 0, none⟩) c4 (xs.set n y)) := by
          have := HOW9.out.setS (y := y) HX.out (by rw [hy]; exact hn1.symm) (by rw [hy]; exact hn2.symm)
          rw [hV]
          rw [hy] at this ⊢
          exact this
        have OG : Off (fun c => c = g4) v9 V := by rw [hV]; exact off_wrs (Off.refl _ v9) (.inl rfl)
        have HG2 : Hid (w2.heap.size ≤ g4) := HAT4.out g4 rfl
        have HG4 : Hid (g4 < v4.heap.size) := HOWN4.out.lt g4 rfl
        have HOV : Hid (Off (fun _ => False) w V) := ((HO9.out.mono (E := fun c => c = g4) (fun _ _ h => h.elim)).trans OG (fun _ _ h => h)).mono (fun i hi e => by have := HG2.out; have := HO2.out.size; omega)
        have HRY : Hid (Row V y.e.a y.e.cap y.e.l) := by show Row _ _ _ _; rw [hy]; exact HRJ9.out.offT HTJ.out OG (fun c hc hd e => by have := HG4.out; omega)
        have HTY : Hid (Ter (fun c => v4.heap.size ≤ c) y.e.a y.e.l) := by show Ter _ _ _; rw [hy]; exact HTJ.out
        have HPX : Hid (xs.set n y = putG H.nk y xs) := set_put H.nk HST.out.sor HX.out (by rw [hy]; exact HXK.out.symm)
        have HVL : Hid (g4 < V.heap.size ∧ w.heap.size ≤ g4 ∧ w.heap.size ≤ v4.heap.size) := by have h1 := OG.size; have h2 := HP9.out.size; have h3 := HG4.out; have h4 := HG2.out; have h5 := HO2.out.size; have h6 := HO4.out.size; exact ⟨by omega, by omega, by omega⟩
        clear OG hV hy hn1 hn2
        obtain ⟨b0, k0, hc0, -, -⟩ := (HST.out.free HOV.out).is
        have c0 : V.cell? ⟨q, 0, none⟩ = some (.slice b0 xs.length k0) := hc0.cell 0
        have fr := hc0.free
        have HCQ : Hid (Cel q 30 #[.slice (some ⟨g4, 0, none⟩) xs.length c4] (V.setCell ⟨q, 0, none⟩ (.slice (some ⟨g4, 0, none⟩) xs.length c4))) := hc0.set 0 (.slice (some ⟨g4, 0, none⟩) xs.length c4)
        clear hc0
        go_wp2_with fail
        go_ret2
        clear c0 fr
        have OQ : Off (fun c => c = q) V (V.setCell ⟨q, 0, none⟩ (.slice (some ⟨g4, 0, none⟩) xs.length c4)) := (Off.refl (fun c => c = q) V).setCell (p := ⟨q, 0, none⟩) (.inl rfl) _
        generalize hv2 : V.setCell ⟨q, 0, none⟩ (.slice (some ⟨g4, 0, none⟩) xs.length c4) = V2 at HCQ OQ ⊢
        clear hv2
        rw [hpR_old HM.out HFX.out]
        have OZ : Off (fun c => c = q) w V2 := (HOV.out.mono (fun _ _ h => h.elim)).trans OQ (fun _ _ h => h)
        have hq0 := HST.out.lt
        have hvl := HVL.out
        have hv2 := OQ.size
        have hoz := OZ.size
        have hAB : absH (xs.set n y) = putG HK.nk (jnH x.abs h.abs) (absH xs) := by rw [HPX.out, absH_put, HYA.out]
        have rowY : Row V2 y.e.a y.e.cap y.e.l := HRY.out.offT HTY.out OQ (fun c hc hd e => by omega)
        have rowX : ∀ z ∈ xs, Row V2 z.e.a z.e.cap z.e.l := fun z hz => (HST.out.row z hz).offT (HST.out.ter z hz) OZ (fun c _ hd e => hd.2 e)
        have memY : ∀ z ∈ xs.set n y, z = y ∨ z ∈ xs := fun z hz => by rw [HPX.out] at hz; rcases (mem_putG H.nk).1 hz with e | e; exact .inl e; exact .inr e.1
        have own := HOWV.out.off OQ (fun c _ hc e => by simp [blk] at hc; omega)
        refine ⟨?_, fun c => (R c ∨ w.heap.size ≤ c) ∧ c < V2.heap.size, xs.set n y, ⟨⟨.inl HST.out.dp, by omega⟩, fun c hc => hc.2, ⟨some ⟨g4, 0, none⟩, c4, by rw [List.length_set]; exact HCQ.out, own, fun c hc => ?_⟩, fun z hz => ?_, fun z hz => ?_, ?_⟩, hAB, OZ, fun c hc => hc.1⟩
        · show _ = Ending.returned (Value.tuple #[Value.bool (!sameS x.e.f (joinV x.e.f h.e.f (cont x.e.l) (cont h.e.l)) (cont x.e.l) (joinL x.e.f h.e.f (cont x.e.l) (cont h.e.l))), _])
          rw [same_comm, ← HJ.out, ← HLJ.out, HSM.out]
          rfl
        · simp [blk] at hc
          subst hc
          exact ⟨⟨.inr (by omega), by omega⟩, by omega⟩
        · rcases memY z hz with e | hz
          · rw [e]
            exact rowY
          · exact rowX z hz
        · rcases memY z hz with e | hz
          · rw [e]
            exact (HTY.out.and rowY.below).mono (fun c hc => ⟨⟨.inr (by omega), hc.2⟩, by omega⟩)
          · exact ((HST.out.ter z hz).and (rowX z hz).below).mono (fun c hc => ⟨⟨.inl hc.1.1, hc.2⟩, hc.1.2⟩)
        · rw [hAB]
          have e := HST.out.ok.hpR (x := h.abs) HNRM.out
          rw [hpR_old HM.out HFX.out] at e
          exact e
      · go_wp2_with fail
        go_ret2
        rw [hpR_old HM.out HFX.out]
        have hmx := HST.out.ok.nrm x.abs (List.mem_map.2 ⟨x, List.mem_of_getElem? HX.out, rfl⟩)
        obtain ⟨e1, e2⟩ := same_eq (f := j) (g := x.e.f) (by rw [HJ.out]; exact nrm_join hmx HNRM.out _ _) hmx HSM.out
        have hjn : jnH x.abs h.abs = x.abs := by
          have h1 : (⟨h.node, ⟨h.e.key, j, cont lj⟩⟩ : HK) = jnH x.abs h.abs := by rw [HLJ.out, HJ.out]; rfl
          rw [← h1, e1, e2, ← show x.node = h.node from congrArg Prod.fst HXK.out, ← show x.e.key = h.e.key from congrArg Prod.snd HXK.out]
          rfl
        rw [hjn, same_refl, put_self HK.nk HST.out.ok.sor (List.mem_map.2 ⟨x, List.mem_of_getElem? HX.out, rfl⟩)]
        exact ⟨rfl, R, xs, HST.out.free HO9.out, rfl, HO9.out.mono (fun _ _ h => h.elim), fun c hc => .inl hc⟩
end Go.Proofs.Ytfhacfedklaaiaa
