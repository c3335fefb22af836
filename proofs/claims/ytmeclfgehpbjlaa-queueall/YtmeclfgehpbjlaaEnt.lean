/- The keys in order; the contracts of entries, All, Bucket. -/
import Derived.Test.YtmeclfgehpbjlaaTop
import Derived.Test.YtmeclfgehpbjlaaBkt
import Derived.Test.YtmeclfgehpbjlaaLiv
namespace Go.Proofs.Ytmeclfgehpbjlaa
open Go.RowKit

theorem before_lt : ∀ {a b : List UInt8}, bytesBefore a b = true → a < b
  | [], [], h => by simp [bytesBefore] at h
  | [], _ :: _, _ => List.nil_lt_cons _ _
  | _ :: _, [], h => by simp [bytesBefore] at h
  | x :: r, y :: s, h => by
    simp only [bytesBefore, Bool.or_eq_true, Bool.and_eq_true, decide_eq_true_eq, beq_iff_eq] at h
    rw [List.cons_lt_cons_iff]
    rcases h with h | ⟨h1, h2⟩
    · exact .inl h
    · exact .inr ⟨h1, before_lt h2⟩
theorem sorted_keys {t : List E} (h : Sor E.key t) {ss : List (List UInt8)} (hp : ss.Perm (strKeys (datum t))) : ss.mergeSort (fun x y => decide (x ≤ y)) = t.map fun e => kb e.key := by
  rw [strKeys_datum] at hp
  refine (mergeSort_of_perm hp).trans ?_
  refine List.mergeSort_of_pairwise ?_
  rw [List.pairwise_map]
  refine List.Pairwise.imp (fun {x y} hxy => ?_) h
  exact decide_eq_true (List.le_of_lt (before_lt hxy))
theorem enc_kb (k : ByteArray) : encStr (kb k) = .string k := by
  obtain ⟨⟨l⟩⟩ := k
  rfl
/-- An entry's cells. -/
def ecs (e : E) : List Value := [.string e.key, .int .i64 (e.f 0), .int .i64 (e.f 1), .int .i64 (e.f 2), .int .i64 (e.f 3), .int .i64 (e.f 4), .int .i64 (e.f 5), .int .i64 (e.f 6), .int .i64 (e.f 7), .slice e.a e.l.length e.cap]
theorem ecs_len (e : E) : (ecs e).length = 10 := rfl
theorem ecs_one (e : E) : ∀ u ∈ ecs e, u.oneCell' = true := by simp [ecs, Value.oneCell']
theorem Try.infoE : (Try.prog.info? 96).map (fun i => (i.zero, i.size, i.bytes)) = some (some (.agg #[.string ⟨#[]⟩, .int .i64 0, .int .i64 0, .int .i64 0, .int .i64 0, .int .i64 0, .int .i64 0, .int .i64 0, .int .i64 0, .slice none 0 0]), 10, 104) := by kernel_rfl
theorem get_at {t : List E} (h : Sor E.key t) {n : Nat} {x : E} (hx : t[n]? = some x) : getE t x.key = x := by
  unfold getE
  rw [(fnd_some E.key h).2 ⟨List.mem_of_getElem? hx, rfl⟩]
  rfl
theorem snoc_abs (es : List E) (x : E) : absE (es ++ [x]) = absE es ++ [x.abs] := by simp [absE]
theorem flt_step (f : K → Bool) {t : List E} {n : Nat} {x : E} (hx : t[n]? = some x) : (absE (t.take (n + 1))).filter f = (absE (t.take n)).filter f ++ (if f x.abs = true then [x.abs] else []) := by
  rw [List.take_add_one, hx]
  show (absE (t.take n ++ [x])).filter f = _
  rw [snoc_abs, List.filter_append]
  simp [List.filter_cons]
/-- A row, and the bytes of its values, lie apart from another row. -/
structure Apt (to : Option Addr) (a : Option Addr) (l : List V) : Prop where
  row : l ≠ [] → ∀ c, blk a = some c → blk to ≠ some c
  val : ∀ v ∈ l, v.data ≠ [] → ∀ c, blk v.ad = some c → blk to ≠ some c
theorem src_lt {w : World} {t : Option Addr} {c : Nat} {bs : List Nat} (h : Src w t c bs) (hb : bs ≠ []) : ∀ x, blk t = some x → x < w.heap.size := by
  rcases h.is with ⟨-, e, -⟩ | ⟨ad, rfl, h0⟩
  · exact absurd e hb
  · intro x hx
    cases bs with
    | nil => exact absurd rfl hb
    | cons y r =>
      have h1 := h0 0 _ rfl
      have h2 := cell_lt h1
      rw [add_block] at h2
      simp [blk] at hx
      omega
theorem Src.offX {D : Nat → Prop} {w w' : World} {t : Option Addr} {c : Nat} {bs : List Nat} (h : Src w t c bs) (o : Off D w w') (hD : bs ≠ [] → ∀ x, blk t = some x → ¬ D x) : Src w' t c bs := by
  rcases h.is with e | ⟨ad, rfl, h0⟩
  · exact ⟨.inl e⟩
  · refine ⟨.inr ⟨ad, rfl, fun j u hj => ?_⟩⟩
    have h1 := h0 j u hj
    rw [← h1]
    refine World.cell?_of_block (o.block _ (cell_lt h1) (hD (fun e => ?_) _ (by rw [add_block]; rfl)))
    rw [e] at hj
    simp [vl] at hj
theorem Apt.row_off {to a : Option Addr} {cap : Nat} {l : List V} {w w' : World} (h : Apt to a l) (hr : Row w a cap l) (o : Off (fun c => blk to = some c) w w') : Row w' a cap l :=
  ⟨hr.len, hr.bound, fun i v hi => by
    obtain ⟨b, off, e, h1, h2⟩ := hr.at_ i v hi
    exact ⟨b, off, e, h1.off o (fun _ => h.row (fun e => by rw [e] at hi; simp at hi) b (by rw [e]; rfl)), ⟨h2.src.offX o (h.val v (List.mem_of_getElem? hi)), h2.lt, h2.n0, h2.n1, h2.m0, h2.m1, h2.len⟩⟩⟩
theorem Apt.step {to to' a : Option Addr} {cap N : Nat} {l : List V} {w : World} (h : Apt to a l) (hr : Row w a cap l) (hN : w.heap.size ≤ N) (hat : blk to' = blk to ∨ blk to' = some N) : Apt to' a l := by
  refine ⟨fun hl c hc e => ?_, fun v hv hd c hc e => ?_⟩
  · rcases hat with k | k
    · exact h.row hl c hc (k ▸ e)
    · cases l with
      | nil => exact hl rfl
      | cons v r =>
        obtain ⟨b, off, ea, h1, -⟩ := hr.at_ 0 v rfl
        have := h1.lt
        rw [ea] at hc
        rw [k] at e
        simp [blk] at hc e
        omega
  · rcases hat with k | k
    · exact h.val v hv hd c hc (k ▸ e)
    · have := src_lt (hr.ok v hv).src hd c hc
      rw [k] at e
      simp at e
      omega
end Go.Proofs.Ytmeclfgehpbjlaa
