/- A table in memory: the map's block, the rows that its elements lead to; what turns, and what does not. -/
import Derived.Test.YtbagahlphnafdaaTbP
import Derived.Deep.RegionHeld
namespace Go.Proofs.Ytbagahlphnafdaa
open Go.RowKit

theorem Try.lawK : Maps.Keyed Try.prog 9 := Maps.string_keyed Try.underlying9
theorem Try.zeroS (k : ByteArray) (w : World) : (zeroValue 35).run Try.prog w = .ok (zE k).val w := by kernel_rfl

/-- No number lies in these blocks. -/
structure NoI (D : Nat → Prop) (w : World) : Prop where
  no : ∀ x : Addr, D x.block → ∀ k n, w.cell? x ≠ some (.int k n)
theorem Src.offN {D : Nat → Prop} {w w' : World} {tad : Option Addr} {cap : Nat} {bs : List Nat} (h : Src w tad cap bs) (o : Off D w w') (hN : NoI D w) : Src w' tad cap bs := by
  rcases h.is with h0 | ⟨ad, rfl, h0⟩
  · exact ⟨.inl h0⟩
  · refine ⟨.inr ⟨ad, rfl, fun j u hj => ?_⟩⟩
    have h1 := h0 j u hj
    obtain ⟨x, hx⟩ : ∃ x, u = .int .u8 x := by
      simp only [vl, List.getElem?_map, Option.map_eq_some_iff] at hj
      obtain ⟨x, -, hx⟩ := hj
      exact ⟨_, hx.symm⟩
    rw [← h1]
    exact World.cell?_of_block (o.block _ (cell_lt h1) (fun e => hN.no _ e _ _ (hx ▸ h1)))
theorem Row.offN {D : Nat → Prop} {w w' : World} {a : Option Addr} {cap : Nat} {l : List V} (h : Row w a cap l) (o : Off D w w') (hN : NoI D w) : Row w' a cap l :=
  ⟨h.len, h.bound, fun i v hi => by
    obtain ⟨b, off, e, h1, h2⟩ := h.at_ i v hi
    exact ⟨b, off, e, h1.off o (fun _ hd => hN.no ⟨b, off + i * 4, none⟩ hd _ _ h1.c0), ⟨h2.src.offN o hN, h2.lt, h2.n0, h2.n1, h2.m0, h2.m1, h2.len⟩⟩⟩
theorem NoI.none (w : World) : NoI (fun _ => False) w := ⟨fun _ h => h.elim⟩
theorem Cel.noI {q : Nat} {t : TypeId} {u : Value} {w : World} (h : Cel q t #[u] w) (hu : ∀ k n, u ≠ .int k n) : NoI (fun c => c = q) w := by
  refine ⟨fun x hx k n e => ?_⟩
  obtain ⟨b, o, s⟩ := x
  have hx : b = q := hx
  subst hx
  unfold World.cell? at e
  rw [h.is] at e
  cases s with
  | some s => simp at e
  | none =>
    cases o with
    | zero => simp at e; exact hu k n e
    | succ o => simp at e
theorem om_noI {H : Type} {k : TypeId} {R : Value → Option (DataW H × List MemPlace)} {b n : Nat} {D : DataW H} {w : World} (h : w.ownsMap Try.prog k R b n D) : NoI (fun c => c = b) w := by
  obtain ⟨es, clock, hb, -⟩ := h
  refine ⟨fun x hx k n e => ?_⟩
  have hx : x.block = b := hx
  unfold World.cell? at e
  rw [hx, hb] at e
  simp at e
theorem om_ncel {H : Type} {k : TypeId} {R : Value → Option (DataW H × List MemPlace)} {b n : Nat} {D : DataW H} {w : World} (h : w.ownsMap Try.prog k R b n D) {p : Nat} {t : TypeId} {cs : Array Value} (hp : Cel p t cs w) : p ≠ b := by
  obtain ⟨es, clock, hb, -⟩ := h
  intro e
  subst e
  rw [hp.is] at hb
  cases hb
theorem om_off {H : Type} {k : TypeId} {R : Value → Option (DataW H × List MemPlace)} {b n : Nat} {D : DataW H} {w w' : World} {X : Nat → Prop} (h : w.ownsMap Try.prog k R b n D) (o : Off X w w') (hb : ¬ X b) : w'.ownsMap Try.prog k R b n D := by
  have hlt := h.lt
  obtain ⟨es, clock, hh, r⟩ := h
  exact ⟨es, clock, (o.block b hlt hb).trans hh, r⟩

/-- A table: p its struct, b its map. -/
structure Tab (p b : Nat) (t : List E) (w : World) : Prop where
  cel : Cel p 62 #[.map (some b)] w
  own : w.ownsMap Try.prog 9 hR b t.length (datum t)
  sor : Sor E.key t
  row : ∀ e ∈ t, Row w e.a e.cap e.l
  len : ∀ e ∈ t, e.key.size ≤ 32
  few : t.length ≤ 256
theorem Tab.off {p b : Nat} {t : List E} {w w' : World} {D : Nat → Prop} (h : Tab p b t w) (o : Off D w w') (hp : ¬ D p) (hb : ¬ D b) (hN : NoI D w) : Tab p b t w' :=
  ⟨h.cel.off o hp, om_off h.own o hb, h.sor, fun e he => (h.row e he).offN o hN, h.len, h.few⟩
theorem Tab.free {p b : Nat} {t : List E} {w w' : World} (h : Tab p b t w) (o : Off (fun _ => False) w w') : Tab p b t w' := h.off o (fun h => h) (fun h => h) (NoI.none w)
theorem Tab.drew {p b : Nat} {t : List E} {w : World} (h : Tab p b t w) : Tab p b t w.drew := h.free (Off.refl _ w).drew
theorem Tab.noI {p b : Nat} {t : List E} {w : World} (h : Tab p b t w) : NoI (fun c => c = b) w := om_noI h.own
theorem Tab.ne {p b : Nat} {t : List E} {w : World} (h : Tab p b t w) {q : Nat} {ty : TypeId} {cs : Array Value} (hq : Cel q ty cs w) : q ≠ b := om_ncel h.own hq
theorem Tab.ltb {p b : Nat} {t : List E} {w : World} (h : Tab p b t w) : b < w.heap.size := h.own.lt
/-- Behind a call on another table. -/
theorem Tab.beside {p b c : Nat} {t s : List E} {q : Nat} {w w' : World} (h : Tab p b t w) (k : Tab q c s w) (o : Off (fun x => x = c) w w') (hb : b ≠ c) : Tab p b t w' :=
  h.off o (k.ne h.cel) hb k.noI
theorem getE_row {p b : Nat} {t : List E} {w : World} (h : Tab p b t w) (k : ByteArray) : Row w (getE t k).a (getE t k).cap (getE t k).l := by
  unfold getE
  cases e : fndG E.key k t with
  | none => exact Row.nil w none 0 (by omega)
  | some x => exact h.row x (fnd_mem E.key e).1
theorem kl_key {k : ByteArray} (hk : k.size ≤ maxLen) : keyOf Try.prog 9 (.string k) = some (kl k) := WideMaps.keyOf_string_mk Try.underlying9 hk
theorem Tab.look {p b : Nat} {t : List E} {w : World} (h : Tab p b t w) {k : ByteArray} (hk : k.size ≤ maxLen) :
    (Instr.lookup 60 (.map (some b)) (.string k) true).run Try.prog w = .ok (.tuple #[(getE t k).val, .bool (fndG E.key k t).isSome]) w := by
  obtain ⟨v, ps, hr, hv⟩ := h.own.look_ok Try.lawK Try.underlying60 (Try.zeroS k w) (zd := .held (zE k).val) (zp := []) rfl (kl_key hk)
  rw [has_datum] at hr
  rw [at_datum] at hv
  have e : v = (getE t k).val := by
    simp only [hR, Option.some.injEq, Prod.mk.injEq, DataW.held.injEq] at hv
    exact hv.1
  rw [e] at hr
  exact hr
theorem Tab.look1 {p b : Nat} {t : List E} {w : World} (h : Tab p b t w) {k : ByteArray} (hk : k.size ≤ maxLen) :
    (Instr.lookup 60 (.map (some b)) (.string k) false).run Try.prog w = .ok (getE t k).val w := by
  obtain ⟨v, ps, hr, hv⟩ := h.own.lookup Try.lawK Try.underlying60 (Try.zeroS k w) (zd := .held (zE k).val) (zp := []) rfl (kl_key hk)
  rw [at_datum] at hv
  have e : v = (getE t k).val := by
    simp only [hR, Option.some.injEq, Prod.mk.injEq, DataW.held.injEq] at hv
    exact hv.1
  rw [e] at hr
  exact hr
theorem Tab.len_ {p b : Nat} {t : List E} {w : World} (h : Tab p b t w) (ty : TypeId) : (Builtin.len_ #[60] ty #[.map (some b)]).run Try.prog w = .ok (.int .i64 (t.length : Int)) w := by
  have := h.own.len Try.underlying60 ty
  rw [size_datum] at this
  exact this
theorem om_tight {H : Type} {k : TypeId} {R : Value → Option (DataW H × List MemPlace)} {b n : Nat} {D : DataW H} {w : World} (h : w.ownsMap Try.prog k R b n D) : w.ownsMap Try.prog k R b (Maps.size D) D := by
  obtain ⟨es, clock, hb, F, hs, hD⟩ := h
  refine ⟨es, clock, hb, F, ?_, hD⟩
  rw [hD]
  show es.size ≤ ((es.toList.map _).foldr DataW.insert []).length
  rw [length_sorted]
  simp
theorem Tab.put {p b : Nat} {t : List E} {w : World} (h : Tab p b t w) (x : E) (hr : Row w x.a x.cap x.l) (hk : x.key.size ≤ 32) (hn : (putG E.key x t).length ≤ 256) :
    ∃ w', (Instr.mapUpdate 60 (.map (some b)) (.string x.key) x.val).run Try.prog w = .ok () w' ∧ Tab p b (putG E.key x t) w' ∧ Off (fun c => c = b) w w' := by
  obtain ⟨w', h1, h2, h3⟩ := h.own.update Try.lawK Try.underlying60 (by have := h.few; unfold maxLen; omega) (kl_key (k := x.key) (by unfold maxLen; omega)) (val := x.val) (d := .held x.val) (ps := []) rfl
  have o : Off (fun c => c = b) w w' := (Off.refl _ w).grown h3 (fun k hk => .inl (by simpa using hk.symm))
  refine ⟨w', h1, ⟨h.cel.off o (h.ne h.cel), ?_, sor_putG E.key h.sor, fun e he => ?_, fun e he => ?_, hn⟩, o⟩
  · rw [put_datum] at h2
    have := om_tight h2
    rw [size_datum] at this
    exact this
  · rcases (mem_putG E.key).1 he with rfl | ⟨he, -⟩
    · exact hr.offN o h.noI
    · exact (h.row e he).offN o h.noI
  · rcases (mem_putG E.key).1 he with rfl | ⟨he, -⟩
    · exact hk
    · exact h.len e he
theorem put_len {t : List E} (h : Sor E.key t) (x : E) : (putG E.key x t).length ≤ t.length + 1 := by
  rw [len_putG E.key h]
  split <;> omega

theorem eql_map (b : Option Nat) (W : World) : (binOp .eql 60 (.map b) (.map none)).run Try.prog W = .ok (.bool b.isNone) W := by
  cases b <;> kernel_rfl
theorem eql_ptr (a : Option Addr) (W : World) : (binOp .eql 26 (.pointer a) (.pointer none)).run Try.prog W = .ok (.bool a.isNone) W := by
  cases a <;> kernel_rfl

theorem tnew_any (w : World) : Calls Try.prog 11 #[] w fun e w' => ∃ p b, e = .returned (.pointer (some ⟨p, 0, none⟩)) ∧ Tab p b [] w' ∧ w.heap.size ≤ p ∧ w.heap.size ≤ b ∧ Off (fun _ => False) w w' := by
  have hmm := @run_makeMap Try.prog
  have C : Cel (w.heap.size + 1) 62 #[.map (some w.heap.size)] ((w.alloc (.map #[] 0)).alloc (.cells #[.map (some w.heap.size)] 62)) := by
    have := Cel.new (w.alloc (.map #[] 0)) 62 #[.map (some w.heap.size)]
    simpa using this
  have O : Off (fun _ => False) w ((w.alloc (.map #[] 0)).alloc (.cells #[.map (some w.heap.size)] 62)) := ((Off.refl _ w).alloc _).alloc _
  have M : (w.alloc (.map #[] 0)).ownsMap Try.prog 9 hR w.heap.size 0 (datum []) := World.ownsMap_made w Try.prog 9 hR
  go_enter Try.func11, Try.ntmps11
  go_wp2_with fail
  go_ret
  refine ⟨w.heap.size + 1, w.heap.size, rfl, ⟨C, M.alloc _, List.Pairwise.nil, fun e he => by simp at he, fun e he => by simp at he, by simp⟩, by omega, by omega, O⟩
end Go.Proofs.Ytbagahlphnafdaa
