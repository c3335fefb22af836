/- The contract of Copy. -/
import Derived.Test.YtbagahlphnafdaaTop
import Derived.Test.YtbagahlphnafdaaLaw10
import Derived.Deep.Cut
namespace Go.Proofs.Ytbagahlphnafdaa
open Go.RowKit

/-- A step of a range over a table's map: one of its entries. -/
theorem wpList_next_tab {w : World} {ops : Array Oper} {rest : List Oper} {o : Oper} {a : Act} {Q : Exit → Act → World → Prop} (hg : o.guard = none) (it : Operand) (hop : o.op = Op.next it false)
    (b r n : Nat) (t : List E) (left : Lit → Bool) (cnt : Nat) (hit : a.eval it = .pointer (some ⟨r, 0, none⟩)) (h : w.ranges Try.prog 9 hR b r n (datum t) left cnt)
    (hDone : cnt = 0 → (∀ kl, left kl = false) → wpList Try.prog ops Q rest (a.put o.dst (.tuple #[.bool false])) w)
    (hMore : ∀ (x : E) (w' : World) (cnt' : Nat), x ∈ t → left (kl x.key) = true → w'.ranges Try.prog 9 hR b r n (datum t) (fun z => left z && !z.sameKey (kl x.key)) cnt' → cnt' < cnt →
      w.grownBy w' (some r) → w'.heap.size = w.heap.size → (Instr.entry (.pointer (some ⟨r, 0, none⟩))).run Try.prog w' = .ok (.tuple #[.string x.key, .agg #[.int .i64 (x.f 0), .int .i64 (x.f 1), .int .i64 (x.f 2), .int .i64 (x.f 3), .int .i64 (x.f 4), .int .i64 (x.f 5), .int .i64 (x.f 6), .int .i64 (x.f 7), .slice x.a x.l.length x.cap]]) w' → wpList Try.prog ops Q rest (a.put o.dst (.tuple #[.bool true, .string x.key, .agg #[.int .i64 (x.f 0), .int .i64 (x.f 1), .int .i64 (x.f 2), .int .i64 (x.f 3), .int .i64 (x.f 4), .int .i64 (x.f 5), .int .i64 (x.f 6), .int .i64 (x.f 7), .slice x.a x.l.length x.cap]])) w') :
    wpList Try.prog ops Q (o :: rest) a w := by
  refine wpList_plain hg fun K' hK' => ?_
  unfold Oper.wp
  rcases h.next Try.lawK o.type with ⟨h0, hl, hrun⟩ | ⟨key, v, kv, y, w', cnt', hkey, hlk, hv, hat, hrun, hrg, hlt, hgr, hsz, hen⟩
  · simp [execOp, hop, hit, hrun, Result.andThen]
    exact hK' _ _ (hDone h0 hl)
  · obtain ⟨s, rfl, rfl, -⟩ := Maps.keyOf_str Try.underlying9 hkey
    obtain ⟨k, hk⟩ : ∃ k : ByteArray, kb k = s := ⟨⟨s.toArray⟩, rfl⟩
    subst hk
    have hy : y.1 = .held v := by
      simp only [hR, Option.some.injEq] at hv
      rw [← hv]
    have hat2 : ∀ zd, (datum t).atKey (kl k) zd = .held v := fun zd => (hat zd).trans hy
    obtain ⟨x, hx, hxv⟩ : ∃ x, fndG E.key k t = some x ∧ x.val = v := by
      cases hf : fndG E.key k t with
      | none =>
        have h1 := hat2 .nil
        unfold datum DataW.atKey at h1
        simp only [find_datum, hf] at h1
        cases h1
      | some x =>
        have h1 := hat2 .nil
        unfold datum DataW.atKey at h1
        simp only [find_datum, hf] at h1
        exact ⟨x, rfl, by simpa [pr] using h1⟩
    obtain ⟨hxm, hxk⟩ := fnd_mem E.key hx
    rw [enc_kb] at hrun hen
    subst hxk
    subst hxv
    simp [execOp, hop, hit, hrun, Result.andThen]
    exact hK' _ _ (hMore x w' cnt' hxm hlk hrg hlt hgr hsz hen)
/-- A range over a table's map, under way. -/
structure Rng (w : World) (b r n : Nat) (t : List E) (left : Lit → Bool) (cnt : Nat) : Prop where
  is : w.ranges Try.prog 9 hR b r n (datum t) left cnt
theorem ranges_off {D : Nat → Prop} {w w' : World} {b r n cnt : Nat} {t : List E} {left : Lit → Bool} (h : Rng w b r n t left cnt) (o : Off D w w') (hb : ¬ D b) (hr : ¬ D r) : Rng w' b r n t left cnt := by
  have h1 := h.is.owns.lt
  have h2 := h.is.lt
  obtain ⟨es, clock, since, seen, c0, e1, F, hs, hD, e2, rest⟩ := h.is
  exact ⟨es, clock, since, seen, c0, (o.block b h1 hb).trans e1, F, hs, hD, (o.block r h2 hr).trans e2, rest⟩
theorem ranges_noI {w : World} {b r n cnt : Nat} {t : List E} {left : Lit → Bool} (h : Rng w b r n t left cnt) : NoI (fun c => c = r) w := by
  obtain ⟨es, clock, since, seen, c0, -, -, -, -, e2, -⟩ := h.is
  refine ⟨fun x hx k n e => ?_⟩
  have hx : x.block = r := hx
  unfold World.cell? at e
  rw [hx, e2] at e
  simp at e
theorem ranges_ncel {w : World} {b r n cnt : Nat} {t : List E} {left : Lit → Bool} (h : Rng w b r n t left cnt) {p : Nat} {ty : TypeId} {cs : Array Value} (hp : Cel p ty cs w) : p ≠ r := by
  obtain ⟨es, clock, since, seen, c0, -, -, -, -, e2, -⟩ := h.is
  intro e
  subst e
  rw [hp.is] at e2
  cases e2
theorem ranges_nmap {w : World} {b r n cnt : Nat} {t : List E} {left : Lit → Bool} (h : Rng w b r n t left cnt) {p c : Nat} {s : List E} (hp : Tab p c s w) : c ≠ r := by
  obtain ⟨es, clock, since, seen, c0, -, -, -, -, e2, -⟩ := h.is
  obtain ⟨es2, clock2, hb, -⟩ := hp.own
  intro e
  subst e
  rw [hb] at e2
  cases e2
theorem grown_off {w w' : World} {r : Nat} (h : w.grownBy w' (some r)) : Off (fun c => c = r) w w' := (Off.refl _ w).grown h (fun k hk => .inl (by simpa using hk.symm))
theorem sk_iff {a b : ByteArray} : (kl a).sameKey (kl b) = true ↔ a = b := by
  show (kb a == kb b) = true ↔ _
  rw [beq_iff_eq]
  exact ⟨kb_inj, fun e => by rw [e]⟩
/-- What has been copied: those that are no longer to come. -/
structure Cpd (X Y : List K) (left : Lit → Bool) : Prop where
  is : ∀ z, z ∈ Y ↔ z ∈ X ∧ left (kl z.key) = false
theorem Cpd.start (t : List E) : Cpd (absE t) [] (Maps.has (datum t)) := ⟨fun z => by
  constructor
  · intro h
    simp at h
  · rintro ⟨hz, hl⟩
    obtain ⟨x, hx, rfl⟩ := List.mem_map.1 hz
    rw [has_datum] at hl
    cases hf : fndG E.key x.abs.key t with
    | none => exact absurd rfl ((fnd_none E.key).1 hf x hx)
    | some y =>
      rw [hf] at hl
      cases hl⟩
theorem Cpd.step {X Y : List K} {left : Lit → Bool} (h : Cpd X Y left) (hs : Sor K.key X) {x : K} (hx : x ∈ X) (hl : left (kl x.key) = true) : Cpd X (putG K.key x Y) (fun z => left z && !z.sameKey (kl x.key)) := by
  refine ⟨fun z => ?_⟩
  rw [mem_putG K.key]
  constructor
  · rintro (rfl | ⟨hz, hk⟩)
    · refine ⟨hx, ?_⟩
      have : (kl z.key).sameKey (kl z.key) = true := sk_iff.2 rfl
      simp [this]
    · obtain ⟨h1, h2⟩ := (h.is z).1 hz
      exact ⟨h1, by simp [h2]⟩
  · rintro ⟨hz, hl2⟩
    by_cases hk : z.key = x.key
    · exact .inl (sor_eq K.key hs hz hx hk)
    · have h1 : (kl z.key).sameKey (kl x.key) = false := by
        rw [← Bool.not_eq_true, sk_iff]
        exact hk
      rw [h1] at hl2
      exact .inr ⟨(h.is z).2 ⟨hz, by simpa using hl2⟩, hk⟩
theorem Cpd.done {X Y : List K} {left : Lit → Bool} (h : Cpd X Y left) (hs : Sor K.key X) (hy : Sor K.key Y) (hl : ∀ k, left k = false) : Y = X :=
  sor_ext K.key hy hs (fun z => by rw [h.is z]; simp [hl])
theorem Cpd.len {X Y : List K} {left : Lit → Bool} (h : Cpd X Y left) (hs : Sor K.key X) (hy : Sor K.key Y) : Y.length ≤ X.length := by
  have e : Y = X.filter (fun z => !left (kl z.key)) := sor_ext K.key hy (List.Pairwise.sublist List.filter_sublist hs) (fun z => by rw [h.is z, List.mem_filter]; simp)
  rw [e]
  exact List.length_filter_le _ _
set_option maxRecDepth 100000 in
set_option maxHeartbeats 2000000 in
theorem tcopyT_any (p b : Nat) (t : List E) (w : World) (h : Tab p b t w) (hb : ∀ e ∈ t, e.l.length ≤ 1000) :
    Calls Try.prog 24 #[.pointer (some ⟨p, 0, none⟩)] w fun e w' => ∃ (q c : Nat) (s : List E), e = .returned (.pointer (some ⟨q, 0, none⟩)) ∧ absE s = absE t ∧ Tab q c s w' ∧ w.heap.size ≤ q ∧ w.heap.size ≤ c ∧ Off (fun _ => False) w w' := by
  have hq0 := eql_ptr
  have HT : Hid (Tab p b t w) := h
  have HB : Hid (∀ e ∈ t, e.l.length ≤ 1000) := hb
  clear h hb
  go_enter Try.func24, Try.ntmps24
  go_wp2_with fail
  refine (tnew_any _).mono ?_
  rintro e w1 ⟨q, c, rfl, tb, hq, hc, o1⟩
  have HT1 : Hid _ := HT.out.free o1
  have HQ1 : Hid _ := tb
  have HO1 : Hid _ := o1
  have HQ : Hid _ := hq
  have HC : Hid _ := hc
  have c0 : w1.cell? ⟨p, 0, none⟩ = some (.map (some b)) := HT1.out.cel.cell 0
  clear tb hq hc o1
  go_wp2_with (at_range; refine wpList_range_own _ rfl _ 60 rfl 9 35 Try.lawK Try.underlying60 _ b _ _ rfl HT1.out.own ?_; intro w2 hrg0 hg0 hs0)
  have HR0 : Hid (Rng w2 b w1.heap.size t.length t (Maps.has (datum t)) (Maps.size (datum t))) := ⟨hrg0⟩
  have HG0 : Hid (Off (fun _ => False) w1 w2) := (Off.refl _ w1).grown hg0 (fun k hk => by cases hk)
  have HRR : Hid (w.heap.size ≤ w1.heap.size) := HO1.out.size
  generalize hr : w1.heap.size = r at HR0 HRR ⊢
  clear hrg0 hg0 hs0 c0 hr
  go_frame
  go_loopw [4] (fun _ wr => ∃ (left : Lit → Bool) (cnt : Nat) (s : List E), Rng wr b r t.length t left cnt ∧ Tab q c s wr ∧ Cpd (absE t) (absE s) left ∧ Off (fun _ => False) w wr) (fun _ wr => wr.rangeLeft b r)
  case atStart => exact ⟨_, _, [], HR0.out, HQ1.out.free HG0.out, Cpd.start t, HO1.out.trans HG0.out (fun _ _ h => h)⟩
  case round =>
    clear HR0 HG0 HT1 HQ1
    obtain ⟨left, cnt, s, hrg, hts, hcp, O⟩ := hrel
    have HRG : Hid _ := hrg
    have HTS : Hid _ := hts
    have HCP : Hid _ := hcp
    have HO : Hid _ := O
    clear hrg hts hcp O
    go_wp2_with (at_next; refine wpList_next_tab rfl _ rfl b r _ t left cnt rfl HRG.out.is ?_ ?_)
    · intro hc0 hl0
      go_wp2_with fail
      go_ret
      exact ⟨q, c, s, rfl, HCP.out.done (abs_sor.2 HT.out.sor) (abs_sor.2 HTS.out.sor) hl0, HTS.out, HQ.out, HC.out, HO.out⟩
    · intro x w3 cnt3 hxm hlx hrg3 hlt hg3 hs3 hen
      have O3 := grown_off hg3
      have HX : Hid _ := hxm
      have HL : Hid _ := hlx
      have HLT : Hid _ := hlt
      have HN3 := ranges_noI HRG.out
      have HRG3 : Hid (Rng w3 b r t.length t (fun z => left z && !z.sameKey (kl x.key)) cnt3) := ⟨hrg3⟩
      have HTS3 : Hid _ := HTS.out.off O3 (ranges_ncel HRG.out HTS.out.cel) (ranges_nmap HRG.out HTS.out) HN3
      have HO3 : Hid _ := HO.out.trans O3 (fun i hi e => by have := HRR.out; omega)
      clear hxm hlx hlt hrg3 hg3 hs3 O3 HN3
      go_upto_region 7 with fail
      have Cq5 := Cel.new w3 35 #[.int .i64 (x.f 0), .int .i64 (x.f 1), .int .i64 (x.f 2), .int .i64 (x.f 3), .int .i64 (x.f 4), .int .i64 (x.f 5), .int .i64 (x.f 6), .int .i64 (x.f 7), .slice x.a x.l.length x.cap]
      have OA : Off (fun _ => False) w3 (w3.alloc (.cells #[.int .i64 (x.f 0), .int .i64 (x.f 1), .int .i64 (x.f 2), .int .i64 (x.f 3), .int .i64 (x.f 4), .int .i64 (x.f 5), .int .i64 (x.f 6), .int .i64 (x.f 7), .slice x.a x.l.length x.cap] 35)) := (Off.refl _ w3).alloc _
      generalize hq : w3.heap.size = q5 at Cq5 ⊢
      generalize hv : w3.alloc (.cells #[.int .i64 (x.f 0), .int .i64 (x.f 1), .int .i64 (x.f 2), .int .i64 (x.f 3), .int .i64 (x.f 4), .int .i64 (x.f 5), .int .i64 (x.f 6), .int .i64 (x.f 7), .slice x.a x.l.length x.cap] 35) = V5 at Cq5 OA ⊢
      clear hq hv
      clear hen
      obtain ⟨x0, x1, x2, x3, x4, x5, x6, x7, x8⟩ := cel9 Cq5
      have HO5 : Hid _ := HO3.out.trans OA (fun _ _ h => h)
      have HT5 : Hid _ := HT.out.free HO5.out
      have HTS5 : Hid _ := HTS3.out.free OA
      have HRG5 : Hid _ := ranges_off HRG3.out OA (fun h => h) (fun h => h)
      clear Cq5 OA
      go_wp2_with fail
      clear x0 x1 x2 x3 x4 x5 x6 x7 x8
      refine (tcopy_any x.f x.a x.cap x.l _ (HT5.out.row x HX.out) (HB.out x HX.out)).mono ?_
      rintro e w6 ⟨a1, c1, l1, rfl, hc1, hr1, -, o6⟩
      have HC1 : Hid _ := hc1
      have HR1 : Hid _ := hr1
      have HTS6 : Hid _ := HTS5.out.free o6
      have HRG6 : Hid _ := ranges_off HRG5.out o6 (fun h => h) (fun h => h)
      have HO6 : Hid _ := HO5.out.trans o6 (fun _ _ h => h)
      have hxab : (⟨x.key, x.f, cont l1⟩ : K) = x.abs := by rw [hc1]; rfl
      have hput : absE (putG E.key ⟨x.key, x.f, a1, c1, l1⟩ s) = putG K.key x.abs (absE s) := by
        rw [abs_put]
        show putG K.key ⟨x.key, x.f, cont l1⟩ _ = _
        rw [hxab]
      have HST : Hid _ := HCP.out.step (abs_sor.2 HT.out.sor) (List.mem_map.2 ⟨x, HX.out, rfl⟩) HL.out
      have HPL : Hid ((putG E.key ⟨x.key, x.f, a1, c1, l1⟩ s).length ≤ 256) := by
        have h1 := HST.out.len (abs_sor.2 HT.out.sor) (sor_putG K.key (abs_sor.2 HTS.out.sor))
        rw [← hput, absE_len, absE_len] at h1
        exact Nat.le_trans h1 HT.out.few
      have HPUT : Hid _ := hput
      clear hc1 hr1 o6 hput hxab
      go_wp2_with fail
      refine (keep_any q c s ⟨x.key, x.f, a1, c1, l1⟩ _ HTS6.out HR1.out (HT.out.len x HX.out) HPL.out).mono ?_
      rintro e w7 ⟨rfl, tb7, o7⟩
      have hcr : ¬ r = c := fun e => ranges_nmap HRG6.out HTS6.out e.symm
      have hcb : ¬ b = c := fun e => by have h1 := HC.out; have h2 := HT.out.ltb; omega
      have HRG7 : Hid _ := ranges_off HRG6.out o7 hcb hcr
      have HT7 : Hid _ := tb7
      have HO7 : Hid _ := HO6.out.trans o7 (fun i hi e => by have := HC.out; omega)
      clear tb7 o7 hcr hcb
      go_wp2_with fail
      go_roundw
      case rel => exact ⟨_, cnt3, _, HRG7.out, HT7.out, by rw [HPUT.out]; exact HST.out, HO7.out⟩
      case measure => rw [HRG7.out.is.left_eq, HRG.out.is.left_eq]; exact HLT.out
end Go.Proofs.Ytbagahlphnafdaa
