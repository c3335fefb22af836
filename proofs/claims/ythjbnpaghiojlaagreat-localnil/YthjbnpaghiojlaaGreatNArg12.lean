/- Items of several texts. -/
import Derived.Deep.MidRow
import Derived.Deep.WholeRow
import Derived.Test.YthjbnpaghiojlaaGreatNPut
import Derived.Test.YthjbnpaghiojlaaGreatNArg5
import Derived.Test.YthjbnpaghiojlaaGreatNLeq5
import Derived.Test.YthjbnpaghiojlaaGreatNGSm
import Derived.Test.YthjbnpaghiojlaaGreatNHfo
import Derived.Test.YthjbnpaghiojlaaGreatNLlg
import Derived.Test.YthjbnpaghiojlaaGreatNLpr
namespace Go.Proofs.YthjbnpaghiojlaaGreat
open Go.RowKit

/-! What they answer, and what is held behind them. -/
/-- A change, or an error ahead of it. -/
structure Ans where
  er : Int
  rs : List (List Nat)
  s : PS
def chA (most : Nat) (rs : List (List Nat)) (s : PS) (r : RD) : Ans := ⟨chE most rs s r, chL most rs s r, chS most rs s r⟩
def putK (s : PS) (node : Int) (key : ByteArray) (g : Nat → Int) (data : List Nat) (dead : Bool) : K := ⟨key, putV (getK s.1 key).f g (getK s.1 key).l node data dead, putL (getK s.1 key).f g (getK s.1 key).l node data dead⟩
def putC (s : PS) (node : Int) (key : ByteArray) (g : Nat → Int) (data : List Nat) (dead : Bool) : Int :=
  if keyB key = false then 1 else if putE (getK s.1 key).f g (getK s.1 key).l node data dead ≠ 0 then putE (getK s.1 key).f g (getK s.1 key).l node data dead else if (fndG K.key key s.1).isSome = false ∧ 256 ≤ s.1.length then 11 else 0
def putA (most : Nat) (rs : List (List Nat)) (s : PS) (node : Int) (key : ByteArray) (g : Nat → Int) (data : List Nat) (dead : Bool) : Ans :=
  if putC s node key g data dead = 0 then chA most rs s ⟨1, 0, putK s node key g data dead⟩ else ⟨putC s node key g data dead, rs, s⟩
/-! What is held of a key may be. -/
theorem get_ok {s : PS} (h : OkP s) (key : ByteArray) : MayP (getK s.1 key).f (getK s.1 key).l ∧ Nrm (getK s.1 key).f ∧ ∀ x ∈ (getK s.1 key).l, Rng x := by
  unfold getK
  cases e : fndG K.key key s.1 with
  | none => exact zer_ok
  | some u =>
    have hu := h.ok u (fnd_mem K.key e).1
    exact ⟨hu.may, hu.nrm, hu.rng⟩
theorem rng_put {f g : Nat → Int} {l : List A} {node : Int} {data : List Nat} {dead : Bool} (h1 : MayP f l) (hr : ∀ x ∈ l, Rng x) (hd : data.length ≤ 140737488351232) (hlt : ∀ x ∈ data, x < 256) (h : putE f g l node data dead = 0) : ∀ x ∈ putL f g l node data dead, Rng x := by
  obtain ⟨n, -, hn2, -, -, -, -, c3, -, -, c6, -⟩ := put_tells h1 h
  intro x hx
  rcases (c6 x).1 hx with rfl | ⟨h, -⟩
  · have hc := (c3.cov x hx).1
    rw [cov_iff] at hc
    have hs := c3.seen x.node.toNat (by omega)
    exact ⟨by omega, by omega, by omega, by omega, by rw [hn2]; exact hd, by rw [hn2]; exact hlt⟩
  · exact hr x h
theorem put_okK {s : PS} (h : OkP s) {node : Int} {key : ByteArray} {g : Nat → Int} {data : List Nat} {dead : Bool} (hg : Nrm g) (hd : data.length ≤ 140737488351232) (hlt : ∀ x ∈ data, x < 256) (hc : putC s node key g data dead = 0) : OkK (putK s node key g data dead) := by
  obtain ⟨m, n, r⟩ := get_ok h key
  unfold putC at hc
  split at hc
  · simp at hc
  · rename_i hk
    split at hc
    · rename_i he
      exact absurd hc he
    · rename_i he
      have he : putE (getK s.1 key).f g (getK s.1 key).l node data dead = 0 := Decidable.not_not.1 he
      obtain ⟨n1, -, -, -, -, -, -, c3, -⟩ := put_tells m he
      exact ⟨by simpa [putK] using hk, c3, nrm_put n hg, rng_put m r hd hlt he⟩
theorem put_do {s : PS} (h : OkP s) {node : Int} {key : ByteArray} {g : Nat → Int} {data : List Nat} {dead : Bool} (hk : OkK (putK s node key g data dead)) (hc : putC s node key g data dead = 0) : doR s ⟨1, 0, putK s node key g data dead⟩ = some (putG K.key (putK s node key g data dead) s.1, s.2) := by
  obtain ⟨m, n, r⟩ := get_ok h key
  have hkk : keyB key = true := hk.key
  have hcc := hc
  unfold putC at hc
  rw [if_neg (by rw [hkk]; simp)] at hc
  split at hc
  · rename_i he
    exact absurd hc he
  · rename_i he
    have he : putE (getK s.1 key).f g (getK s.1 key).l node data dead = 0 := Decidable.not_not.1 he
    obtain ⟨j1, j2⟩ := put_join n m hk.nrm he
    unfold doR
    simp only [if_true]
    rcases joinR_ways s.1 key (putK s node key g data dead).f (putK s node key g data dead).l with ⟨e0, -⟩ | ⟨-, -, hf, hl, -⟩ | ⟨-, -, hf, hl, e⟩ | ⟨u, -, -, hf, e⟩
    · rw [hkk, may_yes hk.may] at e0
      simp at e0
    · rw [if_pos ⟨by rw [hf]; rfl, hl⟩] at hc
      simp at hc
    · have hz : getK s.1 key = ⟨key, zer, []⟩ := by unfold getK; rw [hf]; rfl
      rw [hz] at j1 j2
      have j1' : joinV zer (putK s node key g data dead).f [] (putK s node key g data dead).l = (putK s node key g data dead).f := by
        have e1 : (putK s node key g data dead).f = putV zer g [] node data dead := by unfold putK; rw [hz]
        have e2 : (putK s node key g data dead).l = putL zer g [] node data dead := by unfold putK; rw [hz]
        rw [e1, e2]
        exact j1
      have j2' : joinL zer (putK s node key g data dead).f [] (putK s node key g data dead).l = (putK s node key g data dead).l := by
        have e1 : (putK s node key g data dead).f = putV zer g [] node data dead := by unfold putK; rw [hz]
        have e2 : (putK s node key g data dead).l = putL zer g [] node data dead := by unfold putK; rw [hz]
        rw [e1, e2]
        exact j2
      have e' : joinR s.1 (putK s node key g data dead).key (putK s node key g data dead).f (putK s node key g data dead).l = ⟨putG K.key (putK s node key g data dead) s.1, (putK s node key g data dead).f, (putK s node key g data dead).l, false, 0⟩ := by
        rw [j1', j2'] at e
        exact e
      rw [e']
      rfl
    · have hz : getK s.1 key = u := by unfold getK; rw [hf]; rfl
      rw [hz] at j1 j2
      have e1 : (putK s node key g data dead).f = putV u.f g u.l node data dead := by unfold putK; rw [hz]
      have e2 : (putK s node key g data dead).l = putL u.f g u.l node data dead := by unfold putK; rw [hz]
      rw [← e1, ← e2] at j1 j2
      have e' : joinR s.1 (putK s node key g data dead).key (putK s node key g data dead).f (putK s node key g data dead).l = ⟨putG K.key (putK s node key g data dead) s.1, (putK s node key g data dead).f, (putK s node key g data dead).l, sameS u.f (putK s node key g data dead).f u.l (putK s node key g data dead).l, 0⟩ := by
        rw [j1, j2] at e
        exact e
      rw [e']
      rfl
/-! Reading. -/
theorem Cor.tab {S : Nat → Prop} {p : Nat} {lg : Value} {s : PS} {w : World} (h : Cor S p lg s w) : ∃ tp tb t, w.cell? ⟨p, 1, none⟩ = some (.pointer (some ⟨tp, 0, none⟩)) ∧ Tab tp tb t w ∧ absE t = s.1 ∧ (∀ e ∈ t, e.l.length ≤ 1000) := by
  obtain ⟨tp, tb, hp, T, H, t, xs, c0, tab, ht, -⟩ := h.is
  exact ⟨tp, tb, t, c0.cell 1, tab, ht, okT_few h.ok.tab ht⟩
theorem Cor.set {S : Nat → Prop} {p : Nat} {lg : Value} {s : PS} {w : World} (h : Cor S p lg s w) : ∃ hp H xs, w.cell? ⟨p, 2, none⟩ = some (.pointer (some ⟨hp, 0, none⟩)) ∧ HSt H hp xs w ∧ absH xs = s.2 := by
  obtain ⟨tp, tb, hp, T, H, t, xs, c0, -, -, hst, hh, -⟩ := h.is
  exact ⟨hp, H, xs, c0.cell 2, hst, hh⟩
theorem getE_of {t : List E} {s : PS} (h : absE t = s.1) (key : ByteArray) : (getE t key).f = (getK s.1 key).f ∧ cont (getE t key).l = (getK s.1 key).l ∧ (fndG E.key key t).isSome = (fndG K.key key s.1).isSome := by
  have e := getE_abs t key
  rw [h] at e
  refine ⟨congrArg K.f e, congrArg K.l e, ?_⟩
  rw [fnd_isSome, h]
/-- Get of the table behind a store. -/
theorem kget_any {t : List E} {tp tb : Nat} {s : PS} {w : World} (tab : Tab tp tb t w) (ht : absE t = s.1) (hf : ∀ e ∈ t, e.l.length ≤ 1000) (key : ByteArray) (hk : key.size ≤ 9223372036854775807) :
    Calls Tryz.prog 63 #[.pointer (some ⟨tp, 0, none⟩), .string key] w fun e w' => ∃ (f : Nat → Int) (a : Option Addr) (c : Nat) (l : List V), e = .returned (.tuple #[.agg #[.int .i64 (f 0), .int .i64 (f 1), .int .i64 (f 2), .int .i64 (f 3), .int .i64 (f 4), .int .i64 (f 5), .int .i64 (f 6), .int .i64 (f 7), .slice a l.length c], .bool (fndG K.key key s.1).isSome]) ∧ f = (getK s.1 key).f ∧ cont l = (getK s.1 key).l ∧ Row w' a c l ∧ Far w.heap.size a l ∧ Off (fun _ => False) w w' := by
  obtain ⟨g1, g2, g3⟩ := getE_of ht key
  have h16 : (getE t key).l.length ≤ 1000 := by
    unfold getE
    cases e : fndG E.key key t with
    | none => exact Nat.zero_le _
    | some x => exact hf x (fnd_mem E.key e).1
  refine (tget_any tp tb t key (by unfold maxLen; exact hk) w tab h16).mono ?_
  rintro e w' ⟨a, c, l, rfl, hl, row, far, o⟩
  exact ⟨(getE t key).f, a, c, l, by rw [g3], g1, hl.trans g2, row, far, o⟩
set_option maxRecDepth 100000 in
set_option maxHeartbeats 2000000 in
theorem lget_any {S : Nat → Prop} {p : Nat} {lg : Value} {s : PS} {w : World} (h : Cor S p lg s w) (key : ByteArray) (hk : key.size ≤ 9223372036854775807) :
    Calls Tryz.prog 26 #[.pointer (some ⟨p, 0, none⟩), .string key] w fun e w' => ∃ (f : Nat → Int) (a : Option Addr) (c : Nat) (l : List V), e = .returned (.tuple #[.agg #[.int .i64 (f 0), .int .i64 (f 1), .int .i64 (f 2), .int .i64 (f 3), .int .i64 (f 4), .int .i64 (f 5), .int .i64 (f 6), .int .i64 (f 7), .slice a l.length c], .bool (fndG K.key key s.1).isSome]) ∧ f = (getK s.1 key).f ∧ cont l = (getK s.1 key).l ∧ Row w' a c l ∧ Far w.heap.size a l ∧ Off (fun _ => False) w w' := by
  have hq := eql_sto
  obtain ⟨tp, tb, t, c1, tab, ht, hf⟩ := h.tab
  obtain ⟨W, hW⟩ : ∃ W, W = w.alloc (.cells #[.int .i64 (zer 0), .int .i64 (zer 1), .int .i64 (zer 2), .int .i64 (zer 3), .int .i64 (zer 4), .int .i64 (zer 5), .int .i64 (zer 6), .int .i64 (zer 7), .slice none 0 0] 47) := ⟨_, rfl⟩
  have O : Off (fun _ => False) w W := by rw [hW]; exact (Off.refl _ w).alloc _
  have C : Cel w.heap.size 47 #[.int .i64 (zer 0), .int .i64 (zer 1), .int .i64 (zer 2), .int .i64 (zer 3), .int .i64 (zer 4), .int .i64 (zer 5), .int .i64 (zer 6), .int .i64 (zer 7), .slice none 0 0] W := by rw [hW]; exact Cel.new w _ _
  obtain ⟨tp', tb', t', c1', -, -, -⟩ := (h.free O).tab
  have c2 : W.cell? ⟨p, 1, none⟩ = some (.pointer (some ⟨tp, 0, none⟩)) := by
    rw [← c1]
    exact World.cell?_of_block (a := ⟨p, 1, none⟩) (O.block p (cell_lt c1) (fun h => h))
  have HT : Hid _ := kget_any (tab.free O) ht hf key hk
  have HW : Hid _ := hW
  have HC : Hid _ := C
  have HO : Hid _ := O
  clear h c1 c1' tab ht hf hW O C
  go_enter Tryz.func26, Tryz.ntmps26
  go_upto_region 1 with fail
  rw [show (w.alloc (.cells #[.int .i64 0, .int .i64 0, .int .i64 0, .int .i64 0, .int .i64 0, .int .i64 0, .int .i64 0, .int .i64 0, .slice none 0 0] 47)) = W from HW.out.symm]
  go_wp2_with fail
  refine Calls.mono HT.out ?_
  rintro e w1 ⟨f, a, c, l, rfl, hf, hl, row, far, o1⟩
  have HC1 : Hid _ := HC.out.off o1 (fun h => h)
  have HF : Hid _ := hf
  have HL : Hid _ := hl
  have HR : Hid _ := row
  have HFA : Hid _ := far
  have HO1 : Hid _ := HO.out.trans o1 (fun _ _ h => h)
  have HZ : Hid (w.heap.size < W.heap.size) := HC.out.lt
  obtain ⟨th, hth⟩ : ∃ th, th = (fndG K.key key s.1).isSome := ⟨_, rfl⟩
  rw [← hth]
  have HTH : Hid _ := hth
  clear hf hl row far o1 HT hth
  obtain ⟨z0, z1, z2, z3, z4, z5, z6, z7, z8⟩ := cel9 HC1.out
  have fr := HC1.out.free
  go_wp2_with fail
  refine bodyPost_ret (results_sibs2 rfl rfl rfl (HC1.out.st9 f (.slice a l.length c))) rfl ?_
  refine ⟨f, a, c, l, by rw [← HTH.out]; rfl, HF.out, HL.out, ?_, HFA.out.mono (by have := HZ.out; omega), HO1.out.st9 (.inr (Nat.le_refl _)) f (.slice a l.length c)⟩
  exact HR.out.offF HFA.out ((Off.refl (fun x => x = w.heap.size) w1).st9 (.inl rfl) f (.slice a l.length c)) (fun x hx e => by have := HZ.out; omega)
end Go.Proofs.YthjbnpaghiojlaaGreat

namespace Go.Proofs.YthjbnpaghiojlaaGreat
open Go.RowKit

theorem Hol.ns {D S : Nat → Prop} {p lb b most : Nat} {rs : List (List Nat)} {s : PS} {w : World} (h : Hol D S p lb b most rs s w) : ∀ c, w.heap.size ≤ c → ¬ D c ∧ ¬ S c := fun c hc => ⟨fun e => by have := h.std.lg.lt c e; omega, fun e => by have := h.cor.lt c e; omega⟩
theorem Ter.far {N : Nat} {D S : Nat → Prop} {a : Option Addr} {l : List V} (h : Ter (fun c => N ≤ c) a l) (hN : ∀ c, N ≤ c → ¬ D c ∧ ¬ S c) : Ter (fun c => ¬ D c ∧ ¬ S c) a l := h.mono hN
/-- What stays beside a store that moves: blocks that are neither its own nor its log's. -/
theorem Mov.cel {D S D' S' : Nat → Prop} {u v : World} (h : Mov D S D' S' u v) {b : Nat} {t : TypeId} {cs : Array Value} (k : Cel b t cs u) (hb : ¬ D b ∧ ¬ S b) : Cel b t cs v := k.off h.off (fun e => e.elim hb.1 hb.2)
theorem Mov.row {D S D' S' : Nat → Prop} {u v : World} (h : Mov D S D' S' u v) {a : Option Addr} {c : Nat} {l : List V} (k : Row u a c l) (ht : Ter (fun c => ¬ D c ∧ ¬ S c) a l) : Row v a c l := k.offT ht h.off (fun _ _ h1 h2 => h2.elim h1.1 h1.2)
theorem Mov.box {D S D' S' : Nat → Prop} {u v x : World} {b : Nat} (h : Mov D S D' S' u v) (k : Off (fun c => c = b) v x) (hb : u.heap.size ≤ b) : Mov D S D' S' u x :=
  ⟨h.off.trans (k.mono (E := fun c => u.heap.size ≤ c) (fun i _ e => by rw [show i = b from e]; exact hb)) (fun i hi e => by omega), h.d, h.s⟩
theorem Lg.off {D E : Nat → Prop} {lb b most : Nat} {ds : List Nat} {s k m : Nat} {w w' : World} (h : Lg D lb b most ds s k m w) (o : Off E w w') (hE : ∀ c, D c → ¬ E c) : Lg D lb b most ds s k m w' := by
  obtain ⟨D0, h1, h2, h3⟩ := h.dsk
  exact ⟨h.here, fun c hc => Nat.lt_of_lt_of_le (h.lt c hc) o.size, ⟨D0, h1.off o (fun c _ hc => hE c (h2 c hc)), h2, h3⟩, h.log.off o (hE lb h.here)⟩
theorem Hol.box {D S : Nat → Prop} {p lb b most : Nat} {rs : List (List Nat)} {s : PS} {w w' : World} {q : Nat} (h : Hol D S p lb b most rs s w) (o : Off (fun c => c = q) w w') (hq : ¬ D q ∧ ¬ S q) : Hol D S p lb b most rs s w' :=
  ⟨h.cor.off o (fun c _ hc e => hq.2 (by rw [← show c = q from e]; exact hc)), ⟨h.std.lg.off o (fun c hc e => hq.1 (by rw [← show c = q from e]; exact hc)), h.std.rec_⟩, h.sep, h.inv⟩
/-- What Put tells. -/
def putT (er : Int) (k : K) : K := if er = 0 then k else ⟨k.key, zer, []⟩

set_option maxRecDepth 100000 in
set_option maxHeartbeats 2000000 in
theorem lput_any {D S : Nat → Prop} {p lb b most : Nat} {rs : List (List Nat)} {s : PS} {w : World} (h : Hol D S p lb b most rs s w) (node : Int) (hno : -9223372036854775808 ≤ node ∧ node ≤ 9223372036854775807) (key : ByteArray) (hks : key.size ≤ 9223372036854775807) (g : Nat → Int) (hg : Nrm g) (da : Option Addr) (dc : Nat) (data : List Nat) (dead : Bool) (hd : Src w da dc data) (hlt : ∀ x ∈ data, x < 256) (hdl : data.length ≤ 140737488351232) :
    Calls Tryz.prog 22 #[.pointer (some ⟨p, 0, none⟩), .int .i64 node, .string key, .agg #[.int .i64 (g 0), .int .i64 (g 1), .int .i64 (g 2), .int .i64 (g 3), .int .i64 (g 4), .int .i64 (g 5), .int .i64 (g 6), .int .i64 (g 7)], .slice da data.length dc, .bool dead] w fun e w' => ∃ (f : Nat → Int) (a : Option Addr) (c : Nat) (l : List V), e = .returned (.tuple #[.agg #[.int .i64 (f 0), .int .i64 (f 1), .int .i64 (f 2), .int .i64 (f 3), .int .i64 (f 4), .int .i64 (f 5), .int .i64 (f 6), .int .i64 (f 7), .slice a l.length c], .int .i64 (putA most rs s node key g data dead).er]) ∧ f = (putT (putA most rs s node key g data dead).er (putK s node key g data dead)).f ∧ cont l = (putT (putA most rs s node key g data dead).er (putK s node key g data dead)).l ∧ Row w' a c l ∧ Far w.heap.size a l ∧ ∃ D' S', Hol D' S' p lb b most (putA most rs s node key g data dead).rs (putA most rs s node key g data dead).s w' ∧ Mov D S D' S' w w' := by
  have hq := eql_sto
  obtain ⟨tp, tb, t, c1, tab, ht, hf⟩ := h.cor.tab
  obtain ⟨W, hW⟩ : ∃ W, W = ((w.alloc (.cells #[.int .i64 (g 0), .int .i64 (g 1), .int .i64 (g 2), .int .i64 (g 3), .int .i64 (g 4), .int .i64 (g 5), .int .i64 (g 6), .int .i64 (g 7)] 43)).alloc (.cells #[.int .i64 (zer 0), .int .i64 (zer 1), .int .i64 (zer 2), .int .i64 (zer 3), .int .i64 (zer 4), .int .i64 (zer 5), .int .i64 (zer 6), .int .i64 (zer 7), .slice none 0 0] 47)) := ⟨_, rfl⟩
  have O : Off (fun _ => False) w W := by rw [hW]; exact ((Off.refl _ w).alloc _).alloc _
  have C0 : Cel w.heap.size 43 #[.int .i64 (g 0), .int .i64 (g 1), .int .i64 (g 2), .int .i64 (g 3), .int .i64 (g 4), .int .i64 (g 5), .int .i64 (g 6), .int .i64 (g 7)] W := by rw [hW]; exact (Cel.new w _ _).alloc _
  have C1 : Cel (w.heap.size + 1) 47 #[.int .i64 (zer 0), .int .i64 (zer 1), .int .i64 (zer 2), .int .i64 (zer 3), .int .i64 (zer 4), .int .i64 (zer 5), .int .i64 (zer 6), .int .i64 (zer 7), .slice none 0 0] W := by rw [hW]; exact Cel.new1 w _ _ _
  have cP : W.cell? ⟨p, 1, none⟩ = some (.pointer (some ⟨tp, 0, none⟩)) := by
    rw [← c1]
    exact World.cell?_of_block (a := ⟨p, 1, none⟩) (O.block p (cell_lt c1) (fun h => h))
  have HGET : Hid _ := kget_any (tab.free O) ht hf key hks
  have HNS : Hid _ := h.ns
  have HH0 : Hid _ := h
  have HH : Hid _ := h.free O
  have HSD : Hid _ := hd.off O (fun _ _ _ h => h)
  have HW : Hid _ := hW
  have HC0 : Hid _ := C0
  have HC1 : Hid _ := C1
  have HO : Hid _ := O
  have HG : Hid _ := hg
  have HLT : Hid _ := hlt
  clear h hd tab ht hf hW C0 C1 O c1 hg hlt
  go_enter Tryz.func22, Tryz.ntmps22
  go_upto_region 1 with fail
  rw [show ((w.alloc (.cells #[.int .i64 (g 0), .int .i64 (g 1), .int .i64 (g 2), .int .i64 (g 3), .int .i64 (g 4), .int .i64 (g 5), .int .i64 (g 6), .int .i64 (g 7)] 43)).alloc (.cells #[.int .i64 0, .int .i64 0, .int .i64 0, .int .i64 0, .int .i64 0, .int .i64 0, .int .i64 0, .int .i64 0, .slice none 0 0] 47)) = W from HW.out.symm]
  go_wp2_with fail
  refine (kmay_any key _).mono ?_
  rintro e W1 ⟨rfl, hw⟩
  rw [hw]
  clear hw W1
  cases hk : keyB key
  · have HKF : Hid _ := hk
    clear hk
    obtain ⟨z0, z1, z2, z3, z4, z5, z6, z7, z8⟩ := cel9 HC1.out
    have fr := HC1.out.free
    go_wp2_with fail
    refine bodyPost_ret (results_err9 rfl rfl rfl HC1.out.clr9) rfl ?_
    have hc : putC s node key g data dead = 1 := by unfold putC; rw [if_pos HKF.out]
    have ha : putA most rs s node key g data dead = ⟨1, rs, s⟩ := by unfold putA; rw [if_neg (by rw [hc]; decide), hc]
    have OZ := HO.out.clr9 (b := w.heap.size + 1) (.inr (by omega))
    rw [ha]
    exact ⟨zer, none, 0, [], rfl, rfl, rfl, Row.nil _ none 0 (by omega), Far.nil _, D, S, HH0.out.free OZ, ⟨OZ.mono (fun _ _ h => h.elim), fun _ h => .inl h, fun _ h => .inl h⟩⟩
  · have HKT : Hid _ := hk
    clear hk
    go_wp2_with fail
    clear cP
    refine Calls.mono HGET.out ?_
    rintro e w1 ⟨f, a, c, l, rfl, hf, hl, row, far, o1⟩
    have HF : Hid _ := hf
    have HL : Hid _ := hl
    obtain ⟨th, hth⟩ : ∃ th, th = (fndG K.key key s.1).isSome := ⟨_, rfl⟩
    rw [← hth]
    have HTH : Hid _ := hth
    clear hf hl hth HGET
    go_upto_region 4 with fail
    have CQ := Cel.new w1 47 #[.int .i64 (f 0), .int .i64 (f 1), .int .i64 (f 2), .int .i64 (f 3), .int .i64 (f 4), .int .i64 (f 5), .int .i64 (f 6), .int .i64 (f 7), .slice a l.length c]
    have OA : Off (fun _ => False) w1 (w1.alloc (.cells #[.int .i64 (f 0), .int .i64 (f 1), .int .i64 (f 2), .int .i64 (f 3), .int .i64 (f 4), .int .i64 (f 5), .int .i64 (f 6), .int .i64 (f 7), .slice a l.length c] 47)) := (Off.refl _ w1).alloc _
    generalize hv : w1.alloc (.cells #[.int .i64 (f 0), .int .i64 (f 1), .int .i64 (f 2), .int .i64 (f 3), .int .i64 (f 4), .int .i64 (f 5), .int .i64 (f 6), .int .i64 (f 7), .slice a l.length c] 47) = V at CQ OA ⊢
    generalize hqq : w1.heap.size = q at CQ ⊢
    have OV : Off (fun _ => False) W V := o1.trans OA (fun _ _ h => h)
    have HCQ : Hid _ := CQ
    have HRV : Hid _ := row.off OA
    have HV0 : Hid _ := HC0.out.off OV (fun h => h)
    have HV1 : Hid _ := HC1.out.off OV (fun h => h)
    have HVD : Hid _ := HSD.out.off OV (fun _ _ _ h => h)
    have HOV : Hid _ := HO.out.trans OV (fun _ _ h => h)
    clear hv hqq CQ OA OV o1 row far HC0 HC1 HSD
    obtain ⟨x0, x1, x2, x3, x4, x5, x6, x7, x8⟩ := cel9 HCQ.out
    obtain ⟨y0, y1, y2, y3, y4, y5, y6, y7⟩ := cel8 HV0.out
    go_wp2_with fail
    clear x0 x1 x2 x3 x4 x5 x6 x7 x8 y0 y1 y2 y3 y4 y5 y6 y7
    refine (sput_any f g a c l node hno da dc data dead V HRV.out HVD.out HLT.out hdl).mono ?_
    rintro e w2 ⟨h2, a2, c2, l2, er, rfl, her, hh2, hl2, mk, o2⟩
    rw [HF.out, HL.out] at her hh2 hl2
    have HER : Hid _ := her
    have HH2 : Hid _ := hh2
    have HL2 : Hid _ := hl2
    clear her hh2 hl2
    go_upto_region 5 with fail
    have CQ := Cel.new w2 47 #[.int .i64 (h2 0), .int .i64 (h2 1), .int .i64 (h2 2), .int .i64 (h2 3), .int .i64 (h2 4), .int .i64 (h2 5), .int .i64 (h2 6), .int .i64 (h2 7), .slice a2 l2.length c2]
    have OA : Off (fun _ => False) w2 (w2.alloc (.cells #[.int .i64 (h2 0), .int .i64 (h2 1), .int .i64 (h2 2), .int .i64 (h2 3), .int .i64 (h2 4), .int .i64 (h2 5), .int .i64 (h2 6), .int .i64 (h2 7), .slice a2 l2.length c2] 47)) := (Off.refl _ w2).alloc _
    generalize hv : w2.alloc (.cells #[.int .i64 (h2 0), .int .i64 (h2 1), .int .i64 (h2 2), .int .i64 (h2 3), .int .i64 (h2 4), .int .i64 (h2 5), .int .i64 (h2 6), .int .i64 (h2 7), .slice a2 l2.length c2] 47) = V2 at CQ OA ⊢
    generalize hqq : w2.heap.size = q2 at CQ ⊢
    have OV : Off (fun _ => False) V V2 := o2.trans OA (fun _ _ h => h)
    have HCA : Hid _ := CQ
    have HMK : Hid _ := mk.off OA
    have HX1 : Hid _ := HV1.out.off OV (fun h => h)
    have HOX : Hid _ := HOV.out.trans OV (fun _ _ h => h)
    have HSZ : Hid (w.heap.size ≤ V.heap.size ∧ w.heap.size ≤ q2 ∧ w.heap.size + 1 < V.heap.size) := ⟨HOV.out.size, by have h1 := HOV.out.size; have h2 := o2.size; omega, HV1.out.lt⟩
    clear hv hqq CQ OA OV o2 mk HV0 HV1 HVD HCQ HRV HOV
    by_cases he : er = 0
    · have HE0 : Hid _ := he
      rw [he]
      clear he
      by_cases hfull : th = false ∧ 256 ≤ s.1.length
      · obtain ⟨rfl, hful⟩ := hfull
        have HFU : Hid _ := hful
        clear hful
        go_wp2_with fail
        refine (full_any (HH0.out.cor.free HOX.out)).mono ?_
        rw [decide_eq_true HFU.out]
        rintro e W3 ⟨rfl, hw⟩
        rw [hw]
        clear hw W3
        obtain ⟨z0, z1, z2, z3, z4, z5, z6, z7, z8⟩ := cel9 HX1.out
        have fr := HX1.out.free
        go_wp2_with fail
        refine bodyPost_ret (results_err9 rfl rfl rfl HX1.out.clr9) rfl ?_
        have hc : putC s node key g data dead = 11 := by
          unfold putC
          rw [if_neg (by rw [HKT.out]; simp), if_neg (by rw [← HER.out, HE0.out]; simp), if_pos ⟨HTH.out.symm, HFU.out⟩]
        have ha : putA most rs s node key g data dead = ⟨11, rs, s⟩ := by unfold putA; rw [if_neg (by rw [hc]; decide), hc]
        have OZ := HOX.out.clr9 (b := w.heap.size + 1) (.inr (by omega))
        rw [ha]
        exact ⟨zer, none, 0, [], rfl, rfl, rfl, Row.nil _ none 0 (by omega), Far.nil _, D, S, HH0.out.free OZ, ⟨OZ.mono (fun _ _ h => h.elim), fun _ h => .inl h, fun _ h => .inl h⟩⟩
      · have HC0 : Hid (putC s node key g data dead = 0) := by
          show _ = _
          unfold putC
          rw [if_neg (by rw [HKT.out]; simp), if_neg (by rw [← HER.out, HE0.out]; simp), if_neg (by rw [← HTH.out]; exact hfull)]
        have HOKK : Hid (OkK (putK s node key g data dead)) := put_okK HH0.out.inv.ok HG.out hdl HLT.out HC0.out
        have HDO : Hid _ := put_do HH0.out.inv.ok HOKK.out HC0.out
        obtain ⟨xe, hxe⟩ : ∃ xe : E, xe = ⟨key, h2, a2, c2, l2⟩ := ⟨_, rfl⟩
        have HXA : Hid (xe.abs = putK s node key g data dead) := by
          show _ = _
          rw [hxe]
          unfold E.abs putK
          simp only
          rw [HH2.out, HL2.out]
        have HXE : Hid _ := hxe
        have HFX : Hid (Far V.heap.size xe.a xe.l) := by rw [hxe]; exact HMK.out.far
        have HRX : Hid (Row V2 xe.a xe.cap xe.l) := by rw [hxe]; exact HMK.out.row
        have HKEY : Hid (xe.key = key ∧ xe.f = h2 ∧ xe.a = a2 ∧ xe.cap = c2 ∧ xe.l = l2) := by rw [hxe]; exact ⟨rfl, rfl, rfl, rfl, rfl⟩
        have HOKR : Hid (OkR ⟨1, 0, xe.abs⟩) := by rw [HXA.out]; exact ⟨.inl ⟨rfl, rfl, HOKK.out⟩⟩
        have HDS : Hid ((doR s ⟨1, 0, xe.abs⟩).isSome = true) := by rw [HXA.out, HDO.out]; rfl
        obtain ⟨rfl, rfl, rfl, rfl, rfl⟩ := HKEY.out
        clear hxe HXE HKEY HMK
        have tail : ∀ (K0 : Act → World → Prop), True := fun _ => trivial
        clear tail
        cases th with
        | true =>
          obtain ⟨x0, x1, x2, x3, x4, x5, x6, x7, x8⟩ := cel9 HCA.out
          go_wp2_with fail
          clear x0 x1 x2 x3 x4 x5 x6 x7 x8
          refine (joins_any xe V2).mono ?_
          rintro e w3 ⟨rfl, o3⟩
          have HA3 : Hid _ := HCA.out.off o3 (fun h => h)
          have HX3 : Hid _ := HX1.out.off o3 (fun h => h)
          have HO3 : Hid _ := HOX.out.trans o3 (fun _ _ h => h)
          have HR3 : Hid _ := HRX.out.off o3
          have HTE : Hid (Ter (fun c => ¬ D c ∧ ¬ S c) xe.a xe.l) := HFX.out.ter.mono (fun c hc => HNS.out c (by have := HSZ.out.1; omega))
          have HHS : Hid (w.heap.size + 1 < w3.heap.size) := HX3.out.lt
          clear o3
          go_wp2_with fail
          refine (change_any 1 0 xe (HH0.out.free HO3.out) HR3.out HTE.out HOKR.out HDS.out).mono ?_
          rintro e w4 ⟨rfl, D', S', hol, mv⟩
          have ha : putA most rs s node xe.key g data dead = chA most rs s ⟨1, 0, putK s node xe.key g data dead⟩ := by unfold putA; rw [if_pos HC0.out]
          have HHOL : Hid _ := hol
          have HMV : Hid _ := mv
          have HA4 : Hid _ := mv.cel HA3.out (HNS.out q2 HSZ.out.2.1)
          have HX4 : Hid _ := mv.cel HX3.out (HNS.out _ (by omega))
          have HR4 : Hid _ := mv.row HR3.out HTE.out
          have HAA : Hid _ := ha
          obtain ⟨ce, hce⟩ : ∃ ce, ce = chE most rs s ⟨1, 0, xe.abs⟩ := ⟨_, rfl⟩
          rw [← hce]
          have HCE : Hid _ := hce
          clear hol mv ha hce HA3 HX3 HR3
          have HN1 : Hid (¬ D' (w.heap.size + 1) ∧ ¬ S' (w.heap.size + 1)) := HMV.out.not (HHS.out) (HNS.out _ (by omega))
          by_cases hz : ce = 0
          · have HZ : Hid _ := hz
            rw [hz]
            clear hz
            obtain ⟨x0, x1, x2, x3, x4, x5, x6, x7, x8⟩ := cel9 HA4.out
            obtain ⟨z0, z1, z2, z3, z4, z5, z6, z7, z8⟩ := cel9 HX4.out
            have fr := HX4.out.free
            go_wp2_with fail
            refine bodyPost_ret (results_sibs2 rfl rfl rfl (HX4.out.st9 xe.f (.slice xe.a xe.l.length xe.cap))) rfl ?_
            have OB := (Off.refl (fun x => x = w.heap.size + 1) w4).st9 (.inl rfl) xe.f (.slice xe.a xe.l.length xe.cap)
            have er0 : (putA most rs s node xe.key g data dead).er = 0 := by rw [HAA.out, ← HXA.out]; show chE _ _ _ _ = 0; rw [← HCE.out]; exact HZ.out
            refine ⟨xe.f, xe.a, xe.cap, xe.l, by rw [er0]; rfl, ?_, ?_, HR4.out.offF HFX.out OB (fun x hx e => by have := HSZ.out.2.2; omega), HFX.out.mono (by have := HSZ.out.1; omega), D', S', ?_, ?_⟩
            · unfold putT
              rw [if_pos er0, ← HXA.out]
              rfl
            · unfold putT
              rw [if_pos er0, ← HXA.out]
              rfl
            · have e2 : (putA most rs s node xe.key g data dead).rs = chL most rs s ⟨1, 0, xe.abs⟩ := by rw [HAA.out, ← HXA.out]; rfl
              have e3 : (putA most rs s node xe.key g data dead).s = chS most rs s ⟨1, 0, xe.abs⟩ := by rw [HAA.out, ← HXA.out]; rfl
              rw [e2, e3]
              exact HHOL.out.box OB HN1.out
            · exact (Mov.after HO3.out HMV.out).box OB (by omega)
          · have HZ : Hid _ := hz
            have e1 : (ce != 0) = true := by simpa using hz
            clear hz
            obtain ⟨z0, z1, z2, z3, z4, z5, z6, z7, z8⟩ := cel9 HX4.out
            have fr := HX4.out.free
            go_wp2_with fail
            refine bodyPost_ret (results_err9 rfl rfl rfl HX4.out.clr9) rfl ?_
            have OB := (Off.refl (fun x => x = w.heap.size + 1) w4).clr9 (.inl rfl)
            have er0 : (putA most rs s node xe.key g data dead).er = ce := by rw [HAA.out, ← HXA.out, HCE.out]; rfl
            refine ⟨zer, none, 0, [], by rw [er0]; rfl, ?_, ?_, Row.nil _ none 0 (by omega), Far.nil _, D', S', ?_, ?_⟩
            · unfold putT
              rw [er0, if_neg HZ.out]
            · unfold putT
              rw [er0, if_neg HZ.out]
              rfl
            · have e2 : (putA most rs s node xe.key g data dead).rs = chL most rs s ⟨1, 0, xe.abs⟩ := by rw [HAA.out, ← HXA.out]; rfl
              have e3 : (putA most rs s node xe.key g data dead).s = chS most rs s ⟨1, 0, xe.abs⟩ := by rw [HAA.out, ← HXA.out]; rfl
              rw [e2, e3]
              exact HHOL.out.box OB HN1.out
            · exact (Mov.after HO3.out HMV.out).box OB (by omega)
        | false =>
          have HNF : Hid (decide (256 ≤ s.1.length) = false) := decide_eq_false (fun h => hfull ⟨rfl, h⟩)
          go_wp2_with fail
          refine (full_any (HH0.out.cor.free HOX.out)).mono ?_
          rw [HNF.out]
          rintro e W3 ⟨rfl, hw⟩
          rw [hw]
          clear hw W3
          obtain ⟨x0, x1, x2, x3, x4, x5, x6, x7, x8⟩ := cel9 HCA.out
          go_wp2_with fail
          clear x0 x1 x2 x3 x4 x5 x6 x7 x8
          refine (joins_any xe V2).mono ?_
          rintro e w3 ⟨rfl, o3⟩
          have HA3 : Hid _ := HCA.out.off o3 (fun h => h)
          have HX3 : Hid _ := HX1.out.off o3 (fun h => h)
          have HO3 : Hid _ := HOX.out.trans o3 (fun _ _ h => h)
          have HR3 : Hid _ := HRX.out.off o3
          have HTE : Hid (Ter (fun c => ¬ D c ∧ ¬ S c) xe.a xe.l) := HFX.out.ter.mono (fun c hc => HNS.out c (by have := HSZ.out.1; omega))
          have HHS : Hid (w.heap.size + 1 < w3.heap.size) := HX3.out.lt
          clear o3
          go_wp2_with fail
          refine (change_any 1 0 xe (HH0.out.free HO3.out) HR3.out HTE.out HOKR.out HDS.out).mono ?_
          rintro e w4 ⟨rfl, D', S', hol, mv⟩
          have ha : putA most rs s node xe.key g data dead = chA most rs s ⟨1, 0, putK s node xe.key g data dead⟩ := by unfold putA; rw [if_pos HC0.out]
          have HHOL : Hid _ := hol
          have HMV : Hid _ := mv
          have HA4 : Hid _ := mv.cel HA3.out (HNS.out q2 HSZ.out.2.1)
          have HX4 : Hid _ := mv.cel HX3.out (HNS.out _ (by omega))
          have HR4 : Hid _ := mv.row HR3.out HTE.out
          have HAA : Hid _ := ha
          obtain ⟨ce, hce⟩ : ∃ ce, ce = chE most rs s ⟨1, 0, xe.abs⟩ := ⟨_, rfl⟩
          rw [← hce]
          have HCE : Hid _ := hce
          clear hol mv ha hce HA3 HX3 HR3
          have HN1 : Hid (¬ D' (w.heap.size + 1) ∧ ¬ S' (w.heap.size + 1)) := HMV.out.not (HHS.out) (HNS.out _ (by omega))
          by_cases hz : ce = 0
          · have HZ : Hid _ := hz
            rw [hz]
            clear hz
            obtain ⟨x0, x1, x2, x3, x4, x5, x6, x7, x8⟩ := cel9 HA4.out
            obtain ⟨z0, z1, z2, z3, z4, z5, z6, z7, z8⟩ := cel9 HX4.out
            have fr := HX4.out.free
            go_wp2_with fail
            refine bodyPost_ret (results_sibs2 rfl rfl rfl (HX4.out.st9 xe.f (.slice xe.a xe.l.length xe.cap))) rfl ?_
            have OB := (Off.refl (fun x => x = w.heap.size + 1) w4).st9 (.inl rfl) xe.f (.slice xe.a xe.l.length xe.cap)
            have er0 : (putA most rs s node xe.key g data dead).er = 0 := by rw [HAA.out, ← HXA.out]; show chE _ _ _ _ = 0; rw [← HCE.out]; exact HZ.out
            refine ⟨xe.f, xe.a, xe.cap, xe.l, by rw [er0]; rfl, ?_, ?_, HR4.out.offF HFX.out OB (fun x hx e => by have := HSZ.out.2.2; omega), HFX.out.mono (by have := HSZ.out.1; omega), D', S', ?_, ?_⟩
            · unfold putT
              rw [if_pos er0, ← HXA.out]
              rfl
            · unfold putT
              rw [if_pos er0, ← HXA.out]
              rfl
            · have e2 : (putA most rs s node xe.key g data dead).rs = chL most rs s ⟨1, 0, xe.abs⟩ := by rw [HAA.out, ← HXA.out]; rfl
              have e3 : (putA most rs s node xe.key g data dead).s = chS most rs s ⟨1, 0, xe.abs⟩ := by rw [HAA.out, ← HXA.out]; rfl
              rw [e2, e3]
              exact HHOL.out.box OB HN1.out
            · exact (Mov.after HO3.out HMV.out).box OB (by omega)
          · have HZ : Hid _ := hz
            have e1 : (ce != 0) = true := by simpa using hz
            clear hz
            obtain ⟨z0, z1, z2, z3, z4, z5, z6, z7, z8⟩ := cel9 HX4.out
            have fr := HX4.out.free
            go_wp2_with fail
            refine bodyPost_ret (results_err9 rfl rfl rfl HX4.out.clr9) rfl ?_
            have OB := (Off.refl (fun x => x = w.heap.size + 1) w4).clr9 (.inl rfl)
            have er0 : (putA most rs s node xe.key g data dead).er = ce := by rw [HAA.out, ← HXA.out, HCE.out]; rfl
            refine ⟨zer, none, 0, [], by rw [er0]; rfl, ?_, ?_, Row.nil _ none 0 (by omega), Far.nil _, D', S', ?_, ?_⟩
            · unfold putT
              rw [er0, if_neg HZ.out]
            · unfold putT
              rw [er0, if_neg HZ.out]
              rfl
            · have e2 : (putA most rs s node xe.key g data dead).rs = chL most rs s ⟨1, 0, xe.abs⟩ := by rw [HAA.out, ← HXA.out]; rfl
              have e3 : (putA most rs s node xe.key g data dead).s = chS most rs s ⟨1, 0, xe.abs⟩ := by rw [HAA.out, ← HXA.out]; rfl
              rw [e2, e3]
              exact HHOL.out.box OB HN1.out
            · exact (Mov.after HO3.out HMV.out).box OB (by omega)
    · have HE1 : Hid _ := he
      have e1 : (er != 0) = true := by simpa using he
      clear he
      obtain ⟨z0, z1, z2, z3, z4, z5, z6, z7, z8⟩ := cel9 HX1.out
      have fr := HX1.out.free
      go_wp2_with fail
      refine bodyPost_ret (results_err9 rfl rfl rfl HX1.out.clr9) rfl ?_
      have hc : putC s node key g data dead = er := by
        unfold putC
        rw [if_neg (by rw [HKT.out]; simp), ← HER.out, if_pos HE1.out]
      have ha : putA most rs s node key g data dead = ⟨er, rs, s⟩ := by unfold putA; rw [if_neg (by rw [hc]; exact HE1.out), hc]
      have OZ := HOX.out.clr9 (b := w.heap.size + 1) (.inr (by omega))
      rw [ha]
      exact ⟨zer, none, 0, [], rfl, by unfold putT; rw [if_neg HE1.out], by unfold putT; rw [if_neg HE1.out]; rfl, Row.nil _ none 0 (by omega), Far.nil _, D, S, HH0.out.free OZ, ⟨OZ.mono (fun _ _ h => h.elim), fun _ h => .inl h, fun _ h => .inl h⟩⟩
end Go.Proofs.YthjbnpaghiojlaaGreat

namespace Go.Proofs.YthjbnpaghiojlaaGreat
open Go.RowKit

theorem eql_dsk (a : Option Addr) (W : World) : (binOp .eql 26 (.pointer a) (.pointer none)).run Tryz.prog W = .ok (.bool a.isNone) W := by
  cases a <;> kernel_rfl
set_option maxRecDepth 100000 in
theorem copyOf_disk {D : Nat → Prop} {b most : Nat} {bs : List Nat} {sn : Nat} {w : World} (h : Dsk D b most bs sn w) :
    Calls Tryz.prog 38 #[.pointer (some ⟨b, 0, none⟩)] w fun e w' => ∃ c D', e = .returned (.pointer (some ⟨c, 0, none⟩)) ∧ Dsk D' c most bs bs.length w' ∧ (∀ x, D' x → w.heap.size ≤ x) ∧ Off (fun _ => False) w w' := by
  have hq := eql_dsk
  have hf := h.fit
  have hb := h.bound
  have HD : Hid _ := h
  clear h
  go_enter Tryz.func38, Tryz.ntmps38
  go_wp2_with fail
  refine (dmost_any HD.out).mono ?_
  rintro e w0 ⟨rfl, hw⟩
  rw [hw]
  clear hw w0
  go_wp2_with fail
  refine (dnew_any (most : Int) w).mono ?_
  rintro e w1 ⟨c, rfl, hc, K, o1⟩
  have hro : roomOf (most : Int) = most := by unfold roomOf; omega
  rw [hro] at K
  have HK : Hid _ := K
  have HO1 : Hid _ := o1
  have HD1 : Hid _ := HD.out.free o1
  have HCC : Hid (∀ x, (fun x => x = c) x → w.heap.size ≤ x) := fun x hx => by rw [show x = c from hx]; exact hc
  clear K o1 hro hc
  go_wp2_with fail
  refine (dbytes_any HD1.out).mono ?_
  rintro e w2 ⟨t, cc, rfl, own, -, o2⟩
  have HA : Hid _ := dreplace_any (HK.out.free o2) t cc bs own.src (by omega)
  have e1 : repE most bs = 0 := by rw [repE, if_pos hf]
  have e2 : repL most [] bs = bs := by rw [repL, if_pos hf]
  have e3 : repS most 0 bs = bs.length := by rw [repS, if_pos hf]
  rw [e1, e2, e3] at HA
  have HO2 : Hid _ := HO1.out.trans o2 (fun _ _ h => h)
  clear own o2 e1 e2 e3
  go_wp2_with fail
  refine Calls.mono HA.out ?_
  rintro e w3 ⟨rfl, D', K3, o3, d3⟩
  have HK3 : Hid _ := K3
  have HO3 : Hid (Off (fun _ => False) w w3) := ((HO2.out.mono (fun _ _ h => h.elim)).trans o3 (fun _ _ h => h)).mono (fun i hi e => by have := HCC.out i e; omega)
  have HD3 : Hid (∀ x, D' x → w.heap.size ≤ x) := fun x hx => (d3 x hx).elim (HCC.out x) (fun h => Nat.le_trans HO2.out.size h)
  clear K3 o3 d3 HA
  go_wp2_with fail
  go_ret
  exact ⟨c, D', rfl, HK3.out, HD3.out, HO3.out⟩
/-- What stands for the log is laid. -/
theorem Cor.lay {S : Nat → Prop} {p : Nat} {lg : Value} {s : PS} {w : World} (h : Cor S p lg s w) (lg' : Value) : Cor S p lg' s (w.setCell ⟨p, 0, none⟩ lg') := by
  obtain ⟨tp, tb, hp, T, H, t, xs, c0, tab, ht, hst, hh, t1, t2, t3, t4, t5⟩ := h.is
  have o : Off (fun c => c = p) w (w.setCell ⟨p, 0, none⟩ lg') := (Off.refl (fun c => c = p) w).setCell (.inl rfl) _
  have c1 := c0.set 0 lg'
  simp only [List.setIfInBounds_toArray, List.set_cons_zero] at c1
  exact ⟨h.here, fun c hc => Nat.lt_of_lt_of_le (h.lt c hc) o.size, h.ok, tp, tb, hp, T, H, t, xs, c1, tab.offT o t1 t2 t3 (fun c _ hT e => (t4 c hT).2.2 e), ht, hst.off o (fun c _ hH e => (t5 c hH).2 e), hh, t1, t2, t3, t4, t5⟩
theorem run_step {s0 s s' : PS} {rs : List (List Nat)} {n : Nat} {r : List Nat} (h : runR s0 (rs.take n) = some s) (hr : rs[n]? = some r) (k : stepR s r = some s') : runR s0 (rs.take (n + 1)) = some s' := by
  rw [List.take_add_one, hr]
  exact runR_snoc h k
theorem run_stop {s0 s : PS} {rs : List (List Nat)} {n : Nat} {r : List Nat} (h : runR s0 (rs.take n) = some s) (hr : rs[n]? = some r) (k : stepR s r = none) : runR s0 rs = none := by
  have e : rs = rs.take n ++ r :: rs.drop (n + 1) := by
    obtain ⟨h1, h2⟩ := List.getElem?_eq_some_iff.1 hr
    have h3 := List.take_append_drop n rs
    rw [List.drop_eq_getElem_cons h1, h2] at h3
    exact h3.symm
  rw [e, runR_append, h]
  simp only [Option.bind_some, runR, k, Option.bind_none]
/-- What Open made. -/
structure OpnY (D : Nat → Prop) (b most : Nat) (rs : List (List Nat)) (s : PS) (p : Nat) (w w' : World) : Prop where
  ex : ∃ (lb : Nat) (D' S' : Nat → Prop), Hol D' S' p lb b most rs s w' ∧ Off D w w' ∧ (∀ c, D' c → D c ∨ w.heap.size ≤ c) ∧ (∀ c, S' c → w.heap.size ≤ c)
structure Opn (D : Nat → Prop) (b most : Nat) (rs : List (List Nat)) (q : Option Addr) (er : Int) (w w' : World) : Prop where
  is : (∃ (s : PS) (p : Nat), runR ([], []) rs = some s ∧ q = some ⟨p, 0, none⟩ ∧ er = 0 ∧ OpnY D b most rs s p w w') ∨ (runR ([], []) rs = none ∧ q = none ∧ er = 3 ∧ Off (fun _ => False) w w')
theorem tk_nil : tkE [] = 2 := by rfl
set_option maxRecDepth 100000 in
set_option maxHeartbeats 2000000 in
theorem lopen_any {D : Nat → Prop} {b most : Nat} {rs : List (List Nat)} {xs : List Nat} {sn : Nat} {w : World} (h : Dsk D b most (frs rs ++ xs) sn w) (hx : tkE xs = 2) (hxl : ∀ x ∈ xs, x < 256) (hsn : xs = [] → sn = (frs rs).length) (hrec : ∀ r ∈ rs, Rec r) :
    Calls Tryz.prog 12 #[.pointer (some ⟨b, 0, none⟩)] w fun e w' => ∃ (q : Option Addr) (er : Int), e = .returned (.tuple #[.pointer q, .int .i64 er]) ∧ Opn D b most rs q er w w' := by
  have HDK : Hid _ := h
  have HSN : Hid _ := hsn
  have HREC : Hid _ := hrec
  have HLT : Hid (∀ x ∈ frs rs ++ xs, x < 256) := fun x hx => by
    rcases List.mem_append.1 hx with hx | hx
    · exact frs_lt hrec x hx
    · exact hxl x hx
  have HAL : Hid _ := al_tail hrec hx
  have HFEW : Hid (rs.length ≤ 131072) := by
    have h1 := h.fit
    have h2 := h.bound
    have h3 := frs_many rs
    rw [List.length_append] at h1
    show _ ≤ _
    omega
  have hfew := HFEW.out
  clear h hsn hrec hx hxl
  go_enter Tryz.func12, Tryz.ntmps12
  go_wp2_with fail
  refine (copyOf_disk HDK.out).mono ?_
  rintro e w0 ⟨dc, D0, rfl, k0, n0, o0⟩
  have HK0 : Hid _ := k0
  have HN0 : Hid _ := n0
  have HO0 : Hid _ := o0
  clear k0 n0 o0
  go_wp2_with fail
  refine (wopen_ok HK0.out HLT.out HAL.out).mono ?_
  rintro e w1 ⟨lb0, t, c, bl, rfl, hbl, D1, tol, -, ch⟩
  obtain ⟨o1, -⟩ := ch.new HO0.out HN0.out
  have HBL : Hid _ := hbl
  have HOWN : Hid _ := tol.own
  have HEA : Hid (∀ x ∈ bl, OwnR w1 x.ad x.cap x.data) := fun x hx => (tol.each x hx).1
  have HO1 : Hid _ := o1
  have HLEN : Hid (bl.length = rs.length) := by show _ = _; rw [← hbl, List.length_map]
  clear hbl tol ch o1
  go_wp2_with fail
  refine (tnew_any w1).mono ?_
  rintro e w2 ⟨tp, tb, rfl, tab, htp, htb, o2⟩
  have HTAB : Hid _ := tab
  have HTP : Hid (w1.heap.size ≤ tp ∧ w1.heap.size ≤ tb) := ⟨htp, htb⟩
  have HO2 : Hid _ := o2
  clear tab htp htb o2
  go_wp2_with fail
  refine (hnew_any w2).mono ?_
  rintro e w3 ⟨hp, rfl, hst, hhp, o3⟩
  have HST : Hid _ := hst
  have HHP : Hid _ := hhp
  have HT3 : Hid _ := HTAB.out.free o3
  have HO3 : Hid _ := HO2.out.trans o3 (fun _ _ h => h)
  have HTB2 : Hid (tp < w2.heap.size ∧ tb < w2.heap.size) := ⟨HTAB.out.cel.lt, HTAB.out.ltb⟩
  clear hst hhp o3 HTAB
  go_upto_region 5 with fail
  have CP := Cel.new w3 101 #[.pointer none, .pointer (some ⟨tp, 0, none⟩), .pointer (some ⟨hp, 0, none⟩)]
  have OP : Off (fun _ => False) w3 (w3.alloc (.cells #[.pointer none, .pointer (some ⟨tp, 0, none⟩), .pointer (some ⟨hp, 0, none⟩)] 101)) := (Off.refl _ w3).alloc _
  have HSZ3 : Hid (w1.heap.size ≤ w2.heap.size ∧ w2.heap.size ≤ w3.heap.size) := ⟨HO2.out.size, by have h1 := HHP.out; have h2 := HST.out.lt; omega⟩
  have HCOR : Hid (∃ S, Cor S w3.heap.size (.pointer none) ([], []) (w3.alloc (.cells #[.pointer none, .pointer (some ⟨tp, 0, none⟩), .pointer (some ⟨hp, 0, none⟩)] 101)) ∧ ∀ c, S c → w1.heap.size ≤ c) := by
    have hz := HSZ3.out
    have h1 := HTP.out
    have h2 := HHP.out
    have h3 := HTB2.out
    have h4 := HST.out.lt
    refine ⟨fun c => c = tp ∨ c = tb ∨ c = hp ∨ c = w3.heap.size, ⟨.inr (.inr (.inr rfl)), ?_, OkP.nil, tp, tb, hp, fun c => c = tp ∨ c = tb, fun c => c = hp, [], [], CP, HT3.out.free OP, rfl, HST.out.free OP, rfl, .inl rfl, .inr rfl, fun e he => by simp at he, ?_, ?_⟩, ?_⟩
    · intro c hc
      have hs := OP.size
      have hl := CP.lt
      rcases hc with rfl | rfl | rfl | rfl <;> omega
    · intro c hc
      rcases hc with rfl | rfl
      · exact ⟨.inl rfl, fun e => by have e : c = hp := e; omega, by omega⟩
      · exact ⟨.inr (.inl rfl), fun e => by have e : c = hp := e; omega, by omega⟩
    · intro c hc
      have hc : c = hp := hc
      exact ⟨.inr (.inr (.inl hc)), by omega⟩
    · intro c hc
      rcases hc with rfl | rfl | rfl | rfl <;> omega
  have HOP : Hid (Off (fun _ => False) w1 (w3.alloc (.cells #[.pointer none, .pointer (some ⟨tp, 0, none⟩), .pointer (some ⟨hp, 0, none⟩)] 101))) := HO3.out.trans OP (fun _ _ h => h)
  generalize hv : w3.alloc (.cells #[.pointer none, .pointer (some ⟨tp, 0, none⟩), .pointer (some ⟨hp, 0, none⟩)] 101) = V at CP OP HCOR HOP ⊢
  generalize hpp : w3.heap.size = p at CP HCOR ⊢
  clear hv hpp CP OP HT3 HST HO3 HO2 HTB2 HSZ3 HHP HTP
  go_wp2_with fail
  have hbl := HLEN.out
  have hbl2 : bl.length ≤ 131072 := by omega
  clear hbl
  go_loopw [28] (fun y wr => ∃ (n : Nat) (s : PS) (S : Nat → Prop), y = .int .i64 (n : Int) ∧ n ≤ bl.length ∧ runR ([], []) (rs.take n) = some s ∧ Cor S p (.pointer none) s wr ∧ (∀ c, S c → w1.heap.size ≤ c) ∧ Off (fun _ => False) w1 wr) (fun y _ => (bl.length - intOf y).toNat)
  case atStart =>
    obtain ⟨S, k1, k2⟩ := HCOR.out
    exact ⟨0, ([], []), S, rfl, by omega, rfl, k1, k2, HOP.out⟩
  case round =>
    clear HCOR HOP
    obtain ⟨n, s, S, rfl, hn, hrun, cor, hS, O⟩ := hrel
    have HRUN : Hid _ := hrun
    have HCOR : Hid _ := cor
    have HS : Hid _ := hS
    have HO : Hid _ := O
    have HOF : Hid (Off (fun _ => False) w wr) := HO1.out.trans O (fun _ _ h => h)
    clear hrun cor hS O
    by_cases hlt : n < bl.length
    · have e1 : decide ((n : Int) < (bl.length : Int)) = true := decide_eq_true (by omega)
      have e2 : decide (n < bl.length) = true := decide_eq_true hlt
      obtain ⟨xb, hxb⟩ : ∃ xb, bl[n]? = some xb := ⟨_, List.getElem?_eq_getElem hlt⟩
      have HRN : Hid (rs[n]? = some xb.data) := by show _ = _; rw [← HBL.out, List.getElem?_map, hxb]; rfl
      obtain ⟨gb, rfl, k⟩ := (HOWN.out.off HO.out (fun _ _ _ h => h)).at_ bcs_len hxb
      have k0 := k 0 _ rfl
      rw [Nat.mul_one, Nat.add_zero] at k0
      have HXM : Hid (xb ∈ bl) := List.mem_of_getElem? hxb
      have HRC : Hid (Rec xb.data) := HREC.out xb.data (List.mem_of_getElem? HRN.out)
      have HSX : Hid (Src wr xb.ad xb.cap xb.data) := ((HEA.out xb HXM.out).off HO.out (fun _ _ _ h => h)).src
      have hxl : xb.data.length ≤ 60000 := HRC.out.len
      clear hxb k
      go_wp2_with fail
      clear k0
      refine (parse_any xb.ad xb.cap xb.data wr HSX.out HRC.out.lt hxl).mono ?_
      rintro e w4 ⟨kd, node, x, ok, rfl, hok, hprs, row, frh, o4⟩
      have HOK : Hid _ := hok
      have HPR : Hid _ := hprs
      clear hok hprs
      go_upto_region 9 with fail
      have CQ := Cel.new w4 103 #[.int .u64 (kd : Int), .int .i64 node, .string x.key, .int .i64 (x.f 0), .int .i64 (x.f 1), .int .i64 (x.f 2), .int .i64 (x.f 3), .int .i64 (x.f 4), .int .i64 (x.f 5), .int .i64 (x.f 6), .int .i64 (x.f 7), .slice x.a x.l.length x.cap]
      have OQ : Off (fun _ => False) w4 (w4.alloc (.cells #[.int .u64 (kd : Int), .int .i64 node, .string x.key, .int .i64 (x.f 0), .int .i64 (x.f 1), .int .i64 (x.f 2), .int .i64 (x.f 3), .int .i64 (x.f 4), .int .i64 (x.f 5), .int .i64 (x.f 6), .int .i64 (x.f 7), .slice x.a x.l.length x.cap] 103)) := (Off.refl _ w4).alloc _
      generalize hv : w4.alloc (.cells #[.int .u64 (kd : Int), .int .i64 node, .string x.key, .int .i64 (x.f 0), .int .i64 (x.f 1), .int .i64 (x.f 2), .int .i64 (x.f 3), .int .i64 (x.f 4), .int .i64 (x.f 5), .int .i64 (x.f 6), .int .i64 (x.f 7), .slice x.a x.l.length x.cap] 103) = V4 at CQ OQ ⊢
      generalize hqq : w4.heap.size = q4 at CQ ⊢
      have OV : Off (fun _ => False) wr V4 := o4.trans OQ (fun _ _ h => h)
      have HCQ : Hid _ := CQ
      have HRV : Hid _ := row.off OQ
      have HCV : Hid _ := HCOR.out.free OV
      have HOV : Hid _ := HO.out.trans OV (fun _ _ h => h)
      have HOFV : Hid _ := HOF.out.trans OV (fun _ _ h => h)
      clear hv hqq CQ OQ OV o4 row frh
      cases hp0 : prs xb.data with
      | none =>
        have hok0 : ok = false := by rw [HOK.out, hp0]; rfl
        have HNO : Hid (runR ([], []) rs = none) := run_stop HRUN.out HRN.out (by unfold stepR; rw [hp0]; rfl)
        rw [hok0]
        clear hok0 hp0 HOF
        have HOF : Hid _ := HOFV.out
        go_wp2_with fail
        go_ret2
        exact ⟨none, 3, rfl, ⟨.inr ⟨HNO.out, rfl, rfl, HOF.out⟩⟩⟩
      | some r =>
        have hok0 : ok = true := by rw [HOK.out, hp0]; rfl
        have hrr := HPR.out r hp0
        have HRR : Hid (OkR ⟨kd, node, x.abs⟩) := by rw [← hrr]; exact prs_ok hp0 (by rw [hrr]; exact HRV.out.rng)
        have HP0 : Hid (prs xb.data = some ⟨kd, node, x.abs⟩) := by rw [← hrr]; exact hp0
        rw [hok0]
        clear hok0 hp0 hrr HOF
        obtain ⟨u0, u1, u2, u3, u4, u5, u6, u7, u8, u9, u10, u11⟩ := cel12 HCQ.out
        go_wp2_with fail
        clear u0 u1 u2 u3 u4 u5 u6 u7 u8 u9 u10 u11
        refine (do_any kd node x HCV.out HRV.out HRR.out).mono ?_
        rintro e w5 ⟨rfl, did, o5⟩
        have HDID : Hid _ := did
        have HO5 : Hid (Off (fun _ => False) w1 w5) := ((HOV.out.mono (fun _ _ h => h.elim)).trans o5 (fun _ _ h => h)).mono (fun i hi e => by have := HS.out i e; omega)
        have HV5 : Hid (V4.heap.size ≤ w5.heap.size) := o5.size
        clear did o5
        cases hd0 : doR s ⟨kd, node, x.abs⟩ with
        | none =>
          have HNO : Hid (runR ([], []) rs = none) := run_stop HRUN.out HRN.out (by unfold stepR; rw [HP0.out]; exact hd0)
          have HOF : Hid (Off (fun _ => False) w w5) := HO1.out.trans HO5.out (fun _ _ h => h)
          simp only [Option.isSome_none]
          clear hd0
          go_wp2_with fail
          go_ret2
          exact ⟨none, 3, rfl, ⟨.inr ⟨HNO.out, rfl, rfl, HOF.out⟩⟩⟩
        | some s' =>
          obtain ⟨S', k1, k2⟩ := HDID.out.get s' hd0
          have HR1 : Hid (runR ([], []) (rs.take (n + 1)) = some s') := run_step HRUN.out HRN.out (by unfold stepR; rw [HP0.out]; exact hd0)
          have HK1 : Hid _ := k1
          have HK2 : Hid (∀ c, S' c → w1.heap.size ≤ c) := fun c hc => (k2 c hc).elim (HS.out c) (fun h => Nat.le_trans HOV.out.size h)
          simp only [Option.isSome_some]
          clear hd0 k1 k2 HDID
          go_wp2_with fail
          go_roundw
          case rel => exact ⟨n + 1, s', S', by go_num, by omega, HR1.out, HK1.out, HK2.out, HO5.out⟩
          case measure => simp [intOf]; omega
    · obtain rfl : n = bl.length := by omega
      have e1 : decide ((bl.length : Int) < (bl.length : Int)) = false := decide_eq_false (by omega)
      have e2 : decide (bl.length < bl.length) = false := decide_eq_false (by omega)
      have HRR : Hid (runR ([], []) rs = some s) := by
        have h1 := HRUN.out
        rw [HLEN.out, List.take_length] at h1
        exact h1
      have HDW : Hid _ := HDK.out.free HOF.out
      clear HRUN
      go_wp2_with fail
      refine (wopen_ok HDW.out HLT.out HAL.out).mono ?_
      rintro e w6 ⟨lb, t6, c6, bl6, rfl, hb6, D6, -, lg, ch⟩
      have hl6 : bl6.length = rs.length := by rw [← hb6, List.length_map]
      have HLG : Hid (Lg D6 lb b most (frs rs) (frs rs).length rs.length (frs rs).length w6) := by
        have h1 : (if (frs rs).length < (frs rs ++ xs).length then (frs rs).length else sn) = (frs rs).length := by
          split
          · rfl
          · rename_i hh
            rw [List.length_append] at hh
            exact HSN.out (List.eq_nil_of_length_eq_zero (by omega))
        rw [List.take_left, h1, hl6] at lg
        exact lg
      have HCH : Hid _ := ch
      have HND : Hid (∀ c, S c → ¬ D c) := fun c hc hD => by have h1 := HS.out c hc; have h2 := HDK.out.lt c hD; have h3 := HO1.out.size; omega
      have HC6 : Hid _ := HCOR.out.off ch.off (fun c _ hc => HND.out c hc)
      have HN6 : Hid (∀ c, S c → ¬ D6 c) := fun c hc hD => by
        rcases ch.sub c hD with h | h
        · exact HND.out c hc h
        · have := HCOR.out.lt c hc; omega
      obtain ⟨tp6, tb6, hp6, T6, H6, tt6, xs6, c0, -⟩ := HC6.out.is
      have q0 : w6.cell? ⟨p, 0, none⟩ = some (.pointer none) := c0.cell 0
      have fq := c0.free 0
      clear lg ch hb6 hl6 c0
      go_wp2_with fail
      go_ret2
      have hp6 : S p := HC6.out.here
      have o7 : Off (fun c => c = p) w6 (w6.setCell ⟨p, 0, none⟩ (.pointer (some ⟨lb, 0, none⟩))) := (Off.refl (fun c => c = p) w6).setCell (.inl rfl) _
      have hpw : w.heap.size ≤ p := Nat.le_trans HO1.out.size (HS.out p hp6)
      refine ⟨some ⟨p, 0, none⟩, 0, rfl, ⟨.inl ⟨s, p, HRR.out, rfl, rfl, ⟨lb, D6, S, ⟨HC6.out.lay _, ⟨HLG.out.off o7 (fun c hc e => HN6.out p hp6 (by rw [← show c = p from e]; exact hc)), HREC.out⟩, HN6.out, ⟨HC6.out.ok, HRR.out, HREC.out⟩⟩, ?_, fun c hc => ?_, fun c hc => Nat.le_trans HO1.out.size (HS.out c hc)⟩⟩⟩⟩
      · exact (((HOF.out.mono (fun _ _ h => h.elim)).trans HCH.out.off (fun _ _ h => h)).trans (o7.mono (E := fun c => w.heap.size ≤ c) (fun i _ e => by rw [show i = p from e]; exact hpw)) (fun i hi e => by omega))
      · rcases HCH.out.sub c hc with h | h
        · exact .inl h
        · exact .inr (Nat.le_trans HOF.out.size h)
theorem lopen_nil (w : World) : Calls Tryz.prog 12 #[.pointer none] w fun e w' => e = .returned (.tuple #[.pointer none, .int .i64 1]) ∧ w' = w := by
  have hq := eql_dsk
  have hc : Calls Tryz.prog 38 #[.pointer none] w fun e w' => e = .returned (.pointer none) ∧ w' = w := by
    go_enter Tryz.func38, Tryz.ntmps38
    go_wp2_with fail
    go_ret
    exact ⟨rfl, rfl⟩
  have ho : Calls Tryz.prog 37 #[.pointer none] w fun e w' => e = .returned (.tuple #[.pointer none, .slice none 0 0, .int .i64 1]) ∧ w' = w := by
    go_enter Tryz.func37, Tryz.ntmps37
    go_wp2_with fail
    go_ret3
    exact ⟨rfl, rfl⟩
  have HC : Hid _ := hc
  have HO : Hid _ := ho
  clear hc ho
  go_enter Tryz.func12, Tryz.ntmps12
  go_wp2_with fail
  refine Calls.mono HC.out ?_
  rintro e w1 ⟨rfl, hw⟩
  rw [hw]
  clear hw w1
  go_wp2_with fail
  refine Calls.mono HO.out ?_
  rintro e w1 ⟨rfl, hw⟩
  rw [hw]
  clear hw w1
  go_wp2_with fail
  go_ret2
  exact ⟨rfl, rfl⟩
end Go.Proofs.YthjbnpaghiojlaaGreat

namespace Go.Proofs.YthjbnpaghiojlaaGreat
open Go.RowKit

/-- A call. -/
structure C where
  d : Int
  node : Int
  key : ByteArray
  g : Nat → Int
  da : Option Addr
  dc : Nat
  data : List Nat
  dead : Bool
  f : Nat → Int
  a : Option Addr
  cap : Nat
  l : List V
def ccs (x : C) : List Value := [.int .i64 x.d, .int .i64 x.node, .string x.key, .int .i64 (x.g 0), .int .i64 (x.g 1), .int .i64 (x.g 2), .int .i64 (x.g 3), .int .i64 (x.g 4), .int .i64 (x.g 5), .int .i64 (x.g 6), .int .i64 (x.g 7), .slice x.da x.data.length x.dc, .bool x.dead, .int .i64 (x.f 0), .int .i64 (x.f 1), .int .i64 (x.f 2), .int .i64 (x.f 3), .int .i64 (x.f 4), .int .i64 (x.f 5), .int .i64 (x.f 6), .int .i64 (x.f 7), .slice x.a x.l.length x.cap]
/-- Its numbers are numbers. -/
structure COk (x : C) : Prop where
  no : -9223372036854775808 ≤ x.node ∧ x.node ≤ 9223372036854775807
  key : x.key.size ≤ 9223372036854775807
  lt : ∀ y ∈ x.data, y < 256
  len : x.data.length ≤ 140737488351232
  g : Nrm x.g
  f : Nrm x.f
theorem cel22 {b : Nat} {t : TypeId} {s0 s1 s2 s3 s4 s5 s6 s7 s8 s9 s10 s11 s12 s13 s14 s15 s16 s17 s18 s19 s20 s21 : Value} {w : World} (h : Cel b t #[s0, s1, s2, s3, s4, s5, s6, s7, s8, s9, s10, s11, s12, s13, s14, s15, s16, s17, s18, s19, s20, s21] w) : w.cell? ⟨b, 0, none⟩ = some s0 ∧ w.cell? ⟨b, 1, none⟩ = some s1 ∧ w.cell? ⟨b, 2, none⟩ = some s2 ∧ w.cell? ⟨b, 3, none⟩ = some s3 ∧ w.cell? ⟨b, 4, none⟩ = some s4 ∧ w.cell? ⟨b, 5, none⟩ = some s5 ∧ w.cell? ⟨b, 6, none⟩ = some s6 ∧ w.cell? ⟨b, 7, none⟩ = some s7 ∧ w.cell? ⟨b, 8, none⟩ = some s8 ∧ w.cell? ⟨b, 9, none⟩ = some s9 ∧ w.cell? ⟨b, 10, none⟩ = some s10 ∧ w.cell? ⟨b, 11, none⟩ = some s11 ∧ w.cell? ⟨b, 12, none⟩ = some s12 ∧ w.cell? ⟨b, 13, none⟩ = some s13 ∧ w.cell? ⟨b, 14, none⟩ = some s14 ∧ w.cell? ⟨b, 15, none⟩ = some s15 ∧ w.cell? ⟨b, 16, none⟩ = some s16 ∧ w.cell? ⟨b, 17, none⟩ = some s17 ∧ w.cell? ⟨b, 18, none⟩ = some s18 ∧ w.cell? ⟨b, 19, none⟩ = some s19 ∧ w.cell? ⟨b, 20, none⟩ = some s20 ∧ w.cell? ⟨b, 21, none⟩ = some s21 :=
  ⟨h.cell 0, h.cell 1, h.cell 2, h.cell 3, h.cell 4, h.cell 5, h.cell 6, h.cell 7, h.cell 8, h.cell 9, h.cell 10, h.cell 11, h.cell 12, h.cell 13, h.cell 14, h.cell 15, h.cell 16, h.cell 17, h.cell 18, h.cell 19, h.cell 20, h.cell 21⟩
end Go.Proofs.YthjbnpaghiojlaaGreat

namespace Go.Proofs.YthjbnpaghiojlaaGreat
open Go.ChangeShapes Go.WideShapes Go.ChangeAt Go.RowKit

theorem cellsCa : Tryz.prog.cellsOf 49 = 22 := by kernel_rfl
theorem cells9 : Tryz.prog.cellsOf 9 = 1 := by kernel_rfl
theorem fieldsCall : ∃ f0 f1 f2 f3 f4 f5 f6 : Field, Tryz.prog.underlying 49 = some (.struct #[f0, f1, f2, f3, f4, f5, f6]) ∧ (f0.offset = 0 ∧ f0.type = 3) ∧ (f1.offset = 1 ∧ f1.type = 3) ∧ (f2.offset = 2 ∧ f2.type = 9) ∧ (f3.offset = 3 ∧ f3.type = 43) ∧ (f4.offset = 11 ∧ f4.type = 44) ∧ (f5.offset = 12 ∧ f5.type = 4) ∧ (f6.offset = 13 ∧ f6.type = 47) :=
  ⟨_, _, _, _, _, _, _, Tryz.underlying49, ⟨rfl, rfl⟩, ⟨rfl, rfl⟩, ⟨rfl, rfl⟩, ⟨rfl, rfl⟩, ⟨rfl, rfl⟩, ⟨rfl, rfl⟩, ⟨rfl, rfl⟩⟩
theorem list7 {α : Type} (l : List α) (h : l.length = 7) : ∃ y0 y1 y2 y3 y4 y5 y6, l = [y0, y1, y2, y3, y4, y5, y6] := by
  match l, h with
  | [y0, y1, y2, y3, y4, y5, y6], _ => exact ⟨y0, y1, y2, y3, y4, y5, y6, rfl⟩
theorem list22 {α : Type} (l : List α) (h : l.length = 22) : ∃ y0 y1 y2 y3 y4 y5 y6 y7 y8 y9 y10 y11 y12 y13 y14 y15 y16 y17 y18 y19 y20 y21, l = [y0, y1, y2, y3, y4, y5, y6, y7, y8, y9, y10, y11, y12, y13, y14, y15, y16, y17, y18, y19, y20, y21] := by
  match l, h with
  | [y0, y1, y2, y3, y4, y5, y6, y7, y8, y9, y10, y11, y12, y13, y14, y15, y16, y17, y18, y19, y20, y21], _ => exact ⟨y0, y1, y2, y3, y4, y5, y6, y7, y8, y9, y10, y11, y12, y13, y14, y15, y16, y17, y18, y19, y20, y21, rfl⟩
section
variable {HH : Type} {enc : TypeId × Value → HH}
set_option maxRecDepth 100000 in
theorem sibs_cells {W : World} {fuel : Nat} {c0 c1 c2 c3 c4 c5 c6 c7 c8 : Value} {d : DataW HH} {pl : List MemPlace}
    (hf : DataW.trod enc Tryz.prog W 0 (fun _ => true) true fuel 47 [c0, c1, c2, c3, c4, c5, c6, c7, c8] = some (d, pl)) (hz : ∀ n ∈ d.weights Tryz.prog 47, n ≤ reachBytes) :
    ∃ (f : Nat → Int) (a : Option Addr) (cap : Nat) (l : List V), [c0, c1, c2, c3, c4, c5, c6, c7, c8] = (#[.int .i64 (f 0), .int .i64 (f 1), .int .i64 (f 2), .int .i64 (f 3), .int .i64 (f 4), .int .i64 (f 5), .int .i64 (f 6), .int .i64 (f 7), .slice a l.length cap] : Array Value).toList ∧ Row W a cap l ∧ Nrm f := by
  obtain ⟨f0, f1, hu, ⟨o0, t0⟩, ⟨o1, t1⟩⟩ := fieldsSibs
  obtain ⟨xs, m, -, hxy, hvl, hxl, hfl⟩ := DataW.trod_struct hu hf
  obtain ⟨x0, x1, rfl⟩ := list2 xs (by simpa using hxl)
  have g0 := hfl 0 f0 rfl
  have g1 := hfl 1 f1 rfl
  rw [o0, t0, cellsV] at g0
  rw [o1, t1, cellsL] at g1
  simp at g0 g1
  obtain ⟨f, e, hr⟩ := vec_cells g0
  simp only [List.cons.injEq, and_true] at e
  obtain ⟨rfl, rfl, rfl, rfl, rfl, rfl, rfl, rfl⟩ := e
  obtain ⟨a, len, cap, rfl⟩ : ∃ a len cap, c8 = .slice a len cap := by
    rcases Go.Deep.open_slice Tryz.underlying45 g1 with ⟨hcs, -⟩ | ⟨x, l, c, m, n, D, Pl, hcs, -⟩
    · simp at hcs; exact ⟨_, _, _, hcs⟩
    · simp at hcs; exact ⟨_, _, _, hcs⟩
  simp only [Prod.mk.injEq] at hxy
  obtain ⟨rfl, -⟩ := hxy
  obtain ⟨l, rfl, hrow⟩ := row_of g1 (fun n hn => hz n (by
    simp only [DataW.weights, hu]
    exact DataW.weights_mem_each (j := 1) (t := 45) (d := x1.1) (by simp [t1]) rfl _ hn))
  exact ⟨nrm f, a, cap, l, rfl, hrow, nrm_ok f⟩
set_option maxRecDepth 100000 in
/-- A slice of bytes within something that came in. -/
theorem bytes_cells {w : World} {fuel : Nat} {v : Value} {d : DataW HH} {pl : List MemPlace} (hf : DataW.trod enc Tryz.prog w 0 (fun _ => true) true fuel 44 [v] = some (d, pl)) (hz : ∀ n ∈ d.weights Tryz.prog 44, n ≤ reachBytes) :
    ∃ (t : Option Addr) (c : Nat) (bs : List Nat), v = .slice t bs.length c ∧ (∀ b ∈ bs, b < 256) ∧ Src w t c bs ∧ bs.length ≤ 140737488351232 := by
  obtain ⟨tt, len, tc, zs, rfl, hr, hbound⟩ : ∃ tt len tc zs, v = .slice tt len tc ∧ IsRow .u8 w tt len tc zs ∧ len ≤ 140737488351232 := by
    rcases open_ints Tryz.underlying44 Tryz.underlying5 (by kernel_rfl) hf with ⟨hcs, -⟩ | ⟨x, l, c, zs, hcs, _, hl, hm, hzz, hx, hcell, hwz⟩
    · simp at hcs
      exact ⟨none, 0, 0, [], hcs, .inl ⟨rfl, rfl, rfl, rfl⟩, by omega⟩
    · simp at hcs
      simp only [if_true] at hzz
      refine ⟨_, _, _, zs, hcs, .inr ⟨_, rfl, hl, hm, hzz, hcell, hwz⟩, ?_⟩
      have hmem : (zs.length * Tryz.prog.bytesOf 5) ∈ DataW.weights Tryz.prog 44 d := by
        simp only [Prod.mk.injEq] at hx
        rw [hx.1]
        simp only [DataW.weights, Tryz.underlying44, List.mem_cons]
        left
        simp only [lits, List.length_map, List.length_take, List.length_drop]
        congr 1
        omega
      have := hz _ hmem
      rw [bytesB] at this
      simp only [reachBytes] at this
      omega
  obtain ⟨bs, rfl, hbs, hsrc⟩ := isRow_src hr
  exact ⟨tt, tc, bs, rfl, hbs, hsrc, hbound⟩
set_option maxRecDepth 100000 in
/-- The cells of a call. -/
theorem call_cells {W : World} {fuel : Nat} {vs : List Value} {d : DataW HH} {pl : List MemPlace}
    (hf : DataW.trod enc Tryz.prog W 0 (fun _ => true) true fuel 49 vs = some (d, pl)) (hz : ∀ n ∈ d.weights Tryz.prog 49, n ≤ reachBytes) :
    ∃ c : C, vs = ccs c ∧ Row W c.a c.cap c.l ∧ Src W c.da c.dc c.data ∧ COk c := by
  obtain ⟨f0, f1, f2, f3, f4, f5, f6, hu, ⟨o0, t0⟩, ⟨o1, t1⟩, ⟨o2, t2⟩, ⟨o3, t3⟩, ⟨o4, t4⟩, ⟨o5, t5⟩, ⟨o6, t6⟩⟩ := fieldsCall
  obtain ⟨xs, m, -, hxy, hvl, hxl, hfl⟩ := DataW.trod_struct hu hf
  rw [cellsCa] at hvl
  obtain ⟨y0, y1, y2, y3, y4, y5, y6, y7, y8, y9, y10, y11, y12, y13, y14, y15, y16, y17, y18, y19, y20, y21, rfl⟩ := list22 vs hvl
  obtain ⟨x0, x1, x2, x3, x4, x5, x6, rfl⟩ := list7 xs (by simpa using hxl)
  have g0 := hfl 0 f0 rfl
  have g1 := hfl 1 f1 rfl
  have g2 := hfl 2 f2 rfl
  have g3 := hfl 3 f3 rfl
  have g4 := hfl 4 f4 rfl
  have g5 := hfl 5 f5 rfl
  have g6 := hfl 6 f6 rfl
  rw [o0, t0, cells3] at g0
  rw [o1, t1, cells3] at g1
  rw [o2, t2, cells9] at g2
  rw [o3, t3, cellsV] at g3
  rw [o4, t4, cellsB] at g4
  rw [o5, t5, cells4] at g5
  rw [o6, t6, cellsS] at g6
  simp at g0 g1 g2 g3 g4 g5 g6
  obtain ⟨n, hn⟩ : ∃ n : Int, y0 = .int .i64 n := by
    obtain ⟨n, hn, -⟩ := DataW.trod_int Tryz.underlying3 g0
    simp at hn
    exact ⟨n, hn⟩
  subst hn
  obtain ⟨nd, hnd, q1⟩ : ∃ n : Int, y1 = .int .i64 n ∧ (-9223372036854775808 ≤ n ∧ n ≤ 9223372036854775807) := by
    obtain ⟨n, hn, -, q⟩ := DataW.trod_int Tryz.underlying3 g1
    simp at hn
    exact ⟨n, hn, wfI q⟩
  subst hnd
  obtain ⟨s, hs, -, hsz⟩ := DataW.trod_string Tryz.underlying9 g2
  simp at hs
  subst hs
  obtain ⟨g, e3, -⟩ := vec_cells g3
  simp only [List.cons.injEq, and_true] at e3
  obtain ⟨rfl, rfl, rfl, rfl, rfl, rfl, rfl, rfl⟩ := e3
  obtain ⟨y5, e5, -⟩ := DataW.trod_bool Tryz.underlying4 g5
  simp at e5
  subst e5
  simp only [Prod.mk.injEq] at hxy
  obtain ⟨rfl, -⟩ := hxy
  obtain ⟨da, dc, data, rfl, hlt, hsrc, hdl⟩ := bytes_cells g4 (fun n hn => hz n (by
    simp only [DataW.weights, hu]
    exact DataW.weights_mem_each (j := 4) (t := 44) (d := x4.1) (by simp [t4]) rfl _ hn))
  obtain ⟨f, a, cap, l, e6, hrow, hnr⟩ := sibs_cells g6 (fun n hn => hz n (by
    simp only [DataW.weights, hu]
    exact DataW.weights_mem_each (j := 6) (t := 47) (d := x6.1) (by simp [t6]) rfl _ hn))
  simp only [List.cons.injEq, and_true] at e6
  obtain ⟨rfl, rfl, rfl, rfl, rfl, rfl, rfl, rfl, rfl⟩ := e6
  exact ⟨⟨n, nd, s, nrm g, da, dc, data, y5, f, a, cap, l⟩, rfl, hrow, hsrc, ⟨q1, hsz, hlt, hdl, nrm_ok g, hnr⟩⟩
set_option maxRecDepth 100000 in
/-- A call that came in. -/
theorem argC1 {W : World} {base fuel : Nat} {v : Value} {d : DataW HH} {pl : List MemPlace}
    (hv : Value.okWide Tryz.prog W .any base 49 v) (hf : DataW.trod enc Tryz.prog W 0 (fun _ => true) true fuel 49 v.cells.toList = some (d, pl)) (hz : ∀ n ∈ d.weights Tryz.prog 49, n ≤ reachBytes) :
    ∃ c : C, v = .agg (ccs c).toArray ∧ Row W c.a c.cap c.l ∧ Src W c.da c.dc c.data ∧ COk c := by
  obtain ⟨cs, rfl, hs, hok⟩ : ∃ cs, v = .agg cs ∧ cs.size = Tryz.prog.cellsOf 49 ∧ Row.okWide Tryz.prog W .any base 49 cs := by
    simpa [Value.okWide, Tryz.underlying49] using hv
  obtain ⟨e, h1, h2⟩ := call_cells (vs := cs.toList) hf hz
  refine ⟨e, ?_, h2⟩
  rw [← h1, Array.toArray_toList]
end
end Go.Proofs.YthjbnpaghiojlaaGreat
