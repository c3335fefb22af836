/- Items of several texts. -/
import Derived.Test.YtmjmgdbhmbjmaaaECo22
namespace Go.Proofs.Ytmjmgdbhmbjmaaa
set_option maxRecDepth 100000
open Go.RowKit
theorem max_int (a b : Int) : ∀ ts t W, (Builtin.max_ ts t #[.int .i64 a, .int .i64 b]).run Try.prog W = .ok (.int .i64 (max a b)) W := by
 intro ts t W
 go_simp <;> (split <;> omega)
structure AnD where
 op : Int
 err : Int
 s : SV
structure AnA where
 op : Int
 err : Int
 s : SA
def AnD.abs (x : AnD) : AnA := ⟨x.op, x.err, x.s.abs⟩
def anC (x : AnD) : List Value := [.int .i64 x.op, .int .i64 x.err, .int .i64 (x.s.f 0), .int .i64 (x.s.f 1), .int .i64 (x.s.f 2), .int .i64 (x.s.f 3), .int .i64 (x.s.f 4), .int .i64 (x.s.f 5), .int .i64 (x.s.f 6), .int .i64 (x.s.f 7), .slice x.s.a x.s.l.length x.s.cap]
theorem anC_len (x : AnD) : (anC x).length = 11 := rfl
theorem anC_one (x : AnD) : ∀ u ∈ anC x, u.oneCell' = true := by simp [anC, Value.oneCell']
theorem Try.infoAn : (Try.prog.info? 67).map (fun i => (i.zero, i.size, i.bytes)) = some (some (.agg #[.int .i64 0, .int .i64 0, .int .i64 0, .int .i64 0, .int .i64 0, .int .i64 0, .int .i64 0, .int .i64 0, .int .i64 0, .int .i64 0, .slice none 0 0]), 11, 104) := by kernel_rfl
theorem app1_run {α : Type} {tS tE : TypeId} {size bytes : Nat} {z : Value} {cs : α → List Value} (hu : Try.prog.underlying tS = some (.slice tE)) (hinfo : (Try.prog.info? tE).map (fun i => (i.zero, i.size, i.bytes)) = some (some z, size, bytes))
  (hz : z.cells.size = size) (hp : 0 < size) (hcs : ∀ x, (cs x).length = size) (h1 : ∀ x, ∀ u ∈ cs x, u.oneCell' = true) {w : World} {a : Option Addr} {cap : Nat} {l : List α} (own : OwnG tE size cs w a cap l) (x : α) {g : Nat}
  (hg : ∀ j u, (cs x)[j]? = some u → w.cell? ⟨g, j, none⟩ = some u) (hb : l.length ≤ 1000000 ∧ bytes ≤ 100000) (ty : TypeId) :
  ∃ a' c' w', (Builtin.append_ #[tS, tS] ty #[.slice a l.length cap, .slice (some ⟨g, 0, none⟩) 1 1]).run Try.prog w = .ok (.slice a' (l ++ [x]).length c') w' ∧ OwnG tE size cs w' a' c' (l ++ [x]) ∧ Off (fun c => blk a = some c) w w' ∧ (blk a' = blk a ∨ blk a' = some w.heap.size) := by
 obtain ⟨i0, hi, hz0, hz1, hz2⟩ := info_parts hinfo
 have hbm : (l.length + 1) * bytes ≤ 140737488355328 := Nat.le_trans (Nat.mul_le_mul (show l.length + 1 ≤ 1000001 by omega) hb.2) (by decide)
 obtain ⟨v', w', hr, own', grow', -, hat⟩ := run_append_own_at (P := Try.prog) w 0 tS ty tE i0 z size bytes hu hi hz0 hz1 hz2 hz hp _ _ _ own.row ⟨g, 0, none⟩ 1 1 (cs x) (by rw [hcs, Nat.one_mul]) (fun j u hj => by rw [add_lit, Nat.zero_add]; exact hg j u hj) (h1 x) (by unfold maxLen; omega) hbm (Nat.zero_le _)
 have e : l.flatMap cs ++ cs x = (l ++ [x]).flatMap cs := by simp
 rw [e] at own'
 have el : l.length + 1 = (l ++ [x]).length := by simp
 rw [el] at own'
 obtain ⟨t', c', rfl⟩ : ∃ t' c', v' = .slice t' (l ++ [x]).length c' := by
  rcases own'.2 with ⟨rfl, h0⟩ | ⟨g, c, cur, hv, -⟩
  ·exact ⟨none, 0, by rw [h0]⟩
  ·exact ⟨_, _, hv⟩
 rw [blk_own, blk_own] at hat
 rw [blk_own] at grow'
 exact ⟨t', c', w', hr, ⟨own'⟩, (Off.refl _ w).grown grow' (fun k hk => .inl hk), hat⟩
theorem OwnG.cell_at {α : Type} {e : TypeId} {size : Nat} {cs : α → List Value} {w : World} {a : Option Addr} {cap : Nat} {l : List α} (h : OwnG e size cs w a cap l) {g : Nat} (hg : blk a = some g) : ∃ cur : Array Value, w.heap[g]? = some (.cells cur e (0, 0)) := by
 rcases h.row.2 with ⟨hv, h0⟩ | ⟨g', c, cur, hv, _, hh, _⟩
 ·simp only [Value.slice.injEq] at hv
  rw [hv.1] at hg
  simp [blk] at hg
 ·simp only [Value.slice.injEq] at hv
  rw [hv.1] at hg
  simp [blk] at hg
  exact ⟨cur, hg ▸ hh⟩
theorem Cel.nt {b c : Nat} {t u : TypeId} {cs ds : Array Value} {w : World} (h : Cel b t cs w) (k : Cel c u ds w) (ht : t ≠ u) : b ≠ c := by
 rintro rfl
 have := h.is.symm.trans k.is
 simp at this
 exact ht this.2
theorem OwnG.nt {α : Type} {e : TypeId} {size : Nat} {cs : α → List Value} {w : World} {a : Option Addr} {cap : Nat} {l : List α} (h : OwnG e size cs w a cap l) {b : Nat} {t : TypeId} {ds : Array Value} (k : Cel b t ds w) (ht : e ≠ t) : blk a ≠ some b := by
 intro hg
 obtain ⟨cur, hc⟩ := h.cell_at hg
 have := hc.symm.trans k.is
 simp at this
 exact ht this.2
structure CM where
 wait : Int
 last : Int
 mb : Option Nat
 aa : Option Addr
 ac : Nat
 t : List OpD
 an : List AnD
structure CST (D Z : Nat → Prop) (p : Nat) (x : CM) (w : World) : Prop where
 cel : Cel p 78 #[.int .i64 x.wait, .int .i64 x.last, .map x.mb, .slice x.aa x.an.length x.ac] w
 map0 : x.mb = none → x.t = []
 map1 : ∀ b, x.mb = some b → D b ∧ w.ownsMap Try.prog 2 hRO b x.t.length (datumO x.t)
 op : ∀ o ∈ x.t, OpAt o w ∧ D o.q ∧ D o.cb ∧ SOk Z w o.kn ∧ ∀ n, n < 8 → SOk Z w (o.tl n)
 dif : x.t.Pairwise fun a b => a.q ≠ b.q ∧ a.cb ≠ b.cb
 sor : SorO x.t
 ids : ∀ o ∈ x.t, 1 ≤ o.id ∧ o.id ≤ x.last ∧ 0 ≤ o.age ∧ o.age ≤ x.wait
 few : x.t.length ≤ 64
 ans : OwnG 67 11 anC w x.aa x.ac x.an
 ina : ∀ c, blk x.aa = some c → D c
 oks : ∀ y ∈ x.an, SOk Z w y.s
 cnt : (x.an.length : Int) + (x.t.length : Int) ≤ x.last
 num : x.last ≤ 1000000
 wt : 1 ≤ x.wait ∧ x.wait ≤ 9223372036854775807
 inp : D p
 sub : ∀ c, D c → Z c
 lt : ∀ c, Z c → c < w.heap.size
structure Gro (D D' Z Z' : Nat → Prop) (w w' : World) : Prop where
 off : Off D w w'
 new : ∀ c, D' c → D c ∨ w.heap.size ≤ c
 zd : ∀ c, Z' c → Z c ∨ w.heap.size ≤ c
 zz : ∀ c, Z c → Z' c
theorem Gro.trans {D D' D'' Z Z' Z'' : Nat → Prop} {u v w : World} (h : Gro D D' Z Z' u v) (k : Gro D' D'' Z' Z'' v w) : Gro D D'' Z Z'' u w :=
 ⟨h.off.trans k.off (fun i hi d => (h.new i d).elim id (fun e => by omega)), fun c hc => (k.new c hc).elim (h.new c) (fun e => .inr (Nat.le_trans h.off.size e)), fun c hc => (k.zd c hc).elim (h.zd c) (fun e => .inr (Nat.le_trans h.off.size e)), fun c hc => k.zz c (h.zz c hc)⟩
theorem Gro.of {D Z : Nat → Prop} {w w' : World} (o : Off D w w') : Gro D D Z Z w w' := ⟨o, fun _ h => .inl h, fun _ h => .inl h, fun _ h => h⟩
theorem SOk.gro {D D' Z Z' : Nat → Prop} {w w' : World} {s : SV} (h : SOk Z w s) (g : Gro D D' Z Z' w w') (hs : ∀ c, D c → Z c) : SOk Z' w' s :=
 ⟨(h.off g.off (fun c _ => hs c)).row, h.nrm, (h.to (fun c hc z => (g.zd c z).elim id (fun e => by omega))).out⟩
theorem CST.free {D Z : Nat → Prop} {p : Nat} {x : CM} {w w' : World} (h : CST D Z p x w) (o : Off (fun _ => False) w w') : CST D Z p x w' :=
 ⟨h.cel.off o (fun h => h), h.map0, fun b hb => ⟨(h.map1 b hb).1, mo_off (h.map1 b hb).2 o (fun h => h)⟩, fun y hy => ⟨(h.op y hy).1.off o (fun h => h) (fun h => h), (h.op y hy).2.1, (h.op y hy).2.2.1, (h.op y hy).2.2.2.1.free o, fun n hn => ((h.op y hy).2.2.2.2 n hn).free o⟩, h.dif, h.sor, h.ids, h.few, h.ans.off o (fun _ _ _ h => h), h.ina, fun y hy => (h.oks y hy).free o, h.cnt, h.num, h.wt, h.inp, h.sub, fun c hc => Nat.lt_of_lt_of_le (h.lt c hc) o.size⟩
theorem CST.beside {D Z E E' Z' : Nat → Prop} {p : Nat} {x : CM} {w w' : World} (h : CST D Z p x w) (g : Gro E E' Z Z' w w') (hE : ∀ c, E c → ¬ D c) (hs : ∀ c, E c → Z c) (hl : ∀ c, Z' c → c < w'.heap.size) : CST D Z' p x w' :=
 have ne : ∀ c, D c → ¬ E c := fun c d e => hE c e d
 ⟨h.cel.off g.off (ne _ h.inp), h.map0, fun b hb => ⟨(h.map1 b hb).1, mo_off (h.map1 b hb).2 g.off (ne _ (h.map1 b hb).1)⟩, fun y hy => ⟨(h.op y hy).1.off g.off (ne _ (h.op y hy).2.1) (ne _ (h.op y hy).2.2.1), (h.op y hy).2.1, (h.op y hy).2.2.1, (h.op y hy).2.2.2.1.gro g hs, fun n hn => ((h.op y hy).2.2.2.2 n hn).gro g hs⟩, h.dif, h.sor, h.ids, h.few, h.ans.off g.off (fun c _ hc => ne c (h.ina c hc)), h.ina, fun y hy => (h.oks y hy).gro g hs, h.cnt, h.num, h.wt, h.inp, fun c hc => g.zz c (h.sub c hc), hl⟩
theorem CST.c2 {D Z : Nat → Prop} {p : Nat} {x : CM} {w : World} (h : CST D Z p x w) : w.cell? ⟨p, 2, none⟩ = some (.map x.mb) := h.cel.cell 2
theorem eql_pC (a : Option Addr) (W : World) : (binOp .eql 25 (.pointer a) (.pointer none)).run Try.prog W = .ok (.bool a.isNone) W := by
 cases a <;> kernel_rfl
theorem eql_pO (a : Option Addr) (W : World) : (binOp .eql 81 (.pointer a) (.pointer none)).run Try.prog W = .ok (.bool a.isNone) W := by
 cases a <;> kernel_rfl
theorem eql_mp (b : Option Nat) (W : World) : (binOp .eql 76 (.map b) (.map none)).run Try.prog W = .ok (.bool b.isNone) W := by
 cases b <;> kernel_rfl
def newM (wait : Int) : CM := ⟨max wait 1, 0, none, none, 0, [], []⟩
theorem cnew_any {Z : Nat → Prop} (wait : Int) (w : World) (hw : wait ≤ 9223372036854775807) (hZ : ∀ c, Z c → c < w.heap.size) : Calls Try.prog 11 #[.int .i64 wait] w fun e w' => ∃ p, e = .returned (.pointer (some ⟨p, 0, none⟩)) ∧ p = w.heap.size ∧ CST (fun c => c = p) (fun c => Z c ∨ c = p) p (newM wait) w' ∧ Gro (fun _ => False) (fun c => c = p) Z (fun c => Z c ∨ c = p) w w' := by
 have hmx := max_int wait 1
 have O : Off (fun _ => False) w (w.alloc (.cells #[.int .i64 (max wait 1), .int .i64 0, .map none, .slice none 0 0] 78)) := (Off.refl _ w).alloc _
 go_enter Try.func11, Try.ntmps11
 go_wp2_with fail
 go_ret
 refine ⟨_, rfl, rfl, ?_, O, fun c hc => .inr (by omega), fun c hc => hc.imp id (fun e => by omega), fun c hc => .inl hc⟩
 exact ⟨Cel.new w _ _, fun _ => rfl, fun b hb => by simp [newM] at hb, fun o ho => by simp [newM] at ho, List.Pairwise.nil, List.Pairwise.nil, fun o ho => by simp [newM] at ho, by simp [newM], OwnG.nil _ _ _ _, fun c hc => by simp [newM, blk] at hc, fun y hy => by simp [newM] at hy, by simp [newM], by simp [newM], by simp only [newM]; omega, rfl, fun c hc => .inr hc, fun c hc => by rw [World.size_alloc]; rcases hc with hc | hc; (have := hZ c hc; omega); omega⟩
theorem clen_any {D Z : Nat → Prop} {p : Nat} {x : CM} {w : World} (h : CST D Z p x w) : Calls Try.prog 14 #[.pointer (some ⟨p, 0, none⟩)] w fun e w' => e = .returned (.int .i64 (x.t.length : Int)) ∧ w' = w := by
 have hq := eql_pC
 have c2 := h.c2
 cases hm : x.mb with
 | none =>
  have hl := h.map0 hm
  rw [hm] at c2
  rw [hl]
  clear h
  go_enter Try.func14, Try.ntmps14
  go_wp2_with fail
  go_ret
  exact ⟨rfl, rfl⟩
 | some b =>
  rw [hm] at c2
  have hl := (h.map1 b hm).2.len Try.underlying76
  rw [size_datumO] at hl
  clear h
  go_enter Try.func14, Try.ntmps14
  go_wp2_with fail
  go_ret
  exact ⟨rfl, rfl⟩
def wf64 (n : Int) : Prop := -9223372036854775808 ≤ n ∧ n ≤ 9223372036854775807
theorem keyO {n : Int} (h : wf64 n) : keyOf Try.prog 2 (.int .i64 n) = some (klO n) := by
 have hw : (Lit.int .i64 n).wf = true := WalkArith.wf_i64 h
 simp [keyOf, Try.underlying2, mapKey, klO, hw]
theorem look_any {D Z : Nat → Prop} {p : Nat} {x : CM} {w : World} (h : CST D Z p x w) {n : Int} (hn : wf64 n) : (Instr.lookup 76 (.map x.mb) (.int .i64 n) false).run Try.prog w = .ok (ptrO (fndO n x.t)) w := by
 cases hm : x.mb with
 | none =>
  rw [h.map0 hm]
  kernel_rfl
 | some b =>
  obtain ⟨v, ps, hr, hv⟩ := (h.map1 b hm).2.lookup lawO Try.underlying76 (zeroO w) (zd := .held (.pointer none)) (zp := []) rfl (key := .int .i64 n) (kl := klO n) (keyO hn)
  rw [at_datumO] at hv
  have e : v = ptrO (fndO n x.t) := by
   simp only [hRO, Option.some.injEq, Prod.mk.injEq, DataW.held.injEq] at hv
   exact hv.1
  rw [e] at hr
  exact hr
theorem cfind_any {D Z : Nat → Prop} {p : Nat} {x : CM} {w : World} (h : CST D Z p x w) {n : Int} (hn : wf64 n) : Calls Try.prog 36 #[.pointer (some ⟨p, 0, none⟩), .int .i64 n] w fun e w' => e = .returned (ptrO (fndO n x.t)) ∧ w' = w := by
 have hq := eql_pC
 have c2 := h.c2
 have hl := look_any h hn
 clear h
 go_enter Try.func36, Try.ntmps36
 go_wp2_with fail
 go_ret
 exact ⟨rfl, rfl⟩
theorem fndO_some {n : Int} {t : List OpD} {o : OpD} (h : fndO n t = some o) : o ∈ t ∧ o.id = n :=
 ⟨List.mem_of_find?_eq_some h, by have := List.find?_some h; simpa using this⟩
def noAns (x : CM) : CM := { x with aa := none, ac := 0, an := [] }
theorem canswers_any {D Z : Nat → Prop} {p : Nat} {x : CM} {w : World} (h : CST D Z p x w) : Calls Try.prog 19 #[.pointer (some ⟨p, 0, none⟩)] w fun e w' => e = .returned (.slice x.aa x.an.length x.ac) ∧ OwnG 67 11 anC w' x.aa x.ac x.an ∧ (∀ y ∈ x.an, SOk Z w' y.s) ∧ CST (fun c => D c ∧ blk x.aa ≠ some c) Z p (noAns x) w' ∧ Gro D (fun c => D c ∧ blk x.aa ≠ some c) Z Z w w' := by
 have hq := eql_pC
 have c3 : w.cell? ⟨p, 3, none⟩ = some (.slice x.aa x.an.length x.ac) := h.cel.cell 3
 have fr := h.cel.free 3
 have HC : Hid _ := h
 have C' := h.cel.set 3 (.slice none 0 0)
 have O : Off (fun c => c = p) w (w.setCell ⟨p, 3, none⟩ (.slice none 0 0)) := (Off.refl (fun c => c = p) w).setCell (p := ⟨p, 3, none⟩) (.inl rfl) _
 have HC' : Hid _ := C'
 have HO : Hid _ := O
 clear h C' O
 go_enter Try.func19, Try.ntmps19
 go_wp2_with fail
 go_ret
 have h := HC.out
 have O := HO.out
 have nan : ∀ c, blk x.aa = some c → c ≠ p := fun c hc e => h.ans.nt h.cel (by decide) (e ▸ hc)
 have OD : Off D w (w.setCell ⟨p, 3, none⟩ (.slice none 0 0)) := O.mono (fun c _ e => e ▸ h.inp)
 refine ⟨rfl, h.ans.off O (fun c _ hc e => nan c hc e), fun y hy => (h.oks y hy).off OD (fun c _ => h.sub c), ?_, OD, fun c hc => .inl hc.1, fun c hc => .inl hc, fun c hc => hc⟩
 refine ⟨HC'.out, h.map0, fun b hb => ⟨⟨(h.map1 b hb).1, fun e => ?_⟩, mo_off (h.map1 b hb).2 O (fun e => mo_ncel (h.map1 b hb).2 h.cel e.symm)⟩, fun o ho => ⟨(h.op o ho).1.off O ((h.op o ho).1.cel.nt h.cel (by decide)) ((h.op o ho).1.cnt.cel.nt h.cel (by decide)), ⟨(h.op o ho).2.1, h.ans.nt (h.op o ho).1.cel (by decide)⟩, ⟨(h.op o ho).2.2.1, h.ans.nt (h.op o ho).1.cnt.cel (by decide)⟩, (h.op o ho).2.2.2.1.off OD (fun c _ => h.sub c), fun n hn => ((h.op o ho).2.2.2.2 n hn).off OD (fun c _ => h.sub c)⟩, h.dif, h.sor, h.ids, h.few, OwnG.nil _ _ _ _, fun c hc => by simp [noAns, blk] at hc, fun y hy => by simp [noAns] at hy, by have := h.cnt; simp only [noAns, List.length_nil]; omega, h.num, h.wt, ⟨h.inp, h.ans.nt h.cel (by decide)⟩, fun c hc => h.sub c hc.1, fun c hc => Nat.lt_of_lt_of_le (h.lt c hc) O.size⟩
 obtain ⟨cur, hc⟩ := h.ans.cell_at e
 obtain ⟨es, clock, hh, -⟩ := (h.map1 b hb).2
 rw [hh] at hc
 cases hc
theorem copyS_any (s : SV) (w : World) (h : Row w s.a s.cap s.l) (hm : mayA s.abs = true) (hn : Nrm s.f) : Calls Try.prog 37 #[(.agg #[.int .i64 (s.f 0), .int .i64 (s.f 1), .int .i64 (s.f 2), .int .i64 (s.f 3), .int .i64 (s.f 4), .int .i64 (s.f 5), .int .i64 (s.f 6), .int .i64 (s.f 7), .slice s.a s.l.length s.cap])] w fun e w' => ∃ u : SV, e = .returned ((.agg #[.int .i64 (u.f 0), .int .i64 (u.f 1), .int .i64 (u.f 2), .int .i64 (u.f 3), .int .i64 (u.f 4), .int .i64 (u.f 5), .int .i64 (u.f 6), .int .i64 (u.f 7), .slice u.a u.l.length u.cap])) ∧ u.abs = s.abs ∧ Made w.heap.size w' u.a u.cap u.l ∧ Off (fun _ => False) w w' := by
 obtain ⟨f, a, cap, l⟩ := s
 obtain ⟨W, hW⟩ : ∃ W, W = (w.alloc (.cells #[.int .i64 (f 0), .int .i64 (f 1), .int .i64 (f 2), .int .i64 (f 3), .int .i64 (f 4), .int .i64 (f 5), .int .i64 (f 6), .int .i64 (f 7), .slice a l.length cap] 33)).alloc (.cells #[.int .i64 (zer 0), .int .i64 (zer 1), .int .i64 (zer 2), .int .i64 (zer 3), .int .i64 (zer 4), .int .i64 (zer 5), .int .i64 (zer 6), .int .i64 (zer 7), .slice none 0 0] 33) := ⟨_, rfl⟩
 have O : Off (fun _ => False) w W := by rw [hW]; exact ((Off.refl _ w).alloc _).alloc _
 have C0 : Cel w.heap.size 33 #[.int .i64 (f 0), .int .i64 (f 1), .int .i64 (f 2), .int .i64 (f 3), .int .i64 (f 4), .int .i64 (f 5), .int .i64 (f 6), .int .i64 (f 7), .slice a l.length cap] W := by rw [hW]; exact (Cel.new w _ _).alloc _
 have C1 : Cel (w.heap.size + 1) 33 #[.int .i64 (zer 0), .int .i64 (zer 1), .int .i64 (zer 2), .int .i64 (zer 3), .int .i64 (zer 4), .int .i64 (zer 5), .int .i64 (zer 6), .int .i64 (zer 7), .slice none 0 0] W := by rw [hW]; exact Cel.new1 w _ _ _
 have HW : Hid (((w.alloc (.cells #[.int .i64 (f 0), .int .i64 (f 1), .int .i64 (f 2), .int .i64 (f 3), .int .i64 (f 4), .int .i64 (f 5), .int .i64 (f 6), .int .i64 (f 7), .slice a l.length cap] 33)).alloc (.cells #[.int .i64 0, .int .i64 0, .int .i64 0, .int .i64 0, .int .i64 0, .int .i64 0, .int .i64 0, .int .i64 0, .slice none 0 0] 33)) = W) := hW.symm
 have HJ : Hid _ := sjoinS ⟨f, a, cap, l⟩ SV.zero W (h.off O) (Row.nil W none 0 (by omega))
 have HO : Hid _ := O
 have H1 : Hid _ := C1
 have HM : Hid (joinS (SV.abs ⟨f, a, cap, l⟩) SA.zero = SV.abs ⟨f, a, cap, l⟩) := join_zero hm hn
 obtain ⟨x0, x1, x2, x3, x4, x5, x6, x7, x8⟩ := cel9 C0
 clear hW C0 C1 O h hm hn
 show Calls Try.prog 37 #[.agg #[.int .i64 (f 0), .int .i64 (f 1), .int .i64 (f 2), .int .i64 (f 3), .int .i64 (f 4), .int .i64 (f 5), .int .i64 (f 6), .int .i64 (f 7), .slice a l.length cap]] w _
 go_enter Try.func37, Try.ntmps37
 go_upto_region 1 with fail
 rw [HW.out]
 go_wp2_with fail
 refine Calls.mono HJ.out ?_
 rintro e w1 ⟨u, rfl, hu, md, o⟩
 have D1 := H1.out.off o (fun h => h)
 have fr := D1.free
 clear x0 x1 x2 x3 x4 x5 x6 x7 x8
 obtain ⟨x0, x1, x2, x3, x4, x5, x6, x7, x8⟩ := cel9 D1
 have HU : Hid _ := hu
 have HMD : Hid _ := md
 have HO1 : Hid _ := HO.out.trans o (fun _ _ h => h)
 have HD : Hid _ := D1
 have HN : Hid (w.heap.size + 1 < W.heap.size) := H1.out.lt
 clear hu md o D1 HJ
 obtain ⟨g, a1, c1, l1⟩ := u
 go_wp2_with fail
 have E9 := HD.out.st9 g (.slice a1 l1.length c1)
 refine bodyPost_ret (results_sibs rfl rfl E9) rfl ?_
 refine ⟨⟨g, a1, c1, l1⟩, rfl, by rw [HU.out, zero_abs, HM.out], ?_, HO1.out.st9 (b := w.heap.size + 1) (.inr (by omega)) g (.slice a1 l1.length c1)⟩
 have OZ : Off (fun c => c = w.heap.size + 1) w1 (((((((((w1.setCell ⟨(w.heap.size + 1), 0, none⟩ (.int .i64 (g 0))).setCell ⟨(w.heap.size + 1), 1, none⟩ (.int .i64 (g 1))).setCell ⟨(w.heap.size + 1), 2, none⟩ (.int .i64 (g 2))).setCell ⟨(w.heap.size + 1), 3, none⟩ (.int .i64 (g 3))).setCell ⟨(w.heap.size + 1), 4, none⟩ (.int .i64 (g 4))).setCell ⟨(w.heap.size + 1), 5, none⟩ (.int .i64 (g 5))).setCell ⟨(w.heap.size + 1), 6, none⟩ (.int .i64 (g 6))).setCell ⟨(w.heap.size + 1), 7, none⟩ (.int .i64 (g 7))).setCell ⟨(w.heap.size + 1), 8, none⟩ (.slice a1 l1.length c1)) := (Off.refl (fun c => c = w.heap.size + 1) w1).st9 (b := w.heap.size + 1) (.inl rfl) g _
 exact (HMD.out.offN OZ (fun c hc e => by have := HN.out; omega)).mono (by have := HN.out; omega)
end Go.Proofs.Ytmjmgdbhmbjmaaa
