/- Items of several texts. -/
import Derived.Deep.Cut
import Derived.Deep.CutRange
import Derived.Test.YtmjmgdbhmbjmaaaECd22
namespace Go.Proofs.Ytmjmgdbhmbjmaaa
set_option maxRecDepth 100000
open Go.RowKit
theorem ce10 {b : Nat} {t : TypeId} {s0 s1 s2 s3 s4 s5 s6 s7 s8 s9 : Value} {w : World} (h : Cel b t #[s0, s1, s2, s3, s4, s5, s6, s7, s8, s9] w) : w.cell? ⟨b, 0, none⟩ = some s0 ∧ w.cell? ⟨b, 1, none⟩ = some s1 ∧ w.cell? ⟨b, 2, none⟩ = some s2 ∧ w.cell? ⟨b, 3, none⟩ = some s3 ∧ w.cell? ⟨b, 4, none⟩ = some s4 ∧ w.cell? ⟨b, 5, none⟩ = some s5 ∧ w.cell? ⟨b, 6, none⟩ = some s6 ∧ w.cell? ⟨b, 7, none⟩ = some s7 ∧ w.cell? ⟨b, 8, none⟩ = some s8 ∧ w.cell? ⟨b, 9, none⟩ = some s9 :=
 ⟨h.cell 0, h.cell 1, h.cell 2, h.cell 3, h.cell 4, h.cell 5, h.cell 6, h.cell 7, h.cell 8, h.cell 9⟩
theorem len_map {D Z : Nat → Prop} {p : Nat} {x : CM} {w : World} (h : CST D Z p x w) (ty : TypeId) : (Builtin.len_ #[76] ty #[.map x.mb]).run Try.prog w = .ok (.int .i64 (x.t.length : Int)) w := by
 cases hm : x.mb with
 | none =>
  rw [h.map0 hm]
  kernel_rfl
 | some b =>
  have hl := (h.map1 b hm).2.len Try.underlying76 ty
  rw [size_datumO] at hl
  exact hl
theorem beginA_full {x : CA} {self need : Int} {read : Bool} {key : ByteArray} {s : SA} (h : 64 ≤ x.t.length) : beginA x self need read key s = (x, 0, 7) := by unfold beginA; rw [if_pos h]
theorem beginA_arg {x : CA} {self need : Int} {read : Bool} {key : ByteArray} {s : SA} (h : ¬ 64 ≤ x.t.length) (k : (keyB key && mayA s) = false) : beginA x self need read key s = (x, 0, 1) := by unfold beginA; rw [if_neg h, if_pos k]
theorem beginA_one {x : CA} {self need : Int} {read : Bool} {key : ByteArray} {s : SA} (h : ¬ 64 ≤ x.t.length) (k : (keyB key && mayA s) = true) (hn : need ≤ 1) : beginA x self need read key s = ({ x with last := x.last + 1, an := x.an ++ [⟨x.last + 1, 0, s⟩] }, x.last + 1, 0) := by unfold beginA; rw [if_neg h, if_neg (by rw [k]; decide), if_pos hn]
theorem beginA_more {x : CA} {self need : Int} {read : Bool} {key : ByteArray} {s : SA} (h : ¬ 64 ≤ x.t.length) (k : (keyB key && mayA s) = true) (hn : ¬ need ≤ 1) : beginA x self need read key s = ({ x with last := x.last + 1, t := x.t ++ [newA (x.last + 1) read key s need self] }, x.last + 1, 0) := by unfold beginA; rw [if_neg h, if_neg (by rw [k]; decide), if_neg hn]
set_option maxHeartbeats 2000000 in
theorem begin_full {D Z : Nat → Prop} {p : Nat} {x : CM} {w : World} (h : CST D Z p x w) (hx : 64 ≤ x.t.length) (self need : Int) (read : Bool) (key : ByteArray) (s : SV) : Calls Try.prog 38 #[.pointer (some ⟨p, 0, none⟩), .int .i64 self, .int .i64 need, .bool read, (.agg #[.string key, .int .i64 (s.f 0), .int .i64 (s.f 1), .int .i64 (s.f 2), .int .i64 (s.f 3), .int .i64 (s.f 4), .int .i64 (s.f 5), .int .i64 (s.f 6), .int .i64 (s.f 7), .slice s.a s.l.length s.cap])] w fun e w' => e = .returned (.tuple #[.int .i64 0, .int .i64 7]) ∧ Off (fun _ => False) w w' := by
 have hq := eql_pC
 have O : Off (fun _ => False) w (w.alloc (.cells #[.string key, .int .i64 (s.f 0), .int .i64 (s.f 1), .int .i64 (s.f 2), .int .i64 (s.f 3), .int .i64 (s.f 4), .int .i64 (s.f 5), .int .i64 (s.f 6), .int .i64 (s.f 7), .slice s.a s.l.length s.cap] 63)) := (Off.refl _ w).alloc _
 have c2 := (h.free O).c2
 have hl := len_map (h.free O)
 have hd : decide ((64 : Int) ≤ (x.t.length : Int)) = true := decide_eq_true (by omega)
 have HO : Hid _ := O
 clear h O
 go_enter Try.func38, Try.ntmps38
 go_wp2_with fail
 go_ret2
 exact ⟨rfl, HO.out⟩
set_option maxHeartbeats 2000000 in
theorem begin_arg {D Z : Nat → Prop} {p : Nat} {x : CM} {w : World} (h : CST D Z p x w) (hx : ¬ 64 ≤ x.t.length) (self need : Int) (read : Bool) (key : ByteArray) (s : SV) (hs : Row w s.a s.cap s.l) (hm : (keyB key && mayA s.abs) = false) : Calls Try.prog 38 #[.pointer (some ⟨p, 0, none⟩), .int .i64 self, .int .i64 need, .bool read, (.agg #[.string key, .int .i64 (s.f 0), .int .i64 (s.f 1), .int .i64 (s.f 2), .int .i64 (s.f 3), .int .i64 (s.f 4), .int .i64 (s.f 5), .int .i64 (s.f 6), .int .i64 (s.f 7), .slice s.a s.l.length s.cap])] w fun e w' => e = .returned (.tuple #[.int .i64 0, .int .i64 1]) ∧ Off (fun _ => False) w w' := by
 have hq := eql_pC
 have O : Off (fun _ => False) w (w.alloc (.cells #[.string key, .int .i64 (s.f 0), .int .i64 (s.f 1), .int .i64 (s.f 2), .int .i64 (s.f 3), .int .i64 (s.f 4), .int .i64 (s.f 5), .int .i64 (s.f 6), .int .i64 (s.f 7), .slice s.a s.l.length s.cap] 63)) := (Off.refl _ w).alloc _
 have c2 := (h.free O).c2
 have hl := len_map (h.free O)
 have hd : decide ((64 : Int) ≤ (x.t.length : Int)) = false := decide_eq_false (by omega)
 have HO : Hid _ := O
 have HE : Hid _ := smayentry_any key s.f s.a s.cap s.l _ (hs.off O)
 have hm' : (keyB key && mayS s.f (cont s.l)) = false := hm
 rw [hm'] at HE
 obtain ⟨x0, x1, x2, x3, x4, x5, x6, x7, x8, x9⟩ := ce10 (Cel.new w 63 #[.string key, .int .i64 (s.f 0), .int .i64 (s.f 1), .int .i64 (s.f 2), .int .i64 (s.f 3), .int .i64 (s.f 4), .int .i64 (s.f 5), .int .i64 (s.f 6), .int .i64 (s.f 7), .slice s.a s.l.length s.cap])
 clear h O hm hm'
 go_enter Try.func38, Try.ntmps38
 go_wp2_with fail
 refine Calls.mono HE.out ?_
 rintro e w1 ⟨rfl, o1⟩
 have HO1 : Hid _ := HO.out.trans o1 (fun _ _ h => h)
 clear o1 x0 x1 x2 x3 x4 x5 x6 x7 x8 x9 c2 hl
 go_wp2_with fail
 go_ret2
 exact ⟨rfl, HO1.out⟩
structure Fresh (D0 Z0 D Z : Nat → Prop) (p : Nat) (x : CM) (o : OpD) (a : OA) (w0 w : World) : Prop where
 at_ : OpAt o w
 abs : o.abs = a
 id : o.id = x.last + 1
 age : o.age = 0
 inz : Z o.q ∧ Z o.cb
 nd : ¬ D o.q ∧ ¬ D o.cb
 lo : w0.heap.size ≤ o.q ∧ w0.heap.size ≤ o.cb
 kn : SOk Z w o.kn
 tl : ∀ n, n < 8 → SOk Z w (o.tl n)
 st : CST D Z p x w
 gro : Gro D0 D Z0 Z w0 w
theorem Fresh.step {D0 Z0 D Z : Nat → Prop} {p : Nat} {x : CM} {o o' : OpD} {a : OA} {w0 w w' : World} (F : Fresh D0 Z0 D Z p x o a w0 w) (hi : o'.id = o.id) (hg : o'.age = o.age) (hq : o'.q = o.q) (hc : o'.cb = o.cb) (A : OpAt o' w') {E : Nat → Prop} (O : Off E w w') (hE : ∀ c, E c → c = o.q ∨ c = o.cb)
  (kn : SOk Z w' o'.kn) (tl : ∀ n, n < 8 → SOk Z w' (o'.tl n)) : Fresh D0 Z0 D Z p x o' o'.abs w0 w' := by
 have ez : ∀ c, E c → Z c := fun c e => (hE c e).elim (fun e => e ▸ F.inz.1) (fun e => e ▸ F.inz.2)
 have ed : ∀ c, E c → ¬ D c := fun c e => (hE c e).elim (fun e => e ▸ F.nd.1) (fun e => e ▸ F.nd.2)
 have el : ∀ c, E c → w0.heap.size ≤ c := fun c e => (hE c e).elim (fun e => e ▸ F.lo.1) (fun e => e ▸ F.lo.2)
 refine ⟨A, rfl, hi.trans F.id, hg.trans F.age, by rw [hq, hc]; exact F.inz, by rw [hq, hc]; exact F.nd, by rw [hq, hc]; exact F.lo, kn, tl, F.st.beside (Gro.of O) ed ez (fun c hc => Nat.lt_of_lt_of_le (F.st.lt c hc) O.size), ⟨F.gro.off.trans O (fun i hi e => by have := el i e; omega), F.gro.new, F.gro.zd, F.gro.zz⟩⟩
theorem Fresh.map {D0 Z0 D Z : Nat → Prop} {p : Nat} {x : CM} {o : OpD} {a : OA} {w0 w : World} (F : Fresh D0 Z0 D Z p x o a w0 w) (hm : x.mb = none) :
  ∃ D' Z', Fresh D0 Z0 D' Z' p { x with mb := some w.heap.size } o a w0 ((w.alloc (.map #[] 0)).setCell ⟨p, 2, none⟩ (.map (some w.heap.size))) := by
 have h := F.st
 have O1 : Off (fun _ => False) w (w.alloc (.map #[] 0)) := (Off.refl _ w).alloc _
 have O2 : Off (fun c => c = p) (w.alloc (.map #[] 0)) ((w.alloc (.map #[] 0)).setCell ⟨p, 2, none⟩ (.map (some w.heap.size))) := (Off.refl (fun c => c = p) _).setCell (p := ⟨p, 2, none⟩) (.inl rfl) _
 have O : Off (fun c => c = p) w ((w.alloc (.map #[] 0)).setCell ⟨p, 2, none⟩ (.map (some w.heap.size))) := (O1.mono (fun _ _ h => h.elim)).trans O2 (fun _ _ h => h)
 have M : (w.alloc (.map #[] 0)).ownsMap Try.prog 2 hRO w.heap.size 0 (datumO []) := World.ownsMap_made w Try.prog 2 hRO
 generalize hW : (w.alloc (.map #[] 0)).setCell ⟨p, 2, none⟩ (.map (some w.heap.size)) = w' at O O2 ⊢
 have C : Cel p 78 #[.int .i64 x.wait, .int .i64 x.last, .map (some w.heap.size), .slice x.aa x.an.length x.ac] w' := by
  have := (h.cel.off O1 (fun h => h)).set 2 (.map (some w.heap.size))
  rw [hW] at this
  exact this
 have ht := h.map0 hm
 have G : Gro D (fun c => D c ∨ c = w.heap.size) Z (fun c => Z c ∨ c = w.heap.size) w w' := ⟨O.mono (fun c _ e => e ▸ h.inp), fun c hc => hc.imp (fun z => z) (fun e => by omega), fun c hc => hc.imp (fun z => z) (fun e => by omega), fun c hc => .inl hc⟩
 have hs : w.heap.size + 1 ≤ w'.heap.size := by have := O2.size; rw [World.size_alloc] at this; exact this
 have np : o.q ≠ p ∧ o.cb ≠ p := ⟨F.at_.cel.nt h.cel (by decide), F.at_.cnt.cel.nt h.cel (by decide)⟩
 refine ⟨_, _, ⟨F.at_.off O np.1 np.2, F.abs, F.id, F.age, ⟨.inl F.inz.1, .inl F.inz.2⟩, ⟨fun e => e.elim F.nd.1 (fun e => by have := F.at_.cel.lt; omega), fun e => e.elim F.nd.2 (fun e => by have := F.at_.cnt.cel.lt; omega)⟩, F.lo, F.kn.gro G h.sub, fun n hn => (F.tl n hn).gro G h.sub, ?_, F.gro.trans G⟩⟩
 refine ⟨C, fun e => by simp at e, fun b hb => ?_, fun y hy => by simp [ht] at hy, h.dif, h.sor, h.ids, h.few, h.ans.off O (fun c _ hc e => h.ans.nt h.cel (by decide) (e ▸ hc)), fun c hc => .inl (h.ina c hc), fun y hy => (h.oks y hy).gro G h.sub, h.cnt, h.num, h.wt, .inl h.inp, fun c hc => hc.imp (h.sub c) (fun z => z), fun c hc => hc.elim (fun z => by have := h.lt c z; omega) (fun e => by omega)⟩
 simp only [Option.some.injEq] at hb
 subst hb
 refine ⟨.inr rfl, ?_⟩
 simp only [ht]
 exact mo_off M O2 (fun e => by have := h.cel.lt; omega)
theorem Fresh.add {D0 Z0 D Z : Nat → Prop} {p b : Nat} {x : CM} {o : OpD} {a : OA} {w0 w w5 : World} (F : Fresh D0 Z0 D Z p x o a w0 w) (hb : x.mb = some b) (hx : ¬ 64 ≤ x.t.length) (hl : x.last < 1000000) (h0 : 0 ≤ x.last) {n : Nat}
  (own5 : w5.ownsMap Try.prog 2 hRO b n ((datumO x.t).put (klO (x.last + 1)) (.held (.pointer (some ⟨o.q, 0, none⟩))))) (o5 : Off (fun c => c = b) (w.setCell ⟨p, 1, none⟩ (.int .i64 (x.last + 1))) w5) :
  ∃ D', CST D' Z p { x with last := x.last + 1, t := x.t ++ [o] } w5 ∧ Gro D0 D' Z0 Z w0 w5 ∧ OpAt o w5 := by
 have h := F.st
 have O1 : Off (fun c => c = p) w (w.setCell ⟨p, 1, none⟩ (.int .i64 (x.last + 1))) := (Off.refl (fun c => c = p) w).setCell (p := ⟨p, 1, none⟩) (.inl rfl) _
 have O : Off (fun c => c = p ∨ c = b) w w5 := (O1.mono (fun _ _ e => .inl e)).trans o5 (fun _ _ e => .inr e)
 have hDb := (h.map1 b hb).1
 have hpb := mo_ncel (h.map1 b hb).2 h.cel
 have OD : Off D w w5 := O.mono (fun c _ e => e.elim (fun e => e ▸ h.inp) (fun e => e ▸ hDb))
 have G : Gro D D Z Z w w5 := Gro.of OD
 have keep : ∀ o', OpAt o' w → OpAt o' w5 := fun o' ho' => ho'.off O (fun e => e.elim (ho'.cel.nt h.cel (by decide)) (mo_ncel (h.map1 b hb).2 ho'.cel)) (fun e => e.elim (ho'.cnt.cel.nt h.cel (by decide)) (mo_ncel (h.map1 b hb).2 ho'.cnt.cel))
 have hlast : ∀ y ∈ x.t, y.id < o.id := fun y hy => by have := (h.ids y hy).2.1; rw [F.id]; omega
 refine ⟨fun c => D c ∨ c = o.q ∨ c = o.cb, ?_, ?_, keep o F.at_⟩
 ·refine ⟨?_, fun e => (by simp only [hb] at e; cases e), fun b' hb' => ?_, fun y hy => ?_, ?_, ?_, fun y hy => ?_, by simp only [List.length_append, List.length_singleton]; omega, h.ans.off O (fun c _ hc e => ?_), fun c hc => .inl (h.ina c hc), fun y hy => (h.oks y hy).gro G h.sub, by have := h.cnt; simp only [List.length_append, List.length_singleton]; omega, by show x.last + 1 ≤ _; omega, h.wt, .inl h.inp, fun c hc => hc.elim (h.sub c) (fun e => e.elim (fun e => e ▸ F.inz.1) (fun e => e ▸ F.inz.2)), fun c hc => Nat.lt_of_lt_of_le (h.lt c hc) O.size⟩
  ·exact (h.cel.set 1 (.int .i64 (x.last + 1))).off o5 hpb
  ·simp only [hb, Option.some.injEq] at hb'
   subst hb'
   refine ⟨.inl hDb, ?_⟩
   have e : (klO (x.last + 1), o.q) = (klO o.id, o.q) := by rw [F.id]
   rw [show x.last + 1 = o.id from F.id.symm, put_datumO hlast] at own5
   have := mo_tight own5
   rw [size_datumO] at this
   exact this
  ·rcases List.mem_append.1 hy with hy | hy
   ·obtain ⟨k1, k2, k3, k4, k5⟩ := h.op y hy
    exact ⟨keep y k1, .inl k2, .inl k3, k4.gro G h.sub, fun n hn => (k5 n hn).gro G h.sub⟩
   ·rw [List.mem_singleton] at hy
    rw [hy]
    exact ⟨keep o F.at_, .inr (.inl rfl), .inr (.inr rfl), F.kn.gro G h.sub, fun n hn => (F.tl n hn).gro G h.sub⟩
  ·refine List.pairwise_append.2 ⟨h.dif, List.pairwise_singleton _ _, fun y hy z hz => ?_⟩
   rw [List.mem_singleton] at hz
   rw [hz]
   exact ⟨fun e => F.nd.1 (e ▸ (h.op y hy).2.1), fun e => F.nd.2 (e ▸ (h.op y hy).2.2.1)⟩
  ·refine List.pairwise_append.2 ⟨h.sor, List.pairwise_singleton _ _, fun y hy z hz => ?_⟩
   rw [List.mem_singleton] at hz
   rw [hz]
   exact hlast y hy
  ·rcases List.mem_append.1 hy with hy | hy
   ·have := h.ids y hy
    exact ⟨this.1, by show _ ≤ x.last + 1; omega, this.2.2⟩
   ·rw [List.mem_singleton] at hy
    have := h.wt
    rw [hy, F.id, F.age]
    exact ⟨by omega, by show _ ≤ x.last + 1; omega, by omega, by show 0 ≤ x.wait; omega⟩
  ·rcases e with e | e
   ·exact h.ans.nt h.cel (by decide) (e ▸ hc)
   ·obtain ⟨cur, hc'⟩ := h.ans.cell_at (e ▸ hc)
    obtain ⟨es, clock, hh, -⟩ := (h.map1 b hb).2
    rw [hh] at hc'
    cases hc'
 ·exact ⟨F.gro.off.trans OD (fun i hi d => (F.gro.new i d).elim (fun z => z) (fun e => by omega)), fun c hc => hc.elim (F.gro.new c) (fun e => .inr (e.elim (fun e => e ▸ F.lo.1) (fun e => e ▸ F.lo.2))), F.gro.zd, F.gro.zz⟩
theorem newA_w {id : Int} {key : ByteArray} {s : SA} {need self : Int} : newA id false key s need self = ⟨id, false, key, s, fun _ => SA.zero, need, adds (fun _ => false) self, 0⟩ := by
 unfold newA
 congr 1
theorem newA_n {id : Int} {key : ByteArray} {s : SA} {need self : Int} (hk : okN self = false) : newA id true key s need self = ⟨id, true, key, s, fun _ => SA.zero, need, adds (fun _ => false) self, 0⟩ := by
 unfold newA
 rw [hk]
 congr 1
end Go.Proofs.Ytmjmgdbhmbjmaaa
