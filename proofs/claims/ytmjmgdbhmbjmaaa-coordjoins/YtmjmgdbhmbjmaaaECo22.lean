/- Items of several texts. -/
import Derived.Lib.SlKeysI
import Derived.Deep.MidRow
import Derived.Maps.OwnSet
import Derived.Maps.AppendAt
import Derived.Test.YtmjmgdbhmbjmaaaECt22
import Derived.Test.YtmjmgdbhmbjmaaaEJoi
import Derived.Test.YtmjmgdbhmbjmaaaELiv
import Derived.Test.YtmjmgdbhmbjmaaaESam
import Derived.Test.YtmjmgdbhmbjmaaaEGSm
namespace Go.Proofs.Ytmjmgdbhmbjmaaa
set_option maxRecDepth 100000
open Go.RowKit
structure SV where
 f : Nat → Int
 a : Option Addr
 cap : Nat
 l : List V
structure SA where
 f : Nat → Int
 l : List A
def SV.abs (s : SV) : SA := ⟨s.f, cont s.l⟩
def SV.zero : SV := ⟨zer, none, 0, []⟩
def SA.zero : SA := ⟨zer, []⟩
theorem zero_abs : SV.zero.abs = SA.zero := rfl
def sv9 (s : SV) : List Value := [.int .i64 (s.f 0), .int .i64 (s.f 1), .int .i64 (s.f 2), .int .i64 (s.f 3), .int .i64 (s.f 4), .int .i64 (s.f 5), .int .i64 (s.f 6), .int .i64 (s.f 7), .slice s.a s.l.length s.cap]
theorem sv9_len (s : SV) : (sv9 s).length = 9 := rfl
def joinS (x y : SA) : SA := ⟨joinV x.f y.f x.l y.l, joinL x.f y.f x.l y.l⟩
def sameSA (x y : SA) : Bool := sameS x.f y.f x.l y.l
def mayA (x : SA) : Bool := mayS x.f x.l
def Nrm (f : Nat → Int) : Prop := ∀ j, 8 ≤ j → f j = 0
theorem nrm_zer : Nrm zer := fun _ _ => rfl
theorem nrm_ext {f g : Nat → Int} (h : Nrm f) (k : Nrm g) (e : ∀ j, j < 8 → f j = g j) : f = g := funext fun j => by
 rcases Nat.lt_or_ge j 8 with hj | hj
 ·exact e j hj
 ·rw [h j hj, k j hj]
theorem nrm_join {x y : SA} (h1 : Nrm x.f) (h2 : Nrm y.f) : Nrm (joinS x y).f := by
 show Nrm (joinV _ _ _ _)
 unfold joinV
 split
 ·intro j hj
  simp [maxV, h1 j hj, h2 j hj]
 ·exact nrm_zer
theorem may_zero : mayA SA.zero = true := may_yes ⟨fun j _ => by simp [SA.zero, zer], by simp [SA.zero], by simp [SA.zero], by simp [SA.zero]⟩
theorem nc_zer (x : A) : nc zer x = true := by
 have e : coversB zer x.node x.num = false := by
  unfold coversB
  exact decide_eq_false (fun ⟨_, _, h1, h2⟩ => by simp only [zer] at h2; omega)
 unfold nc
 rw [e]
 rfl
theorem join_zero {x : SA} (h : mayA x = true) (hn : Nrm x.f) : joinS x SA.zero = x := by
 have h' : mayS x.f x.l = true := h
 have z' : mayS zer [] = true := may_zero
 have m := may_iff.1 h'
 have e : joinS x SA.zero = ⟨maxV x.f zer, (mergeA (nc zer) (nc x.f) x.l []).take 16⟩ := by simp [joinS, joinV, joinL, SA.zero, h', z']
 rw [e, mergeA_nil _ _ _ _ (.inr rfl)]
 have e1 : maxV x.f zer = x.f := nrm_ext (fun j hj => by simp [maxV, hn j hj, zer]) hn (fun j hj => by have := (m.seen j hj).1; simp [maxV, zer]; omega)
 have e2 : x.l.filter (nc zer) = x.l := List.filter_eq_self.2 fun a _ => nc_zer a
 rw [e1, e2]
 simp only [List.filter_nil, List.append_nil, List.take_of_length_le m.few]
theorem join_self {x : SA} (h : mayA x = true) : joinS x x = x := by
 have h' : mayS x.f x.l = true := h
 have m := may_iff.1 h'
 have e : joinS x x = ⟨maxV x.f x.f, (mergeA (nc x.f) (nc x.f) x.l x.l).take 16⟩ := by simp [joinS, joinV, joinL, h']
 have e1 : maxV x.f x.f = x.f := by funext j; simp [maxV]
 rw [e, merge_self, e1, List.take_of_length_le m.few]
theorem sameSA_refl (x : SA) : sameSA x x = true := by simp [sameSA, sameS, eqB, sameR]
structure SOk (Z : Nat → Prop) (w : World) (s : SV) : Prop where
 row : Row w s.a s.cap s.l
 nrm : Nrm s.f
 out : ∀ v ∈ s.l, (∀ c, blk s.a = some c → ¬ Z c) ∧ (v.data ≠ [] → ∀ c, blk v.ad = some c → ¬ Z c)
theorem Src.offZ {D : Nat → Prop} {w w' : World} {t : Option Addr} {c : Nat} {bs : List Nat} (h : Src w t c bs) (o : Off D w w') (hD : bs ≠ [] → ∀ x, x < w.heap.size → blk t = some x → ¬ D x) : Src w' t c bs := by
 rcases h.is with e | ⟨ad, rfl, h0⟩
 ·exact ⟨.inl e⟩
 ·refine ⟨.inr ⟨ad, rfl, fun j u hj => ?_⟩⟩
  have h1 := h0 j u hj
  rw [← h1]
  refine World.cell?_of_block (o.block _ (cell_lt h1) (hD (fun e => ?_) _ (cell_lt h1) (by simp only [blk, Option.map_some, Option.some.injEq]; unfold Addr.add; split <;> rfl)))
  subst e
  simp [vl] at hj
theorem src_ltZ {w : World} {t : Option Addr} {c : Nat} {bs : List Nat} (h : Src w t c bs) (hb : bs ≠ []) : ∀ x, blk t = some x → x < w.heap.size := by
 rcases h.is with ⟨-, e, -⟩ | ⟨ad, rfl, h0⟩
 ·exact absurd e hb
 ·intro x hx
  cases bs with
  | nil => exact absurd rfl hb
  | cons y r =>
   have := cell_lt (h0 0 _ rfl)
   simp [blk] at hx
   rw [← hx]
   exact this
theorem SOk.lt {Z : Nat → Prop} {w : World} {s : SV} (h : SOk Z w s) : ∀ v ∈ s.l, (∀ c, blk s.a = some c → c < w.heap.size) ∧ (v.data ≠ [] → ∀ c, blk v.ad = some c → c < w.heap.size) := by
 intro v hv
 obtain ⟨i, hi⟩ := List.getElem?_of_mem hv
 obtain ⟨b, off, e, h1, h2⟩ := h.row.at_ i v hi
 refine ⟨fun c hc => ?_, fun hb => src_ltZ h2.src hb⟩
 rw [e] at hc
 simp [blk] at hc
 rw [← hc]
 exact cell_lt h1.c0
theorem SOk.off {Z D : Nat → Prop} {w w' : World} {s : SV} (h : SOk Z w s) (o : Off D w w') (hD : ∀ c, c < w.heap.size → D c → Z c) : SOk Z w' s :=
 ⟨⟨h.row.len, h.row.bound, fun i v hi => by
  obtain ⟨b, off, e, h1, h2⟩ := h.row.at_ i v hi
  have hm := List.mem_of_getElem? hi
  refine ⟨b, off, e, h1.off o (fun hb d => (h.out v hm).1 b (by rw [e]; rfl) (hD b hb d)), ⟨h2.src.offZ o (fun hb x hx ex d => (h.out v hm).2 hb x ex (hD x hx d)), h2.lt, h2.n0, h2.n1, h2.m0, h2.m1, h2.len⟩⟩⟩, h.nrm, h.out⟩
theorem SOk.free {Z : Nat → Prop} {w w' : World} {s : SV} (h : SOk Z w s) (o : Off (fun _ => False) w w') : SOk Z w' s := h.off o (fun _ _ h => h.elim)
theorem SOk.to {Z Z' : Nat → Prop} {w : World} {s : SV} (h : SOk Z w s) (hZ : ∀ c, c < w.heap.size → Z' c → Z c) : SOk Z' w s :=
 ⟨h.row, h.nrm, fun v hv => ⟨fun c hc z => (h.out v hv).1 c hc (hZ c ((h.lt v hv).1 c hc) z), fun hb c hc z => (h.out v hv).2 hb c hc (hZ c ((h.lt v hv).2 hb c hc) z)⟩⟩
theorem SOk.made {Z : Nat → Prop} {N : Nat} {w : World} {s : SV} (h : Made N w s.a s.cap s.l) (hn : Nrm s.f) (hZ : ∀ c, Z c → c < N) : SOk Z w s :=
 ⟨h.row, hn, fun v hv => ⟨fun c hc z => by have := h.lo c hc; have := hZ c z; omega, fun _ c hc z => by have := ((h.own v hv).2 c hc).1; have := hZ c z; omega⟩⟩
theorem SOk.zero (Z : Nat → Prop) (w : World) : SOk Z w SV.zero := ⟨Row.nil w none 0 (by omega), nrm_zer, fun v hv => by simp [SV.zero] at hv⟩
theorem sjoinS (s r : SV) (w : World) (h1 : Row w s.a s.cap s.l) (h2 : Row w r.a r.cap r.l) :
  Calls Try.prog 58 #[(.agg #[.int .i64 (s.f 0), .int .i64 (s.f 1), .int .i64 (s.f 2), .int .i64 (s.f 3), .int .i64 (s.f 4), .int .i64 (s.f 5), .int .i64 (s.f 6), .int .i64 (s.f 7), .slice s.a s.l.length s.cap]), (.agg #[.int .i64 (r.f 0), .int .i64 (r.f 1), .int .i64 (r.f 2), .int .i64 (r.f 3), .int .i64 (r.f 4), .int .i64 (r.f 5), .int .i64 (r.f 6), .int .i64 (r.f 7), .slice r.a r.l.length r.cap])] w fun e w' => ∃ u : SV, e = .returned ((.agg #[.int .i64 (u.f 0), .int .i64 (u.f 1), .int .i64 (u.f 2), .int .i64 (u.f 3), .int .i64 (u.f 4), .int .i64 (u.f 5), .int .i64 (u.f 6), .int .i64 (u.f 7), .slice u.a u.l.length u.cap])) ∧ u.abs = joinS s.abs r.abs ∧ Made w.heap.size w' u.a u.cap u.l ∧ Off (fun _ => False) w w' :=
 (sjoin_any s.f r.f s.a r.a s.cap r.cap s.l r.l w h1 h2).mono fun e w' ⟨h, a', c', l, e1, e2, e3, md, o⟩ => ⟨⟨h, a', c', l⟩, e1, by show SA.mk h (cont l) = _; rw [e2, e3]; rfl, md, o⟩
theorem ssameS (s r : SV) (w : World) (h1 : Row w s.a s.cap s.l) (h2 : Row w r.a r.cap r.l) :
  Calls Try.prog 63 #[(.agg #[.int .i64 (s.f 0), .int .i64 (s.f 1), .int .i64 (s.f 2), .int .i64 (s.f 3), .int .i64 (s.f 4), .int .i64 (s.f 5), .int .i64 (s.f 6), .int .i64 (s.f 7), .slice s.a s.l.length s.cap]), (.agg #[.int .i64 (r.f 0), .int .i64 (r.f 1), .int .i64 (r.f 2), .int .i64 (r.f 3), .int .i64 (r.f 4), .int .i64 (r.f 5), .int .i64 (r.f 6), .int .i64 (r.f 7), .slice r.a r.l.length r.cap])] w fun e w' => e = .returned (.bool (sameSA s.abs r.abs)) ∧ Off (fun _ => False) w w' :=
 ssame_any s.f r.f s.a r.a s.cap r.cap s.l r.l w h1 h2
structure OpD where
 id : Int
 q : Nat
 read : Bool
 key : ByteArray
 kn : SV
 tl : Nat → SV
 cb : Nat
 need : Int
 who : Nat → Bool
 age : Int
def told72 (o : OpD) : List Value := sv9 (o.tl 0) ++ (sv9 (o.tl 1) ++ (sv9 (o.tl 2) ++ (sv9 (o.tl 3) ++ (sv9 (o.tl 4) ++ (sv9 (o.tl 5) ++ (sv9 (o.tl 6) ++ (sv9 (o.tl 7))))))))
def opL (o : OpD) : List Value := [.bool o.read, .string o.key] ++ (sv9 o.kn ++ (told72 o ++ [.pointer (some ⟨o.cb, 0, none⟩), .int .i64 o.age]))
theorem Cel.range {b : Nat} {t : TypeId} {A B C : List Value} {w : World} (h : Cel b t (A ++ (B ++ C)).toArray w) {o : Nat} (ho : A.length = o) : w.rangeAt b o B := by
 intro j v hj
 have hl : j < B.length := (List.getElem?_eq_some_iff.1 hj).1
 rw [h.cell, List.getElem?_toArray, List.getElem?_append_right (by omega), List.getElem?_append_left (by omega), ← hj]
 congr 1
 omega
def st9A (w : World) (b o : Nat) (s : SV) : World :=
 ((((((((w.setCell ⟨b, o, none⟩ (.int .i64 (s.f 0))).setCell ⟨b, o + 1, none⟩ (.int .i64 (s.f 1))).setCell ⟨b, o + 2, none⟩ (.int .i64 (s.f 2))).setCell ⟨b, o + 3, none⟩ (.int .i64 (s.f 3))).setCell ⟨b, o + 4, none⟩ (.int .i64 (s.f 4))).setCell ⟨b, o + 5, none⟩ (.int .i64 (s.f 5))).setCell ⟨b, o + 6, none⟩ (.int .i64 (s.f 6))).setCell ⟨b, o + 7, none⟩ (.int .i64 (s.f 7))).setCell ⟨b, o + 8, none⟩ (.slice s.a s.l.length s.cap)
theorem set_mid (A B C : List Value) (o i : Nat) (u : Value) (ho : A.length = o) (hi : i < B.length) : (A ++ (B ++ C)).toArray.setIfInBounds (o + i) u = (A ++ (B.set i u ++ C)).toArray := by
 rw [List.setIfInBounds_toArray, List.set_append_right _ _ (by omega), List.set_append_left _ _ (by omega)]
 congr 4
 omega
theorem Cel.set9 {b : Nat} {t : TypeId} {A B C : List Value} {w : World} (h : Cel b t (A ++ (B ++ C)).toArray w) {o : Nat} (ho : A.length = o) (hB : B.length = 9) (g : SV) : Cel b t (A ++ (sv9 g ++ C)).toArray (st9A w b o g) := by
 obtain ⟨b0, b1, b2, b3, b4, b5, b6, b7, b8, rfl⟩ : ∃ b0 b1 b2 b3 b4 b5 b6 b7 b8, B = [b0, b1, b2, b3, b4, b5, b6, b7, b8] := by
  match B, hB with
  | [b0, b1, b2, b3, b4, b5, b6, b7, b8], _ => exact ⟨b0, b1, b2, b3, b4, b5, b6, b7, b8, rfl⟩
 have k0 := h.set (o + 0) (.int .i64 (g.f 0))
 rw [set_mid _ _ _ _ _ _ ho (by simp)] at k0
 have k1 := k0.set (o + 1) (.int .i64 (g.f 1))
 rw [set_mid _ _ _ _ _ _ ho (by simp)] at k1
 have k2 := k1.set (o + 2) (.int .i64 (g.f 2))
 rw [set_mid _ _ _ _ _ _ ho (by simp)] at k2
 have k3 := k2.set (o + 3) (.int .i64 (g.f 3))
 rw [set_mid _ _ _ _ _ _ ho (by simp)] at k3
 have k4 := k3.set (o + 4) (.int .i64 (g.f 4))
 rw [set_mid _ _ _ _ _ _ ho (by simp)] at k4
 have k5 := k4.set (o + 5) (.int .i64 (g.f 5))
 rw [set_mid _ _ _ _ _ _ ho (by simp)] at k5
 have k6 := k5.set (o + 6) (.int .i64 (g.f 6))
 rw [set_mid _ _ _ _ _ _ ho (by simp)] at k6
 have k7 := k6.set (o + 7) (.int .i64 (g.f 7))
 rw [set_mid _ _ _ _ _ _ ho (by simp)] at k7
 have k8 := k7.set (o + 8) (.slice g.a g.l.length g.cap)
 rw [set_mid _ _ _ _ _ _ ho (by simp)] at k8
 exact k8
theorem Off.st9A {D : Nat → Prop} {a w : World} {b : Nat} (h : Off D a w) (hb : D b ∨ a.heap.size ≤ b) (o : Nat) (g : SV) : Off D a (Go.Proofs.Ytmjmgdbhmbjmaaa.st9A w b o g) :=
 ((((((((h.setCell hb _).setCell hb _).setCell hb _).setCell hb _).setCell hb _).setCell hb _).setCell hb _).setCell hb _).setCell hb _
theorem Cel.st9Ao {b c : Nat} {t : TypeId} {cs : Array Value} {w : World} (h : Cel c t cs w) (hb : c ≠ b) (o : Nat) (g : SV) : Cel c t cs (Go.Proofs.Ytmjmgdbhmbjmaaa.st9A w b o g) :=
 ((((((((h.other hb _).other hb _).other hb _).other hb _).other hb _).other hb _).other hb _).other hb _).other hb _
theorem range9 {w : World} {b o : Nat} {s : SV} (h : w.rangeAt b o (sv9 s)) : w.cell? ⟨b, o, none⟩ = some (.int .i64 (s.f 0)) ∧ w.cell? ⟨b, o + 1, none⟩ = some (.int .i64 (s.f 1)) ∧ w.cell? ⟨b, o + 2, none⟩ = some (.int .i64 (s.f 2)) ∧ w.cell? ⟨b, o + 3, none⟩ = some (.int .i64 (s.f 3)) ∧ w.cell? ⟨b, o + 4, none⟩ = some (.int .i64 (s.f 4)) ∧ w.cell? ⟨b, o + 5, none⟩ = some (.int .i64 (s.f 5)) ∧ w.cell? ⟨b, o + 6, none⟩ = some (.int .i64 (s.f 6)) ∧ w.cell? ⟨b, o + 7, none⟩ = some (.int .i64 (s.f 7)) ∧ w.cell? ⟨b, o + 8, none⟩ = some (.slice s.a s.l.length s.cap) :=
 ⟨h 0 _ rfl, h 1 _ rfl, h 2 _ rfl, h 3 _ rfl, h 4 _ rfl, h 5 _ rfl, h 6 _ rfl, h 7 _ rfl, h 8 _ rfl⟩
structure OpAt (o : OpD) (w : World) : Prop where
 cel : Cel o.q 86 (opL o).toArray w
 cnt : Cnt o.cb o.need o.who w
theorem OpAt.off {D : Nat → Prop} {o : OpD} {w w' : World} (h : OpAt o w) (k : Off D w w') (h1 : ¬ D o.q) (h2 : ¬ D o.cb) : OpAt o w' := ⟨h.cel.off k h1, h.cnt.off k h2⟩
theorem OpAt.c0 {o : OpD} {w : World} (h : OpAt o w) : w.cell? ⟨o.q, 0, none⟩ = some (.bool o.read) := h.cel.cell 0
theorem OpAt.c1 {o : OpD} {w : World} (h : OpAt o w) : w.cell? ⟨o.q, 1, none⟩ = some (.string o.key) := h.cel.cell 1
theorem OpAt.c83 {o : OpD} {w : World} (h : OpAt o w) : w.cell? ⟨o.q, 83, none⟩ = some (.pointer (some ⟨o.cb, 0, none⟩)) := h.cel.cell 83
theorem OpAt.kn {o : OpD} {w : World} (h : OpAt o w) : w.rangeAt o.q 2 (sv9 o.kn) := Cel.range (A := [.bool o.read, .string o.key]) (B := sv9 o.kn) h.cel rfl
theorem OpAt.told {o : OpD} {w : World} (h : OpAt o w) : w.rangeAt o.q 11 (told72 o) := Cel.range (A := [.bool o.read, .string o.key] ++ sv9 o.kn) (B := told72 o) (C := [.pointer (some ⟨o.cb, 0, none⟩), .int .i64 o.age]) h.cel rfl
def setKn (o : OpD) (s : SV) : OpD := { o with kn := s }
def setTl (o : OpD) (n : Nat) (s : SV) : OpD := { o with tl := fun j => if j = n then s else o.tl j }
def setWho (o : OpD) (x : Int) : OpD := { o with who := adds o.who x }
theorem OpAt.setKn {o : OpD} {w : World} (h : OpAt o w) (hq : o.cb ≠ o.q) (s : SV) : OpAt (Go.Proofs.Ytmjmgdbhmbjmaaa.setKn o s) (st9A w o.q 2 s) :=
 ⟨Cel.set9 (A := [.bool o.read, .string o.key]) (B := sv9 o.kn) h.cel rfl rfl s, ⟨h.cnt.cel.st9Ao hq 2 s⟩⟩
theorem OpAt.setTl {o : OpD} {w : World} (h : OpAt o w) (hq : o.cb ≠ o.q) {n O : Nat} (hn : n < 8) (hO : O = 11 + 9 * n) (s : SV) : OpAt (Go.Proofs.Ytmjmgdbhmbjmaaa.setTl o n s) (st9A w o.q O s) := by
 subst hO
 refine ⟨?_, ⟨h.cnt.cel.st9Ao hq _ s⟩⟩
 obtain rfl | rfl | rfl | rfl | rfl | rfl | rfl | rfl : n = 0 ∨ n = 1 ∨ n = 2 ∨ n = 3 ∨ n = 4 ∨ n = 5 ∨ n = 6 ∨ n = 7 := by omega
 ·exact Cel.set9 (A := [.bool o.read, .string o.key] ++ sv9 o.kn) (B := sv9 (o.tl 0)) (C := sv9 (o.tl 1) ++ (sv9 (o.tl 2) ++ (sv9 (o.tl 3) ++ (sv9 (o.tl 4) ++ (sv9 (o.tl 5) ++ (sv9 (o.tl 6) ++ (sv9 (o.tl 7) ++ ([.pointer (some ⟨o.cb, 0, none⟩), .int .i64 o.age])))))))) h.cel rfl rfl s
 ·exact Cel.set9 (A := ([.bool o.read, .string o.key] ++ sv9 o.kn) ++ sv9 (o.tl 0)) (B := sv9 (o.tl 1)) (C := sv9 (o.tl 2) ++ (sv9 (o.tl 3) ++ (sv9 (o.tl 4) ++ (sv9 (o.tl 5) ++ (sv9 (o.tl 6) ++ (sv9 (o.tl 7) ++ ([.pointer (some ⟨o.cb, 0, none⟩), .int .i64 o.age]))))))) h.cel rfl rfl s
 ·exact Cel.set9 (A := (([.bool o.read, .string o.key] ++ sv9 o.kn) ++ sv9 (o.tl 0)) ++ sv9 (o.tl 1)) (B := sv9 (o.tl 2)) (C := sv9 (o.tl 3) ++ (sv9 (o.tl 4) ++ (sv9 (o.tl 5) ++ (sv9 (o.tl 6) ++ (sv9 (o.tl 7) ++ ([.pointer (some ⟨o.cb, 0, none⟩), .int .i64 o.age])))))) h.cel rfl rfl s
 ·exact Cel.set9 (A := ((([.bool o.read, .string o.key] ++ sv9 o.kn) ++ sv9 (o.tl 0)) ++ sv9 (o.tl 1)) ++ sv9 (o.tl 2)) (B := sv9 (o.tl 3)) (C := sv9 (o.tl 4) ++ (sv9 (o.tl 5) ++ (sv9 (o.tl 6) ++ (sv9 (o.tl 7) ++ ([.pointer (some ⟨o.cb, 0, none⟩), .int .i64 o.age]))))) h.cel rfl rfl s
 ·exact Cel.set9 (A := (((([.bool o.read, .string o.key] ++ sv9 o.kn) ++ sv9 (o.tl 0)) ++ sv9 (o.tl 1)) ++ sv9 (o.tl 2)) ++ sv9 (o.tl 3)) (B := sv9 (o.tl 4)) (C := sv9 (o.tl 5) ++ (sv9 (o.tl 6) ++ (sv9 (o.tl 7) ++ ([.pointer (some ⟨o.cb, 0, none⟩), .int .i64 o.age])))) h.cel rfl rfl s
 ·exact Cel.set9 (A := ((((([.bool o.read, .string o.key] ++ sv9 o.kn) ++ sv9 (o.tl 0)) ++ sv9 (o.tl 1)) ++ sv9 (o.tl 2)) ++ sv9 (o.tl 3)) ++ sv9 (o.tl 4)) (B := sv9 (o.tl 5)) (C := sv9 (o.tl 6) ++ (sv9 (o.tl 7) ++ ([.pointer (some ⟨o.cb, 0, none⟩), .int .i64 o.age]))) h.cel rfl rfl s
 ·exact Cel.set9 (A := (((((([.bool o.read, .string o.key] ++ sv9 o.kn) ++ sv9 (o.tl 0)) ++ sv9 (o.tl 1)) ++ sv9 (o.tl 2)) ++ sv9 (o.tl 3)) ++ sv9 (o.tl 4)) ++ sv9 (o.tl 5)) (B := sv9 (o.tl 6)) (C := sv9 (o.tl 7) ++ ([.pointer (some ⟨o.cb, 0, none⟩), .int .i64 o.age])) h.cel rfl rfl s
 ·exact Cel.set9 (A := ((((((([.bool o.read, .string o.key] ++ sv9 o.kn) ++ sv9 (o.tl 0)) ++ sv9 (o.tl 1)) ++ sv9 (o.tl 2)) ++ sv9 (o.tl 3)) ++ sv9 (o.tl 4)) ++ sv9 (o.tl 5)) ++ sv9 (o.tl 6)) (B := sv9 (o.tl 7)) (C := [.pointer (some ⟨o.cb, 0, none⟩), .int .i64 o.age]) h.cel rfl rfl s
theorem idx_told (o : OpD) {n : Nat} (h : n < 8) (W : World) : (Instr.index 83 (.agg (told72 o).toArray) (.int .i64 (n : Int))).run Try.prog W = .ok ((.agg #[.int .i64 ((o.tl n).f 0), .int .i64 ((o.tl n).f 1), .int .i64 ((o.tl n).f 2), .int .i64 ((o.tl n).f 3), .int .i64 ((o.tl n).f 4), .int .i64 ((o.tl n).f 5), .int .i64 ((o.tl n).f 6), .int .i64 ((o.tl n).f 7), .slice (o.tl n).a (o.tl n).l.length (o.tl n).cap])) W := by
 obtain rfl | rfl | rfl | rfl | rfl | rfl | rfl | rfl : n = 0 ∨ n = 1 ∨ n = 2 ∨ n = 3 ∨ n = 4 ∨ n = 5 ∨ n = 6 ∨ n = 7 := by omega
 all_goals kernel_rfl
theorem at_told (B : Nat) {n : Nat} (h : n < 8) (W : World) : (Instr.indexAt 83 (.pointer (some ⟨B, 11, none⟩)) (.int .i64 (n : Int))).run Try.prog W = .ok (.pointer (some ⟨B, 11 + 9 * n, none⟩)) W := by
 obtain rfl | rfl | rfl | rfl | rfl | rfl | rfl | rfl : n = 0 ∨ n = 1 ∨ n = 2 ∨ n = 3 ∨ n = 4 ∨ n = 5 ∨ n = 6 ∨ n = 7 := by omega
 all_goals kernel_rfl
def fndO (n : Int) (t : List OpD) : Option OpD := t.find? fun o => decide (o.id = n)
def dropO (n : Int) (t : List OpD) : List OpD := t.filter fun o => !decide (o.id = n)
def SorO (t : List OpD) : Prop := t.Pairwise fun x y => x.id < y.id
def klO (n : Int) : Lit := .int .i64 n
def hRO (v : Value) : Option (DataW Value × List MemPlace) := some (.held v, [])
def prO (o : OpD) : Lit × DataW Value := (klO o.id, .held (.pointer (some ⟨o.q, 0, none⟩)))
def datumO (t : List OpD) : DataW Value := .map (t.map prO)
def ptrO (x : Option OpD) : Value := .pointer (x.map fun o => ⟨o.q, 0, none⟩)
theorem lawO : Maps.Keyed Try.prog 2 := Maps.int_keyed Try.underlying2
theorem zeroO (w : World) : (zeroValue 81).run Try.prog w = .ok (.pointer none) w := by kernel_rfl
theorem key_sameO (a b : Int) : (klO a).sameKey (klO b) = decide (a = b) := by
 show (Lit.int .i64 a).sameKey (Lit.int .i64 b) = _
 simp [Lit.sameKey]
theorem key_beforeO (a b : Int) : (klO a).before (klO b) = decide (a < b) := by
 show (Lit.int .i64 a).before (Lit.int .i64 b) = _
 simp [Lit.before]
theorem find_datumO (t : List OpD) (n : Int) : (t.map prO).find? (fun p => p.1.sameKey (klO n)) = (fndO n t).map prO := by
 unfold fndO
 rw [List.find?_map]
 congr 2
 funext o
 exact key_sameO _ _
theorem at_datumO (t : List OpD) (n : Int) : (datumO t).atKey (klO n) (.held (.pointer none)) = .held (ptrO (fndO n t)) := by
 unfold datumO DataW.atKey
 simp only [find_datumO]
 cases fndO n t <;> rfl
theorem ins_datumO {x : OpD} : ∀ {t : List OpD}, (∀ o ∈ t, o.id < x.id) → DataW.insert (prO x) (t.map prO) = (t ++ [x]).map prO
 | [], _ => rfl
 | y :: r, h => by
  rw [List.map_cons]
  unfold DataW.insert
  have h0 : (prO x).1.before (prO y).1 = false := by
   show (klO x.id).before (klO y.id) = false
   rw [key_beforeO]
   have := h y (List.mem_cons_self ..)
   simp
   omega
  rw [h0]
  simp only [Bool.false_eq_true, if_false, List.cons_append, List.map_cons]
  rw [ins_datumO (fun o ho => h o (List.mem_cons_of_mem _ ho))]
theorem flt_datumO (t : List OpD) (n : Int) : (t.map prO).filter (fun p => !p.1.sameKey (klO n)) = (dropO n t).map prO := by
 unfold dropO
 rw [List.filter_map]
 congr 2
 funext o
 exact congrArg _ (key_sameO _ _)
theorem put_datumO {x : OpD} {t : List OpD} (h : ∀ o ∈ t, o.id < x.id) : (datumO t).put (klO x.id) (.held (.pointer (some ⟨x.q, 0, none⟩))) = datumO (t ++ [x]) := by
 show DataW.map (DataW.insert (prO x) ((t.map prO).filter fun p => !p.1.sameKey (klO x.id))) = _
 have e : dropO x.id t = t := List.filter_eq_self.2 fun o ho => by have := h o ho; simp; omega
 rw [flt_datumO, e, ins_datumO h]
 rfl
theorem del_datumO (t : List OpD) (n : Int) : (datumO t).del (klO n) = datumO (dropO n t) := by
 show DataW.map ((t.map prO).filter fun p => !p.1.sameKey (klO n)) = _
 rw [flt_datumO]
 rfl
theorem size_datumO (t : List OpD) : Maps.size (datumO t) = t.length := by
 show (t.map prO).length = _
 rw [List.length_map]
theorem mo_off {H : Type} {k : TypeId} {R : Value → Option (DataW H × List MemPlace)} {b n : Nat} {D : DataW H} {w w' : World} {X : Nat → Prop} (h : w.ownsMap Try.prog k R b n D) (o : Off X w w') (hb : ¬ X b) : w'.ownsMap Try.prog k R b n D := by
 have hlt := h.lt
 obtain ⟨es, clock, hh, r⟩ := h
 exact ⟨es, clock, (o.block b hlt hb).trans hh, r⟩
theorem mo_tight {H : Type} {k : TypeId} {R : Value → Option (DataW H × List MemPlace)} {b n : Nat} {D : DataW H} {w : World} (h : w.ownsMap Try.prog k R b n D) : w.ownsMap Try.prog k R b (Maps.size D) D := by
 obtain ⟨es, clock, hb, F, hs, hD⟩ := h
 refine ⟨es, clock, hb, F, ?_, hD⟩
 rw [hD]
 show es.size ≤ ((es.toList.map _).foldr DataW.insert []).length
 rw [length_sorted]
 simp
theorem mo_ncel {H : Type} {k : TypeId} {R : Value → Option (DataW H × List MemPlace)} {b n : Nat} {D : DataW H} {w : World} (h : w.ownsMap Try.prog k R b n D) {p : Nat} {t : TypeId} {cs : Array Value} (hp : Cel p t cs w) : p ≠ b := by
 obtain ⟨es, clock, hb, -⟩ := h
 intro e
 subst e
 rw [hp.is] at hb
 cases hb
end Go.Proofs.Ytmjmgdbhmbjmaaa
