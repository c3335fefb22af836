/- A log of package wal on a file of package disk: what it is; what turns. -/
import Derived.Test.YtmdhcoplhibbeaaDsk8
import Derived.Test.YtmdhcoplhibbeaaAll7
import Derived.Test.YtmdhcoplhibbeaaPut7
namespace Go.Proofs.Ytmdhcoplhibbeaa
open Go.RowKit

/-- Of the old blocks at most those of D have turned; those of D' are of D, or new. -/
structure Chg (D D' : Nat → Prop) (v v' : World) : Prop where
  off : Off D v v'
  sub : ∀ c, D' c → D c ∨ v.heap.size ≤ c
theorem Chg.refl (D : Nat → Prop) (v : World) : Chg D D v v := ⟨Off.refl _ _, fun _ h => .inl h⟩
theorem Chg.trans {D E F : Nat → Prop} {u v x : World} (h : Chg D E u v) (k : Chg E F v x) : Chg D F u x :=
  ⟨h.off.trans k.off (fun i hi e => (h.sub i e).elim id (fun h => by omega)), fun c hc => by
    have := h.off.size
    rcases k.sub c hc with a | a
    · exact h.sub c a
    · exact .inr (by omega)⟩
theorem Chg.free {D E : Nat → Prop} {u v x : World} (h : Chg D E u v) (k : Off (fun _ => False) v x) : Chg D E u x :=
  ⟨h.off.trans k (fun _ _ h => h.elim), h.sub⟩
theorem Chg.after {D E : Nat → Prop} {u v x : World} (h : Off (fun _ => False) u v) (k : Chg D E v x) : Chg D E u x :=
  ⟨(h.mono (fun _ _ h => h.elim)).trans k.off (fun _ _ h => h), fun c hc => by
    have := h.size
    rcases k.sub c hc with a | a
    · exact .inl a
    · exact .inr (by omega)⟩
theorem Chg.less {D E F : Nat → Prop} {u v : World} (h : Chg D E u v) (k : ∀ c, F c → E c) : Chg D F u v := ⟨h.off, fun c hc => h.sub c (k c hc)⟩
theorem Chg.more {D E F : Nat → Prop} {u v : World} (h : Chg D E u v) (k : ∀ c, c < u.heap.size → D c → F c) : Chg F E u v :=
  ⟨h.off.mono k, fun c hc => by
    rcases Nat.lt_or_ge c u.heap.size with a | a
    · rcases h.sub c hc with b | b
      · exact .inl (k c a b)
      · omega
    · exact .inr a⟩
/-- What was not of D is not of D'. -/
theorem Chg.not {D E : Nat → Prop} {u v : World} (h : Chg D E u v) {c : Nat} (hc : c < u.heap.size) (hD : ¬ D c) : ¬ E c := fun e => by
  rcases h.sub c e with a | a
  · exact hD a
  · omega
/-- All of D is new since w. -/
theorem Chg.new {D E : Nat → Prop} {w u v : World} (h : Chg D E u v) (o : Off (fun _ => False) w u) (hD : ∀ c, D c → w.heap.size ≤ c) : Off (fun _ => False) w v ∧ ∀ c, E c → w.heap.size ≤ c := by
  refine ⟨((o.mono (fun _ _ h => h.elim)).trans h.off (fun _ _ h => h)).mono (fun i hi e => by have := hD i e; omega), fun c hc => ?_⟩
  have := o.size
  rcases h.sub c hc with a | a
  · exact hD c a
  · omega

/-- A log at block lb on the file at b; its blocks and the file's are of D. -/
structure Lg (D : Nat → Prop) (lb b most : Nat) (ds : List Nat) (s k m : Nat) (w : World) : Prop where
  here : D lb
  lt : ∀ c, D c → c < w.heap.size
  dsk : ∃ D0, Dsk D0 b most ds s w ∧ (∀ c, D0 c → D c) ∧ ¬ D0 lb
  log : Cel lb 63 #[.pointer (some ⟨b, 0, none⟩), .int .i64 (k : Int), .int .i64 (m : Int)] w
theorem Lg.free {D : Nat → Prop} {lb b most : Nat} {ds : List Nat} {s k m : Nat} {w w' : World} (h : Lg D lb b most ds s k m w) (o : Off (fun _ => False) w w') : Lg D lb b most ds s k m w' := by
  obtain ⟨D0, h1, h2, h3⟩ := h.dsk
  exact ⟨h.here, fun c hc => Nat.lt_of_lt_of_le (h.lt c hc) o.size, ⟨D0, h1.free o, h2, h3⟩, h.log.off o (fun h => h)⟩
theorem Lg.fit {D : Nat → Prop} {lb b most : Nat} {ds : List Nat} {s k m : Nat} {w : World} (h : Lg D lb b most ds s k m w) : ds.length ≤ most ∧ most ≤ 1048576 := by
  obtain ⟨D0, h1, -, -⟩ := h.dsk
  exact ⟨h1.fit, h1.bound⟩
/-- The file of a log. -/
theorem Lg.disk {D : Nat → Prop} {lb b most : Nat} {ds : List Nat} {s k m : Nat} {w : World} (h : Lg D lb b most ds s k m w) : ∃ D0, Dsk D0 b most ds s w ∧ Chg D D0 w w := by
  obtain ⟨D0, h1, h2, -⟩ := h.dsk
  exact ⟨D0, h1, ⟨Off.refl _ _, fun c hc => .inl (h2 c hc)⟩⟩

theorem nat_lt_dec {a b : Nat} (h : a < b) : decide ((a : Int) < (b : Int)) = true := decide_eq_true (by omega)
theorem nat_ge_dec {a b : Nat} (h : b ≤ a) : decide ((a : Int) < (b : Int)) = false := decide_eq_false (by omega)

theorem al_tail {rs : List (List Nat)} (h : ∀ r ∈ rs, Rec r) {x : List Nat} (hx : tkE x = 2) : Al (frs rs ++ x) rs (frs rs).length 0 :=
  ⟨got_frs h x, .inl ⟨by rw [List.drop_left]; exact hx, rfl⟩⟩
theorem Al.bnd {l : List Nat} {rs : List (List Nat)} {n : Nat} {e : Int} (h : Al l rs n e) : n ≤ l.length ∧ rs.length * 8 ≤ n := ⟨h.got.le, h.got.many⟩

/-- Rows that were told: of nobody else. -/
structure Tol (D : Nat → Prop) (w : World) (t : Option Addr) (c : Nat) (bl : List B) : Prop where
  own : OwnG 23 1 bcs w t c bl
  no : ∀ k, blk t = some k → ¬ D k
  each : ∀ x ∈ bl, OwnR w x.ad x.cap x.data ∧ ∀ k, blk x.ad = some k → ¬ D k
theorem Tol.chg {D E : Nat → Prop} {w w' : World} {t : Option Addr} {c : Nat} {bl : List B} (h : Tol D w t c bl) (k : Chg D E w w') : Tol E w' t c bl :=
  ⟨h.own.off k.off (fun c _ e => h.no c e), fun c e => k.not (h.own.lt c e) (h.no c e), fun x hx => ⟨(h.each x hx).1.off k.off (fun c _ e => (h.each x hx).2 c e), fun c e => k.not ((h.each x hx).1.lt c e) ((h.each x hx).2 c e)⟩⟩
theorem Tol.free {D : Nat → Prop} {w w' : World} {t : Option Addr} {c : Nat} {bl : List B} (h : Tol D w t c bl) (k : Off (fun _ => False) w w') : Tol D w' t c bl := h.chg ((Chg.refl D w).free k)

set_option maxRecDepth 100000 in
set_option maxHeartbeats 1000000 in
theorem wopen_ok {D : Nat → Prop} {b most : Nat} {bs : List Nat} {s : Nat} {v : World} (h : Dsk D b most bs s v) (hlt : ∀ x ∈ bs, x < 256) {rs : List (List Nat)} {n : Nat} (ha : Al bs rs n 0) :
    Calls Try.prog 16 #[.pointer (some ⟨b, 0, none⟩)] v fun e v' => ∃ (lb : Nat) (t : Option Addr) (c : Nat) (bl : List B), e = .returned (.tuple #[.pointer (some ⟨lb, 0, none⟩), .slice t bl.length c, .int .i64 0]) ∧ bl.map B.data = rs ∧ ∃ D', Tol D' v' t c bl ∧ Lg D' lb b most (bs.take n) (if n < bs.length then n else s) bl.length n v' ∧ Chg D D' v v' := by
  have hf := h.fit
  have hb := h.bound
  have HD : Hid _ := h
  have HA : Hid _ := ha
  have HL : Hid _ := hlt
  have HN : Hid _ := ha.bnd
  clear h ha hlt
  go_enter Try.func16, Try.ntmps16
  go_wp2_with fail
  refine (dbytes_any HD.out).mono ?_
  rintro e w1 ⟨t1, c1, rfl, own1, -, o1⟩
  have HD1 : Hid _ := HD.out.free o1
  have O1 : Hid _ := o1
  have A1 : Hid _ := all_any (own1.inp HL.out) (by omega)
  clear own1 o1
  go_wp2_with fail
  refine Calls.mono A1.out ?_
  rintro e w2 ⟨t, c, bl, n2, er, rfl, OG, fr, each, al2, o2⟩
  obtain ⟨hd, rfl, rfl⟩ := al2.uniq HA.out
  have HD2 : Hid _ := HD1.out.free o2
  have O2 : Hid _ := O1.out.trans o2 (fun _ _ h => h)
  have HOG : Hid _ := OG
  have HFR : Hid (∀ k, blk t = some k → v.heap.size ≤ k ∧ k < w2.heap.size ∧ ¬ D k) := fun k hk => by
    have h1 := fr k hk
    have h2 := O1.out.size
    exact ⟨by omega, OG.lt k hk, fun hD => by have := HD1.out.lt k hD; omega⟩
  have HEA : Hid (∀ x ∈ bl, OwnR w2 x.ad x.cap x.data ∧ ∀ k, blk x.ad = some k → ¬ D k) := fun x hx => ⟨(each x hx).1, fun k hk hD => by
    have h1 := (each x hx).2.1 k hk
    have := HD1.out.lt k hD
    omega⟩
  have HDT : Hid _ := hd
  have HBL : Hid (bl.length * 8 ≤ n2 ∧ n2 ≤ bs.length) := by
    have h1 := HN.out
    have h2 : rs.length = bl.length := by rw [← hd]; simp
    rw [h2] at h1
    exact ⟨h1.2, h1.1⟩
  have hn2 := HBL.out.2
  have hbl := HBL.out.1
  clear OG fr each al2 hd A1 HD1 o2
  go_wp2_with fail
  refine (dsize_any HD2.out).mono ?_
  rintro e w3 ⟨rfl, hw3⟩
  rw [hw3]
  clear hw3 w3
  by_cases hcut : n2 < bs.length
  · have d1 := nat_lt_dec hcut
    have d2 : decide (n2 < bs.length) = true := decide_eq_true hcut
    go_wp2_with fail
    refine (dcut_any HD2.out n2 hn2).mono ?_
    rintro e w4 ⟨rfl, K4, o4⟩
    go_wp2_with fail
    go_ret3
    have hs4 := o4.size
    have OA : Off (fun _ => False) w4 (w4.alloc (.cells #[.pointer (some ⟨b, 0, none⟩), .int .i64 (bl.length : Int), .int .i64 (n2 : Int)] 63)) := (Off.refl _ w4).alloc _
    have CN := Cel.new w4 63 #[.pointer (some ⟨b, 0, none⟩), .int .i64 (bl.length : Int), .int .i64 (n2 : Int)]
    have hsz : w4.heap.size < (w4.alloc (.cells #[.pointer (some ⟨b, 0, none⟩), .int .i64 (bl.length : Int), .int .i64 (n2 : Int)] 63)).heap.size := by simp
    generalize w4.alloc (.cells #[.pointer (some ⟨b, 0, none⟩), .int .i64 (bl.length : Int), .int .i64 (n2 : Int)] 63) = w5 at OA CN hsz ⊢
    have K5 := K4.free OA
    have O24 := o4
    have o5 : Off D w2 w5 := o4.trans OA (fun _ _ h => h.elim)
    refine ⟨w4.heap.size, t, c, bl, rfl, HDT.out, fun x => D x ∨ x = w4.heap.size, ⟨HOG.out.off o5 (fun k _ e => (HFR.out k e).2.2), fun k hk => ?_, fun x hx => ⟨(HEA.out x hx).1.off o5 (fun k _ e => (HEA.out x hx).2 k e), fun k hk => ?_⟩⟩, ⟨.inr rfl, ?_, ⟨D, ?_, fun c h => .inl h, fun hD => ?_⟩, CN⟩, ⟨(O2.out.mono (fun _ _ h => h.elim)).trans o5 (fun _ _ h => h), ?_⟩⟩
    · rintro (h | h)
      · exact (HFR.out k hk).2.2 h
      · have := (HFR.out k hk).2.1
        omega
    · rintro (h | h)
      · exact (HEA.out x hx).2 k hk h
      · have := (HEA.out x hx).1.lt k hk
        omega
    · rintro x (hx | rfl)
      · exact K5.lt x hx
      · exact hsz
    · exact K5
    · have := K4.lt _ hD
      omega
    · rintro x (hx | rfl)
      · exact .inl hx
      · have := O2.out.size
        exact .inr (by omega)
  · have d1 := nat_ge_dec (a := n2) (b := bs.length) (by omega)
    have d2 : decide (n2 < bs.length) = false := decide_eq_false hcut
    go_wp2_with fail
    go_ret3
    have hbn : bs.take n2 = bs := List.take_of_length_le (by omega)
    have OA : Off (fun _ => False) w2 (w2.alloc (.cells #[.pointer (some ⟨b, 0, none⟩), .int .i64 (bl.length : Int), .int .i64 (n2 : Int)] 63)) := (Off.refl _ w2).alloc _
    have CN := Cel.new w2 63 #[.pointer (some ⟨b, 0, none⟩), .int .i64 (bl.length : Int), .int .i64 (n2 : Int)]
    have hsz : w2.heap.size < (w2.alloc (.cells #[.pointer (some ⟨b, 0, none⟩), .int .i64 (bl.length : Int), .int .i64 (n2 : Int)] 63)).heap.size := by simp
    generalize w2.alloc (.cells #[.pointer (some ⟨b, 0, none⟩), .int .i64 (bl.length : Int), .int .i64 (n2 : Int)] 63) = w5 at OA CN hsz ⊢
    have K5 := HD2.out.free OA
    refine ⟨w2.heap.size, t, c, bl, rfl, HDT.out, fun x => D x ∨ x = w2.heap.size, ⟨HOG.out.off OA (fun k _ e h => h), fun k hk => ?_, fun x hx => ⟨(HEA.out x hx).1.off OA (fun k _ e h => h), fun k hk => ?_⟩⟩, ⟨.inr rfl, ?_, ⟨D, ?_, fun c h => .inl h, fun hD => ?_⟩, CN⟩, ⟨(O2.out.trans OA (fun _ _ h => h)).mono (fun _ _ h => h.elim), ?_⟩⟩
    · rintro (h | h)
      · exact (HFR.out k hk).2.2 h
      · have := (HFR.out k hk).2.1
        omega
    · rintro (h | h)
      · exact (HEA.out x hx).2 k hk h
      · have := (HEA.out x hx).1.lt k hk
        omega
    · rintro x (hx | rfl)
      · exact K5.lt x hx
      · exact hsz
    · rw [hbn]
      exact K5
    · have := HD2.out.lt _ hD
      omega
    · rintro x (hx | rfl)
      · exact .inl hx
      · have := O2.out.size
        exact .inr (by omega)

set_option maxRecDepth 100000 in
set_option maxHeartbeats 1000000 in
theorem wopen_no {D : Nat → Prop} {b most : Nat} {bs : List Nat} {s : Nat} {v : World} (h : Dsk D b most bs s v) (hlt : ∀ x ∈ bs, x < 256) {rs : List (List Nat)} {n : Nat} {er : Int} (ha : Al bs rs n er) (he : er ≠ 0) :
    Calls Try.prog 16 #[.pointer (some ⟨b, 0, none⟩)] v fun e v' => e = .returned (.tuple #[.pointer none, .slice none 0 0, .int .i64 er]) ∧ Off (fun _ => False) v v' := by
  have hf := h.fit
  have hb := h.bound
  have HD : Hid _ := h
  have HA : Hid _ := ha
  have HL : Hid _ := hlt
  clear h ha hlt
  go_enter Try.func16, Try.ntmps16
  go_wp2_with fail
  refine (dbytes_any HD.out).mono ?_
  rintro e w1 ⟨t1, c1, rfl, own1, -, o1⟩
  have O1 : Hid _ := o1
  have A1 : Hid _ := all_any (own1.inp HL.out) (by omega)
  clear own1 o1
  go_wp2_with fail
  refine Calls.mono A1.out ?_
  rintro e w2 ⟨t, c, bl, n2, er2, rfl, -, -, -, al2, o2⟩
  obtain ⟨-, rfl, rfl⟩ := al2.uniq HA.out
  have O2 : Hid _ := O1.out.trans o2 (fun _ _ h => h)
  have q : (er2 != 0) = true := by simpa using he
  clear al2 A1 o2 he
  go_wp2_with fail
  go_ret3
  exact ⟨rfl, O2.out⟩
end Go.Proofs.Ytmdhcoplhibbeaa
