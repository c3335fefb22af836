/- Items of several texts. -/
import Derived.Test.YtmbphlkohlggfaaGreatAGRe
import Derived.Test.YtmbphlkohlggfaaGreatARd20
import Derived.Test.YtmbphlkohlggfaaGreatAZr20
import Derived.Test.YtmbphlkohlggfaaGreatAZe20
import Derived.Test.YtmbphlkohlggfaaGreatAGdr
namespace Go.Proofs.YtmbphlkohlggfaaGreat
set_option maxRecDepth 100000
open Go.RowKit
theorem zsmall_any (n : Nat) (w : World) : Calls Tryz.prog 22 #[.int .u64 (n : Int)] w fun e w' => e = .returned (.int .i64 (nodeR n)) ∧ w' = w := by
 obtain ⟨nd, hnd⟩ : ∃ x, x = nodeR n := ⟨_, rfl⟩
 rw [← hnd]
 have hmin : ∀ ts t W, (Builtin.min_ ts t #[.int .u64 (n : Int), .int .u64 1073741824]).run Tryz.prog W = .ok (.int .u64 nd) W := fun ts t W => by
  rw [run_min_int2]
  congr 2
  rw [hnd]
  unfold nodeR
  split <;> omega
 have hndr : 0 ≤ nd ∧ nd ≤ 1073741824 := by rw [hnd]; unfold nodeR; omega
 obtain ⟨hnd0, hnd1⟩ := hndr
 clear hnd
 go_enter Tryz.func22, Tryz.ntmps22
 go_wp2_with fail
 go_ret
 exact ⟨rfl, rfl⟩
def NumAt (D : Nat → Prop) (b : Nat) (s : RS) (v : Int) (a : RS) : Prop := ∃ n : Nat, (∀ W, Rdr 68 D b s W → Calls Tryz.prog 23 #[.pointer (some ⟨b, 0, none⟩)] W fun e w' => e = .returned (.int .u64 (n : Int)) ∧ Rdr 68 D b a w' ∧ Off (fun c => c = b) W w') ∧ ∀ W, Calls Tryz.prog 22 #[.int .u64 (n : Int)] W fun e w' => e = .returned (.int .i64 v) ∧ w' = W
theorem num_at (D : Nat → Prop) (b : Nat) (s : RS) : NumAt D b s (nodeR (numS s).1) (numS s).2 := ⟨(numS s).1, fun _ h => frnum_any h, fun W => zsmall_any _ W⟩
theorem ffail0 {b : Nat} {t : Option Addr} {c : Nat} {w : World} (h : Cel b 68 #[.slice t 0 c, .int .i64 0] w) :
  Calls Tryz.prog 65 #[.pointer (some ⟨b, 0, none⟩), .int .i64 2] w fun e w' => e = .returned (.tuple #[]) ∧ Rdr 68 (fun _ => False) b ([], 2) w' ∧ Off (fun c => c = b) w w' := by
 have c0 : w.cell? ⟨b, 0, none⟩ = some (.slice t 0 c) := by rw [h.cell]; rfl
 have c1 : w.cell? ⟨b, 1, none⟩ = some (.int .i64 0) := by rw [h.cell]; rfl
 have f0 := h.free 0
 have f1 := h.free 1
 have HH : Hid _ := h
 clear h
 go_enter Tryz.func65, Tryz.ntmps65
 go_wp2_with fail
 go_end0
 exact ⟨rfl, ⟨⟨by simp, by simp, by decide⟩, fun _ h => h.elim, fun h => h, by simp, none, 0, (HH.out.set 1 _).set 0 _, Lie.nil _ _⟩, ((Off.refl (fun c => c = b) w).setCell (.inl rfl) _).setCell (.inl rfl) _⟩
theorem frnum0 {b : Nat} {t : Option Addr} {c : Nat} {w : World} (h : Cel b 68 #[.slice t 0 c, .int .i64 0] w) :
  Calls Tryz.prog 23 #[.pointer (some ⟨b, 0, none⟩)] w fun e w' => e = .returned (.int .u64 0) ∧ Rdr 68 (fun _ => False) b ([], 2) w' ∧ Off (fun c => c = b) w w' := by
 have c0 : w.cell? ⟨b, 0, none⟩ = some (.slice t 0 c) := by rw [h.cell]; rfl
 have c1 : w.cell? ⟨b, 1, none⟩ = some (.int .i64 0) := by rw [h.cell]; rfl
 have HH : Hid _ := h
 clear h
 go_enter Tryz.func23, Tryz.ntmps23
 go_wp2_with fail
 go_loopw [3, 4] (fun x y wr => x = .int .u64 0 ∧ y = .int .i64 0 ∧ wr = w) (fun _ y _ => (10 - intOf y).toNat)
 case atStart => exact ⟨rfl, rfl, rfl⟩
 case round =>
  obtain ⟨rfl, rfl, hwr⟩ := hrel
  rw [hwr]
  clear hwr wr
  go_wp2_with fail
  refine (ffail0 HH.out).mono ?_
  rintro e w2 ⟨rfl, R2, o2⟩
  go_wp2_with fail
  go_ret
  exact ⟨rfl, R2, o2⟩
theorem num_first {t : Option Addr} {c : Nat} {bs : List Nat} {w : World} (hs : Src w t c bs) (hc : bs.length ≤ c) (hlt : ∀ x ∈ bs, x < 256) (hb : bs.length ≤ 140737488355328) (b : Nat) (hB : w.heap.size ≤ b) :
  ∃ D : Nat → Prop, (∀ c, D c → c < w.heap.size) ∧ ∃ n : Nat, (∀ W, Cel b 68 #[.slice t bs.length c, .int .i64 0] W → Off (fun _ => False) w W → Calls Tryz.prog 23 #[.pointer (some ⟨b, 0, none⟩)] W fun e w' => e = .returned (.int .u64 (n : Int)) ∧ Rdr 68 D b (numS (bs, 0)).2 w' ∧ Off (fun c => c = b) W w') ∧ ∀ W, Calls Tryz.prog 22 #[.int .u64 (n : Int)] W fun e w' => e = .returned (.int .i64 (nodeR (numS (bs, 0)).1)) ∧ w' = W := by
 cases bs with
 | nil => exact ⟨fun _ => False, fun _ h => h.elim, 0, fun W h _ => frnum0 h, fun W => zsmall_any 0 W⟩
 | cons x l =>
  have hne : (x :: l) ≠ [] := fun h => by cases h
  have hD : ∀ i, blk t = some i → i < w.heap.size := fun i hi => hs.ltD hne i hi
  refine ⟨fun i => blk t = some i, hD, (numS (x :: l, 0)).1, fun W h o => ?_, fun W => zsmall_any _ W⟩
  have hL : Lie (fun i => blk t = some i) w t c (x :: l) := by
   rcases hs.is with ⟨-, h9, -⟩ | ⟨ad, rfl, hcc⟩
   ·cases h9
   ·have h0 := hcc 0 _ rfl
    obtain ⟨g, off, p⟩ := ad
    have hp : p = none := by
     have := World.cell?_spot h0
     simpa [Addr.add] using this
    subst hp
    exact ⟨.inr ⟨g, off, rfl, rfl, hc, fun j u hj => by have := hcc j u hj; rwa [add_lit] at this⟩⟩
  exact frnum_any ⟨⟨hlt, by simp, by simp⟩, fun i hi => Nat.lt_of_lt_of_le (hD i hi) o.size, fun hi => by have := hD b hi; omega, hb, t, c, h, hL.off o (fun _ _ _ h => h)⟩
def RunE (m : Nat) (s : RS) (ok : Bool) (P : List K) (okZ : Bool) (kZ : List K) (sZ : RS) : Prop := (ok && (zEs m s).1.1) = okZ ∧ P ++ (zEs m s).1.2 = kZ ∧ (zEs m s).2 = sZ
theorem RunE.go {m n : Nat} {s : RS} {ok : Bool} {P : List K} {okZ : Bool} {kZ : List K} {sZ : RS} (h : RunE n s ok P okZ kZ sZ) (hn : n = m + 1) : RunE m (reS s) (ok && reB nodeR s) (P ++ [⟨reKey nodeR s, reF nodeR s, reL nodeR s⟩]) okZ kZ sZ := by
 subst hn
 unfold RunE at h ⊢
 rw [zEs_succ] at h
 generalize zEs m (reS s) = z at h ⊢
 dsimp only at h
 obtain ⟨h1, h2, h3⟩ := h
 refine ⟨?_, ?_, h3⟩
 ·rw [Bool.and_assoc]
  exact h1
 ·rw [List.append_assoc]
  exact h2
theorem RunE.end_ {n : Nat} {s : RS} {ok : Bool} {P : List K} {okZ : Bool} {kZ : List K} {sZ : RS} (h : RunE n s ok P okZ kZ sZ) (hn : n = 0) : ok = okZ ∧ P = kZ ∧ s = sZ := by
 subst hn
 obtain ⟨h1, h2, h3⟩ := h
 exact ⟨by rw [← h1]; exact (Bool.and_true ok).symm, by rw [← h2]; exact (List.append_nil P).symm, h3⟩
def RunD (m : Nat) (s : RS) (ok : Bool) (P : List GK) (okZ : Bool) (kZ : List GK) (sZ : RS) : Prop := (ok && (zGs m s).1.1) = okZ ∧ P ++ (zGs m s).1.2 = kZ ∧ (zGs m s).2 = sZ
theorem RunD.go {m n : Nat} {s : RS} {ok : Bool} {P : List GK} {okZ : Bool} {kZ : List GK} {sZ : RS} (h : RunD n s ok P okZ kZ sZ) (hn : n = m + 1) : RunD m (drS s) (ok && drB nodeR s) (P ++ [⟨drKey nodeR s, drF nodeR s, drL nodeR s⟩]) okZ kZ sZ := by
 subst hn
 unfold RunD at h ⊢
 rw [zGs_succ] at h
 generalize zGs m (drS s) = z at h ⊢
 dsimp only at h
 obtain ⟨h1, h2, h3⟩ := h
 refine ⟨?_, ?_, h3⟩
 ·rw [Bool.and_assoc]
  exact h1
 ·rw [List.append_assoc]
  exact h2
theorem RunD.end_ {n : Nat} {s : RS} {ok : Bool} {P : List GK} {okZ : Bool} {kZ : List GK} {sZ : RS} (h : RunD n s ok P okZ kZ sZ) (hn : n = 0) : ok = okZ ∧ P = kZ ∧ s = sZ := by
 subst hn
 obtain ⟨h1, h2, h3⟩ := h
 exact ⟨by rw [← h1]; exact (Bool.and_true ok).symm, by rw [← h2]; exact (List.append_nil P).symm, h3⟩
def RunM (m : Nat) (s : RS) (P : List (Int × Int)) (kZ : List (Int × Int)) (sZ : RS) : Prop := P ++ (zMs m s).1 = kZ ∧ (zMs m s).2 = sZ
theorem RunM.go {m n : Nat} {s : RS} {P kZ : List (Int × Int)} {sZ : RS} (h : RunM n s P kZ sZ) (hn : n = m + 1) : RunM m (mrS s) (P ++ [(nodeR (numS s).1, (intS (numS s).2).1)]) kZ sZ := by
 subst hn
 unfold RunM at h ⊢
 rw [zMs_succ] at h
 generalize zMs m (mrS s) = z at h ⊢
 dsimp only at h
 refine ⟨?_, h.2⟩
 rw [List.append_assoc]
 exact h.1
theorem RunM.end_ {n : Nat} {s : RS} {P kZ : List (Int × Int)} {sZ : RS} (h : RunM n s P kZ sZ) (hn : n = 0) : P = kZ ∧ s = sZ := by
 subst hn
 exact ⟨by rw [← h.1]; exact (List.append_nil P).symm, h.2⟩
structure DecZ (bs : List Nat) (N : Nat) (e : Ending) (w' : World) : Prop where
 is : (60000 < bs.length ∧ e = .returned (.tuple #[.agg #[.int .i64 0, .int .i64 0, .int .i64 0, .int .i64 0, .int .i64 0, .string ⟨#[]⟩, .int .i64 0, .slice none 0 0, .slice none 0 0, .slice none 0 0], .int .i64 4])) ∨ (bs.length ≤ 60000 ∧ ∃ (X : Mg) (es : List E) (gs : List G) (ms : List (Int × Int)), e = .returned (.tuple #[(.agg #[.int .i64 X.k, .int .i64 X.fr, .int .i64 X.tn, .int .i64 X.op, .int .i64 X.fo, .string X.key, .int .i64 X.bk, .slice X.ea X.el X.ec, .slice X.da X.dl X.dc, .slice X.ma X.ml X.mc]), .int .i64 0]) ∧ ZOk bs (mdOf X es gs ms) ∧ ∀ v, Off (fun c => c < N) w' v → MsgAt v X es gs ms) ∨ (bs.length ≤ 60000 ∧ e = .returned (.tuple #[.agg #[.int .i64 0, .int .i64 0, .int .i64 0, .int .i64 0, .int .i64 0, .string ⟨#[]⟩, .int .i64 0, .slice none 0 0, .slice none 0 0, .slice none 0 0], .int .i64 3]) ∧ ∀ d, ¬ ZOk bs d)
set_option maxHeartbeats 8000000 in
theorem zdec_core {D : Nat → Prop} {b : Nat} {bs : List Nat} {t : Option Addr} {c : Nat} {w : World} (hb : b = w.heap.size + 1) (hD : ∀ c, D c → c < w.heap.size) (hl : bs.length ≤ 60000) (so sf sk sb se sg sn okE okA : Bool) (k fr tn op fo bk hh : Int) (key : ByteArray) (kb : List Nat) (a1 a2 a3 a4 a5 a6 a7 sE sG sM : RS) (kE : List K) (kG : List GK) (kM : List (Int × Int))
  (h1 : ∃ n : Nat, (∀ W, Cel b 68 #[.slice t bs.length c, .int .i64 0] W → Off (fun _ => False) w W → Calls Tryz.prog 23 #[.pointer (some ⟨b, 0, none⟩)] W fun e w' => e = .returned (.int .u64 (n : Int)) ∧ Rdr 68 D b a1 w' ∧ Off (fun c => c = b) W w') ∧ ∀ W, Calls Tryz.prog 22 #[.int .u64 (n : Int)] W fun e w' => e = .returned (.int .i64 k) ∧ w' = W)
  (h2 : NumAt D b a1 fr a2) (h3 : NumAt D b a2 tn a3) (hhas : ∀ W, Calls Tryz.prog 12 #[.int .i64 k] W fun e w' => e = .returned (.int .i64 hh) ∧ w' = W)
  (hv : ∃ v0 v1 v2 v3 v4 v5 v6 : Int, (bits .and .i64 hh 1 = v0 ∧ (v0 != 0) = so) ∧ (bits .and .i64 hh 2 = v1 ∧ (v1 != 0) = sf) ∧ (bits .and .i64 hh 4 = v2 ∧ (v2 != 0) = sk) ∧ (bits .and .i64 hh 8 = v3 ∧ (v3 != 0) = sb) ∧ (bits .and .i64 hh 16 = v4 ∧ (v4 != 0) = se) ∧ (bits .and .i64 hh 32 = v5 ∧ (v5 != 0) = sg) ∧ (bits .and .i64 hh 64 = v6 ∧ (v6 != 0) = sn))
  (h4 : (so = true → (∀ W, Rdr 68 D b a3 W → Calls Tryz.prog 24 #[.pointer (some ⟨b, 0, none⟩)] W fun e w' => e = .returned (.int .i64 op) ∧ Rdr 68 D b a4 w' ∧ Off (fun c => c = b) W w')) ∧ (so = false → op = 0 ∧ a4 = a3)) (h5 : (sf = true → NumAt D b a4 fo a5) ∧ (sf = false → fo = 0 ∧ a5 = a4))
  (h6 : (sk = true → ∀ W, Rdr 68 D b a5 W → Calls Tryz.prog 25 #[.pointer (some ⟨b, 0, none⟩), .int .i64 32] W fun e w' => ∃ t c, e = .returned (.slice t kb.length c) ∧ OwnR w' t c kb ∧ Rdr 68 D b a6 w' ∧ Off (fun c => c = b) W w') ∧ (sk = false → key = ⟨#[]⟩ ∧ a6 = a5)) (hkey : sk = true → key = strOf kb)
  (h7 : (sb = true → NumAt D b a6 bk a7) ∧ (sb = false → bk = 0 ∧ a7 = a6))
  (h8 : (se = true → ∃ (n : Nat) (s1 : RS), n ≤ 256 ∧ RunE n s1 true [] okE kE sE ∧ (∀ W, Rdr 68 D b a7 W → Calls Tryz.prog 26 #[.pointer (some ⟨b, 0, none⟩), .int .i64 256] W fun e w' => e = .returned (.int .i64 (n : Int)) ∧ Rdr 68 D b s1 w' ∧ Off (fun c => c = b) W w')) ∧ (se = false → okE = true ∧ kE = [] ∧ sE = a7))
  (h9 : (sg = true → ∃ (n : Nat) (s1 : RS), n ≤ 256 ∧ RunD n s1 okE [] okA kG sG ∧ (∀ W, Rdr 68 D b sE W → Calls Tryz.prog 26 #[.pointer (some ⟨b, 0, none⟩), .int .i64 256] W fun e w' => e = .returned (.int .i64 (n : Int)) ∧ Rdr 68 D b s1 w' ∧ Off (fun c => c = b) W w')) ∧ (sg = false → okE = okA ∧ kG = [] ∧ sG = sE))
  (h0 : (sn = true → ∃ (n : Nat) (s1 : RS), n ≤ 8 ∧ RunM n s1 [] kM sM ∧ (∀ W, Rdr 68 D b sG W → Calls Tryz.prog 26 #[.pointer (some ⟨b, 0, none⟩), .int .i64 8] W fun e w' => e = .returned (.int .i64 (n : Int)) ∧ Rdr 68 D b s1 w' ∧ Off (fun c => c = b) W w')) ∧ (sn = false → kM = [] ∧ sM = sG))
  (hz : zMsg (bs, 0) = ⟨okA, ⟨k, fr, tn, op, fo, key, bk, kE, kG, kM⟩, sM⟩) :
  Calls Tryz.prog 8 #[.slice t bs.length c] w fun e w' => DecZ bs w.heap.size e w' ∧ Off (fun _ => False) w w' := by
 obtain ⟨n1, h1, h1'⟩ := h1
 obtain ⟨n2, h2, h2'⟩ := h2
 obtain ⟨n3, h3, h3'⟩ := h3
 have HH1 : Hid _ := And.intro h1 h1'
 have HH2 : Hid _ := And.intro h2 h2'
 have HH3 : Hid _ := And.intro h3 h3'
 have HH4 : Hid _ := h4
 have HH5 : Hid _ := h5
 have HH6 : Hid _ := h6
 have HKY : Hid _ := hkey
 have HH7 : Hid _ := h7
 have HH8 : Hid _ := h8
 have HH9 : Hid _ := h9
 have HH0 : Hid _ := h0
 have HZM : Hid _ := hz
 have HHS : Hid _ := hhas
 have HDL : Hid (∀ c, D c → c < w.heap.size) := hD
 obtain ⟨v0, v1, v2, v3, v4, v5, v6, ⟨a0, q0⟩, ⟨c1, p1⟩, ⟨c2, p2⟩, ⟨c3, p3⟩, ⟨c4, p4⟩, ⟨c5, p5⟩, c6, p6⟩ := hv
 have HV0 : Hid (bits .and .i64 hh 1 = v0 ∧ (v0 != 0) = so) := ⟨a0, q0⟩
 have HV1 : Hid (bits .and .i64 hh 2 = v1 ∧ (v1 != 0) = sf) := ⟨c1, p1⟩
 have HV2 : Hid (bits .and .i64 hh 4 = v2 ∧ (v2 != 0) = sk) := ⟨c2, p2⟩
 have HV3 : Hid (bits .and .i64 hh 8 = v3 ∧ (v3 != 0) = sb) := ⟨c3, p3⟩
 have HV4 : Hid (bits .and .i64 hh 16 = v4 ∧ (v4 != 0) = se) := ⟨c4, p4⟩
 have HV5 : Hid (bits .and .i64 hh 32 = v5 ∧ (v5 != 0) = sg) := ⟨c5, p5⟩
 have HV6 : Hid (bits .and .i64 hh 64 = v6 ∧ (v6 != 0) = sn) := ⟨c6, p6⟩
 have HLN : Hid (bs.length ≤ 60000) := hl
 clear h1 h2 h3 h1' h2' h3' h4 h5 h6 hkey h7 h8 h9 h0 hz hhas hD a0 q0 c1 p1 c2 p2 c3 p3 c4 p4 c5 p5 c6 p6 hl
 have g1 : decide ((60000 : Int) < (bs.length : Int)) = false := decide_eq_false (by have := HLN.out; omega)
 go_enter Tryz.func8, Tryz.ntmps8
 go_upto_region 5 with fail
 clear g1
 have O0 : Off (fun _ => False) w (((w.alloc (.cells #[.int .i64 0, .int .i64 0, .int .i64 0, .int .i64 0, .int .i64 0, .string ⟨#[]⟩, .int .i64 0, .slice none 0 0, .slice none 0 0, .slice none 0 0] 26)).alloc (.cells #[.slice t bs.length c, .int .i64 0] 68)).alloc (.cells #[.int .i64 0, .int .i64 0, .int .i64 0, .int .i64 0, .int .i64 0, .string ⟨#[]⟩, .int .i64 0, .slice none 0 0, .slice none 0 0, .slice none 0 0] 26)) := (((Off.refl _ w).alloc _).alloc _).alloc _
 have C2 : Cel w.heap.size 26 #[.int .i64 0, .int .i64 0, .int .i64 0, .int .i64 0, .int .i64 0, .string ⟨#[]⟩, .int .i64 0, .slice none 0 0, .slice none 0 0, .slice none 0 0] (((w.alloc (.cells #[.int .i64 0, .int .i64 0, .int .i64 0, .int .i64 0, .int .i64 0, .string ⟨#[]⟩, .int .i64 0, .slice none 0 0, .slice none 0 0, .slice none 0 0] 26)).alloc (.cells #[.slice t bs.length c, .int .i64 0] 68)).alloc (.cells #[.int .i64 0, .int .i64 0, .int .i64 0, .int .i64 0, .int .i64 0, .string ⟨#[]⟩, .int .i64 0, .slice none 0 0, .slice none 0 0, .slice none 0 0] 26)) := ((Cel.new w _ _).alloc _).alloc _
 have C4 : Cel (w.heap.size + 1) 68 #[.slice t bs.length c, .int .i64 0] (((w.alloc (.cells #[.int .i64 0, .int .i64 0, .int .i64 0, .int .i64 0, .int .i64 0, .string ⟨#[]⟩, .int .i64 0, .slice none 0 0, .slice none 0 0, .slice none 0 0] 26)).alloc (.cells #[.slice t bs.length c, .int .i64 0] 68)).alloc (.cells #[.int .i64 0, .int .i64 0, .int .i64 0, .int .i64 0, .int .i64 0, .string ⟨#[]⟩, .int .i64 0, .slice none 0 0, .slice none 0 0, .slice none 0 0] 26)) := (Cel.new1 w _ _ _).alloc _
 have C5 : Cel (w.heap.size + 1 + 1) 26 #[.int .i64 0, .int .i64 0, .int .i64 0, .int .i64 0, .int .i64 0, .string ⟨#[]⟩, .int .i64 0, .slice none 0 0, .slice none 0 0, .slice none 0 0] (((w.alloc (.cells #[.int .i64 0, .int .i64 0, .int .i64 0, .int .i64 0, .int .i64 0, .string ⟨#[]⟩, .int .i64 0, .slice none 0 0, .slice none 0 0, .slice none 0 0] 26)).alloc (.cells #[.slice t bs.length c, .int .i64 0] 68)).alloc (.cells #[.int .i64 0, .int .i64 0, .int .i64 0, .int .i64 0, .int .i64 0, .string ⟨#[]⟩, .int .i64 0, .slice none 0 0, .slice none 0 0, .slice none 0 0] 26)) := by have := Cel.new1 (w.alloc (.cells #[.int .i64 0, .int .i64 0, .int .i64 0, .int .i64 0, .int .i64 0, .string ⟨#[]⟩, .int .i64 0, .slice none 0 0, .slice none 0 0, .slice none 0 0] 26)) (.cells #[.slice t bs.length c, .int .i64 0] 68) 26 #[.int .i64 0, .int .i64 0, .int .i64 0, .int .i64 0, .int .i64 0, .string ⟨#[]⟩, .int .i64 0, .slice none 0 0, .slice none 0 0, .slice none 0 0]; rwa [World.size_alloc] at this
 generalize hV : ((w.alloc (.cells #[.int .i64 0, .int .i64 0, .int .i64 0, .int .i64 0, .int .i64 0, .string ⟨#[]⟩, .int .i64 0, .slice none 0 0, .slice none 0 0, .slice none 0 0] 26)).alloc (.cells #[.slice t bs.length c, .int .i64 0] 68)).alloc (.cells #[.int .i64 0, .int .i64 0, .int .i64 0, .int .i64 0, .int .i64 0, .string ⟨#[]⟩, .int .i64 0, .slice none 0 0, .slice none 0 0, .slice none 0 0] 26) = U at O0 C2 C4 C5 ⊢
 obtain ⟨q5, hq5⟩ : ∃ q, q = w.heap.size + 1 + 1 := ⟨_, rfl⟩
 obtain ⟨q2, hq2⟩ : ∃ q, q = w.heap.size := ⟨_, rfl⟩
 rw [← hq5] at C5 ⊢
 rw [← hb] at C4 ⊢
 rw [← hq2] at C2 ⊢
 have HNE : Hid (q5 ≠ b ∧ q2 ≠ b ∧ q2 ≠ q5 ∧ w.heap.size ≤ q2 ∧ w.heap.size ≤ q5 ∧ w.heap.size ≤ b) := ⟨by omega, by omega, by omega, by omega, by omega, by omega⟩
 have HND : Hid (¬ D q5) := fun h => by have := HDL.out q5 h; have := HNE.out; omega
 have HC : Hid _ := C5
 have HZ : Hid _ := C2
 have HR : Hid _ := C4
 have HO : Hid (Off (fun c => c = b ∨ c = q5) U U) := Off.refl _ U
 have HWU : Hid (Off (fun _ => False) w U) := O0
 have HVS : Hid (b < U.heap.size ∧ q5 < U.heap.size ∧ q2 < U.heap.size ∧ w.heap.size ≤ U.heap.size) := ⟨C4.lt, C5.lt, C2.lt, O0.size⟩
 clear hV hq5 hq2 hb C2 C4 C5 O0
 obtain ⟨x0, x1, x2, x3, x4, x5, x6, x7, x8, x9⟩ := celw10 (HC.out)
 have fz := (HC.out).free
 go_wp2_with fail
 refine (HH1.out.1 _ HR.out HWU.out).mono ?_
 rintro e w5 ⟨rfl, r5, o5⟩
 have HR5 : Hid (Rdr 68 D b a1 w5) := r5
 have HO5 : Hid (Off (fun c => c = b) _ w5) := o5
 clear r5 o5
 clear x0 x1 x2 x3 x4 x5 x6 x7 x8 x9 fz
 have D5 := HC.out.off HO5.out (fun e => HNE.out.1 e)
 obtain ⟨y0, y1, y2, y3, y4, y5, y6, y7, y8, y9⟩ := celw10 (D5)
 have fy := (D5).free
 go_wp2_with fail
 refine (HH1.out.2 _).mono ?_
 rintro e w6 ⟨rfl, hw⟩
 rw [hw]
 clear hw w6
 go_upto_region 6 with fail
 have E5 : Cel q5 26 #[.int .i64 k, .int .i64 0, .int .i64 0, .int .i64 0, .int .i64 0, .string ⟨#[]⟩, .int .i64 0, .slice none 0 0, .slice none 0 0, .slice none 0 0] (w5.setCell ⟨q5, 0, none⟩ (.int .i64 k)) := D5.set 0 _
 have OS5 : Off (fun c => c = q5) w5 (w5.setCell ⟨q5, 0, none⟩ (.int .i64 k)) := (Off.refl (fun c => c = q5) w5).setCell (p := ⟨q5, 0, none⟩) (.inl rfl) _
 have HR6 : Hid (Rdr 68 D b a1 (w5.setCell ⟨q5, 0, none⟩ (.int .i64 k))) := HR5.out.off OS5 (fun e => HNE.out.1 e.symm) (fun c _ hc e => by have e : c = q5 := e; exact HND.out (e ▸ hc))
 have HO6 : Hid (Off (fun c => c = b ∨ c = q5) U (w5.setCell ⟨q5, 0, none⟩ (.int .i64 k))) := (HO.out.trans (HO5.out.mono (fun c _ h => .inl h)) (fun _ _ h => h)).trans (OS5.mono (fun c _ h => .inr h)) (fun _ _ h => h)
 generalize w5.setCell ⟨q5, 0, none⟩ (.int .i64 k) = V0 at E5 HR6 HO6 ⊢
 clear HC HR HO HR5 HO5 OS5 D5 y0 y1 y2 y3 y4 y5 y6 y7 y8 y9 fy
 have HC : Hid _ := E5
 have HR : Hid _ := HR6.out
 have HO : Hid _ := HO6.out
 clear E5 HR6 HO6
 obtain ⟨x0, x1, x2, x3, x4, x5, x6, x7, x8, x9⟩ := celw10 (HC.out)
 have fz := (HC.out).free
 go_wp2_with fail
 refine (HH2.out.1 _ HR.out).mono ?_
 rintro e w5 ⟨rfl, r5, o5⟩
 have HR5 : Hid (Rdr 68 D b a2 w5) := r5
 have HO5 : Hid (Off (fun c => c = b) _ w5) := o5
 clear r5 o5
 clear x0 x1 x2 x3 x4 x5 x6 x7 x8 x9 fz
 have D5 := HC.out.off HO5.out (fun e => HNE.out.1 e)
 obtain ⟨y0, y1, y2, y3, y4, y5, y6, y7, y8, y9⟩ := celw10 (D5)
 have fy := (D5).free
 go_wp2_with fail
 refine (HH2.out.2 _).mono ?_
 rintro e w6 ⟨rfl, hw⟩
 rw [hw]
 clear hw w6
 go_upto_region 7 with fail
 have E5 : Cel q5 26 #[.int .i64 k, .int .i64 fr, .int .i64 0, .int .i64 0, .int .i64 0, .string ⟨#[]⟩, .int .i64 0, .slice none 0 0, .slice none 0 0, .slice none 0 0] (w5.setCell ⟨q5, 1, none⟩ (.int .i64 fr)) := D5.set 1 _
 have OS5 : Off (fun c => c = q5) w5 (w5.setCell ⟨q5, 1, none⟩ (.int .i64 fr)) := (Off.refl (fun c => c = q5) w5).setCell (p := ⟨q5, 1, none⟩) (.inl rfl) _
 have HR6 : Hid (Rdr 68 D b a2 (w5.setCell ⟨q5, 1, none⟩ (.int .i64 fr))) := HR5.out.off OS5 (fun e => HNE.out.1 e.symm) (fun c _ hc e => by have e : c = q5 := e; exact HND.out (e ▸ hc))
 have HO6 : Hid (Off (fun c => c = b ∨ c = q5) U (w5.setCell ⟨q5, 1, none⟩ (.int .i64 fr))) := (HO.out.trans (HO5.out.mono (fun c _ h => .inl h)) (fun _ _ h => h)).trans (OS5.mono (fun c _ h => .inr h)) (fun _ _ h => h)
 generalize w5.setCell ⟨q5, 1, none⟩ (.int .i64 fr) = V1 at E5 HR6 HO6 ⊢
 clear HC HR HO HR5 HO5 OS5 D5 y0 y1 y2 y3 y4 y5 y6 y7 y8 y9 fy
 have HC : Hid _ := E5
 have HR : Hid _ := HR6.out
 have HO : Hid _ := HO6.out
 clear E5 HR6 HO6
 obtain ⟨x0, x1, x2, x3, x4, x5, x6, x7, x8, x9⟩ := celw10 (HC.out)
 have fz := (HC.out).free
 go_wp2_with fail
 refine (HH3.out.1 _ HR.out).mono ?_
 rintro e w5 ⟨rfl, r5, o5⟩
 have HR5 : Hid (Rdr 68 D b a3 w5) := r5
 have HO5 : Hid (Off (fun c => c = b) _ w5) := o5
 clear r5 o5
 clear x0 x1 x2 x3 x4 x5 x6 x7 x8 x9 fz
 have D5 := HC.out.off HO5.out (fun e => HNE.out.1 e)
 obtain ⟨y0, y1, y2, y3, y4, y5, y6, y7, y8, y9⟩ := celw10 (D5)
 have fy := (D5).free
 go_wp2_with fail
 refine (HH3.out.2 _).mono ?_
 rintro e w6 ⟨rfl, hw⟩
 rw [hw]
 clear hw w6
 go_upto_region 8 with fail
 have E5 : Cel q5 26 #[.int .i64 k, .int .i64 fr, .int .i64 tn, .int .i64 0, .int .i64 0, .string ⟨#[]⟩, .int .i64 0, .slice none 0 0, .slice none 0 0, .slice none 0 0] (w5.setCell ⟨q5, 2, none⟩ (.int .i64 tn)) := D5.set 2 _
 have OS5 : Off (fun c => c = q5) w5 (w5.setCell ⟨q5, 2, none⟩ (.int .i64 tn)) := (Off.refl (fun c => c = q5) w5).setCell (p := ⟨q5, 2, none⟩) (.inl rfl) _
 have HR6 : Hid (Rdr 68 D b a3 (w5.setCell ⟨q5, 2, none⟩ (.int .i64 tn))) := HR5.out.off OS5 (fun e => HNE.out.1 e.symm) (fun c _ hc e => by have e : c = q5 := e; exact HND.out (e ▸ hc))
 have HO6 : Hid (Off (fun c => c = b ∨ c = q5) U (w5.setCell ⟨q5, 2, none⟩ (.int .i64 tn))) := (HO.out.trans (HO5.out.mono (fun c _ h => .inl h)) (fun _ _ h => h)).trans (OS5.mono (fun c _ h => .inr h)) (fun _ _ h => h)
 generalize w5.setCell ⟨q5, 2, none⟩ (.int .i64 tn) = V2 at E5 HR6 HO6 ⊢
 clear HC HR HO HR5 HO5 OS5 D5 y0 y1 y2 y3 y4 y5 y6 y7 y8 y9 fy
 have HC : Hid _ := E5
 have HR : Hid _ := HR6.out
 have HO : Hid _ := HO6.out
 clear E5 HR6 HO6
 obtain ⟨x0, x1, x2, x3, x4, x5, x6, x7, x8, x9⟩ := celw10 (HC.out)
 have fz := (HC.out).free
 go_wp2_with fail
 refine (HHS.out _).mono ?_
 rintro e w' ⟨rfl, hw⟩
 rw [hw]
 clear hw w' HHS
 clear x0 x1 x2 x3 x4 x5 x6 x7 x8 x9 fz
 have bt := HV0.out.1
 have bn := HV0.out.2
 go_upto_if 38 with fail
 clear bt bn
 go_cut [] from 39 to 41 (fun wx => Hid (Cel q5 26 #[.int .i64 k, .int .i64 fr, .int .i64 tn, .int .i64 op, .int .i64 0, .string ⟨#[]⟩, .int .i64 0, .slice none 0 0, .slice none 0 0, .slice none 0 0] wx) ∧ Hid (Rdr 68 D b a4 wx) ∧ Hid (Off (fun c => c = b ∨ c = q5) U wx))
 case first =>
  cases so
  ·go_wp2_with fail
   go_meet
   case rel => obtain ⟨e1, e2⟩ := HH4.out.2 (by simp); rw [e1, e2]; exact ⟨HC.out, HR.out, HO.out⟩
  ·obtain ⟨x0, x1, x2, x3, x4, x5, x6, x7, x8, x9⟩ := celw10 (HC.out)
   have fz := (HC.out).free
   go_wp2_with fail
   refine ((HH4.out.1 (by simp)) _ HR.out).mono ?_
   rintro e w5 ⟨rfl, r5, o5⟩
   have HR5 : Hid (Rdr 68 D b a4 w5) := r5
   have HO5 : Hid (Off (fun c => c = b) _ w5) := o5
   clear r5 o5
   clear x0 x1 x2 x3 x4 x5 x6 x7 x8 x9 fz
   have D5 := HC.out.off HO5.out (fun e => HNE.out.1 e)
   obtain ⟨y0, y1, y2, y3, y4, y5, y6, y7, y8, y9⟩ := celw10 (D5)
   have fy := (D5).free
   go_wp2_with fail
   have E5 : Cel q5 26 #[.int .i64 k, .int .i64 fr, .int .i64 tn, .int .i64 op, .int .i64 0, .string ⟨#[]⟩, .int .i64 0, .slice none 0 0, .slice none 0 0, .slice none 0 0] (w5.setCell ⟨q5, 3, none⟩ (.int .i64 op)) := D5.set 3 _
   have OS5 : Off (fun c => c = q5) w5 (w5.setCell ⟨q5, 3, none⟩ (.int .i64 op)) := (Off.refl (fun c => c = q5) w5).setCell (p := ⟨q5, 3, none⟩) (.inl rfl) _
   go_meet
   case rel => exact ⟨E5, HR5.out.off OS5 (fun e => HNE.out.1 e.symm) (fun c _ hc e => by have e : c = q5 := e; exact HND.out (e ▸ hc)), (HO.out.trans (HO5.out.mono (fun c _ h => .inl h)) (fun _ _ h => h)).trans (OS5.mono (fun c _ h => .inr h)) (fun _ _ h => h)⟩
 case rest =>
  clear HC HR HO
  obtain ⟨HC, HR, HO⟩ := hcut
  have bt := HV1.out.1
  have bn := HV1.out.2
  go_upto_if 44 with fail
  clear bt bn
  go_cut [] from 45 to 48 (fun wx => Hid (Cel q5 26 #[.int .i64 k, .int .i64 fr, .int .i64 tn, .int .i64 op, .int .i64 fo, .string ⟨#[]⟩, .int .i64 0, .slice none 0 0, .slice none 0 0, .slice none 0 0] wx) ∧ Hid (Rdr 68 D b a5 wx) ∧ Hid (Off (fun c => c = b ∨ c = q5) U wx))
  case first =>
   cases sf
   ·go_wp2_with fail
    go_meet
    case rel => obtain ⟨e1, e2⟩ := HH5.out.2 (by simp); rw [e1, e2]; exact ⟨HC.out, HR.out, HO.out⟩
   ·obtain ⟨nn, hn1, hn2⟩ := HH5.out.1 (by simp)
    have HNN : Hid _ := And.intro hn1 hn2
    clear hn1 hn2
    obtain ⟨x0, x1, x2, x3, x4, x5, x6, x7, x8, x9⟩ := celw10 (HC.out)
    have fz := (HC.out).free
    go_wp2_with fail
    refine (HNN.out.1 _ HR.out).mono ?_
    rintro e w5 ⟨rfl, r5, o5⟩
    have HR5 : Hid (Rdr 68 D b a5 w5) := r5
    have HO5 : Hid (Off (fun c => c = b) _ w5) := o5
    clear r5 o5
    clear x0 x1 x2 x3 x4 x5 x6 x7 x8 x9 fz
    have D5 := HC.out.off HO5.out (fun e => HNE.out.1 e)
    obtain ⟨y0, y1, y2, y3, y4, y5, y6, y7, y8, y9⟩ := celw10 (D5)
    have fy := (D5).free
    go_wp2_with fail
    refine (HNN.out.2 _).mono ?_
    rintro e w6 ⟨rfl, hw⟩
    rw [hw]
    clear hw w6
    go_wp2_with fail
    have E5 : Cel q5 26 #[.int .i64 k, .int .i64 fr, .int .i64 tn, .int .i64 op, .int .i64 fo, .string ⟨#[]⟩, .int .i64 0, .slice none 0 0, .slice none 0 0, .slice none 0 0] (w5.setCell ⟨q5, 4, none⟩ (.int .i64 fo)) := D5.set 4 _
    have OS5 : Off (fun c => c = q5) w5 (w5.setCell ⟨q5, 4, none⟩ (.int .i64 fo)) := (Off.refl (fun c => c = q5) w5).setCell (p := ⟨q5, 4, none⟩) (.inl rfl) _
    go_meet
    case rel => exact ⟨E5, HR5.out.off OS5 (fun e => HNE.out.1 e.symm) (fun c _ hc e => by have e : c = q5 := e; exact HND.out (e ▸ hc)), (HO.out.trans (HO5.out.mono (fun c _ h => .inl h)) (fun _ _ h => h)).trans (OS5.mono (fun c _ h => .inr h)) (fun _ _ h => h)⟩
  case rest =>
   clear HC HR HO
   obtain ⟨HC, HR, HO⟩ := hcut
   have bt := HV2.out.1
   have bn := HV2.out.2
   go_upto_if 51 with fail
   clear bt bn
   go_cut [] from 52 to 55 (fun wx => Hid (Cel q5 26 #[.int .i64 k, .int .i64 fr, .int .i64 tn, .int .i64 op, .int .i64 fo, .string key, .int .i64 0, .slice none 0 0, .slice none 0 0, .slice none 0 0] wx) ∧ Hid (Rdr 68 D b a6 wx) ∧ Hid (Off (fun c => c = b ∨ c = q5) U wx))
   case first =>
    cases sk
    ·go_wp2_with fail
     go_meet
     case rel => obtain ⟨e1, e2⟩ := HH6.out.2 (by simp); rw [e1, e2]; exact ⟨HC.out, HR.out, HO.out⟩
    ·obtain ⟨x0, x1, x2, x3, x4, x5, x6, x7, x8, x9⟩ := celw10 (HC.out)
     have fz := (HC.out).free
     go_wp2_with fail
     refine ((HH6.out.1 (by simp)) _ HR.out).mono ?_
     rintro e w5 ⟨t5, c5, rfl, own5, r5, o5⟩
     have HW5 : Hid _ := own5
     clear own5
     have HR5 : Hid (Rdr 68 D b a6 w5) := r5
     have HO5 : Hid (Off (fun c => c = b) _ w5) := o5
     clear r5 o5
     clear x0 x1 x2 x3 x4 x5 x6 x7 x8 x9 fz
     have D5 := HC.out.off HO5.out (fun e => HNE.out.1 e)
     obtain ⟨y0, y1, y2, y3, y4, y5, y6, y7, y8, y9⟩ := celw10 (D5)
     have fy := (D5).free
     have x9 := conv_src HW5.out.src
     rw [← HKY.out (by simp)] at x9
     go_wp2_with fail
     have E5 : Cel q5 26 #[.int .i64 k, .int .i64 fr, .int .i64 tn, .int .i64 op, .int .i64 fo, .string key, .int .i64 0, .slice none 0 0, .slice none 0 0, .slice none 0 0] (w5.setCell ⟨q5, 5, none⟩ (.string key)) := D5.set 5 _
     have OS5 : Off (fun c => c = q5) w5 (w5.setCell ⟨q5, 5, none⟩ (.string key)) := (Off.refl (fun c => c = q5) w5).setCell (p := ⟨q5, 5, none⟩) (.inl rfl) _
     go_meet
     case rel => exact ⟨E5, HR5.out.off OS5 (fun e => HNE.out.1 e.symm) (fun c _ hc e => by have e : c = q5 := e; exact HND.out (e ▸ hc)), (HO.out.trans (HO5.out.mono (fun c _ h => .inl h)) (fun _ _ h => h)).trans (OS5.mono (fun c _ h => .inr h)) (fun _ _ h => h)⟩
   case rest =>
    clear HC HR HO
    obtain ⟨HC, HR, HO⟩ := hcut
    have bt := HV3.out.1
    have bn := HV3.out.2
    go_upto_if 58 with fail
    clear bt bn
    go_cut [] from 59 to 62 (fun wx => Hid (Cel q5 26 #[.int .i64 k, .int .i64 fr, .int .i64 tn, .int .i64 op, .int .i64 fo, .string key, .int .i64 bk, .slice none 0 0, .slice none 0 0, .slice none 0 0] wx) ∧ Hid (Rdr 68 D b a7 wx) ∧ Hid (Off (fun c => c = b ∨ c = q5) U wx))
    case first =>
     cases sb
     ·go_wp2_with fail
      go_meet
      case rel => obtain ⟨e1, e2⟩ := HH7.out.2 (by simp); rw [e1, e2]; exact ⟨HC.out, HR.out, HO.out⟩
     ·obtain ⟨nn, hn1, hn2⟩ := HH7.out.1 (by simp)
      have HNN : Hid _ := And.intro hn1 hn2
      clear hn1 hn2
      obtain ⟨x0, x1, x2, x3, x4, x5, x6, x7, x8, x9⟩ := celw10 (HC.out)
      have fz := (HC.out).free
      go_wp2_with fail
      refine (HNN.out.1 _ HR.out).mono ?_
      rintro e w5 ⟨rfl, r5, o5⟩
      have HR5 : Hid (Rdr 68 D b a7 w5) := r5
      have HO5 : Hid (Off (fun c => c = b) _ w5) := o5
      clear r5 o5
      clear x0 x1 x2 x3 x4 x5 x6 x7 x8 x9 fz
      have D5 := HC.out.off HO5.out (fun e => HNE.out.1 e)
      obtain ⟨y0, y1, y2, y3, y4, y5, y6, y7, y8, y9⟩ := celw10 (D5)
      have fy := (D5).free
      go_wp2_with fail
      refine (HNN.out.2 _).mono ?_
      rintro e w6 ⟨rfl, hw⟩
      rw [hw]
      clear hw w6
      go_wp2_with fail
      have E5 : Cel q5 26 #[.int .i64 k, .int .i64 fr, .int .i64 tn, .int .i64 op, .int .i64 fo, .string key, .int .i64 bk, .slice none 0 0, .slice none 0 0, .slice none 0 0] (w5.setCell ⟨q5, 6, none⟩ (.int .i64 bk)) := D5.set 6 _
      have OS5 : Off (fun c => c = q5) w5 (w5.setCell ⟨q5, 6, none⟩ (.int .i64 bk)) := (Off.refl (fun c => c = q5) w5).setCell (p := ⟨q5, 6, none⟩) (.inl rfl) _
      go_meet
      case rel => exact ⟨E5, HR5.out.off OS5 (fun e => HNE.out.1 e.symm) (fun c _ hc e => by have e : c = q5 := e; exact HND.out (e ▸ hc)), (HO.out.trans (HO5.out.mono (fun c _ h => .inl h)) (fun _ _ h => h)).trans (OS5.mono (fun c _ h => .inr h)) (fun _ _ h => h)⟩
    case rest =>
     clear HC HR HO
     obtain ⟨HC, HR, HOU⟩ := hcut
     have bt := HV4.out.1
     have bn := HV4.out.2
     go_upto_if 65 with fail
     clear bt bn
     go_cut [7] from 66 to 85 (fun s7 wx => ∃ (tE : Option Addr) (cE : Nat) (es : List (E)), s7 = .bool okE ∧ Hid (es.map E.abs = kE) ∧ Hid (Cel q5 26 #[.int .i64 k, .int .i64 fr, .int .i64 tn, .int .i64 op, .int .i64 fo, .string key, .int .i64 bk, .slice tE es.length cE, .slice none 0 0, .slice none 0 0] wx) ∧ Hid (Rdr 68 D b sE wx) ∧ Hid (Off (fun c => c = b ∨ c = q5) U wx) ∧ Hid (∀ v, Off (fun c => c < U.heap.size) wx v → Ens v tE cE es))
     case first =>
      obtain ⟨WB, hWB⟩ : ∃ W, W = wc := ⟨_, rfl⟩
      rw [← hWB] at HC HR HOU ⊢
      clear hWB
      have HUB : Hid (U.heap.size ≤ WB.heap.size) := HOU.out.size
      have HBB : Hid (b < WB.heap.size) := by have := HUB.out; have := HVS.out; show b < _; omega
      have HQB : Hid (q5 < WB.heap.size) := by have := HUB.out; have := HVS.out; show q5 < _; omega
      have HWB : Hid (w.heap.size ≤ WB.heap.size) := by have := HUB.out; have := HVS.out; show w.heap.size ≤ _; omega
      cases se
      ·go_wp2_with fail
       obtain ⟨e0, e1, e2⟩ := HH8.out.2 (by simp)
       go_meet
       case rel => exact ⟨none, 0, [], by rw [e0], e1.symm, HC.out, e2 ▸ HR.out, HOU.out, fun v _ => ⟨by simp, by omega, fun i e hi => by simp at hi⟩⟩
      ·obtain ⟨cnt, s1, hcn, hrun, hcall⟩ := HH8.out.1 (by simp)
       have HRU : Hid _ := hrun
       have HCA : Hid _ := hcall
       have HCNT : Hid (cnt ≤ 256) := hcn
       clear hrun hcall hcn
       go_wp2_with fail
       refine (HCA.out _ HR.out).mono ?_
       rintro e w5 ⟨rfl, r5, o5⟩
       have HR5 : Hid (Rdr 68 D b s1 w5) := r5
       have HO5 : Hid (Off (fun c => c = b) WB w5) := o5
       clear r5 o5 HCA
       have HC5 : Hid _ := HC.out.off HO5.out (fun e => HNE.out.1 e)
       go_wp2_with fail
       go_loopw [7, 68] (fun x y wr => ∃ (i : Nat) (si : RS) (tE : Option Addr) (cE : Nat) (es : List (E)) (ok : Bool), x = .bool ok ∧ y = .int .i64 (i : Int) ∧ i ≤ cnt ∧ Hid (es.length = i) ∧ Hid (Cel q5 26 #[.int .i64 k, .int .i64 fr, .int .i64 tn, .int .i64 op, .int .i64 fo, .string key, .int .i64 bk, .slice tE es.length cE, .slice none 0 0, .slice none 0 0] wr) ∧ Hid (OwnG 46 10 ecs wr tE cE es) ∧ Hid (∀ i, blk tE = some i → WB.heap.size ≤ i) ∧ Hid (∀ x ∈ es, AptE WB.heap.size tE wr x) ∧ Hid (RunE (cnt - i) si ok (es.map E.abs) okE kE sE) ∧ Hid (Rdr 68 D b si wr) ∧ Hid (Off (fun c => c = b ∨ c = q5) WB wr)) (fun _ y _ => (cnt - intOf y).toNat)
       case atStart => exact ⟨0, s1, none, 0, [], true, rfl, rfl, by omega, rfl, HC5.out, OwnG.nil _ _ _ _, fun i hi => by simp [blk] at hi, fun x hx => by simp at hx, HRU.out, HR5.out, HO5.out.mono (fun c _ h => .inl h)⟩
       case round =>
        clear HC HR HC5 HR5 HO5 HRU
        obtain ⟨i, si, tE, cE, es, ok, rfl, rfl, hi, HKI, HC, HOWN, HLO, HBL, HRU, HR, HO⟩ := hrel
        have hcn9 := HCNT.out
        by_cases hlt : i < cnt
        ·have g1b : decide ((i : Int) < (cnt : Int)) = true := decide_eq_true (by omega)
         have g2b : decide (i < cnt) = true := decide_eq_true hlt
         obtain ⟨okx, hokx⟩ : ∃ o, o = reB nodeR si := ⟨_, rfl⟩
         go_wp2_with fail
         refine (greadEntry_any HR.out).mono ?_
         rw [← hokx]
         rintro e w3 ⟨key2, h, a1, c1, l1, rfl, hk, hh', hl, hrow, hfr, R3, o3⟩
         have HOK : Hid (okx = reB nodeR si) := hokx
         clear hokx
         have HK : Hid _ := hk
         have HHH : Hid _ := hh'
         have HL : Hid _ := hl
         have HNW : Hid ((∀ i, blk tE = some i → i < wr.heap.size) → AptE WB.heap.size tE w3 (⟨key2, h, a1, c1, l1⟩ : E)) := AptE.new hrow hfr HO.out.size
         have HR3 : Hid _ := R3
         have HO3 : Hid (Off (fun c => c = b) wr w3) := o3
         clear R3 o3 hk hh' hl hrow hfr
         go_upto_region 22 with fail
         have CN := Cel.new w3 46 #[.string key2, .int .i64 (h 0), .int .i64 (h 1), .int .i64 (h 2), .int .i64 (h 3), .int .i64 (h 4), .int .i64 (h 5), .int .i64 (h 6), .int .i64 (h 7), .slice a1 l1.length c1]
         have ON : Off (fun _ => False) w3 (w3.alloc (.cells #[.string key2, .int .i64 (h 0), .int .i64 (h 1), .int .i64 (h 2), .int .i64 (h 3), .int .i64 (h 4), .int .i64 (h 5), .int .i64 (h 6), .int .i64 (h 7), .slice a1 l1.length c1] 46)) := (Off.refl _ w3).alloc _
         generalize hvv : w3.alloc (.cells #[.string key2, .int .i64 (h 0), .int .i64 (h 1), .int .i64 (h 2), .int .i64 (h 3), .int .i64 (h 4), .int .i64 (h 5), .int .i64 (h 6), .int .i64 (h 7), .slice a1 l1.length c1] 46) = w4 at CN ON ⊢
         generalize hpp : w3.heap.size = pp at CN ⊢
         clear hvv hpp
         have HR4 : Hid _ := HR3.out.off ON (fun h => h) (fun _ _ _ h => h)
         have HO4 : Hid (Off (fun c => c = b) wr w4) := HO3.out.trans (ON.mono (fun _ _ h => h.elim)) (fun _ _ h => h)
         have HNW4 : Hid ((∀ i, blk tE = some i → i < wr.heap.size) → AptE WB.heap.size tE w4 (⟨key2, h, a1, c1, l1⟩ : E)) := fun h => (HNW.out h).off (b := b) (ON.mono (fun _ _ h => h.elim)) HBB.out
         clear HNW ON HR3 HO3
         have z0 := CN.cell 0
         have z1 := CN.cell 1
         have z2 := CN.cell 2
         have z3 := CN.cell 3
         have z4 := CN.cell 4
         have z5 := CN.cell 5
         have z6 := CN.cell 6
         have z7 := CN.cell 7
         have z8 := CN.cell 8
         have z9 := CN.cell 9
         simp at z0 z1 z2 z3 z4 z5 z6 z7 z8 z9
         clear CN
         cases ok with
         | false =>
          obtain ⟨u, hu⟩ : ∃ u, u = (⟨key2, h, a1, c1, l1⟩ : E) := ⟨_, rfl⟩
          have HU : Hid (u = (⟨key2, h, a1, c1, l1⟩ : E)) := hu
          have ecu : ecs u = [.string key2, .int .i64 (h 0), .int .i64 (h 1), .int .i64 (h 2), .int .i64 (h 3), .int .i64 (h 4), .int .i64 (h 5), .int .i64 (h 6), .int .i64 (h 7), .slice a1 l1.length c1] := by rw [hu]; rfl
          clear hu
          have OA : Off (fun _ => False) w4 (w4.alloc (.cells #[.string key2, .int .i64 (h 0), .int .i64 (h 1), .int .i64 (h 2), .int .i64 (h 3), .int .i64 (h 4), .int .i64 (h 5), .int .i64 (h 6), .int .i64 (h 7), .slice a1 l1.length c1] 46)) := (Off.refl _ w4).alloc _
          have own5 := (HOWN.out.off HO4.out (fun c h e => by have := HLO.out c (by first | exact h | exact e); have := HBB.out; omega)).off OA (fun _ _ _ h => h)
          have cn := Cel.new w4 46 #[.string key2, .int .i64 (h 0), .int .i64 (h 1), .int .i64 (h 2), .int .i64 (h 3), .int .i64 (h 4), .int .i64 (h 5), .int .i64 (h 6), .int .i64 (h 7), .slice a1 l1.length c1]
          have hcn : ∀ j x, (ecs u)[j]? = some x → (w4.alloc (.cells #[.string key2, .int .i64 (h 0), .int .i64 (h 1), .int .i64 (h 2), .int .i64 (h 3), .int .i64 (h 4), .int .i64 (h 5), .int .i64 (h 6), .int .i64 (h 7), .slice a1 l1.length c1] 46)).cell? ⟨w4.heap.size, j, none⟩ = some x := fun j x hj => by
           rw [cn.cell j]
           rw [ecu] at hj
           simpa using hj
          have HOA : Hid (Off (fun _ => False) w4 (w4.alloc (.cells #[.string key2, .int .i64 (h 0), .int .i64 (h 1), .int .i64 (h 2), .int .i64 (h 3), .int .i64 (h 4), .int .i64 (h 5), .int .i64 (h 6), .int .i64 (h 7), .slice a1 l1.length c1] 46))) := OA
          have hk1 : es.length ≤ 1000000 := by have := HCNT.out; have := HKI.out; omega
          have D5 := HC.out.off HO4.out (fun e => HNE.out.1 e)
          obtain ⟨x0, x1, x2, x3, x4, x5, x6, x7, x8, x9⟩ := celw10 (D5)
          have fz := (D5).free
          have HD5 : Hid _ := D5
          clear OA cn ecu D5
          go_wp2_with (at_builtin; refine wpList_appG rfl (.tmp 80) (.tmp 82) Tryz.underlying22 Tryz.infoE rfl (by decide) (by decide) ecs_len ecs_one rfl tE cE es rfl own5 w4.heap.size 1 u rfl hcn hk1 ?_; intro t' c' w' ys hys own' off' at'; have D6 := (HD5.out.off HOA.out (fun h => h)).off off' (fun e => by have := HLO.out q5 e; have := HQB.out; omega); have HD6 : Hid _ := D6; clear x0 x1 x2 x3 x4 x5 x6 x7 x8 x9 fz; obtain ⟨y0, y1, y2, y3, y4, y5, y6, y7, y8, y9⟩ := celw10 D6; have fy := D6.free; clear D6)
          have HYL : Hid (ys.length = es.length + 1) := by show _ = _; rw [hys.out]; simp
          have HYS : Hid _ := hys.out
          have HOW' : Hid _ := own'
          have HOF' : Hid _ := off'
          have HAT' : Hid _ := at'
          have E5 : Cel q5 26 #[.int .i64 k, .int .i64 fr, .int .i64 tn, .int .i64 op, .int .i64 fo, .string key, .int .i64 bk, .slice t' ys.length c', .slice none 0 0, .slice none 0 0] (w'.setCell ⟨q5, 7, none⟩ (.slice t' ys.length c')) := HD6.out.set 7 _
          have OS5 : Off (fun c => c = q5) w' (w'.setCell ⟨q5, 7, none⟩ (.slice t' ys.length c')) := (Off.refl (fun c => c = q5) w').setCell (p := ⟨q5, 7, none⟩) (.inl rfl) _
          have HE5 : Hid _ := E5
          have HS5 : Hid _ := OS5
          clear own' off' at' hys own5 hcn y0 y1 y2 y3 y4 y5 y6 y7 y8 y9 hk1 E5 OS5
          go_wp2_with fail
          clear fy z0 z1 z2 z3 z4 z5 z6 z7 z8 z9
          go_roundw
          case rel =>
           have at' := HAT'.out
           have hki := HKI.out
           have hyl := HYL.out
           have s4 := HO4.out.size
           have so := HO.out.size
           have sa := HOA.out.size
           have qb := HQB.out
           have bb := HBB.out
           have tf : ∀ i, blk t' = some i → WB.heap.size ≤ i := fun i hi => by
            rcases at' with h9 | h9
            ·exact HLO.out i (h9 ▸ hi)
            ·rw [h9] at hi; simp only [World.size_alloc, Option.some.injEq] at hi; omega
           have HOT : Off (fun c => c = b ∨ c = q5) WB (w'.setCell ⟨q5, 7, none⟩ (.slice t' ys.length c')) := (((HO.out.trans (HO4.out.mono (E := (fun c => c = b ∨ c = q5)) (fun _ _ h => .inl h)) (fun _ _ h => h)).trans (HOA.out.mono (fun _ _ h => h.elim)) (fun _ _ h => h)).trans HOF'.out (fun i hi e => by have := HLO.out i e; omega)).trans (HS5.out.mono (fun _ _ h => .inr h)) (fun _ _ h => h)
           refine ⟨i + 1, reS si, t', c', ys, false && reB nodeR si, by rw [← HOK.out]; rfl, by go_num, by omega, (by show ys.length = _; omega), HE5.out, HOW'.out.off HS5.out (fun i _ hi e => by have e : i = q5 := e; have := tf i hi; omega), tf, fun x hx => ?_, ?_, ?_, HOT⟩
           ·rw [HYS.out, List.mem_append, List.mem_singleton] at hx
            refine AptE.off (b := q5) ?_ HS5.out (by omega)
            rcases hx with hx | rfl
            ·exact (((HBL.out x hx).off HO4.out bb).off (b := b) (HOA.out.mono (fun _ _ h => h.elim)) bb).app HOF'.out at'
            ·rw [HU.out]
             exact ((HNW4.out HOWN.out.lt).off (b := b) (HOA.out.mono (fun _ _ h => h.elim)) bb).app HOF'.out at'
           ·have h1 := HRU.out.go (m := cnt - (i + 1)) (by omega)
            show RunE _ _ _ _ _ _ _
            rw [HYS.out, List.map_append, List.map_singleton, HU.out, show E.abs (⟨key2, h, a1, c1, l1⟩ : E) = (⟨reKey nodeR si, reF nodeR si, reL nodeR si⟩ : K) from by show K.mk _ _ _ = K.mk _ _ _; rw [← HK.out, ← HHH.out, ← HL.out]]
            exact h1
           ·exact ((HR4.out.off HOA.out (fun h => h) (fun _ _ _ h => h)).off HOF'.out (fun e => by have := HLO.out b e; omega) (fun c _ hc e => by have := HLO.out c e; have := HDL.out c hc; have := HWB.out; omega)).off HS5.out (fun e => HNE.out.1 e.symm) (fun c _ hc e => by have e : c = q5 := e; exact HND.out (e ▸ hc))
          case measure => simp [intOf]; omega
         | true =>
          obtain ⟨u, hu⟩ : ∃ u, u = (⟨key2, h, a1, c1, l1⟩ : E) := ⟨_, rfl⟩
          have HU : Hid (u = (⟨key2, h, a1, c1, l1⟩ : E)) := hu
          have ecu : ecs u = [.string key2, .int .i64 (h 0), .int .i64 (h 1), .int .i64 (h 2), .int .i64 (h 3), .int .i64 (h 4), .int .i64 (h 5), .int .i64 (h 6), .int .i64 (h 7), .slice a1 l1.length c1] := by rw [hu]; rfl
          clear hu
          have OA : Off (fun _ => False) w4 (w4.alloc (.cells #[.string key2, .int .i64 (h 0), .int .i64 (h 1), .int .i64 (h 2), .int .i64 (h 3), .int .i64 (h 4), .int .i64 (h 5), .int .i64 (h 6), .int .i64 (h 7), .slice a1 l1.length c1] 46)) := (Off.refl _ w4).alloc _
          have own5 := (HOWN.out.off HO4.out (fun c h e => by have := HLO.out c (by first | exact h | exact e); have := HBB.out; omega)).off OA (fun _ _ _ h => h)
          have cn := Cel.new w4 46 #[.string key2, .int .i64 (h 0), .int .i64 (h 1), .int .i64 (h 2), .int .i64 (h 3), .int .i64 (h 4), .int .i64 (h 5), .int .i64 (h 6), .int .i64 (h 7), .slice a1 l1.length c1]
          have hcn : ∀ j x, (ecs u)[j]? = some x → (w4.alloc (.cells #[.string key2, .int .i64 (h 0), .int .i64 (h 1), .int .i64 (h 2), .int .i64 (h 3), .int .i64 (h 4), .int .i64 (h 5), .int .i64 (h 6), .int .i64 (h 7), .slice a1 l1.length c1] 46)).cell? ⟨w4.heap.size, j, none⟩ = some x := fun j x hj => by
           rw [cn.cell j]
           rw [ecu] at hj
           simpa using hj
          have HOA : Hid (Off (fun _ => False) w4 (w4.alloc (.cells #[.string key2, .int .i64 (h 0), .int .i64 (h 1), .int .i64 (h 2), .int .i64 (h 3), .int .i64 (h 4), .int .i64 (h 5), .int .i64 (h 6), .int .i64 (h 7), .slice a1 l1.length c1] 46))) := OA
          have hk1 : es.length ≤ 1000000 := by have := HCNT.out; have := HKI.out; omega
          have D5 := HC.out.off HO4.out (fun e => HNE.out.1 e)
          obtain ⟨x0, x1, x2, x3, x4, x5, x6, x7, x8, x9⟩ := celw10 (D5)
          have fz := (D5).free
          have HD5 : Hid _ := D5
          clear OA cn ecu D5
          go_wp2_with (at_builtin; refine wpList_appG rfl (.tmp 80) (.tmp 82) Tryz.underlying22 Tryz.infoE rfl (by decide) (by decide) ecs_len ecs_one rfl tE cE es rfl own5 w4.heap.size 1 u rfl hcn hk1 ?_; intro t' c' w' ys hys own' off' at'; have D6 := (HD5.out.off HOA.out (fun h => h)).off off' (fun e => by have := HLO.out q5 e; have := HQB.out; omega); have HD6 : Hid _ := D6; clear x0 x1 x2 x3 x4 x5 x6 x7 x8 x9 fz; obtain ⟨y0, y1, y2, y3, y4, y5, y6, y7, y8, y9⟩ := celw10 D6; have fy := D6.free; clear D6)
          have HYL : Hid (ys.length = es.length + 1) := by show _ = _; rw [hys.out]; simp
          have HYS : Hid _ := hys.out
          have HOW' : Hid _ := own'
          have HOF' : Hid _ := off'
          have HAT' : Hid _ := at'
          have E5 : Cel q5 26 #[.int .i64 k, .int .i64 fr, .int .i64 tn, .int .i64 op, .int .i64 fo, .string key, .int .i64 bk, .slice t' ys.length c', .slice none 0 0, .slice none 0 0] (w'.setCell ⟨q5, 7, none⟩ (.slice t' ys.length c')) := HD6.out.set 7 _
          have OS5 : Off (fun c => c = q5) w' (w'.setCell ⟨q5, 7, none⟩ (.slice t' ys.length c')) := (Off.refl (fun c => c = q5) w').setCell (p := ⟨q5, 7, none⟩) (.inl rfl) _
          have HE5 : Hid _ := E5
          have HS5 : Hid _ := OS5
          clear own' off' at' hys own5 hcn y0 y1 y2 y3 y4 y5 y6 y7 y8 y9 hk1 E5 OS5
          go_wp2_with fail
          clear fy z0 z1 z2 z3 z4 z5 z6 z7 z8 z9
          go_roundw
          case rel =>
           have at' := HAT'.out
           have hki := HKI.out
           have hyl := HYL.out
           have s4 := HO4.out.size
           have so := HO.out.size
           have sa := HOA.out.size
           have qb := HQB.out
           have bb := HBB.out
           have tf : ∀ i, blk t' = some i → WB.heap.size ≤ i := fun i hi => by
            rcases at' with h9 | h9
            ·exact HLO.out i (h9 ▸ hi)
            ·rw [h9] at hi; simp only [World.size_alloc, Option.some.injEq] at hi; omega
           have HOT : Off (fun c => c = b ∨ c = q5) WB (w'.setCell ⟨q5, 7, none⟩ (.slice t' ys.length c')) := (((HO.out.trans (HO4.out.mono (E := (fun c => c = b ∨ c = q5)) (fun _ _ h => .inl h)) (fun _ _ h => h)).trans (HOA.out.mono (fun _ _ h => h.elim)) (fun _ _ h => h)).trans HOF'.out (fun i hi e => by have := HLO.out i e; omega)).trans (HS5.out.mono (fun _ _ h => .inr h)) (fun _ _ h => h)
           refine ⟨i + 1, reS si, t', c', ys, true && reB nodeR si, by rw [← HOK.out]; rfl, by go_num, by omega, (by show ys.length = _; omega), HE5.out, HOW'.out.off HS5.out (fun i _ hi e => by have e : i = q5 := e; have := tf i hi; omega), tf, fun x hx => ?_, ?_, ?_, HOT⟩
           ·rw [HYS.out, List.mem_append, List.mem_singleton] at hx
            refine AptE.off (b := q5) ?_ HS5.out (by omega)
            rcases hx with hx | rfl
            ·exact (((HBL.out x hx).off HO4.out bb).off (b := b) (HOA.out.mono (fun _ _ h => h.elim)) bb).app HOF'.out at'
            ·rw [HU.out]
             exact ((HNW4.out HOWN.out.lt).off (b := b) (HOA.out.mono (fun _ _ h => h.elim)) bb).app HOF'.out at'
           ·have h1 := HRU.out.go (m := cnt - (i + 1)) (by omega)
            show RunE _ _ _ _ _ _ _
            rw [HYS.out, List.map_append, List.map_singleton, HU.out, show E.abs (⟨key2, h, a1, c1, l1⟩ : E) = (⟨reKey nodeR si, reF nodeR si, reL nodeR si⟩ : K) from by show K.mk _ _ _ = K.mk _ _ _; rw [← HK.out, ← HHH.out, ← HL.out]]
            exact h1
           ·exact ((HR4.out.off HOA.out (fun h => h) (fun _ _ _ h => h)).off HOF'.out (fun e => by have := HLO.out b e; omega) (fun c _ hc e => by have := HLO.out c e; have := HDL.out c hc; have := HWB.out; omega)).off HS5.out (fun e => HNE.out.1 e.symm) (fun c _ hc e => by have e : c = q5 := e; exact HND.out (e ▸ hc))
          case measure => simp [intOf]; omega
        ·obtain rfl : i = cnt := by omega
         have g1b : decide ((i : Int) < (i : Int)) = false := decide_eq_false (by omega)
         have g2b : decide (i < i) = false := decide_eq_false (by omega)
         go_wp2_with fail
         obtain ⟨e0, e1, e2⟩ := HRU.out.end_ (by omega)
         go_meet
         case rel => exact ⟨tE, cE, es, by rw [e0], e1, HC.out, e2 ▸ HR.out, HOU.out.trans HO.out (fun _ _ h => h), fun v o => (HOWN.out.off o (fun c h e => by have h1 := HLO.out c (by first | exact h | exact e); have := HUB.out; omega)).ens (fun x hx => (HBL.out x hx).keep (o.mono (fun c _ h => by have h : c < U.heap.size := h; have := HUB.out; show c < _; omega)))⟩
     case rest =>
      clear HC HR HOU
      obtain ⟨tE, cE, es, rfl, HAB0, HC, HR, HOU, HL0⟩ := hcut
      have bt := HV5.out.1
      have bn := HV5.out.2
      go_upto_if 88 with fail
      clear bt bn
      go_cut [7] from 89 to 108 (fun s7 wx => ∃ (tD : Option Addr) (cD : Nat) (gs : List (G)), s7 = .bool okA ∧ Hid (gs.map G.abs = kG) ∧ Hid (Cel q5 26 #[.int .i64 k, .int .i64 fr, .int .i64 tn, .int .i64 op, .int .i64 fo, .string key, .int .i64 bk, .slice tE es.length cE, .slice tD gs.length cD, .slice none 0 0] wx) ∧ Hid (Rdr 68 D b sG wx) ∧ Hid (Off (fun c => c = b ∨ c = q5) U wx) ∧ Hid (∀ v, Off (fun c => c < U.heap.size) wx v → Dgs v tD cD gs) ∧ Hid (∀ v, Off (fun c => c < U.heap.size) wx v → Ens v tE cE es))
      case first =>
       obtain ⟨WB, hWB⟩ : ∃ W, W = wc := ⟨_, rfl⟩
       rw [← hWB] at HC HR HOU HL0 ⊢
       clear hWB
       have HUB : Hid (U.heap.size ≤ WB.heap.size) := HOU.out.size
       have HBB : Hid (b < WB.heap.size) := by have := HUB.out; have := HVS.out; show b < _; omega
       have HQB : Hid (q5 < WB.heap.size) := by have := HUB.out; have := HVS.out; show q5 < _; omega
       have HWB : Hid (w.heap.size ≤ WB.heap.size) := by have := HUB.out; have := HVS.out; show w.heap.size ≤ _; omega
       cases sg
       ·go_wp2_with fail
        obtain ⟨e0, e1, e2⟩ := HH9.out.2 (by simp)
        go_meet
        case rel => exact ⟨none, 0, [], by rw [e0], e1.symm, HC.out, e2 ▸ HR.out, HOU.out, fun v _ => ⟨by simp, by omega, fun i e hi => by simp at hi⟩, HL0.out⟩
       ·obtain ⟨cnt, s1, hcn, hrun, hcall⟩ := HH9.out.1 (by simp)
        have HRU : Hid _ := hrun
        have HCA : Hid _ := hcall
        have HCNT : Hid (cnt ≤ 256) := hcn
        clear hrun hcall hcn
        go_wp2_with fail
        refine (HCA.out _ HR.out).mono ?_
        rintro e w5 ⟨rfl, r5, o5⟩
        have HR5 : Hid (Rdr 68 D b s1 w5) := r5
        have HO5 : Hid (Off (fun c => c = b) WB w5) := o5
        clear r5 o5 HCA
        have HC5 : Hid _ := HC.out.off HO5.out (fun e => HNE.out.1 e)
        go_wp2_with fail
        go_loopw [7, 91] (fun x y wr => ∃ (i : Nat) (si : RS) (tD : Option Addr) (cD : Nat) (gs : List (G)) (ok : Bool), x = .bool ok ∧ y = .int .i64 (i : Int) ∧ i ≤ cnt ∧ Hid (gs.length = i) ∧ Hid (Cel q5 26 #[.int .i64 k, .int .i64 fr, .int .i64 tn, .int .i64 op, .int .i64 fo, .string key, .int .i64 bk, .slice tE es.length cE, .slice tD gs.length cD, .slice none 0 0] wr) ∧ Hid (OwnG 49 10 gcs wr tD cD gs) ∧ Hid (∀ i, blk tD = some i → WB.heap.size ≤ i) ∧ Hid (∀ x ∈ gs, AptD WB.heap.size tD wr x) ∧ Hid (RunD (cnt - i) si ok (gs.map G.abs) okA kG sG) ∧ Hid (Rdr 68 D b si wr) ∧ Hid (Off (fun c => c = b ∨ c = q5) WB wr)) (fun _ y _ => (cnt - intOf y).toNat)
        case atStart => exact ⟨0, s1, none, 0, [], okE, rfl, rfl, by omega, rfl, HC5.out, OwnG.nil _ _ _ _, fun i hi => by simp [blk] at hi, fun x hx => by simp at hx, HRU.out, HR5.out, HO5.out.mono (fun c _ h => .inl h)⟩
        case round =>
         clear HC HR HC5 HR5 HO5 HRU
         obtain ⟨i, si, tD, cD, gs, ok, rfl, rfl, hi, HKI, HC, HOWN, HLO, HBL, HRU, HR, HO⟩ := hrel
         have hcn9 := HCNT.out
         by_cases hlt : i < cnt
         ·have g1b : decide ((i : Int) < (cnt : Int)) = true := decide_eq_true (by omega)
          have g2b : decide (i < cnt) = true := decide_eq_true hlt
          obtain ⟨okx, hokx⟩ : ∃ o, o = drB nodeR si := ⟨_, rfl⟩
          go_wp2_with fail
          refine (gdread_any HR.out).mono ?_
          rw [← hokx]
          rintro e w3 ⟨key2, h, a1, c1, l1, rfl, hk, hh', hl, hrow, hfr, R3, o3⟩
          have HOK : Hid (okx = drB nodeR si) := hokx
          clear hokx
          have HK : Hid _ := hk
          have HHH : Hid _ := hh'
          have HL : Hid _ := hl
          have HNW : Hid ((∀ i, blk tD = some i → i < wr.heap.size) → AptD WB.heap.size tD w3 (⟨key2, h, a1, c1, l1⟩ : G)) := AptD.new hrow hfr HO.out.size
          have HR3 : Hid _ := R3
          have HO3 : Hid (Off (fun c => c = b) wr w3) := o3
          clear R3 o3 hk hh' hl hrow hfr
          go_upto_region 29 with fail
          have CN := Cel.new w3 49 #[.string key2, .int .i64 (h 0), .int .i64 (h 1), .int .i64 (h 2), .int .i64 (h 3), .int .i64 (h 4), .int .i64 (h 5), .int .i64 (h 6), .int .i64 (h 7), .slice a1 l1.length c1]
          have ON : Off (fun _ => False) w3 (w3.alloc (.cells #[.string key2, .int .i64 (h 0), .int .i64 (h 1), .int .i64 (h 2), .int .i64 (h 3), .int .i64 (h 4), .int .i64 (h 5), .int .i64 (h 6), .int .i64 (h 7), .slice a1 l1.length c1] 49)) := (Off.refl _ w3).alloc _
          generalize hvv : w3.alloc (.cells #[.string key2, .int .i64 (h 0), .int .i64 (h 1), .int .i64 (h 2), .int .i64 (h 3), .int .i64 (h 4), .int .i64 (h 5), .int .i64 (h 6), .int .i64 (h 7), .slice a1 l1.length c1] 49) = w4 at CN ON ⊢
          generalize hpp : w3.heap.size = pp at CN ⊢
          clear hvv hpp
          have HR4 : Hid _ := HR3.out.off ON (fun h => h) (fun _ _ _ h => h)
          have HO4 : Hid (Off (fun c => c = b) wr w4) := HO3.out.trans (ON.mono (fun _ _ h => h.elim)) (fun _ _ h => h)
          have HNW4 : Hid ((∀ i, blk tD = some i → i < wr.heap.size) → AptD WB.heap.size tD w4 (⟨key2, h, a1, c1, l1⟩ : G)) := fun h => (HNW.out h).off (b := b) (ON.mono (fun _ _ h => h.elim)) HBB.out
          clear HNW ON HR3 HO3
          have z0 := CN.cell 0
          have z1 := CN.cell 1
          have z2 := CN.cell 2
          have z3 := CN.cell 3
          have z4 := CN.cell 4
          have z5 := CN.cell 5
          have z6 := CN.cell 6
          have z7 := CN.cell 7
          have z8 := CN.cell 8
          have z9 := CN.cell 9
          simp at z0 z1 z2 z3 z4 z5 z6 z7 z8 z9
          clear CN
          cases ok with
          | false =>
           obtain ⟨u, hu⟩ : ∃ u, u = (⟨key2, h, a1, c1, l1⟩ : G) := ⟨_, rfl⟩
           have HU : Hid (u = (⟨key2, h, a1, c1, l1⟩ : G)) := hu
           have ecu : gcs u = [.string key2, .int .i64 (h 0), .int .i64 (h 1), .int .i64 (h 2), .int .i64 (h 3), .int .i64 (h 4), .int .i64 (h 5), .int .i64 (h 6), .int .i64 (h 7), .slice a1 l1.length c1] := by rw [hu]; rfl
           clear hu
           have OA : Off (fun _ => False) w4 (w4.alloc (.cells #[.string key2, .int .i64 (h 0), .int .i64 (h 1), .int .i64 (h 2), .int .i64 (h 3), .int .i64 (h 4), .int .i64 (h 5), .int .i64 (h 6), .int .i64 (h 7), .slice a1 l1.length c1] 49)) := (Off.refl _ w4).alloc _
           have own5 := (HOWN.out.off HO4.out (fun c h e => by have := HLO.out c (by first | exact h | exact e); have := HBB.out; omega)).off OA (fun _ _ _ h => h)
           have cn := Cel.new w4 49 #[.string key2, .int .i64 (h 0), .int .i64 (h 1), .int .i64 (h 2), .int .i64 (h 3), .int .i64 (h 4), .int .i64 (h 5), .int .i64 (h 6), .int .i64 (h 7), .slice a1 l1.length c1]
           have hcn : ∀ j x, (gcs u)[j]? = some x → (w4.alloc (.cells #[.string key2, .int .i64 (h 0), .int .i64 (h 1), .int .i64 (h 2), .int .i64 (h 3), .int .i64 (h 4), .int .i64 (h 5), .int .i64 (h 6), .int .i64 (h 7), .slice a1 l1.length c1] 49)).cell? ⟨w4.heap.size, j, none⟩ = some x := fun j x hj => by
            rw [cn.cell j]
            rw [ecu] at hj
            simpa using hj
           have HOA : Hid (Off (fun _ => False) w4 (w4.alloc (.cells #[.string key2, .int .i64 (h 0), .int .i64 (h 1), .int .i64 (h 2), .int .i64 (h 3), .int .i64 (h 4), .int .i64 (h 5), .int .i64 (h 6), .int .i64 (h 7), .slice a1 l1.length c1] 49))) := OA
           have hk1 : gs.length ≤ 1000000 := by have := HCNT.out; have := HKI.out; omega
           have D5 := HC.out.off HO4.out (fun e => HNE.out.1 e)
           obtain ⟨x0, x1, x2, x3, x4, x5, x6, x7, x8, x9⟩ := celw10 (D5)
           have fz := (D5).free
           have HD5 : Hid _ := D5
           clear OA cn ecu D5
           go_wp2_with (at_builtin; refine wpList_appG rfl (.tmp 103) (.tmp 105) Tryz.underlying23 Tryz.infoG rfl (by decide) (by decide) gcs_len gcs_one rfl tD cD gs rfl own5 w4.heap.size 1 u rfl hcn hk1 ?_; intro t' c' w' ys hys own' off' at'; have D6 := (HD5.out.off HOA.out (fun h => h)).off off' (fun e => by have := HLO.out q5 e; have := HQB.out; omega); have HD6 : Hid _ := D6; clear x0 x1 x2 x3 x4 x5 x6 x7 x8 x9 fz; obtain ⟨y0, y1, y2, y3, y4, y5, y6, y7, y8, y9⟩ := celw10 D6; have fy := D6.free; clear D6)
           have HYL : Hid (ys.length = gs.length + 1) := by show _ = _; rw [hys.out]; simp
           have HYS : Hid _ := hys.out
           have HOW' : Hid _ := own'
           have HOF' : Hid _ := off'
           have HAT' : Hid _ := at'
           have E5 : Cel q5 26 #[.int .i64 k, .int .i64 fr, .int .i64 tn, .int .i64 op, .int .i64 fo, .string key, .int .i64 bk, .slice tE es.length cE, .slice t' ys.length c', .slice none 0 0] (w'.setCell ⟨q5, 8, none⟩ (.slice t' ys.length c')) := HD6.out.set 8 _
           have OS5 : Off (fun c => c = q5) w' (w'.setCell ⟨q5, 8, none⟩ (.slice t' ys.length c')) := (Off.refl (fun c => c = q5) w').setCell (p := ⟨q5, 8, none⟩) (.inl rfl) _
           have HE5 : Hid _ := E5
           have HS5 : Hid _ := OS5
           clear own' off' at' hys own5 hcn y0 y1 y2 y3 y4 y5 y6 y7 y8 y9 hk1 E5 OS5
           go_wp2_with fail
           clear fy z0 z1 z2 z3 z4 z5 z6 z7 z8 z9
           go_roundw
           case rel =>
            have at' := HAT'.out
            have hki := HKI.out
            have hyl := HYL.out
            have s4 := HO4.out.size
            have so := HO.out.size
            have sa := HOA.out.size
            have qb := HQB.out
            have bb := HBB.out
            have tf : ∀ i, blk t' = some i → WB.heap.size ≤ i := fun i hi => by
             rcases at' with h9 | h9
             ·exact HLO.out i (h9 ▸ hi)
             ·rw [h9] at hi; simp only [World.size_alloc, Option.some.injEq] at hi; omega
            have HOT : Off (fun c => c = b ∨ c = q5) WB (w'.setCell ⟨q5, 8, none⟩ (.slice t' ys.length c')) := (((HO.out.trans (HO4.out.mono (E := (fun c => c = b ∨ c = q5)) (fun _ _ h => .inl h)) (fun _ _ h => h)).trans (HOA.out.mono (fun _ _ h => h.elim)) (fun _ _ h => h)).trans HOF'.out (fun i hi e => by have := HLO.out i e; omega)).trans (HS5.out.mono (fun _ _ h => .inr h)) (fun _ _ h => h)
            refine ⟨i + 1, drS si, t', c', ys, false && drB nodeR si, by rw [← HOK.out]; rfl, by go_num, by omega, (by show ys.length = _; omega), HE5.out, HOW'.out.off HS5.out (fun i _ hi e => by have e : i = q5 := e; have := tf i hi; omega), tf, fun x hx => ?_, ?_, ?_, HOT⟩
            ·rw [HYS.out, List.mem_append, List.mem_singleton] at hx
             refine AptD.off (b := q5) ?_ HS5.out (by omega)
             rcases hx with hx | rfl
             ·exact (((HBL.out x hx).off HO4.out bb).off (b := b) (HOA.out.mono (fun _ _ h => h.elim)) bb).app HOF'.out at'
             ·rw [HU.out]
              exact ((HNW4.out HOWN.out.lt).off (b := b) (HOA.out.mono (fun _ _ h => h.elim)) bb).app HOF'.out at'
            ·have h1 := HRU.out.go (m := cnt - (i + 1)) (by omega)
             show RunD _ _ _ _ _ _ _
             rw [HYS.out, List.map_append, List.map_singleton, HU.out, show G.abs (⟨key2, h, a1, c1, l1⟩ : G) = (⟨drKey nodeR si, drF nodeR si, drL nodeR si⟩ : GK) from by show GK.mk _ _ _ = GK.mk _ _ _; rw [← HK.out, ← HHH.out, ← HL.out]]
             exact h1
            ·exact ((HR4.out.off HOA.out (fun h => h) (fun _ _ _ h => h)).off HOF'.out (fun e => by have := HLO.out b e; omega) (fun c _ hc e => by have := HLO.out c e; have := HDL.out c hc; have := HWB.out; omega)).off HS5.out (fun e => HNE.out.1 e.symm) (fun c _ hc e => by have e : c = q5 := e; exact HND.out (e ▸ hc))
           case measure => simp [intOf]; omega
          | true =>
           obtain ⟨u, hu⟩ : ∃ u, u = (⟨key2, h, a1, c1, l1⟩ : G) := ⟨_, rfl⟩
           have HU : Hid (u = (⟨key2, h, a1, c1, l1⟩ : G)) := hu
           have ecu : gcs u = [.string key2, .int .i64 (h 0), .int .i64 (h 1), .int .i64 (h 2), .int .i64 (h 3), .int .i64 (h 4), .int .i64 (h 5), .int .i64 (h 6), .int .i64 (h 7), .slice a1 l1.length c1] := by rw [hu]; rfl
           clear hu
           have OA : Off (fun _ => False) w4 (w4.alloc (.cells #[.string key2, .int .i64 (h 0), .int .i64 (h 1), .int .i64 (h 2), .int .i64 (h 3), .int .i64 (h 4), .int .i64 (h 5), .int .i64 (h 6), .int .i64 (h 7), .slice a1 l1.length c1] 49)) := (Off.refl _ w4).alloc _
           have own5 := (HOWN.out.off HO4.out (fun c h e => by have := HLO.out c (by first | exact h | exact e); have := HBB.out; omega)).off OA (fun _ _ _ h => h)
           have cn := Cel.new w4 49 #[.string key2, .int .i64 (h 0), .int .i64 (h 1), .int .i64 (h 2), .int .i64 (h 3), .int .i64 (h 4), .int .i64 (h 5), .int .i64 (h 6), .int .i64 (h 7), .slice a1 l1.length c1]
           have hcn : ∀ j x, (gcs u)[j]? = some x → (w4.alloc (.cells #[.string key2, .int .i64 (h 0), .int .i64 (h 1), .int .i64 (h 2), .int .i64 (h 3), .int .i64 (h 4), .int .i64 (h 5), .int .i64 (h 6), .int .i64 (h 7), .slice a1 l1.length c1] 49)).cell? ⟨w4.heap.size, j, none⟩ = some x := fun j x hj => by
            rw [cn.cell j]
            rw [ecu] at hj
            simpa using hj
           have HOA : Hid (Off (fun _ => False) w4 (w4.alloc (.cells #[.string key2, .int .i64 (h 0), .int .i64 (h 1), .int .i64 (h 2), .int .i64 (h 3), .int .i64 (h 4), .int .i64 (h 5), .int .i64 (h 6), .int .i64 (h 7), .slice a1 l1.length c1] 49))) := OA
           have hk1 : gs.length ≤ 1000000 := by have := HCNT.out; have := HKI.out; omega
           have D5 := HC.out.off HO4.out (fun e => HNE.out.1 e)
           obtain ⟨x0, x1, x2, x3, x4, x5, x6, x7, x8, x9⟩ := celw10 (D5)
           have fz := (D5).free
           have HD5 : Hid _ := D5
           clear OA cn ecu D5
           go_wp2_with (at_builtin; refine wpList_appG rfl (.tmp 103) (.tmp 105) Tryz.underlying23 Tryz.infoG rfl (by decide) (by decide) gcs_len gcs_one rfl tD cD gs rfl own5 w4.heap.size 1 u rfl hcn hk1 ?_; intro t' c' w' ys hys own' off' at'; have D6 := (HD5.out.off HOA.out (fun h => h)).off off' (fun e => by have := HLO.out q5 e; have := HQB.out; omega); have HD6 : Hid _ := D6; clear x0 x1 x2 x3 x4 x5 x6 x7 x8 x9 fz; obtain ⟨y0, y1, y2, y3, y4, y5, y6, y7, y8, y9⟩ := celw10 D6; have fy := D6.free; clear D6)
           have HYL : Hid (ys.length = gs.length + 1) := by show _ = _; rw [hys.out]; simp
           have HYS : Hid _ := hys.out
           have HOW' : Hid _ := own'
           have HOF' : Hid _ := off'
           have HAT' : Hid _ := at'
           have E5 : Cel q5 26 #[.int .i64 k, .int .i64 fr, .int .i64 tn, .int .i64 op, .int .i64 fo, .string key, .int .i64 bk, .slice tE es.length cE, .slice t' ys.length c', .slice none 0 0] (w'.setCell ⟨q5, 8, none⟩ (.slice t' ys.length c')) := HD6.out.set 8 _
           have OS5 : Off (fun c => c = q5) w' (w'.setCell ⟨q5, 8, none⟩ (.slice t' ys.length c')) := (Off.refl (fun c => c = q5) w').setCell (p := ⟨q5, 8, none⟩) (.inl rfl) _
           have HE5 : Hid _ := E5
           have HS5 : Hid _ := OS5
           clear own' off' at' hys own5 hcn y0 y1 y2 y3 y4 y5 y6 y7 y8 y9 hk1 E5 OS5
           go_wp2_with fail
           clear fy z0 z1 z2 z3 z4 z5 z6 z7 z8 z9
           go_roundw
           case rel =>
            have at' := HAT'.out
            have hki := HKI.out
            have hyl := HYL.out
            have s4 := HO4.out.size
            have so := HO.out.size
            have sa := HOA.out.size
            have qb := HQB.out
            have bb := HBB.out
            have tf : ∀ i, blk t' = some i → WB.heap.size ≤ i := fun i hi => by
             rcases at' with h9 | h9
             ·exact HLO.out i (h9 ▸ hi)
             ·rw [h9] at hi; simp only [World.size_alloc, Option.some.injEq] at hi; omega
            have HOT : Off (fun c => c = b ∨ c = q5) WB (w'.setCell ⟨q5, 8, none⟩ (.slice t' ys.length c')) := (((HO.out.trans (HO4.out.mono (E := (fun c => c = b ∨ c = q5)) (fun _ _ h => .inl h)) (fun _ _ h => h)).trans (HOA.out.mono (fun _ _ h => h.elim)) (fun _ _ h => h)).trans HOF'.out (fun i hi e => by have := HLO.out i e; omega)).trans (HS5.out.mono (fun _ _ h => .inr h)) (fun _ _ h => h)
            refine ⟨i + 1, drS si, t', c', ys, true && drB nodeR si, by rw [← HOK.out]; rfl, by go_num, by omega, (by show ys.length = _; omega), HE5.out, HOW'.out.off HS5.out (fun i _ hi e => by have e : i = q5 := e; have := tf i hi; omega), tf, fun x hx => ?_, ?_, ?_, HOT⟩
            ·rw [HYS.out, List.mem_append, List.mem_singleton] at hx
             refine AptD.off (b := q5) ?_ HS5.out (by omega)
             rcases hx with hx | rfl
             ·exact (((HBL.out x hx).off HO4.out bb).off (b := b) (HOA.out.mono (fun _ _ h => h.elim)) bb).app HOF'.out at'
             ·rw [HU.out]
              exact ((HNW4.out HOWN.out.lt).off (b := b) (HOA.out.mono (fun _ _ h => h.elim)) bb).app HOF'.out at'
            ·have h1 := HRU.out.go (m := cnt - (i + 1)) (by omega)
             show RunD _ _ _ _ _ _ _
             rw [HYS.out, List.map_append, List.map_singleton, HU.out, show G.abs (⟨key2, h, a1, c1, l1⟩ : G) = (⟨drKey nodeR si, drF nodeR si, drL nodeR si⟩ : GK) from by show GK.mk _ _ _ = GK.mk _ _ _; rw [← HK.out, ← HHH.out, ← HL.out]]
             exact h1
            ·exact ((HR4.out.off HOA.out (fun h => h) (fun _ _ _ h => h)).off HOF'.out (fun e => by have := HLO.out b e; omega) (fun c _ hc e => by have := HLO.out c e; have := HDL.out c hc; have := HWB.out; omega)).off HS5.out (fun e => HNE.out.1 e.symm) (fun c _ hc e => by have e : c = q5 := e; exact HND.out (e ▸ hc))
           case measure => simp [intOf]; omega
         ·obtain rfl : i = cnt := by omega
          have g1b : decide ((i : Int) < (i : Int)) = false := decide_eq_false (by omega)
          have g2b : decide (i < i) = false := decide_eq_false (by omega)
          go_wp2_with fail
          obtain ⟨e0, e1, e2⟩ := HRU.out.end_ (by omega)
          go_meet
          case rel => exact ⟨tD, cD, gs, by rw [e0], e1, HC.out, e2 ▸ HR.out, HOU.out.trans HO.out (fun _ _ h => h), fun v o => (HOWN.out.off o (fun c h e => by have h1 := HLO.out c (by first | exact h | exact e); have := HUB.out; omega)).dgs (fun x hx => (HBL.out x hx).keep (o.mono (fun c _ h => by have h : c < U.heap.size := h; have := HUB.out; show c < _; omega))), fun v o => HL0.out v ((HO.out.mono (fun c _ h => by have h : c = b ∨ c = q5 := h; have := HVS.out; show c < U.heap.size; rcases h with h | h <;> omega)).trans o (fun _ _ h => h))⟩
      case rest =>
       clear HC HR HOU HL0
       obtain ⟨tD, cD, gs, rfl, HAB1, HC, HR, HOU, HL1, HL0⟩ := hcut
       have bt := HV6.out.1
       have bn := HV6.out.2
       go_upto_if 111 with fail
       clear bt bn
       go_cut [] from 112 to 130 (fun wx => ∃ (tM : Option Addr) (cM : Nat) (ms : List (Int × Int)), Hid (ms = kM) ∧ Hid (Cel q5 26 #[.int .i64 k, .int .i64 fr, .int .i64 tn, .int .i64 op, .int .i64 fo, .string key, .int .i64 bk, .slice tE es.length cE, .slice tD gs.length cD, .slice tM ms.length cM] wx) ∧ Hid (Rdr 68 D b sM wx) ∧ Hid (Off (fun c => c = b ∨ c = q5) U wx) ∧ Hid (∀ v, Off (fun c => c < U.heap.size) wx v → RowD v tM cM ms) ∧ Hid (∀ v, Off (fun c => c < U.heap.size) wx v → Ens v tE cE es) ∧ Hid (∀ v, Off (fun c => c < U.heap.size) wx v → Dgs v tD cD gs))
       case first =>
        obtain ⟨WB, hWB⟩ : ∃ W, W = wc := ⟨_, rfl⟩
        rw [← hWB] at HC HR HOU HL0 HL1 ⊢
        clear hWB
        have HUB : Hid (U.heap.size ≤ WB.heap.size) := HOU.out.size
        have HBB : Hid (b < WB.heap.size) := by have := HUB.out; have := HVS.out; show b < _; omega
        have HQB : Hid (q5 < WB.heap.size) := by have := HUB.out; have := HVS.out; show q5 < _; omega
        have HWB : Hid (w.heap.size ≤ WB.heap.size) := by have := HUB.out; have := HVS.out; show w.heap.size ≤ _; omega
        cases sn
        ·go_wp2_with fail
         obtain ⟨e1, e2⟩ := HH0.out.2 (by simp)
         go_meet
         case rel => exact ⟨none, 0, [], e1.symm, HC.out, e2 ▸ HR.out, HOU.out, fun v _ => RowD.nil _ _ _ (by show (0 : Nat) ≤ _; omega), HL0.out, HL1.out⟩
        ·obtain ⟨cnt, s1, hcn, hrun, hcall⟩ := HH0.out.1 (by simp)
         have HRU : Hid _ := hrun
         have HCA : Hid _ := hcall
         have HCNT : Hid (cnt ≤ 8) := hcn
         clear hrun hcall hcn
         go_wp2_with fail
         refine (HCA.out _ HR.out).mono ?_
         rintro e w5 ⟨rfl, r5, o5⟩
         have HR5 : Hid (Rdr 68 D b s1 w5) := r5
         have HO5 : Hid (Off (fun c => c = b) WB w5) := o5
         clear r5 o5 HCA
         have HC5 : Hid _ := HC.out.off HO5.out (fun e => HNE.out.1 e)
         go_wp2_with fail
         go_loopw [114] (fun y wr => ∃ (i : Nat) (si : RS) (tM : Option Addr) (cM : Nat) (ms : List (Int × Int)), y = .int .i64 (i : Int) ∧ i ≤ cnt ∧ Hid (ms.length = i) ∧ Hid (Cel q5 26 #[.int .i64 k, .int .i64 fr, .int .i64 tn, .int .i64 op, .int .i64 fo, .string key, .int .i64 bk, .slice tE es.length cE, .slice tD gs.length cD, .slice tM ms.length cM] wr) ∧ Hid (OwnG 60 2 dcs wr tM cM ms) ∧ Hid (∀ i, blk tM = some i → WB.heap.size ≤ i) ∧ Hid (RunM (cnt - i) si ms kM sM) ∧ Hid (Rdr 68 D b si wr) ∧ Hid (Off (fun c => c = b ∨ c = q5) WB wr)) (fun y _ => (cnt - intOf y).toNat)
         case atStart => exact ⟨0, s1, none, 0, [], rfl, by omega, rfl, HC5.out, OwnG.nil _ _ _ _, fun i hi => by simp [blk] at hi, HRU.out, HR5.out, HO5.out.mono (fun c _ h => .inl h)⟩
         case round =>
          clear HC HR HC5 HR5 HO5 HRU
          obtain ⟨i, si, tM, cM, ms, rfl, hi, HKI, HC, HOWN, HLO, HRU, HR, HO⟩ := hrel
          have hcn9 := HCNT.out
          by_cases hlt : i < cnt
          ·have g1b : decide ((i : Int) < (cnt : Int)) = true := decide_eq_true (by omega)
           have g2b : decide (i < cnt) = true := decide_eq_true hlt
           go_upto_region 36 with fail
           have CN := Cel.new wr 60 #[.int .i64 0, .int .i64 0]
           have ON : Off (fun _ => False) wr (wr.alloc (.cells #[.int .i64 0, .int .i64 0] 60)) := (Off.refl _ wr).alloc _
           generalize hvv : wr.alloc (.cells #[.int .i64 0, .int .i64 0] 60) = w1 at CN ON ⊢
           obtain ⟨pp, hpp⟩ : ∃ p, p = wr.heap.size := ⟨_, rfl⟩
           rw [← hpp] at CN ⊢
           have HPP : Hid (wr.heap.size ≤ pp ∧ b < pp ∧ q5 < pp) := by have := HO.out.size; have := HBB.out; have := HQB.out; exact ⟨by omega, by omega, by omega⟩
           have HPD : Hid (¬ D pp) := fun h => by have := HDL.out pp h; have := HPP.out; have := HO.out.size; have := HWB.out; omega
           have HCN : Hid _ := CN
           have HON : Hid (Off (fun _ => False) wr w1) := ON
           clear CN ON hvv hpp
           have HR1 : Hid _ := HR.out.off HON.out (fun h => h) (fun _ _ _ h => h)
           obtain ⟨nx, hnx⟩ : ∃ n, n = nodeR (numS si).1 := ⟨_, rfl⟩
           obtain ⟨ix, hix⟩ : ∃ n, n = (intS (numS si).2).1 := ⟨_, rfl⟩
           obtain ⟨sa, hsa⟩ : ∃ s, s = (numS si).2 := ⟨_, rfl⟩
           obtain ⟨sc, hsc⟩ : ∃ s, s = mrS si := ⟨_, rfl⟩
           obtain ⟨nn, hn1, hn2⟩ := num_at D b si
           rw [← hnx] at hn2
           rw [← hsa] at hn1
           have HN1 : Hid _ := hn1
           have HN2 : Hid _ := hn2
           have HIN : Hid (∀ W, Rdr 68 D b sa W → Calls Tryz.prog 24 #[.pointer (some ⟨b, 0, none⟩)] W fun e w' => e = .returned (.int .i64 ix) ∧ Rdr 68 D b sc w' ∧ Off (fun c => c = b) W w') := fun W h => by rw [hix, hsc]; rw [hsa] at h; exact frint_any h
           have HNX : Hid ((nx, ix) = (nodeR (numS si).1, (intS (numS si).2).1)) := by show _ = _; rw [hnx, hix]
           have HSC : Hid (sc = mrS si) := hsc
           clear hn1 hn2 hnx hix hsa hsc
           go_wp2_with fail
           refine (HN1.out _ HR1.out).mono ?_
           rintro e w2 ⟨rfl, r2, o2⟩
           have HR2 : Hid (Rdr 68 D b sa w2) := r2
           have HO2 : Hid (Off (fun c => c = b) w1 w2) := o2
           clear r2 o2 HR1 HN1
           have CN2 := HCN.out.off HO2.out (fun e => by have := HPP.out; have e : pp = b := e; omega)
           have f2 := CN2.free
           have y0 := CN2.cell 0
           have y1 := CN2.cell 1
           simp at y0 y1
           go_wp2_with fail
           refine (HN2.out _).mono ?_
           rintro e w' ⟨rfl, hw⟩
           rw [hw]
           clear hw w' HN2
           go_upto_region 37 with fail
           have CN3 : Cel pp 60 #[.int .i64 nx, .int .i64 0] (w2.setCell ⟨pp, 0, none⟩ (.int .i64 nx)) := CN2.set 0 _
           have OS3 : Off (fun c => c = pp) w2 (w2.setCell ⟨pp, 0, none⟩ (.int .i64 nx)) := (Off.refl (fun c => c = pp) w2).setCell (p := ⟨pp, 0, none⟩) (.inl rfl) _
           generalize w2.setCell ⟨pp, 0, none⟩ (.int .i64 nx) = w3 at CN3 OS3 ⊢
           have HCN3 : Hid _ := CN3
           have HR3 : Hid _ := HR2.out.off OS3 (fun e => by have := HPP.out; have e : b = pp := e; omega) (fun c _ hc e => by have e : c = pp := e; exact HPD.out (e ▸ hc))
           have HO3 : Hid (Off (fun c => c = b ∨ c = pp) w1 w3) := (HO2.out.mono (fun _ _ h => .inl h)).trans (OS3.mono (fun _ _ h => .inr h)) (fun _ _ h => h)
           clear CN2 f2 CN3 OS3 HR2 HO2 HCN y0 y1
           go_wp2_with fail
           refine (HIN.out _ HR3.out).mono ?_
           rintro e w4 ⟨rfl, r4, o4⟩
           have HR4' : Hid (Rdr 68 D b sc w4) := r4
           have HO4' : Hid (Off (fun c => c = b) w3 w4) := o4
           clear r4 o4 HIN HR3
           have CN4 := HCN3.out.off HO4'.out (fun e => by have := HPP.out; have e : pp = b := e; omega)
           have f4 := CN4.free
           have y0 := CN4.cell 0
           have y1 := CN4.cell 1
           simp at y0 y1
           go_upto_region 38 with fail
           have CN5 : Cel pp 60 #[.int .i64 nx, .int .i64 ix] (w4.setCell ⟨pp, 1, none⟩ (.int .i64 ix)) := CN4.set 1 _
           have OS5 : Off (fun c => c = pp) w4 (w4.setCell ⟨pp, 1, none⟩ (.int .i64 ix)) := (Off.refl (fun c => c = pp) w4).setCell (p := ⟨pp, 1, none⟩) (.inl rfl) _
           generalize hw5 : w4.setCell ⟨pp, 1, none⟩ (.int .i64 ix) = w5 at CN5 OS5 ⊢
           clear hw5
           have HR4 : Hid _ := HR4'.out.off OS5 (fun e => by have := HPP.out; have e : b = pp := e; omega) (fun c _ hc e => by have e : c = pp := e; exact HPD.out (e ▸ hc))
           have HO4 : Hid (Off (fun c => c = b) wr w5) := (HON.out.mono (fun _ _ h => h.elim)).trans ((HO3.out.trans (HO4'.out.mono (fun _ _ h => .inl h)) (fun _ _ h => h)).trans (OS5.mono (fun _ _ h => .inr h)) (fun _ _ h => h)) (fun c hc h => h.elim id (fun h => by have := HPP.out; omega))
           have z0 := CN5.cell 0
           have z1 := CN5.cell 1
           simp at z0 z1
           clear CN4 f4 CN5 OS5 HR4' HO3 HO4' HON HCN3 y0 y1
           obtain ⟨u, hu⟩ : ∃ u, u = ((nx, ix) : Int × Int) := ⟨_, rfl⟩
           have HU : Hid (u = ((nx, ix) : Int × Int)) := hu
           have ecu : dcs u = [.int .i64 nx, .int .i64 ix] := by rw [hu]; rfl
           clear hu
           have OA : Off (fun _ => False) w5 (w5.alloc (.cells #[.int .i64 nx, .int .i64 ix] 60)) := (Off.refl _ w5).alloc _
           have own5 := (HOWN.out.off HO4.out (fun c h e => by have := HLO.out c (by first | exact h | exact e); have := HBB.out; omega)).off OA (fun _ _ _ h => h)
           have cn := Cel.new w5 60 #[.int .i64 nx, .int .i64 ix]
           have hcn : ∀ j x, (dcs u)[j]? = some x → (w5.alloc (.cells #[.int .i64 nx, .int .i64 ix] 60)).cell? ⟨w5.heap.size, j, none⟩ = some x := fun j x hj => by
            rw [cn.cell j]
            rw [ecu] at hj
            simpa using hj
           have HOA : Hid (Off (fun _ => False) w5 (w5.alloc (.cells #[.int .i64 nx, .int .i64 ix] 60))) := OA
           have hk1 : ms.length ≤ 1000000 := by have := HCNT.out; have := HKI.out; omega
           have D5 := HC.out.off HO4.out (fun e => HNE.out.1 e)
           obtain ⟨x0, x1, x2, x3, x4, x5, x6, x7, x8, x9⟩ := celw10 (D5)
           have fz := (D5).free
           have HD5 : Hid _ := D5
           clear OA cn ecu D5
           go_wp2_with (at_builtin; refine wpList_appG rfl (.tmp 125) (.tmp 127) Tryz.underlying24 Tryz.infoMb rfl (by decide) (by decide) dcs_len dcs_one rfl tM cM ms rfl own5 w5.heap.size 1 u rfl hcn hk1 ?_; intro t' c' w' ys hys own' off' at'; have D6 := (HD5.out.off HOA.out (fun h => h)).off off' (fun e => by have := HLO.out q5 e; have := HQB.out; omega); have HD6 : Hid _ := D6; clear x0 x1 x2 x3 x4 x5 x6 x7 x8 x9 fz; obtain ⟨y0, y1, y2, y3, y4, y5, y6, y7, y8, y9⟩ := celw10 D6; have fy := D6.free; clear D6)
           have HYL : Hid (ys.length = ms.length + 1) := by show _ = _; rw [hys.out]; simp
           have HYS : Hid _ := hys.out
           have HOW' : Hid _ := own'
           have HOF' : Hid _ := off'
           have HAT' : Hid _ := at'
           have E5 : Cel q5 26 #[.int .i64 k, .int .i64 fr, .int .i64 tn, .int .i64 op, .int .i64 fo, .string key, .int .i64 bk, .slice tE es.length cE, .slice tD gs.length cD, .slice t' ys.length c'] (w'.setCell ⟨q5, 9, none⟩ (.slice t' ys.length c')) := HD6.out.set 9 _
           have OS5 : Off (fun c => c = q5) w' (w'.setCell ⟨q5, 9, none⟩ (.slice t' ys.length c')) := (Off.refl (fun c => c = q5) w').setCell (p := ⟨q5, 9, none⟩) (.inl rfl) _
           have HE5 : Hid _ := E5
           have HS5 : Hid _ := OS5
           clear own' off' at' hys own5 hcn y0 y1 y2 y3 y4 y5 y6 y7 y8 y9 hk1 E5 OS5
           go_wp2_with fail
           clear fy z0 z1
           go_roundw
           case rel =>
            have at' := HAT'.out
            have hki := HKI.out
            have hyl := HYL.out
            have s4 := HO4.out.size
            have so := HO.out.size
            have sa := HOA.out.size
            have qb := HQB.out
            have bb := HBB.out
            have tf : ∀ i, blk t' = some i → WB.heap.size ≤ i := fun i hi => by
             rcases at' with h9 | h9
             ·exact HLO.out i (h9 ▸ hi)
             ·rw [h9] at hi; simp only [World.size_alloc, Option.some.injEq] at hi; omega
            have HOT : Off (fun c => c = b ∨ c = q5) WB (w'.setCell ⟨q5, 9, none⟩ (.slice t' ys.length c')) := (((HO.out.trans (HO4.out.mono (E := (fun c => c = b ∨ c = q5)) (fun _ _ h => .inl h)) (fun _ _ h => h)).trans (HOA.out.mono (fun _ _ h => h.elim)) (fun _ _ h => h)).trans HOF'.out (fun i hi e => by have := HLO.out i e; omega)).trans (HS5.out.mono (fun _ _ h => .inr h)) (fun _ _ h => h)
            refine ⟨i + 1, sc, t', c', ys, by go_num, by omega, (by show ys.length = _; omega), HE5.out, HOW'.out.off HS5.out (fun i _ hi e => by have e : i = q5 := e; have := tf i hi; omega), tf, ?_, ?_, HOT⟩
            ·have h1 := HRU.out.go (m := cnt - (i + 1)) (by omega)
             show RunM _ _ _ _ _
             rw [HYS.out, HU.out, HNX.out, HSC.out]
             exact h1
            ·exact ((HR4.out.off HOA.out (fun h => h) (fun _ _ _ h => h)).off HOF'.out (fun e => by have := HLO.out b e; omega) (fun c _ hc e => by have := HLO.out c e; have := HDL.out c hc; have := HWB.out; omega)).off HS5.out (fun e => HNE.out.1 e.symm) (fun c _ hc e => by have e : c = q5 := e; exact HND.out (e ▸ hc))
           case measure => simp [intOf]; omega
          ·obtain rfl : i = cnt := by omega
           have g1b : decide ((i : Int) < (i : Int)) = false := decide_eq_false (by omega)
           have g2b : decide (i < i) = false := decide_eq_false (by omega)
           go_wp2_with fail
           obtain ⟨e1, e2⟩ := HRU.out.end_ (by omega)
           go_meet
           case rel => exact ⟨tM, cM, ms, e1, HC.out, e2 ▸ HR.out, HOU.out.trans HO.out (fun _ _ h => h), fun v o => (HOWN.out.off o (fun c h e => by have h1 := HLO.out c (by first | exact h | exact e); have := HUB.out; omega)).rowM, fun v o => HL0.out v ((HO.out.mono (fun c _ h => by have h : c = b ∨ c = q5 := h; have := HVS.out; show c < U.heap.size; rcases h with h | h <;> omega)).trans o (fun _ _ h => h)), fun v o => HL1.out v ((HO.out.mono (fun c _ h => by have h : c = b ∨ c = q5 := h; have := HVS.out; show c < U.heap.size; rcases h with h | h <;> omega)).trans o (fun _ _ h => h))⟩
       case rest =>
        clear HC HR HOU HL0 HL1
        obtain ⟨tM, cM, ms, HAB2, HC, HR, HOU, HL2, HL0, HL1⟩ := hcut
        have HAT : Hid (∀ v, Off (fun c => c < U.heap.size) wc v → MsgAt v (⟨k, fr, tn, op, fo, key, bk, tE, es.length, cE, tD, gs.length, cD, tM, ms.length, cM⟩ : Mg) es gs ms) := fun v o => ⟨HL0.out v o, rfl, HL1.out v o, rfl, HL2.out v o, rfl⟩
        have HZM2 : Hid (zMsg (bs, 0) = ⟨okA, mdOf (⟨k, fr, tn, op, fo, key, bk, tE, es.length, cE, tD, gs.length, cD, tM, ms.length, cM⟩ : Mg) es gs ms, sM⟩) := by show _ = _; rw [HZM.out, ← HAB0.out, ← HAB1.out, ← HAB2.out]; rfl
        clear HL0 HL1 HL2
        have HZU : Hid (Cel q2 26 #[.int .i64 0, .int .i64 0, .int .i64 0, .int .i64 0, .int .i64 0, .string ⟨#[]⟩, .int .i64 0, .slice none 0 0, .slice none 0 0, .slice none 0 0] wc) := HZ.out.off HOU.out (fun e => e.elim HNE.out.2.1 HNE.out.2.2.1)
        have HOW : Hid (Off (fun _ => False) w wc) := HWU.out.trans HOU.out (fun c hc e => by have := HNE.out; rcases e with e | e <;> omega)
        cases okA with
        | false =>
         obtain ⟨y0, y1, y2, y3, y4, y5, y6, y7, y8, y9⟩ := celw10 (HZU.out)
         have fy := (HZU.out).free
         go_wp2_with fail
         refine bodyPost_ret (results_msg2 (x := (⟨0, 0, 0, 0, 0, ⟨#[]⟩, 0, none, 0, 0, none, 0, 0, none, 0, 0⟩ : Mg)) rfl rfl rfl (HZU.out.wrwAll (vs := mcs (⟨0, 0, 0, 0, 0, ⟨#[]⟩, 0, none, 0, 0, none, 0, 0, none, 0, 0⟩ : Mg)) rfl)) rfl ?_
         exact ⟨⟨.inr (.inr ⟨HLN.out, rfl, fun d hd => by have h1 := hd.1; rw [HZM2.out] at h1; simp at h1⟩)⟩, off_wrw (g := q2) (us := mcs (⟨0, 0, 0, 0, 0, ⟨#[]⟩, 0, none, 0, 0, none, 0, 0, none, 0, 0⟩ : Mg)) HOW.out (.inr HNE.out.2.2.2.1)⟩
        | true =>
         go_wp2_with fail
         refine (frend_any HR.out).mono ?_
         rintro e w6 ⟨rfl, hw6⟩
         rw [hw6]
         clear hw6 w6
         by_cases he : endS sM = 0
         case neg =>
          have e0 : (((endS sM : Nat) : Int) != 0) = true := by simp [he]
          have HEN : Hid (¬ endS sM = 0) := he
          clear he
          obtain ⟨y0, y1, y2, y3, y4, y5, y6, y7, y8, y9⟩ := celw10 (HZU.out)
          have fy := (HZU.out).free
          go_wp2_with fail
          refine bodyPost_ret (results_msg2 (x := (⟨0, 0, 0, 0, 0, ⟨#[]⟩, 0, none, 0, 0, none, 0, 0, none, 0, 0⟩ : Mg)) rfl rfl rfl (HZU.out.wrwAll (vs := mcs (⟨0, 0, 0, 0, 0, ⟨#[]⟩, 0, none, 0, 0, none, 0, 0, none, 0, 0⟩ : Mg)) rfl)) rfl ?_
          exact ⟨⟨.inr (.inr ⟨HLN.out, rfl, fun d hd => HEN.out (by have h1 := hd.1; rw [HZM2.out] at h1; simp only [ZM.mk.injEq] at h1; rw [endS_zero]; exact h1.2.2)⟩)⟩, off_wrw (g := q2) (us := mcs (⟨0, 0, 0, 0, 0, ⟨#[]⟩, 0, none, 0, 0, none, 0, 0, none, 0, 0⟩ : Mg)) HOW.out (.inr HNE.out.2.2.2.1)⟩
         have e0 : (((endS sM : Nat) : Int) != 0) = false := by simp [he]
         have HEN : Hid (sM = ([], 0)) := endS_zero.1 he
         clear he
         obtain ⟨x0, x1, x2, x3, x4, x5, x6, x7, x8, x9⟩ := celw10 (HC.out)
         have fz := (HC.out).free
         go_wp2_with fail
         refine (zmay_any (⟨k, fr, tn, op, fo, key, bk, tE, es.length, cE, tD, gs.length, cD, tM, ms.length, cM⟩ : Mg) es gs ms _ (HAT.out _ (Off.refl _ _))).mono ?_
         rintro e w7 ⟨⟨bb, rfl, hbb⟩, o7⟩
         clear x0 x1 x2 x3 x4 x5 x6 x7 x8 x9 e0 fz
         have HO7 : Hid (Off (fun _ => False) wc w7) := o7
         have HC7 : Hid _ := HC.out.off o7 (fun h => h)
         have HZ7 : Hid _ := HZU.out.off o7 (fun h => h)
         have HOW7 : Hid (Off (fun _ => False) w w7) := HOW.out.trans o7 (fun _ _ h => h)
         have HBX : Hid (bb = true ↔ MayM (mdM (⟨k, fr, tn, op, fo, key, bk, tE, es.length, cE, tD, gs.length, cD, tM, ms.length, cM⟩ : Mg) es gs ms)) := hbb
         clear o7 hbb
         cases bb with
         | false =>
          obtain ⟨y0, y1, y2, y3, y4, y5, y6, y7, y8, y9⟩ := celw10 (HZ7.out)
          have fy := (HZ7.out).free
          go_wp2_with fail
          refine bodyPost_ret (results_msg2 (x := (⟨0, 0, 0, 0, 0, ⟨#[]⟩, 0, none, 0, 0, none, 0, 0, none, 0, 0⟩ : Mg)) rfl rfl rfl (HZ7.out.wrwAll (vs := mcs (⟨0, 0, 0, 0, 0, ⟨#[]⟩, 0, none, 0, 0, none, 0, 0, none, 0, 0⟩ : Mg)) rfl)) rfl ?_
          exact ⟨⟨.inr (.inr ⟨HLN.out, rfl, fun d hd => by have h1 := hd.1; rw [HZM2.out] at h1; simp only [ZM.mk.injEq] at h1; have h2 := hd.2; rw [← h1.2.1, ← mdM_bare] at h2; exact absurd (HBX.out.2 h2) (by simp)⟩)⟩, off_wrw (g := q2) (us := mcs (⟨0, 0, 0, 0, 0, ⟨#[]⟩, 0, none, 0, 0, none, 0, 0, none, 0, 0⟩ : Mg)) HOW7.out (.inr HNE.out.2.2.2.1)⟩
         | true =>
          obtain ⟨x0, x1, x2, x3, x4, x5, x6, x7, x8, x9⟩ := celw10 (HC7.out)
          have fx := (HC7.out).free
          obtain ⟨y0, y1, y2, y3, y4, y5, y6, y7, y8, y9⟩ := celw10 (HZ7.out)
          have fy := (HZ7.out).free
          go_wp2_with fail
          refine bodyPost_ret (results_msg2 (x := (⟨k, fr, tn, op, fo, key, bk, tE, es.length, cE, tD, gs.length, cD, tM, ms.length, cM⟩ : Mg)) rfl rfl rfl (HZ7.out.wrwAll (vs := mcs (⟨k, fr, tn, op, fo, key, bk, tE, es.length, cE, tD, gs.length, cD, tM, ms.length, cM⟩ : Mg)) rfl)) rfl ?_
          refine ⟨⟨.inr (.inl ⟨HLN.out, (⟨k, fr, tn, op, fo, key, bk, tE, es.length, cE, tD, gs.length, cD, tM, ms.length, cM⟩ : Mg), es, gs, ms, rfl, ⟨by rw [HZM2.out, HEN.out], by rw [← mdM_bare]; exact HBX.out.1 (by simp)⟩, fun v o => ?_⟩)⟩, off_wrw (g := q2) (us := mcs (⟨k, fr, tn, op, fo, key, bk, tE, es.length, cE, tD, gs.length, cD, tM, ms.length, cM⟩ : Mg)) HOW7.out (.inr HNE.out.2.2.2.1)⟩
          have hO := off_wrw (D := fun c => c = q2) (g := q2) (us := mcs (⟨k, fr, tn, op, fo, key, bk, tE, es.length, cE, tD, gs.length, cD, tM, ms.length, cM⟩ : Mg)) (o := 0) (Off.refl _ w7) (.inl rfl)
          refine HAT.out v (((HO7.out.mono (fun _ _ h => h.elim)).trans (hO.mono (E := fun c => c < U.heap.size) (fun c _ h => by have h : c = q2 := h; have := HVS.out; show c < _; omega)) (fun _ _ h => h)).trans (o.mono (fun c _ h => by have h : c < w.heap.size := h; have := HVS.out; show c < _; omega)) (fun _ _ h => h))
set_option maxHeartbeats 4000000 in
theorem zdecode_any (t : Option Addr) (c : Nat) (bs : List Nat) (w : World) (hs : Src w t c bs) (hc : bs.length ≤ c) (hlt : ∀ x ∈ bs, x < 256) (hb : bs.length ≤ 140737488355328) :
  Calls Tryz.prog 8 #[.slice t bs.length c] w fun e w' => DecZ bs w.heap.size e w' ∧ Off (fun _ => False) w w' := by
 by_cases hl : 60000 < bs.length
 ·have C2 := Cel.new w 26 #[.int .i64 0, .int .i64 0, .int .i64 0, .int .i64 0, .int .i64 0, .string ⟨#[]⟩, .int .i64 0, .slice none 0 0, .slice none 0 0, .slice none 0 0]
  have O2 : Off (fun _ => False) w (w.alloc (.cells #[.int .i64 0, .int .i64 0, .int .i64 0, .int .i64 0, .int .i64 0, .string ⟨#[]⟩, .int .i64 0, .slice none 0 0, .slice none 0 0, .slice none 0 0] 26)) := (Off.refl _ w).alloc _
  have HL : Hid (60000 < bs.length) := hl
  have g1 : decide ((60000 : Int) < (bs.length : Int)) = true := decide_eq_true (by omega)
  clear hs hc hlt hb hl
  go_enter Tryz.func8, Tryz.ntmps8
  go_upto_region 1 with fail
  generalize hv : w.alloc (.cells #[.int .i64 0, .int .i64 0, .int .i64 0, .int .i64 0, .int .i64 0, .string ⟨#[]⟩, .int .i64 0, .slice none 0 0, .slice none 0 0, .slice none 0 0] 26) = V at C2 O2 ⊢
  obtain ⟨q2, hq⟩ : ∃ q, q = w.heap.size := ⟨_, rfl⟩
  rw [← hq] at C2 ⊢
  have HQ : Hid (q2 = w.heap.size) := hq
  have HC2 : Hid _ := C2
  have HO2 : Hid (Off (fun _ => False) w V) := O2
  clear hv hq C2 O2
  obtain ⟨x0, x1, x2, x3, x4, x5, x6, x7, x8, x9⟩ := celw10 HC2.out
  have fz := HC2.out.free
  go_wp2_with fail
  refine bodyPost_ret (results_msg2 (x := (⟨0, 0, 0, 0, 0, ⟨#[]⟩, 0, none, 0, 0, none, 0, 0, none, 0, 0⟩ : Mg)) rfl rfl rfl (HC2.out.wrwAll (vs := mcs (⟨0, 0, 0, 0, 0, ⟨#[]⟩, 0, none, 0, 0, none, 0, 0, none, 0, 0⟩ : Mg)) rfl)) rfl ?_
  exact ⟨⟨.inl ⟨HL.out, rfl⟩⟩, off_wrw (g := q2) (us := mcs (⟨0, 0, 0, 0, 0, ⟨#[]⟩, 0, none, 0, 0, none, 0, 0, none, 0, 0⟩ : Mg)) HO2.out (.inr (by have := HQ.out; omega))⟩
 obtain ⟨D, hD, h1⟩ := num_first hs hc hlt hb (w.heap.size + 1) (by omega)
 obtain ⟨k, hk⟩ : ∃ k, k = nodeR (numS (bs, 0)).1 := ⟨_, rfl⟩
 obtain ⟨a1, e1⟩ : ∃ a, a = (numS (bs, 0)).2 := ⟨_, rfl⟩
 obtain ⟨a2, e2⟩ : ∃ a, a = (numS a1).2 := ⟨_, rfl⟩
 obtain ⟨a3, e3⟩ : ∃ a, a = (numS a2).2 := ⟨_, rfl⟩
 obtain ⟨a4, e4⟩ : ∃ a, a = (rInt (msk k).op a3).2 := ⟨_, rfl⟩
 obtain ⟨a5, e5⟩ : ∃ a, a = (zNum (msk k).fo a4).2 := ⟨_, rfl⟩
 obtain ⟨a6, e6⟩ : ∃ a, a = (rKey (msk k).key a5).2 := ⟨_, rfl⟩
 obtain ⟨a7, e7⟩ : ∃ a, a = (zNum (msk k).bk a6).2 := ⟨_, rfl⟩
 obtain ⟨A, eA⟩ : ∃ A, A = zES (msk k).es a7 := ⟨_, rfl⟩
 obtain ⟨B, eB⟩ : ∃ B, B = zGS (msk k).gs A.2 := ⟨_, rfl⟩
 obtain ⟨M, eM⟩ : ∃ M, M = zMS (msk k).ms B.2 := ⟨_, rfl⟩
 have hok1 : Ok a1 := by rw [e1]; exact (num_ok (ok0 hlt)).1
 have hok7 : Ok a7 := by rw [e7]; refine zNum_ok _ ?_; rw [e6]; refine rKey_ok _ ?_; rw [e5]; refine zNum_ok _ ?_; rw [e4]; refine rInt_ok _ ?_; rw [e3, e2]; exact (num_ok (num_ok hok1).1).1
 have hokA : Ok A.2 := by rw [eA]; exact zES_ok _ hok7
 have hokB : Ok B.2 := by rw [eB]; exact zGS_ok _ hokA
 rw [← e1, ← hk] at h1
 refine zdec_core rfl hD (by omega) (msk k).op (msk k).fo (msk k).key (msk k).bk (msk k).es (msk k).gs (msk k).ms A.1.1 (A.1.1 && B.1.1) k (nodeR (numS a1).1) (nodeR (numS a2).1) (rInt (msk k).op a3).1 (zNum (msk k).fo a4).1 (zNum (msk k).bk a6).1 (hsK k) (rKey (msk k).key a5).1 (textS 32 a5).1 a1 a2 a3 a4 a5 a6 a7 A.2 B.2 M.2 A.1.2 B.1.2 M.1
  h1 (by rw [e2]; exact num_at D _ a1) (by rw [e3]; exact num_at D _ a2) (fun W => has_any k W) bits_k
  ⟨fun e W h => by rw [e4, rInt_t e]; exact frint_any h, fun e => by rw [e4, rInt_f e]; exact ⟨rfl, rfl⟩⟩ ⟨fun e => by rw [e5, e]; exact num_at D _ a4, fun e => by rw [e5, e]; exact ⟨rfl, rfl⟩⟩
  ⟨fun e W h => ?_, fun e => by rw [e6, rKey_f e]; exact ⟨rfl, rfl⟩⟩ (fun e => by rw [rKey_t e]) ⟨fun e => by rw [e7, e]; exact num_at D _ a6, fun e => by rw [e7, e]; exact ⟨rfl, rfl⟩⟩
  ⟨fun e => ?_, fun e => by rw [eA, e]; exact ⟨rfl, rfl, rfl⟩⟩ ⟨fun e => ?_, fun e => by rw [eB, e]; exact ⟨(Bool.and_true _).symm, rfl, rfl⟩⟩ ⟨fun e => ?_, fun e => by rw [eM, e]; exact ⟨rfl, rfl⟩⟩ ?_
 ·rw [e6, rKey_t e]
  refine (frtext_any h 32 (by decide) (by decide)).mono ?_
  rintro e1 w1 ⟨t, c, he, ho, -, hr, o⟩
  exact ⟨t, c, he, ho, hr, o⟩
 ·refine ⟨(countS 256 a7).1, (countS 256 a7).2, (count_ok 256 hok7).2.1, ?_, fun W h => frcount_any h 256 (by decide) (by decide)⟩
  rw [eA, e]
  exact ⟨Bool.true_and _, List.nil_append _, rfl⟩
 ·refine ⟨(countS 256 A.2).1, (countS 256 A.2).2, (count_ok 256 hokA).2.1, ?_, fun W h => frcount_any h 256 (by decide) (by decide)⟩
  rw [eB, e]
  exact ⟨rfl, List.nil_append _, rfl⟩
 ·refine ⟨(countS 8 B.2).1, (countS 8 B.2).2, (count_ok 8 hokB).2.1, ?_, fun W h => frcount_any h 8 (by decide) (by decide)⟩
  rw [eM, e]
  exact ⟨List.nil_append _, rfl⟩
 ·subst hk e1 e2 e3 e4 e5 e6 e7 eA eB eM
  rfl
end Go.Proofs.YtmbphlkohlggfaaGreat
