/- Items of several texts. -/
import Derived.RegionCalls
import Derived.Test.YtmbphlkohlggfaaCWWri
namespace Go.Proofs.Ytmbphlkohlggfaa
open Go.RowKit
def putS (most : Nat) : Option (List Nat) → List Nat → Option (List Nat)
 | none, _ => none
 | some bs, x => if bs.length + x.length ≤ most then some (bs ++ x) else none
structure Wtr (D : Nat → Prop) (b most : Nat) (st : Option (List Nat)) (w : World) : Prop where
 here : D b
 lt : ∀ c, D c → c < w.heap.size
 bound : most ≤ 9223372036854775807
 is : (st = none ∧ Cel b 113 #[.int .i64 (most : Int), .slice none 0 0, .bool true] w) ∨
  ∃ bs tad cap, st = some bs ∧ Cel b 113 #[.int .i64 (most : Int), .slice tad bs.length cap, .bool false] w ∧ OwnR w tad cap bs ∧ ∀ k, blk tad = some k → D k ∧ k ≠ b
theorem Wtr.off {D E : Nat → Prop} {b most : Nat} {st : Option (List Nat)} {w w' : World} (h : Wtr D b most st w) (o : Off E w w') (hD : ∀ c, c < w.heap.size → D c → ¬ E c) : Wtr D b most st w' := by
 refine ⟨h.here, fun c hc => Nat.lt_of_lt_of_le (h.lt c hc) o.size, h.bound, ?_⟩
 rcases h.is with ⟨rfl, h1⟩ | ⟨bs, tad, cap, rfl, h1, h2, h3⟩
 ·exact .inl ⟨rfl, h1.off o (hD b h1.lt h.here)⟩
 ·exact .inr ⟨bs, tad, cap, rfl, h1.off o (hD b h1.lt h.here), h2.off o (fun c hc hb => hD c hc (h3 c hb).1), h3⟩
theorem blk_ne {D : Nat → Prop} {t1 tad : Option Addr} {b N : Nat} (at1 : blk t1 = blk tad ∨ blk t1 = some N) (h : ∀ k, blk tad = some k → D k ∧ k ≠ b) (hb : b < N) : ∀ c, blk t1 = some c → (D c ∨ N ≤ c) ∧ c ≠ b := by
 intro c e
 rcases at1 with a | a
 ·have := h c (a ▸ e)
  exact ⟨.inl this.1, this.2⟩
 ·rw [a] at e
  simp at e
  exact ⟨.inr (by omega), by omega⟩
theorem newWriter_any (m : Int) (hm : m ≤ 9223372036854775807) (w : World) :
  Calls Try.prog 49 #[.int .i64 m] w fun e w' => e = .returned (.pointer (some ⟨w.heap.size, 0, none⟩)) ∧ Wtr (fun c => c = w.heap.size) w.heap.size m.toNat (some []) w' ∧ Off (fun _ => False) w w' := by
 go_enter Try.func49, Try.ntmps49
 go_wp2
 all_goals go_ret
 all_goals refine ⟨rfl, ⟨rfl, fun c hc => by simp [hc], by omega, .inr ⟨[], none, 0, rfl, by (first | (rw [show ((m.toNat : Nat) : Int) = m by omega]; exact Cel.new w _ _) | (rw [show ((m.toNat : Nat) : Int) = 0 by omega]; exact Cel.new w _ _)), OwnR.nil _, fun k hk => by simp [blk] at hk⟩⟩, (Off.refl _ w).alloc _⟩
set_option maxRecDepth 100000 in
set_option maxHeartbeats 1000000 in
theorem add_any {D : Nat → Prop} {b most : Nat} {st : Option (List Nat)} {w : World} (hW : Wtr D b most st w) (ht : Option Addr) (hc : Nat) (hb : List Nat) (hh : Src w ht hc hb) (bt : Option Addr) (bc : Nat) (bb : List Nat) (hbody : ∀ w', Off D w w' → Src w' bt bc bb)
  (hsz : (st.getD []).length + hb.length + bb.length ≤ 140737488355328 ∨ most ≤ 140737488355328 ∧ (st.getD []).length ≤ most ∧ hb.length + bb.length ≤ 281474976710656) :
  Calls Try.prog 112 #[.pointer (some ⟨b, 0, none⟩), .slice ht hb.length hc, .slice bt bb.length bc] w fun e w' => e = .returned (.tuple #[]) ∧ ∃ D', Wtr D' b most (putS most st (hb ++ bb)) w' ∧ Off D w w' ∧ ∀ c, D' c → D c ∨ w.heap.size ≤ c := by
 have HW := hW
 rcases hW.is with ⟨rfl, h1⟩ | ⟨bs, tad, cap, rfl, h1, h2, h3⟩
 ·have c2 : w.cell? ⟨b, 2, none⟩ = some (.bool true) := by rw [h1.cell]; rfl
  clear h1 hW
  go_enter Try.func112, Try.ntmps112
  go_wp2_with fail
  refine bodyPost_ret (results_none rfl _ _ _) rfl ?_
  exact ⟨rfl, D, HW, Off.refl _ _, fun c h => .inl h⟩
 ·have hmost := hW.bound
  simp only [Option.getD_some] at hsz
  have hbb : hb.length + bb.length ≤ 281474976710656 ∧ bs.length ≤ 140737488355328 := by omega
  obtain ⟨hbb, hbs⟩ := hbb
  have c0 : w.cell? ⟨b, 0, none⟩ = some (.int .i64 (most : Int)) := by rw [h1.cell]; rfl
  have c1 : w.cell? ⟨b, 1, none⟩ = some (.slice tad bs.length cap) := by rw [h1.cell]; rfl
  have c2 : w.cell? ⟨b, 2, none⟩ = some (.bool false) := by rw [h1.cell]; rfl
  have f1 := h1.free 1
  have f2 := h1.free 2
  have H1 : Hid (Cel b 113 #[.int .i64 (most : Int), .slice tad bs.length cap, .bool false] w) := h1
  have H2 : Hid (OwnR w tad cap bs) := h2
  have H3 : Hid (∀ k, blk tad = some k → D k ∧ k ≠ b) := h3
  have HB : Hid (∀ w', Off D w w' → Src w' bt bc bb) := hbody
  have HS : Hid (Src w ht hc hb) := hh
  clear h1 h2 h3 hbody hh hW
  by_cases hfit : bs.length + (hb.length + bb.length) ≤ most
  ·have hput : putS most (some bs) (hb ++ bb) = some (bs ++ hb ++ bb) := by simp [putS, hfit]
   have HP : Hid _ := hput
   clear hput
   have hd : decide ((most : Int) - (bs.length : Int) < (hb.length : Int) + (bb.length : Int)) = false := by simp; omega
   go_enter Try.func112, Try.ntmps112
   go_wp2_with fail
   go_region
   go_wp2_with (first
    | (at_builtin; refine wpList_app rfl (.tmp 40) (.tmp 41) rfl tad cap bs rfl (H2.out.off ((Off.refl (fun _ => False) _).drew) (fun _ _ _ h => h)) ht hc hb rfl (HS.out.off ((Off.refl (fun _ => False) _).drew) (fun _ _ _ h => h)) (by omega) ?_; intro t1 cc1 w1 y1 hy1 own1 off1 at1; have P1 : Cel b 113 _ w1 := H1.out.drew.off off1 (fun e => (H3.out b e).2 rfl); have p1 : w1.cell? ⟨b, 1, none⟩ = some (.slice tad bs.length cap) := (P1.cell 1).trans rfl; have g1 := P1.free 1; have O1 : Off D w w1 := ((Off.refl D w).drew).trans off1 (fun i _ e => (H3.out i e).1); have N1 : Hid _ := blk_ne at1 H3.out H1.out.lt; have OW1 : Hid (OwnR w1 t1 cc1 y1) := own1; have S1 := O1.size; have Q1 : Hid _ := P1; clear own1 off1 at1 P1)
    | (at_builtin; refine wpList_app rfl (.tmp 49) (.tmp 50) rfl t1 cc1 y1 rfl (OW1.out.off ((Off.refl (fun c => c = b) _).setCell (.inl rfl) _) (fun c _ e h => (N1.out c e).2 h)) bt bc bb rfl (HB.out _ (O1.setCell (.inl HW.here) _)) (by rw [hy1.out]; simp; omega) ?_; intro t2 cc2 w2 y2 hy2 own2 off2 at2; have P2 : Cel b 113 _ w2 := (Cel.set Q1.out 1 _).off off2 (fun e => (N1.out b e).2 rfl); have p2 : w2.cell? ⟨b, 1, none⟩ = some (.slice t1 y1.length cc1) := (P2.cell 1).trans rfl; have g2 := P2.free 1; have N2 : Hid _ := blk_ne (N := (w1.setCell ⟨b, 1, none⟩ (.slice t1 y1.length cc1)).heap.size) at2 N1.out (Q1.out.set 1 _).lt; have O2 : Off (fun c => D c ∨ w.heap.size ≤ c) w w2 := ((O1.setCell (p := ⟨b, 1, none⟩) (.inl HW.here) (.slice t1 y1.length cc1)).mono (fun _ _ h => .inl h)).trans off2 (fun i _ e => (N1.out i e).1)))
   go_end0
   have hD : ∀ c, blk t2 = some c → D c ∨ w.heap.size ≤ c := by
    intro c e
    rcases (N2.out c e).1 with (h | h) | h
    ·exact .inl h
    ·exact .inr h
    ·simp at h
     exact .inr (by omega)
   have S2 := O2.size
   refine ⟨rfl, fun c => c = b ∨ blk t2 = some c, ?_, (O2.mono (fun i hi h => h.elim id (fun h => by omega))).setCell (.inl HW.here) _, ?_⟩
   ·rw [HP.out]
    refine ⟨.inl rfl, fun c h => ?_, hmost, .inr ⟨y2, t2, cc2, by rw [hy2.out, hy1.out], P2.set 1 _, own2.off ((Off.refl (fun c => c = b) _).setCell (.inl rfl) _) (fun c _ e h => (N2.out c e).2 h), fun k hk => ⟨.inr hk, (N2.out k hk).2⟩⟩⟩
    rcases h with h | h
    ·have := HW.lt b HW.here
     simp
     omega
    ·have := own2.lt c h
     simpa using this
   ·rintro c (rfl | h)
    ·exact .inl HW.here
    ·exact hD c h
  ·have hput : putS most (some bs) (hb ++ bb) = none := by simp [putS]; omega
   have HP : Hid _ := hput
   clear hput
   have hd : decide ((most : Int) - (bs.length : Int) < (hb.length : Int) + (bb.length : Int)) = true := by simp; omega
   go_enter Try.func112, Try.ntmps112
   go_wp2_with fail
   go_region
   go_wp2_with fail
   refine bodyPost_ret (results_none rfl _ _ _) rfl ?_
   refine ⟨rfl, D, ?_, ?_, fun c h => .inl h⟩
   ·rw [HP.out]
    refine ⟨HW.here, fun c h => by simpa using HW.lt c h, hmost, .inl ⟨rfl, ?_⟩⟩
    exact (H1.out.drew.set 1 _).set 2 _
   ·exact (((Off.refl D w).drew).setCell (.inl HW.here) _).setCell (.inl HW.here) _
end Go.Proofs.Ytmbphlkohlggfaa

namespace Go.Proofs.Ytmbphlkohlggfaa
open Go.RowKit
def Put (D : Nat → Prop) (b most : Nat) (st : Option (List Nat)) (x : List Nat) (w w' : World) : Prop := ∃ D', Wtr D' b most (putS most st x) w' ∧ Off D w w' ∧ ∀ c, D' c → D c ∨ w.heap.size ≤ c
theorem Put.after {D : Nat → Prop} {b most : Nat} {st : Option (List Nat)} {x : List Nat} {w w1 w' : World} (o : Off (fun _ => False) w w1) (h : Put D b most st x w1 w') : Put D b most st x w w' := by
 obtain ⟨D', h1, h2, h3⟩ := h
 exact ⟨D', h1, (o.mono (fun _ _ h => h.elim)).trans h2 (fun _ _ h => h), fun c hc => (h3 c hc).imp id (fun h => Nat.le_trans o.size h)⟩
theorem wnum_any {D : Nat → Prop} {b most : Nat} {st : Option (List Nat)} {w : World} (hW : Wtr D b most st w) (n : Nat) (hn : n < 18446744073709551616) (hsz : (st.getD []).length + 10 ≤ 140737488355328 ∨ most ≤ 140737488355328 ∧ (st.getD []).length ≤ most) :
  Calls Try.prog 82 #[.pointer (some ⟨b, 0, none⟩), .int .u64 (n : Int)] w fun e w' => e = .returned (.tuple #[]) ∧ Put D b most st (numB n) w w' := by
 have hten := numB_ten hn
 go_enter Try.func82, Try.ntmps82
 go_wp2_with fail
 refine (parts_any n hn w).mono ?_
 rintro e w1 ⟨t, c, rfl, own, hblk, off⟩
 go_wp2_with fail
 refine (add_any (hW.off off (fun _ _ _ h => h)) t c (numB n) own.src none 0 [] (fun w' _ => Src.nil w') (by simp only [List.length_nil]; omega)).mono ?_
 rintro e w2 ⟨rfl, P⟩
 go_wp2_with fail
 go_end0
 rw [List.append_nil] at P
 exact ⟨rfl, Put.after off P⟩
theorem wtext_any {D : Nat → Prop} {b most : Nat} {st : Option (List Nat)} {w : World} (hW : Wtr D b most st w) (bt : Option Addr) (bc : Nat) (bb : List Nat) (hbody : ∀ w', Off D w w' → Src w' bt bc bb) (hsz : (st.getD []).length + 10 + bb.length ≤ 140737488355328 ∨ most ≤ 140737488355328 ∧ (st.getD []).length ≤ most ∧ bb.length ≤ 140737488351232) :
  Calls Try.prog 84 #[.pointer (some ⟨b, 0, none⟩), .slice bt bb.length bc] w fun e w' => e = .returned (.tuple #[]) ∧ Put D b most st (numB bb.length ++ bb) w w' := by
 have hn : bb.length < 18446744073709551616 := by omega
 have hten := numB_ten hn
 have HB : Hid _ := hbody
 clear hbody
 go_enter Try.func84, Try.ntmps84
 go_wp2_with fail
 refine (parts_any bb.length hn w).mono ?_
 rintro e w1 ⟨t, c, rfl, own, hblk, off⟩
 go_wp2_with fail
 refine (add_any (hW.off off (fun _ _ _ h => h)) t c (numB bb.length) own.src bt bc bb (fun w' o => HB.out w' ((off.mono (fun _ _ h => h.elim)).trans o (fun _ _ h => h))) (by omega)).mono ?_
 rintro e w2 ⟨rfl, P⟩
 go_wp2_with fail
 go_end0
 exact ⟨rfl, Put.after off P⟩
theorem wint_any {D : Nat → Prop} {b most : Nat} {st : Option (List Nat)} {w : World} (hW : Wtr D b most st w) (i : Int) (h0 : -9223372036854775808 ≤ i) (h1 : i ≤ 9223372036854775807) (hsz : (st.getD []).length + 10 ≤ 140737488355328 ∨ most ≤ 140737488355328 ∧ (st.getD []).length ≤ most) :
  Calls Try.prog 83 #[.pointer (some ⟨b, 0, none⟩), .int .i64 i] w fun e w' => e = .returned (.tuple #[]) ∧ Put D b most st (numB (zig i)) w w' := by
 obtain ⟨z, hz⟩ : ∃ z, z = zig i := ⟨_, rfl⟩
 have hlt : z < 18446744073709551616 := hz ▸ zig_lt h0 h1
 have hb := zig_bits h0 h1
 rw [← hz] at hb ⊢
 clear hz
 go_enter Try.func83, Try.ntmps83
 go_wp2_with fail
 refine (wnum_any hW z hlt hsz).mono ?_
 rintro e w1 ⟨rfl, P⟩
 go_wp2_with fail
 go_end0
 exact ⟨rfl, P⟩
def errW : Option (List Nat) → Nat
 | none => 4
 | some _ => 0
theorem done_any {D : Nat → Prop} {b most : Nat} {st : Option (List Nat)} {w : World} (hW : Wtr D b most st w) (hsz : (st.getD []).length ≤ 140737488355328) :
  Calls Try.prog 51 #[.pointer (some ⟨b, 0, none⟩)] w fun e w' => ∃ t c, e = .returned (.tuple #[.slice t (st.getD []).length c, .int .i64 ((errW st : Nat) : Int)]) ∧ OwnR w' t c (st.getD []) ∧ (∀ k, blk t = some k → w.heap.size ≤ k) ∧ Off (fun _ => False) w w' := by
 rcases hW.is with ⟨rfl, h1⟩ | ⟨bs, tad, cap, rfl, h1, h2, h3⟩
 ·have c2 : w.cell? ⟨b, 2, none⟩ = some (.bool true) := by rw [h1.cell]; rfl
  clear h1
  go_enter Try.func51, Try.ntmps51
  go_wp2_with fail
  go_ret2
  exact ⟨none, 0, rfl, OwnR.nil w, fun k hk => by simp [blk] at hk, Off.refl _ w⟩
 ·have c1 : w.cell? ⟨b, 1, none⟩ = some (.slice tad bs.length cap) := by rw [h1.cell]; rfl
  have c2 : w.cell? ⟨b, 2, none⟩ = some (.bool false) := by rw [h1.cell]; rfl
  clear h1
  go_enter Try.func51, Try.ntmps51
  go_wp2_with fail
  refine (clone_any tad cap bs hsz w h2.src).mono ?_
  rintro e w1 ⟨t, c, rfl, own, hblk, off⟩
  go_wp2_with fail
  go_ret2
  exact ⟨t, c, rfl, own, hblk, off⟩
end Go.Proofs.Ytmbphlkohlggfaa
