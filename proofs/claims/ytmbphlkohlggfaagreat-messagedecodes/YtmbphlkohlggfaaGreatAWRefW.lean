/- Items of several texts. -/
import Derived.Test.YtmbphlkohlggfaaGreatAWFlag
namespace Go.Proofs.YtmbphlkohlggfaaGreat
open Go.RowKit
set_option maxRecDepth 100000 in
set_option maxHeartbeats 1000000 in
theorem fnum_any (n : Nat) (hn : n < 18446744073709551616) (w : World) :
  Calls Tryz.prog 41 #[.int .u64 (n : Int)] w fun e w' => ∃ t c, e = .returned (.slice t (numB n).length c) ∧ OwnR w' t c (numB n) ∧ (∀ k, blk t = some k → w.heap.size ≤ k) ∧ Off (fun _ => False) w w' := by
 have hten := numB_ten hn
 go_enter Tryz.func41, Tryz.ntmps41
 go_wp2_with fail
 go_loopw [0, 3] (fun x o wr => ∃ (m : Nat) (bs : List Nat) (t : Option Addr) (c : Nat), x = .int .u64 (m : Int) ∧ o = .slice t bs.length c ∧ m < 18446744073709551616 ∧ bs ++ numB m = numB n ∧ OwnR wr t c bs ∧ (∀ k, blk t = some k → w.heap.size ≤ k) ∧ Off (fun _ => False) w wr) (fun x _ _ => (intOf x).toNat)
 case atStart => exact ⟨n, [], none, 0, rfl, rfl, hn, rfl, OwnR.nil w, fun k hk => by simp [blk] at hk, Off.refl _ w⟩
 case round =>
  obtain ⟨m, bs, t, c, rfl, rfl, hm, heq, own, hblk, O⟩ := hrel
  have hlen : bs.length + 1 ≤ 10 := by
   have := congrArg List.length heq
   have h1 := numB_pos m
   simp at this
   omega
  have OW : Hid _ := own
  have HB : Hid _ := hblk
  have HE : Hid _ := heq
  clear own hblk heq
  by_cases h : m < 128
  ·have hd : decide ((128 : Int) ≤ (m : Int)) = false := by simp; omega
   have e2 : (m : Int) % 256 = (m : Int) := by omega
   go_wp2_with (at_builtin; refine wpList_app rfl (.tmp 14) (.tmp 17) rfl t c bs rfl (OW.out.off ((Off.refl (fun _ => False) _).alloc _) (fun _ _ _ h => h)) _ 1 [m] rfl (src_new _ _) (by simp; omega) ?_; intro t' c' w' ys hys own' off' at')
   go_ret
   rw [numB_small h] at HE
   refine ⟨t', c', by rw [← HE.out, ← hys.out]; rfl, by rw [← HE.out, ← hys.out]; exact own', fun k hk => ?_, (O.alloc _).trans off' (fun i hi hb => ?_)⟩
   ·rcases at' with a | a
    ·exact HB.out k (a ▸ hk)
    ·rw [a] at hk
     have := O.size
     simp at hk
     omega
   ·have := HB.out i hb
    omega
  ·have hd : decide ((128 : Int) ≤ (m : Int)) = true := by simp; omega
   obtain ⟨y, hy⟩ : ∃ y, y = m % 128 + 128 := ⟨_, rfl⟩
   have e2 : bits .or .u8 ((m : Int) % 256) 128 = (y : Int) := by rw [hy]; exact or128 m
   have HY : Hid _ := hy
   clear hy
   go_wp2_with (at_builtin; refine wpList_app rfl (.tmp 6) (.tmp 10) rfl t c bs rfl (OW.out.off ((Off.refl (fun _ => False) _).alloc _) (fun _ _ _ h => h)) _ 1 [y] rfl (src_new _ _) (by simp; omega) ?_; intro t' c' w' ys hys own' off' at')
   go_roundw
   case rel =>
    refine ⟨m / 128, ys, t', c', by go_num, rfl, by omega, ?_, own', fun k hk => ?_, (O.alloc _).trans off' (fun i hi hb => ?_)⟩
    ·rw [← HE.out, hys.out, numB_big h, HY.out]
     simp
    ·rcases at' with a | a
     ·exact HB.out k (a ▸ hk)
     ·rw [a] at hk
      have := O.size
      simp at hk
      omega
    ·have := HB.out i hb
     omega
   case measure => simp [intOf]; omega
structure FW (D : Nat → Prop) (b most : Nat) (st : Option (List Nat)) (w : World) : Prop where
 here : D b
 lt : ∀ c, D c → c < w.heap.size
 bound : most ≤ 9223372036854775807
 is : (st = none ∧ ∃ t n c, Cel b 53 #[.slice t n c, .int .i64 (most : Int), .bool true] w) ∨
  ∃ bs tad cap, st = some bs ∧ Cel b 53 #[.slice tad bs.length cap, .int .i64 (most : Int), .bool false] w ∧ OwnR w tad cap bs ∧ ∀ k, blk tad = some k → D k ∧ k ≠ b
theorem FW.off {D E : Nat → Prop} {b most : Nat} {st : Option (List Nat)} {w w' : World} (h : FW D b most st w) (o : Off E w w') (hD : ∀ c, c < w.heap.size → D c → ¬ E c) : FW D b most st w' := by
 refine ⟨h.here, fun c hc => Nat.lt_of_lt_of_le (h.lt c hc) o.size, h.bound, ?_⟩
 rcases h.is with ⟨rfl, t, n, c, h1⟩ | ⟨bs, tad, cap, rfl, h1, h2, h3⟩
 ·exact .inl ⟨rfl, t, n, c, h1.off o (hD b h1.lt h.here)⟩
 ·exact .inr ⟨bs, tad, cap, rfl, h1.off o (hD b h1.lt h.here), h2.off o (fun c hc hb => hD c hc (h3 c hb).1), h3⟩
def FPut (D : Nat → Prop) (b most : Nat) (st : Option (List Nat)) (x : List Nat) (w w' : World) : Prop := ∃ D', FW D' b most (putS most st x) w' ∧ Off D w w' ∧ ∀ c, D' c → D c ∨ w.heap.size ≤ c
theorem FPut.after {D : Nat → Prop} {b most : Nat} {st : Option (List Nat)} {x : List Nat} {w w1 w' : World} (o : Off (fun _ => False) w w1) (h : FPut D b most st x w1 w') : FPut D b most st x w w' := by
 obtain ⟨D', h1, h2, h3⟩ := h
 exact ⟨D', h1, (o.mono (fun _ _ h => h.elim)).trans h2 (fun _ _ h => h), fun c hc => (h3 c hc).imp id (fun h => Nat.le_trans o.size h)⟩
set_option maxRecDepth 100000 in
set_option maxHeartbeats 1000000 in
theorem fput_any {D : Nat → Prop} {b most : Nat} {st : Option (List Nat)} {w : World} (hW : FW D b most st w) (ht : Option Addr) (hc : Nat) (hb : List Nat) (hh : Src w ht hc hb) (hsz : (st.getD []).length + hb.length ≤ 140737488355328 ∨ most ≤ 140737488355328 ∧ (st.getD []).length ≤ most) :
  Calls Tryz.prog 40 #[.pointer (some ⟨b, 0, none⟩), .slice ht hb.length hc] w fun e w' => e = .returned (.tuple #[]) ∧ FPut D b most st hb w w' := by
 have HW := hW
 rcases hW.is with ⟨rfl, t, n, c, h1⟩ | ⟨bs, tad, cap, rfl, h1, h2, h3⟩
 ·have c2 : w.cell? ⟨b, 2, none⟩ = some (.bool true) := by rw [h1.cell]; rfl
  have f2 := h1.free 2
  have H1 : Hid (Cel b 53 #[.slice t n c, .int .i64 (most : Int), .bool true] w) := h1
  clear h1 hW
  go_enter Tryz.func40, Tryz.ntmps40
  go_wp2_with fail
  go_region
  go_wp2_with fail
  refine bodyPost_ret (results_none rfl _ _ _) rfl ?_
  refine ⟨rfl, D, ⟨HW.here, fun c h => by simpa using HW.lt c h, HW.bound, .inl ⟨rfl, t, n, c, H1.out.drew.set 2 _⟩⟩, ((Off.refl D w).drew).setCell (.inl HW.here) _, fun c h => .inl h⟩
 ·have hmost := hW.bound
  simp only [Option.getD_some] at hsz
  have hbs : bs.length ≤ 140737488355328 := by omega
  have c0 : w.cell? ⟨b, 0, none⟩ = some (.slice tad bs.length cap) := by rw [h1.cell]; rfl
  have c1 : w.cell? ⟨b, 1, none⟩ = some (.int .i64 (most : Int)) := by rw [h1.cell]; rfl
  have c2 : w.cell? ⟨b, 2, none⟩ = some (.bool false) := by rw [h1.cell]; rfl
  have f0 := h1.free 0
  have f2 := h1.free 2
  have H1 : Hid (Cel b 53 #[.slice tad bs.length cap, .int .i64 (most : Int), .bool false] w) := h1
  have H2 : Hid (OwnR w tad cap bs) := h2
  have H3 : Hid (∀ k, blk tad = some k → D k ∧ k ≠ b) := h3
  have HS : Hid (Src w ht hc hb) := hh
  clear h1 h2 h3 hh hW
  by_cases hfit : bs.length + hb.length ≤ most
  ·have hput : putS most (some bs) hb = some (bs ++ hb) := by simp [putS, hfit]
   have HP : Hid _ := hput
   clear hput
   have hd : decide ((most : Int) - (bs.length : Int) < (hb.length : Int)) = false := by simp; omega
   go_enter Tryz.func40, Tryz.ntmps40
   go_wp2_with fail
   go_region
   go_wp2_with (at_builtin; refine wpList_app rfl (.tmp 30) (.tmp 31) rfl tad cap bs rfl (H2.out.off ((Off.refl (fun _ => False) _).drew) (fun _ _ _ h => h)) ht hc hb rfl (HS.out.off ((Off.refl (fun _ => False) _).drew) (fun _ _ _ h => h)) (by omega) ?_; intro t1 cc1 w1 y1 hy1 own1 off1 at1; have P1 : Cel b 53 _ w1 := H1.out.drew.off off1 (fun e => (H3.out b e).2 rfl); have p1 : w1.cell? ⟨b, 0, none⟩ = some (.slice tad bs.length cap) := (P1.cell 0).trans rfl; have g1 := P1.free 0; have O1 : Off D w w1 := ((Off.refl D w).drew).trans off1 (fun i _ e => (H3.out i e).1); have N1 : Hid _ := blk_ne at1 H3.out H1.out.lt; have OW1 : Hid (OwnR w1 t1 cc1 y1) := own1; have S1 := O1.size; have Q1 : Hid _ := P1; clear own1 off1 at1 P1)
   go_end0
   have hD : ∀ c, blk t1 = some c → D c ∨ w.heap.size ≤ c := fun c e => (N1.out c e).1
   refine ⟨rfl, fun c => c = b ∨ blk t1 = some c, ?_, O1.setCell (.inl HW.here) _, ?_⟩
   ·rw [HP.out]
    refine ⟨.inl rfl, fun c h => ?_, hmost, .inr ⟨y1, t1, cc1, by rw [hy1.out], Q1.out.set 0 _, OW1.out.off ((Off.refl (fun c => c = b) _).setCell (.inl rfl) _) (fun c _ e h => (N1.out c e).2 h), fun k hk => ⟨.inr hk, (N1.out k hk).2⟩⟩⟩
    rcases h with h | h
    ·have := HW.lt b HW.here
     simp
     omega
    ·have := OW1.out.lt c h
     simpa using this
   ·rintro c (rfl | h)
    ·exact .inl HW.here
    ·exact hD c h
  ·have hput : putS most (some bs) hb = none := by simp [putS]; omega
   have HP : Hid _ := hput
   clear hput
   have hd : decide ((most : Int) - (bs.length : Int) < (hb.length : Int)) = true := by simp; omega
   go_enter Tryz.func40, Tryz.ntmps40
   go_wp2_with fail
   go_region
   go_wp2_with fail
   refine bodyPost_ret (results_none rfl _ _ _) rfl ?_
   refine ⟨rfl, D, ?_, ((Off.refl D w).drew).setCell (.inl HW.here) _, fun c h => .inl h⟩
   rw [HP.out]
   exact ⟨HW.here, fun c h => by simpa using HW.lt c h, hmost, .inl ⟨rfl, tad, bs.length, cap, H1.out.drew.set 2 _⟩⟩
theorem fwnum_any {D : Nat → Prop} {b most : Nat} {st : Option (List Nat)} {w : World} (hW : FW D b most st w) (n : Nat) (hn : n < 18446744073709551616) (hsz : (st.getD []).length + 10 ≤ 140737488355328 ∨ most ≤ 140737488355328 ∧ (st.getD []).length ≤ most) :
  Calls Tryz.prog 13 #[.pointer (some ⟨b, 0, none⟩), .int .u64 (n : Int)] w fun e w' => e = .returned (.tuple #[]) ∧ FPut D b most st (numB n) w w' := by
 have hten := numB_ten hn
 go_enter Tryz.func13, Tryz.ntmps13
 go_wp2_with fail
 refine (fnum_any n hn w).mono ?_
 rintro e w1 ⟨t, c, rfl, own, hblk, off⟩
 go_wp2_with fail
 refine (fput_any (hW.off off (fun _ _ _ h => h)) t c (numB n) own.src (by omega)).mono ?_
 rintro e w2 ⟨rfl, P⟩
 go_wp2_with fail
 go_end0
 exact ⟨rfl, FPut.after off P⟩
theorem fwint_any {D : Nat → Prop} {b most : Nat} {st : Option (List Nat)} {w : World} (hW : FW D b most st w) (i : Int) (h0 : -9223372036854775808 ≤ i) (h1 : i ≤ 9223372036854775807) (hsz : (st.getD []).length + 10 ≤ 140737488355328 ∨ most ≤ 140737488355328 ∧ (st.getD []).length ≤ most) :
  Calls Tryz.prog 14 #[.pointer (some ⟨b, 0, none⟩), .int .i64 i] w fun e w' => e = .returned (.tuple #[]) ∧ FPut D b most st (numB (zig i)) w w' := by
 obtain ⟨z, hz⟩ : ∃ z, z = zig i := ⟨_, rfl⟩
 have hlt : z < 18446744073709551616 := hz ▸ zig_lt h0 h1
 have hten := numB_ten hlt
 have hb := zig_bits h0 h1
 rw [← hz] at hb ⊢
 clear hz
 go_enter Tryz.func14, Tryz.ntmps14
 go_wp2_with fail
 refine (fnum_any z hlt w).mono ?_
 rintro e w1 ⟨t, c, rfl, own, hblk, off⟩
 go_wp2_with fail
 refine (fput_any (hW.off off (fun _ _ _ h => h)) t c (numB z) own.src (by omega)).mono ?_
 rintro e w2 ⟨rfl, P⟩
 go_wp2_with fail
 go_end0
 exact ⟨rfl, FPut.after off P⟩
theorem fwflag_any {D : Nat → Prop} {b most : Nat} {st : Option (List Nat)} {w : World} (hW : FW D b most st w) (f : Bool) (hsz : (st.getD []).length + 1 ≤ 140737488355328 ∨ most ≤ 140737488355328 ∧ (st.getD []).length ≤ most) :
  Calls Tryz.prog 85 #[.pointer (some ⟨b, 0, none⟩), .bool f] w fun e w' => e = .returned (.tuple #[]) ∧ FPut D b most st [if f then 1 else 0] w w' := by
 cases f with
 | true =>
  have o1 : Off (fun _ => False) w (w.alloc (.cells #[.int .u8 1] 5)) := (Off.refl _ w).alloc _
  have s1 := src_new w 1
  go_enter Tryz.func85, Tryz.ntmps85
  go_wp2_with fail
  refine (fput_any (hW.off o1 (fun _ _ _ h => h)) _ 1 [1] s1 (by simp only [List.length_cons, List.length_nil]; omega)).mono ?_
  rintro e w2 ⟨rfl, P⟩
  go_wp2_with fail
  first | go_end0 | refine bodyPost_ret (results_none rfl _ _ _) rfl ?_
  exact ⟨rfl, FPut.after o1 P⟩
 | false =>
  have o1 : Off (fun _ => False) w (w.alloc (.cells #[.int .u8 0] 5)) := (Off.refl _ w).alloc _
  have s1 := src_new w 0
  go_enter Tryz.func85, Tryz.ntmps85
  go_wp2_with fail
  refine (fput_any (hW.off o1 (fun _ _ _ h => h)) _ 1 [0] s1 (by simp only [List.length_cons, List.length_nil]; omega)).mono ?_
  rintro e w2 ⟨rfl, P⟩
  go_wp2_with fail
  first | go_end0 | refine bodyPost_ret (results_none rfl _ _ _) rfl ?_
  exact ⟨rfl, FPut.after o1 P⟩
theorem fwtext_any {D : Nat → Prop} {b most : Nat} {st : Option (List Nat)} {w : World} (hW : FW D b most st w) (bt : Option Addr) (bc : Nat) (bb : List Nat) (hs : Src w bt bc bb) (hsz : (st.getD []).length + 10 + bb.length ≤ 140737488355328 ∨ most ≤ 140737488355328 ∧ (st.getD []).length ≤ most ∧ bb.length ≤ 140737488351232) :
  Calls Tryz.prog 15 #[.pointer (some ⟨b, 0, none⟩), .slice bt bb.length bc] w fun e w' => e = .returned (.tuple #[]) ∧ FPut D b most st (numB bb.length ++ bb) w w' := by
 have hn : bb.length < 18446744073709551616 := by omega
 have hten := numB_ten hn
 have HS : Hid (Src w bt bc bb) := hs
 clear hs
 go_enter Tryz.func15, Tryz.ntmps15
 go_wp2_with fail
 refine (fnum_any bb.length hn w).mono ?_
 rintro e w1 ⟨t, c, rfl, own, hblk, off⟩
 obtain ⟨x, hx⟩ : ∃ x, x = numB bb.length := ⟨_, rfl⟩
 rw [← hx] at own hten ⊢
 have HX : Hid _ := hx
 have OWN : Hid (OwnR w1 t c x) := own
 have HB : Hid _ := hblk
 clear hx own hblk
 go_wp2_with (at_builtin; refine wpList_app rfl (.tmp 8) (.tmp 9) rfl t c x rfl OWN.out bt bc bb rfl (HS.out.off off (fun _ _ _ h => h)) (by omega) ?_; intro t2 c2 w2 y2 hy2 own2 off2 at2; have O2 : Off (fun _ => False) w w2 := off.trans off2 (fun i hi h => by have := HB.out i h; omega); have OWN2 : Hid (OwnR w2 t2 c2 y2) := own2; have hl2 : y2.length = x.length + bb.length := (by rw [hy2.out]; simp); have HL2 : Hid _ := hl2; clear own2 off2 at2 hl2)
 refine (fput_any (hW.off O2 (fun _ _ _ h => h)) t2 c2 y2 OWN2.out.src (by have := HL2.out; omega)).mono ?_
 rintro e w3 ⟨rfl, P⟩
 go_wp2_with fail
 go_end0
 rw [hy2.out, HX.out] at P
 exact ⟨rfl, FPut.after O2 P⟩
end Go.Proofs.YtmbphlkohlggfaaGreat
