/- Items of several texts. -/
import Derived.Deep.Cut
import Derived.Laws.IdiomStrings
import Derived.Test.YtpnnpdfmoldiiaaQSam
import Derived.Test.YtpnnpdfmoldiiaaQRefA
import Derived.Test.YtpnnpdfmoldiiaaQWFlag
namespace Go.Proofs.Ytpnnpdfmoldiiaa
open Go.RowKit
set_option maxRecDepth 100000 in
set_option maxHeartbeats 1000000 in
theorem fnum_any (n : Nat) (hn : n < 18446744073709551616) (w : World) :
  Calls Try.prog 109 #[.int .u64 (n : Int)] w fun e w' => ∃ t c, e = .returned (.slice t (numB n).length c) ∧ OwnR w' t c (numB n) ∧ (∀ k, blk t = some k → w.heap.size ≤ k) ∧ Off (fun _ => False) w w' := by
 have hten := numB_ten hn
 go_enter Try.func109, Try.ntmps109
 go_wp2_with fail
 go_loopw [0, 3] (fun x o wr => ∃ (m : Nat) (bs : List Nat) (t : Option Addr) (c : Nat), x = .int .u64 (m : Int) ∧ o = .slice t bs.length c ∧ m < 18446744073709551616 ∧ bs ++ numB m = numB n ∧ OwnR wr t c bs ∧ (∀ k, blk t = some k → w.heap.size ≤ k) ∧ Off (fun _ => False) w wr) (fun x _ _ => (intOf x).toNat)
 case atStart => exact ⟨n, [], none, 0, rfl, rfl, hn, rfl, OwnR.nil w, fun k hk => by simp [blk] at hk, Off.refl _ w⟩
 case round =>
  obtain ⟨m, bs, t, c, rfl, rfl, hm, heq, own, hblk, O⟩ := hrel
  have hlen : bs.length + 1 ≤ 10 := by
   have := congrArg List.length heq
   have h1 := numB_pos m
   simp at this
   omega
  have OW : Hid _ := own
  have HB : Hid _ := hblk
  have HE : Hid _ := heq
  clear own hblk heq
  by_cases h : m < 128
  ·have hd : decide ((128 : Int) ≤ (m : Int)) = false := by simp; omega
   have e2 : (m : Int) % 256 = (m : Int) := by omega
   go_wp2_with (at_builtin; refine wpList_app rfl (.tmp 14) (.tmp 17) rfl t c bs rfl (OW.out.off ((Off.refl (fun _ => False) _).alloc _) (fun _ _ _ h => h)) _ 1 [m] rfl (src_new _ _) (by simp; omega) ?_; intro t' c' w' ys hys own' off' at')
   go_ret
   rw [numB_small h] at HE
   refine ⟨t', c', by rw [← HE.out, ← hys.out]; rfl, by rw [← HE.out, ← hys.out]; exact own', fun k hk => ?_, (O.alloc _).trans off' (fun i hi hb => ?_)⟩
   ·rcases at' with a | a
    ·exact HB.out k (a ▸ hk)
    ·rw [a] at hk
     have := O.size
     simp at hk
     omega
   ·have := HB.out i hb
    omega
  ·have hd : decide ((128 : Int) ≤ (m : Int)) = true := by simp; omega
   obtain ⟨y, hy⟩ : ∃ y, y = m % 128 + 128 := ⟨_, rfl⟩
   have e2 : bits .or .u8 ((m : Int) % 256) 128 = (y : Int) := by rw [hy]; exact or128 m
   have HY : Hid _ := hy
   clear hy
   go_wp2_with (at_builtin; refine wpList_app rfl (.tmp 6) (.tmp 10) rfl t c bs rfl (OW.out.off ((Off.refl (fun _ => False) _).alloc _) (fun _ _ _ h => h)) _ 1 [y] rfl (src_new _ _) (by simp; omega) ?_; intro t' c' w' ys hys own' off' at')
   go_roundw
   case rel =>
    refine ⟨m / 128, ys, t', c', by go_num, rfl, by omega, ?_, own', fun k hk => ?_, (O.alloc _).trans off' (fun i hi hb => ?_)⟩
    ·rw [← HE.out, hys.out, numB_big h, HY.out]
     simp
    ·rcases at' with a | a
     ·exact HB.out k (a ▸ hk)
     ·rw [a] at hk
      have := O.size
      simp at hk
      omega
    ·have := HB.out i hb
     omega
   case measure => simp [intOf]; omega
structure FW (D : Nat → Prop) (b most : Nat) (st : Option (List Nat)) (w : World) : Prop where
 here : D b
 lt : ∀ c, D c → c < w.heap.size
 bound : most ≤ 9223372036854775807
 is : (st = none ∧ ∃ t n c, Cel b 51 #[.slice t n c, .int .i64 (most : Int), .bool true] w) ∨
  ∃ bs tad cap, st = some bs ∧ Cel b 51 #[.slice tad bs.length cap, .int .i64 (most : Int), .bool false] w ∧ OwnR w tad cap bs ∧ ∀ k, blk tad = some k → D k ∧ k ≠ b
theorem FW.off {D E : Nat → Prop} {b most : Nat} {st : Option (List Nat)} {w w' : World} (h : FW D b most st w) (o : Off E w w') (hD : ∀ c, c < w.heap.size → D c → ¬ E c) : FW D b most st w' := by
 refine ⟨h.here, fun c hc => Nat.lt_of_lt_of_le (h.lt c hc) o.size, h.bound, ?_⟩
 rcases h.is with ⟨rfl, t, n, c, h1⟩ | ⟨bs, tad, cap, rfl, h1, h2, h3⟩
 ·exact .inl ⟨rfl, t, n, c, h1.off o (hD b h1.lt h.here)⟩
 ·exact .inr ⟨bs, tad, cap, rfl, h1.off o (hD b h1.lt h.here), h2.off o (fun c hc hb => hD c hc (h3 c hb).1), h3⟩
def FPut (D : Nat → Prop) (b most : Nat) (st : Option (List Nat)) (x : List Nat) (w w' : World) : Prop := ∃ D', FW D' b most (putS most st x) w' ∧ Off D w w' ∧ ∀ c, D' c → D c ∨ w.heap.size ≤ c
theorem FPut.after {D : Nat → Prop} {b most : Nat} {st : Option (List Nat)} {x : List Nat} {w w1 w' : World} (o : Off (fun _ => False) w w1) (h : FPut D b most st x w1 w') : FPut D b most st x w w' := by
 obtain ⟨D', h1, h2, h3⟩ := h
 exact ⟨D', h1, (o.mono (fun _ _ h => h.elim)).trans h2 (fun _ _ h => h), fun c hc => (h3 c hc).imp id (fun h => Nat.le_trans o.size h)⟩
set_option maxRecDepth 100000 in
set_option maxHeartbeats 1000000 in
theorem fput_any {D : Nat → Prop} {b most : Nat} {st : Option (List Nat)} {w : World} (hW : FW D b most st w) (ht : Option Addr) (hc : Nat) (hb : List Nat) (hh : Src w ht hc hb) (hsz : (st.getD []).length + hb.length ≤ 140737488355328 ∨ most ≤ 140737488355328 ∧ (st.getD []).length ≤ most) :
  Calls Try.prog 108 #[.pointer (some ⟨b, 0, none⟩), .slice ht hb.length hc] w fun e w' => e = .returned (.tuple #[]) ∧ FPut D b most st hb w w' := by
 have HW := hW
 rcases hW.is with ⟨rfl, t, n, c, h1⟩ | ⟨bs, tad, cap, rfl, h1, h2, h3⟩
 ·have c2 : w.cell? ⟨b, 2, none⟩ = some (.bool true) := by rw [h1.cell]; rfl
  have f2 := h1.free 2
  have H1 : Hid (Cel b 51 #[.slice t n c, .int .i64 (most : Int), .bool true] w) := h1
  clear h1 hW
  go_enter Try.func108, Try.ntmps108
  go_wp2_with fail
  go_region
  go_wp2_with fail
  refine bodyPost_ret (results_none rfl _ _ _) rfl ?_
  refine ⟨rfl, D, ⟨HW.here, fun c h => by simpa using HW.lt c h, HW.bound, .inl ⟨rfl, t, n, c, H1.out.drew.set 2 _⟩⟩, ((Off.refl D w).drew).setCell (.inl HW.here) _, fun c h => .inl h⟩
 ·have hmost := hW.bound
  simp only [Option.getD_some] at hsz
  have hbs : bs.length ≤ 140737488355328 := by omega
  have c0 : w.cell? ⟨b, 0, none⟩ = some (.slice tad bs.length cap) := by rw [h1.cell]; rfl
  have c1 : w.cell? ⟨b, 1, none⟩ = some (.int .i64 (most : Int)) := by rw [h1.cell]; rfl
  have c2 : w.cell? ⟨b, 2, none⟩ = some (.bool false) := by rw [h1.cell]; rfl
  have f0 := h1.free 0
  have f2 := h1.free 2
  have H1 : Hid (Cel b 51 #[.slice tad bs.length cap, .int .i64 (most : Int), .bool false] w) := h1
  have H2 : Hid (OwnR w tad cap bs) := h2
  have H3 : Hid (∀ k, blk tad = some k → D k ∧ k ≠ b) := h3
  have HS : Hid (Src w ht hc hb) := hh
  clear h1 h2 h3 hh hW
  by_cases hfit : bs.length + hb.length ≤ most
  ·have hput : putS most (some bs) hb = some (bs ++ hb) := by simp [putS, hfit]
   have HP : Hid _ := hput
   clear hput
   have hd : decide ((most : Int) - (bs.length : Int) < (hb.length : Int)) = false := by simp; omega
   go_enter Try.func108, Try.ntmps108
   go_wp2_with fail
   go_region
   go_wp2_with (at_builtin; refine wpList_app rfl (.tmp 30) (.tmp 31) rfl tad cap bs rfl (H2.out.off ((Off.refl (fun _ => False) _).drew) (fun _ _ _ h => h)) ht hc hb rfl (HS.out.off ((Off.refl (fun _ => False) _).drew) (fun _ _ _ h => h)) (by omega) ?_; intro t1 cc1 w1 y1 hy1 own1 off1 at1; have P1 : Cel b 51 _ w1 := H1.out.drew.off off1 (fun e => (H3.out b e).2 rfl); have p1 : w1.cell? ⟨b, 0, none⟩ = some (.slice tad bs.length cap) := (P1.cell 0).trans rfl; have g1 := P1.free 0; have O1 : Off D w w1 := ((Off.refl D w).drew).trans off1 (fun i _ e => (H3.out i e).1); have N1 : Hid _ := blk_ne at1 H3.out H1.out.lt; have OW1 : Hid (OwnR w1 t1 cc1 y1) := own1; have S1 := O1.size; have Q1 : Hid _ := P1; clear own1 off1 at1 P1)
   go_end0
   have hD : ∀ c, blk t1 = some c → D c ∨ w.heap.size ≤ c := fun c e => (N1.out c e).1
   refine ⟨rfl, fun c => c = b ∨ blk t1 = some c, ?_, O1.setCell (.inl HW.here) _, ?_⟩
   ·rw [HP.out]
    refine ⟨.inl rfl, fun c h => ?_, hmost, .inr ⟨y1, t1, cc1, by rw [hy1.out], Q1.out.set 0 _, OW1.out.off ((Off.refl (fun c => c = b) _).setCell (.inl rfl) _) (fun c _ e h => (N1.out c e).2 h), fun k hk => ⟨.inr hk, (N1.out k hk).2⟩⟩⟩
    rcases h with h | h
    ·have := HW.lt b HW.here
     simp
     omega
    ·have := OW1.out.lt c h
     simpa using this
   ·rintro c (rfl | h)
    ·exact .inl HW.here
    ·exact hD c h
  ·have hput : putS most (some bs) hb = none := by simp [putS]; omega
   have HP : Hid _ := hput
   clear hput
   have hd : decide ((most : Int) - (bs.length : Int) < (hb.length : Int)) = true := by simp; omega
   go_enter Try.func108, Try.ntmps108
   go_wp2_with fail
   go_region
   go_wp2_with fail
   refine bodyPost_ret (results_none rfl _ _ _) rfl ?_
   refine ⟨rfl, D, ?_, ((Off.refl D w).drew).setCell (.inl HW.here) _, fun c h => .inl h⟩
   rw [HP.out]
   exact ⟨HW.here, fun c h => by simpa using HW.lt c h, hmost, .inl ⟨rfl, tad, bs.length, cap, H1.out.drew.set 2 _⟩⟩
theorem fwnum_any {D : Nat → Prop} {b most : Nat} {st : Option (List Nat)} {w : World} (hW : FW D b most st w) (n : Nat) (hn : n < 18446744073709551616) (hsz : (st.getD []).length + 10 ≤ 140737488355328 ∨ most ≤ 140737488355328 ∧ (st.getD []).length ≤ most) :
  Calls Try.prog 68 #[.pointer (some ⟨b, 0, none⟩), .int .u64 (n : Int)] w fun e w' => e = .returned (.tuple #[]) ∧ FPut D b most st (numB n) w w' := by
 have hten := numB_ten hn
 go_enter Try.func68, Try.ntmps68
 go_wp2_with fail
 refine (fnum_any n hn w).mono ?_
 rintro e w1 ⟨t, c, rfl, own, hblk, off⟩
 go_wp2_with fail
 refine (fput_any (hW.off off (fun _ _ _ h => h)) t c (numB n) own.src (by omega)).mono ?_
 rintro e w2 ⟨rfl, P⟩
 go_wp2_with fail
 go_end0
 exact ⟨rfl, FPut.after off P⟩
theorem fwint_any {D : Nat → Prop} {b most : Nat} {st : Option (List Nat)} {w : World} (hW : FW D b most st w) (i : Int) (h0 : -9223372036854775808 ≤ i) (h1 : i ≤ 9223372036854775807) (hsz : (st.getD []).length + 10 ≤ 140737488355328 ∨ most ≤ 140737488355328 ∧ (st.getD []).length ≤ most) :
  Calls Try.prog 69 #[.pointer (some ⟨b, 0, none⟩), .int .i64 i] w fun e w' => e = .returned (.tuple #[]) ∧ FPut D b most st (numB (zig i)) w w' := by
 obtain ⟨z, hz⟩ : ∃ z, z = zig i := ⟨_, rfl⟩
 have hlt : z < 18446744073709551616 := hz ▸ zig_lt h0 h1
 have hten := numB_ten hlt
 have hb := zig_bits h0 h1
 rw [← hz] at hb ⊢
 clear hz
 go_enter Try.func69, Try.ntmps69
 go_wp2_with fail
 refine (fnum_any z hlt w).mono ?_
 rintro e w1 ⟨t, c, rfl, own, hblk, off⟩
 go_wp2_with fail
 refine (fput_any (hW.off off (fun _ _ _ h => h)) t c (numB z) own.src (by omega)).mono ?_
 rintro e w2 ⟨rfl, P⟩
 go_wp2_with fail
 go_end0
 exact ⟨rfl, FPut.after off P⟩
theorem fwflag_any {D : Nat → Prop} {b most : Nat} {st : Option (List Nat)} {w : World} (hW : FW D b most st w) (f : Bool) (hsz : (st.getD []).length + 1 ≤ 140737488355328 ∨ most ≤ 140737488355328 ∧ (st.getD []).length ≤ most) :
  Calls Try.prog 130 #[.pointer (some ⟨b, 0, none⟩), .bool f] w fun e w' => e = .returned (.tuple #[]) ∧ FPut D b most st [if f then 1 else 0] w w' := by
 cases f with
 | true =>
  have o1 : Off (fun _ => False) w (w.alloc (.cells #[.int .u8 1] 5)) := (Off.refl _ w).alloc _
  have s1 := src_new w 1
  go_enter Try.func130, Try.ntmps130
  go_wp2_with fail
  refine (fput_any (hW.off o1 (fun _ _ _ h => h)) _ 1 [1] s1 (by simp only [List.length_cons, List.length_nil]; omega)).mono ?_
  rintro e w2 ⟨rfl, P⟩
  go_wp2_with fail
  first | go_end0 | refine bodyPost_ret (results_none rfl _ _ _) rfl ?_
  exact ⟨rfl, FPut.after o1 P⟩
 | false =>
  have o1 : Off (fun _ => False) w (w.alloc (.cells #[.int .u8 0] 5)) := (Off.refl _ w).alloc _
  have s1 := src_new w 0
  go_enter Try.func130, Try.ntmps130
  go_wp2_with fail
  refine (fput_any (hW.off o1 (fun _ _ _ h => h)) _ 1 [0] s1 (by simp only [List.length_cons, List.length_nil]; omega)).mono ?_
  rintro e w2 ⟨rfl, P⟩
  go_wp2_with fail
  first | go_end0 | refine bodyPost_ret (results_none rfl _ _ _) rfl ?_
  exact ⟨rfl, FPut.after o1 P⟩
theorem fwtext_any {D : Nat → Prop} {b most : Nat} {st : Option (List Nat)} {w : World} (hW : FW D b most st w) (bt : Option Addr) (bc : Nat) (bb : List Nat) (hs : Src w bt bc bb) (hsz : (st.getD []).length + 10 + bb.length ≤ 140737488355328 ∨ most ≤ 140737488355328 ∧ (st.getD []).length ≤ most ∧ bb.length ≤ 140737488351232) :
  Calls Try.prog 66 #[.pointer (some ⟨b, 0, none⟩), .slice bt bb.length bc] w fun e w' => e = .returned (.tuple #[]) ∧ FPut D b most st (numB bb.length ++ bb) w w' := by
 have hn : bb.length < 18446744073709551616 := by omega
 have hten := numB_ten hn
 have HS : Hid (Src w bt bc bb) := hs
 clear hs
 go_enter Try.func66, Try.ntmps66
 go_wp2_with fail
 refine (fnum_any bb.length hn w).mono ?_
 rintro e w1 ⟨t, c, rfl, own, hblk, off⟩
 obtain ⟨x, hx⟩ : ∃ x, x = numB bb.length := ⟨_, rfl⟩
 rw [← hx] at own hten ⊢
 have HX : Hid _ := hx
 have OWN : Hid (OwnR w1 t c x) := own
 have HB : Hid _ := hblk
 clear hx own hblk
 go_wp2_with (at_builtin; refine wpList_app rfl (.tmp 8) (.tmp 9) rfl t c x rfl OWN.out bt bc bb rfl (HS.out.off off (fun _ _ _ h => h)) (by omega) ?_; intro t2 c2 w2 y2 hy2 own2 off2 at2; have O2 : Off (fun _ => False) w w2 := off.trans off2 (fun i hi h => by have := HB.out i h; omega); have OWN2 : Hid (OwnR w2 t2 c2 y2) := own2; have hl2 : y2.length = x.length + bb.length := (by rw [hy2.out]; simp); have HL2 : Hid _ := hl2; clear own2 off2 at2 hl2)
 refine (fput_any (hW.off O2 (fun _ _ _ h => h)) t2 c2 y2 OWN2.out.src (by have := HL2.out; omega)).mono ?_
 rintro e w3 ⟨rfl, P⟩
 go_wp2_with fail
 go_end0
 rw [hy2.out, HX.out] at P
 exact ⟨rfl, FPut.after O2 P⟩
end Go.Proofs.Ytpnnpdfmoldiiaa

namespace Go.Proofs.Ytpnnpdfmoldiiaa
open Go.RowKit
def wrV (most : Nat) (st : Option (List Nat)) (f : Nat → Int) : Nat → Option (List Nat)
 | 0 => st
 | n + 1 => putS most (wrV most st f n) (numB (zig (f n)))
theorem put_le {most : Nat} {st : Option (List Nat)} (h : (st.getD []).length ≤ most) (x : List Nat) : ((putS most st x).getD []).length ≤ most := by
 cases st with
 | none => simp [putS]
 | some bs =>
  simp only [putS]
  split
  ·simpa using by assumption
  ·simp
theorem wrV_le {most : Nat} {st : Option (List Nat)} (h : (st.getD []).length ≤ most) (f : Nat → Int) : ∀ n, ((wrV most st f n).getD []).length ≤ most
 | 0 => h
 | n + 1 => put_le (wrV_le h f n) _
def u64N (n : Int) : Nat := (n % 18446744073709551616).toNat
theorem u64N_lt (n : Int) : u64N n < 18446744073709551616 := by unfold u64N; omega
theorem u64_wrap (n : Int) : IntKind.u64.wrap n = ((u64N n : Nat) : Int) := by
 simp only [IntKind.wrap, IntKind.bits, IntKind.signed, u64N]
 go_num
def wrVal (most : Nat) (st : Option (List Nat)) (x : A) : Option (List Nat) :=
 putS most (putS most (putS most (putS most st (numB (u64N x.node))) (numB (zig x.num))) [if x.dead then 1 else 0]) (numB x.data.length ++ x.data)
def wrL (most : Nat) (st : Option (List Nat)) (l : List A) : Option (List Nat) := l.foldl (wrVal most) st
def wrS (most : Nat) (st : Option (List Nat)) (f : Nat → Int) (l : List A) : Option (List Nat) := wrL most (putS most (wrV most st f 8) (numB l.length)) l
theorem wrVal_le {most : Nat} {st : Option (List Nat)} (h : (st.getD []).length ≤ most) (x : A) : ((wrVal most st x).getD []).length ≤ most := put_le (put_le (put_le (put_le h _) _) _) _
theorem wrL_le {most : Nat} : ∀ {st : Option (List Nat)}, (st.getD []).length ≤ most → ∀ l, ((wrL most st l).getD []).length ≤ most
 | _, h, [] => h
 | st, h, x :: l => by
  have := wrL_le (wrVal_le h x) l
  simpa [wrL] using this
theorem wrL_step {most : Nat} {st : Option (List Nat)} {l : List V} {n : Nat} {x : V} (h : l[n]? = some x) : wrL most st (cont (l.take (n + 1))) = wrVal most (wrL most st (cont (l.take n))) x.abs := by
 rw [List.take_add_one, h]
 simp [wrL, cont]
set_option maxRecDepth 100000 in
theorem vwrite_any {D : Nat → Prop} {b most : Nat} {st : Option (List Nat)} {w : World} (hW : Wtr D b most st w) (hm : most ≤ 140737488355328) (hst : (st.getD []).length ≤ most) (f : Nat → Int) (hr : ∀ j, j < 8 → -9223372036854775808 ≤ f j ∧ f j ≤ 9223372036854775807) :
  Calls Try.prog 63 #[.pointer (some ⟨b, 0, none⟩), .agg #[.int .i64 (f 0), .int .i64 (f 1), .int .i64 (f 2), .int .i64 (f 3), .int .i64 (f 4), .int .i64 (f 5), .int .i64 (f 6), .int .i64 (f 7)]] w fun e w' => e = .returned (.tuple #[]) ∧ ∃ D', Wtr D' b most (wrV most st f 8) w' ∧ Off D w w' ∧ ∀ c, D' c → D c ∨ w.heap.size ≤ c := by
 have HW : Hid _ := hW
 clear hW
 go_enter Try.func63, Try.ntmps63
 go_wp2_with fail
 go_loopw [7] (fun y wr => ∃ (n : Nat) (D' : Nat → Prop), y = .int .i64 (n : Int) ∧ n ≤ 8 ∧ Wtr D' b most (wrV most st f n) wr ∧ Off D w wr ∧ ∀ c, D' c → D c ∨ w.heap.size ≤ c) (fun y _ => (8 - intOf y).toNat)
 case atStart => exact ⟨0, D, rfl, by omega, HW.out.off ((Off.refl (fun _ => False) w).alloc _) (fun _ _ _ h => h), (Off.refl _ w).alloc _, fun c h => .inl h⟩
 case round =>
  obtain ⟨n, D', rfl, hn, hw, O, hD⟩ := hrel
  have HW' : Hid _ := hw
  have HD : Hid _ := hD
  clear hw hD
  by_cases h : n < 8
  ·have hd : decide ((n : Int) < 8) = true := by simp; omega
   have hi := idx_vec f h
   have hl := wrV_le hst f n
   go_wp2_with fail
   refine (wint_any HW'.out (f n) (hr n h).1 (hr n h).2 (.inr ⟨hm, hl⟩)).mono ?_
   rintro e v ⟨rfl, E, W1, o1, hE⟩
   have HW1 : Hid _ := W1
   have HE : Hid _ := hE
   clear W1 hE
   go_wp2_with fail
   go_roundw
   case rel =>
    refine ⟨n + 1, E, by go_num, by omega, HW1.out, O.trans o1 (fun i hi h => (HD.out i h).elim id (fun h2 => by omega)), fun c hc => ?_⟩
    rcases HE.out c hc with h1 | h1
    ·exact HD.out c h1
    ·exact .inr (Nat.le_trans O.size h1)
   case measure => simp [intOf]; omega
  ·obtain rfl : n = 8 := by omega
   go_wp2_with fail
   first | go_end0 | refine bodyPost_ret (results_none rfl _ _ _) rfl ?_
   exact ⟨rfl, D', HW'.out, O, HD.out⟩
set_option maxRecDepth 100000 in
set_option maxHeartbeats 2000000 in
theorem swrite_any {D : Nat → Prop} {b most : Nat} {st : Option (List Nat)} {w : World} (hW : Wtr D b most st w) (hm : most ≤ 140737488355328) (hst : (st.getD []).length ≤ most) (f : Nat → Int) (hr : ∀ j, j < 8 → -9223372036854775808 ≤ f j ∧ f j ≤ 9223372036854775807) (a : Option Addr) (ca : Nat) (l : List V) (hrow : ∀ w', Off D w w' → Row w' a ca l) :
  Calls Try.prog 90 #[.pointer (some ⟨b, 0, none⟩), .agg #[.int .i64 (f 0), .int .i64 (f 1), .int .i64 (f 2), .int .i64 (f 3), .int .i64 (f 4), .int .i64 (f 5), .int .i64 (f 6), .int .i64 (f 7), .slice a l.length ca]] w fun e w' => e = .returned (.tuple #[]) ∧ ∃ D', Wtr D' b most (wrS most st f (cont l)) w' ∧ Off D w w' ∧ ∀ c, D' c → D c ∨ w.heap.size ≤ c := by
 have hlb : l.length ≤ 9223372036854775807 := by have h := hrow w (Off.refl _ w); have h1 := h.len; have h2 := h.bound; omega
 have hu0 : IntKind.u64.wrap ((l.length : Nat) : Int) = ((l.length : Nat) : Int) := by
  simp only [IntKind.wrap, IntKind.bits, IntKind.signed]
  go_num
 have HRW : Hid _ := hrow
 have C0 := Cel.new w 38 #[.int .i64 (f 0), .int .i64 (f 1), .int .i64 (f 2), .int .i64 (f 3), .int .i64 (f 4), .int .i64 (f 5), .int .i64 (f 6), .int .i64 (f 7), .slice a l.length ca]
 have O0 : Off (fun _ => False) w (w.alloc (.cells #[.int .i64 (f 0), .int .i64 (f 1), .int .i64 (f 2), .int .i64 (f 3), .int .i64 (f 4), .int .i64 (f 5), .int .i64 (f 6), .int .i64 (f 7), .slice a l.length ca] 38)) := (Off.refl _ w).alloc _
 have HWA : Hid _ := hW.off O0 (fun _ _ _ h => h)
 have HL0 : Hid (¬ D w.heap.size) := fun h => by have := hW.lt _ h; omega
 clear hrow hW
 go_enter Try.func90, Try.ntmps90
 go_upto_region 1 with fail
 have hq0 : w.heap.size < (w.alloc (.cells #[.int .i64 (f 0), .int .i64 (f 1), .int .i64 (f 2), .int .i64 (f 3), .int .i64 (f 4), .int .i64 (f 5), .int .i64 (f 6), .int .i64 (f 7), .slice a l.length ca] 38)).heap.size := by simp [World.size_alloc]
 generalize hq : w.heap.size = q at C0 HL0 hq0 ⊢
 generalize hv : w.alloc (.cells #[.int .i64 (f 0), .int .i64 (f 1), .int .i64 (f 2), .int .i64 (f 3), .int .i64 (f 4), .int .i64 (f 5), .int .i64 (f 6), .int .i64 (f 7), .slice a l.length ca] 38) = W at C0 O0 HWA hq0 ⊢
 have HQ : Hid (w.heap.size ≤ q ∧ q < W.heap.size) := ⟨by omega, hq0⟩
 clear hq hv hq0
 have HO0 : Hid (Off D w W) := O0.mono (fun _ _ h => h.elim)
 obtain ⟨x0, x1, x2, x3, x4, x5, x6, x7, x8⟩ := cel9 C0
 have HC0 : Hid _ := C0
 clear C0 O0
 go_wp2_with fail
 clear x0 x1 x2 x3 x4 x5 x6 x7 x8
 refine (vwrite_any HWA.out hm hst f hr).mono ?_
 rintro e w1 ⟨rfl, D1, W1, o1, d1⟩
 have HW1 : Hid _ := W1
 have HD1 : Hid (∀ c, D1 c → D c ∨ W.heap.size ≤ c) := d1
 have HC1 : Hid _ := HC0.out.off o1 HL0.out
 have HO1 : Hid (Off D w w1) := HO0.out.trans o1 (fun _ _ h => h)
 have hz1 := o1.size
 have HZ1 : Hid _ := hz1
 clear W1 o1 d1 HC0 HO0 HWA hz1
 obtain ⟨x0, x1, x2, x3, x4, x5, x6, x7, x8⟩ := cel9 HC1.out
 go_wp2_with fail
 clear x0 x1 x2 x3 x4 x5 x6 x7 x8
 have hl1 := wrV_le hst f 8
 refine (wnum_any HW1.out l.length (by omega) (.inr ⟨hm, hl1⟩)).mono ?_
 rintro e w2 ⟨rfl, D2, W2, o2, d2⟩
 have HW2 : Hid _ := W2
 have HN1 : Hid (¬ D1 q) := fun h => (HD1.out q h).elim HL0.out (fun h2 => by have := HQ.out.2; omega)
 have HD2 : Hid (∀ c, D2 c → D c ∨ w.heap.size ≤ c) := fun c hc => (d2 c hc).elim (fun h => (HD1.out c h).imp id (fun h => by have := HQ.out; omega)) (fun h => by have := HZ1.out; have := HQ.out; exact .inr (by omega))
 have HN2 : Hid (¬ D2 q) := fun h => (d2 q h).elim HN1.out (fun h2 => by have := HQ.out.2; have := HZ1.out; omega)
 have HC2 : Hid _ := HC1.out.off o2 HN1.out
 have HO2 : Hid (Off D w w2) := HO1.out.trans o2 (fun i hi h => (HD1.out i h).elim id (fun h2 => by have := HQ.out; omega))
 have HZ2 : Hid (W.heap.size ≤ w2.heap.size) := Nat.le_trans HZ1.out o2.size
 clear W2 o2 d2 HC1 HO1 HW1 HD1 HN1
 have hl2 := put_le hl1 (numB l.length)
 obtain ⟨st2, hst2⟩ : ∃ s, s = putS most (wrV most st f 8) (numB l.length) := ⟨_, rfl⟩
 rw [← hst2] at HW2 hl2
 have HST2 : Hid _ := hst2
 clear hst2 hl1
 obtain ⟨x0, x1, x2, x3, x4, x5, x6, x7, x8⟩ := cel9 HC2.out
 go_wp2_with fail
 clear x0 x1 x2 x3 x4 x5 x6 x7 x8
 go_loopw [19] (fun y wr => ∃ (n : Nat) (D' : Nat → Prop), y = .int .i64 (n : Int) ∧ n ≤ l.length ∧ Wtr D' b most (wrL most st2 (cont (l.take n))) wr ∧ Off D w wr ∧ ∀ c, D' c → D c ∨ w.heap.size ≤ c) (fun y _ => (l.length - intOf y).toNat)
 case atStart => exact ⟨0, D2, rfl, by omega, by simpa [wrL, cont] using HW2.out, HO2.out, HD2.out⟩
 case round =>
  clear HW2 HO2 HD2 HN2 HC2 HZ2
  obtain ⟨n, D', rfl, hn, hw, O, hD⟩ := hrel
  by_cases hln : n < l.length
  ·have i1 : decide ((n : Int) < (l.length : Int)) = true := decide_eq_true (by omega)
   have i2 : decide (n < l.length) = true := decide_eq_true hln
   obtain ⟨x, hx⟩ : ∃ x, l[n]? = some x := ⟨_, List.getElem?_eq_getElem hln⟩
   obtain ⟨ba, fa, hay, h4, hvx⟩ := (HRW.out wr O).at_ n x hx
   obtain ⟨c0, c1, c2, c3⟩ := h4
   have HRO : Hid (∀ w', Off D w w' → VOk w' x) := fun w' o => by
    obtain ⟨_, _, _, _, h⟩ := (HRW.out w' o).at_ n x hx
    exact h
   have hstep : wrL most st2 (cont (l.take (n + 1))) = wrVal most (wrL most st2 (cont (l.take n))) x.abs := wrL_step hx
   have hlw := wrL_le hl2 (cont (l.take n))
   obtain ⟨s0, hs0⟩ : ∃ s, s = wrL most st2 (cont (l.take n)) := ⟨_, rfl⟩
   rw [← hs0] at hstep hlw hw
   have HSTEP : Hid _ := hstep
   have HWR : Hid _ := hw
   have HDD : Hid _ := hD
   have eu := u64_wrap x.node
   have hun := u64N_lt x.node
   have hvk := hvx
   clear hs0 hstep hx hw hD
   subst hay
   go_upto_region 6 with fail
   have CX := Cel.new wr 117 #[.int .i64 x.node, .int .i64 x.num, .slice x.ad x.data.length x.cap, .bool x.dead]
   have OA : Off (fun _ => False) wr (wr.alloc (.cells #[.int .i64 x.node, .int .i64 x.num, .slice x.ad x.data.length x.cap, .bool x.dead] 117)) := (Off.refl _ wr).alloc _
   have hqz : wr.heap.size < (wr.alloc (.cells #[.int .i64 x.node, .int .i64 x.num, .slice x.ad x.data.length x.cap, .bool x.dead] 117)).heap.size := by simp [World.size_alloc]
   have hq1 := HWR.out.lt
   generalize hq : wr.heap.size = qx at CX hqz hq1 ⊢
   have hq2 : w.heap.size ≤ qx := by have := O.size; omega
   have HW3 := HWR.out.off OA (fun _ _ _ h => h)
   generalize hv : wr.alloc (.cells #[.int .i64 x.node, .int .i64 x.num, .slice x.ad x.data.length x.cap, .bool x.dead] 117) = v0 at CX OA hqz HW3 ⊢
   have O1 : Off D w v0 := O.trans (OA.mono (fun _ _ h => h.elim)) (fun _ _ h => h)
   have hD0 : ∀ c, D' c → D c ∨ w.heap.size ≤ c := HDD.out
   have hN0 : ¬ D' qx := fun h => by have := hq1 qx h; omega
   clear hv hq c0 c1 c2 c3 OA O hq1 HWR HDD
   obtain ⟨e0, e1, e2, e3⟩ := cel4 CX
   go_wp2_with fail
   clear e0 e1 e2 e3
   refine (wnum_any HW3 (u64N x.node) hun (.inr ⟨hm, hlw⟩)).mono ?_
   rintro e v1 ⟨rfl, E1, W1, o1, g1⟩
   have CX1 := CX.off o1 hN0
   have O2 : Off D w v1 := O1.trans o1 (fun k hk h => (hD0 k h).elim id (fun h2 => by omega))
   have hD1 : ∀ c, E1 c → D c ∨ w.heap.size ≤ c := fun c hc => (g1 c hc).elim (hD0 c) (fun h => .inr (Nat.le_trans O1.size h))
   have hN1 : ¬ E1 qx := fun h => (g1 qx h).elim hN0 (fun h => by omega)
   have hl1 := put_le hlw (numB (u64N x.node))
   have hz1 : qx < v1.heap.size := Nat.lt_of_lt_of_le hqz o1.size
   clear HW3 CX O1 o1 g1 hD0 hN0 hqz
   obtain ⟨e0, e1, e2, e3⟩ := cel4 CX1
   go_wp2_with fail
   clear e0 e1 e2 e3
   refine (wint_any W1 x.num hvk.m0 hvk.m1 (.inr ⟨hm, hl1⟩)).mono ?_
   rintro e v2 ⟨rfl, E2, W2, o2, g2⟩
   have CX2 := CX1.off o2 hN1
   have O3 : Off D w v2 := O2.trans o2 (fun k hk h => (hD1 k h).elim id (fun h2 => by omega))
   have hD2 : ∀ c, E2 c → D c ∨ w.heap.size ≤ c := fun c hc => (g2 c hc).elim (hD1 c) (fun h => .inr (Nat.le_trans O2.size h))
   have hN2 : ¬ E2 qx := fun h => (g2 qx h).elim hN1 (fun h => by omega)
   have hl3 := put_le hl1 (numB (zig x.num))
   have hz2 : qx < v2.heap.size := Nat.lt_of_lt_of_le hz1 o2.size
   clear W1 CX1 O2 o2 g2 hD1 hN1 hz1
   obtain ⟨e0, e1, e2, e3⟩ := cel4 CX2
   go_wp2_with fail
   clear e0 e1 e2 e3
   refine (wflag_any W2 x.dead (.inr ⟨hm, hl3⟩)).mono ?_
   rintro e v3 ⟨rfl, E3, W3, o3, g3⟩
   have CX3 := CX2.off o3 hN2
   have O4 : Off D w v3 := O3.trans o3 (fun k hk h => (hD2 k h).elim id (fun h2 => by omega))
   have hD3 : ∀ c, E3 c → D c ∨ w.heap.size ≤ c := fun c hc => (g3 c hc).elim (hD2 c) (fun h => .inr (Nat.le_trans O3.size h))
   have hl4 := put_le hl3 [if x.dead then 1 else 0]
   clear W2 CX2 O3 o3 g3 hD2 hN2 hz2
   obtain ⟨e0, e1, e2, e3⟩ := cel4 CX3
   go_wp2_with fail
   clear e0 e1 e2 e3
   refine (wtext_any W3 x.ad x.cap x.data (fun w' o => (HRO.out _ (O4.trans o (fun k hk h => (hD3 k h).elim id (fun h2 => by omega)))).src) (.inr ⟨hm, hl4, hvk.len⟩)).mono ?_
   rintro e v4 ⟨rfl, E4, W4, o4, g4⟩
   have O5 : Off D w v4 := O4.trans o4 (fun k hk h => (hD3 k h).elim id (fun h2 => by omega))
   have hD4 : ∀ c, E4 c → D c ∨ w.heap.size ≤ c := fun c hc => (g4 c hc).elim (hD3 c) (fun h => .inr (Nat.le_trans O4.size h))
   have HF : Hid (Wtr E4 b most (wrL most st2 (cont (l.take (n + 1)))) v4) := by rw [HSTEP.out]; exact W4
   have HO5 : Hid _ := O5
   have HD4 : Hid _ := hD4
   clear W3 W4 CX3 O4 O5 o4 g4 hD3 hD4 hl1 hl3 hl4 hlw HSTEP
   go_wp2_with fail
   go_roundw
   case rel => exact ⟨n + 1, E4, by go_num, by omega, HF.out, HO5.out, HD4.out⟩
   case measure => simp [intOf]; omega
  ·have i1 : decide ((n : Int) < (l.length : Int)) = false := decide_eq_false (by omega)
   have i2 : decide (n < l.length) = false := decide_eq_false hln
   have hF : Wtr D' b most (wrS most st f (cont l)) wr := by
    have e : n = l.length := by omega
    rw [e, List.take_length, HST2.out] at hw
    simpa [wrS, cont_len] using hw
   have HF : Hid _ := hF
   have HO : Hid _ := O
   have HDD : Hid _ := hD
   clear hF hw O hD
   go_wp2_with fail
   first | go_end0 | refine bodyPost_ret (results_none rfl _ _ _) rfl ?_
   exact ⟨rfl, D', HF.out, HO.out, HDD.out⟩
set_option maxRecDepth 100000 in
theorem gvwrite_any {D : Nat → Prop} {b most : Nat} {st : Option (List Nat)} {w : World} (hW : FW D b most st w) (hm : most ≤ 140737488355328) (hst : (st.getD []).length ≤ most) (f : Nat → Int) (hr : ∀ j, j < 8 → -9223372036854775808 ≤ f j ∧ f j ≤ 9223372036854775807) :
  Calls Try.prog 67 #[.pointer (some ⟨b, 0, none⟩), .agg #[.int .i64 (f 0), .int .i64 (f 1), .int .i64 (f 2), .int .i64 (f 3), .int .i64 (f 4), .int .i64 (f 5), .int .i64 (f 6), .int .i64 (f 7)]] w fun e w' => e = .returned (.tuple #[]) ∧ ∃ D', FW D' b most (wrV most st f 8) w' ∧ Off D w w' ∧ ∀ c, D' c → D c ∨ w.heap.size ≤ c := by
 have HW : Hid _ := hW
 clear hW
 go_enter Try.func67, Try.ntmps67
 go_wp2_with fail
 go_loopw [7] (fun y wr => ∃ (n : Nat) (D' : Nat → Prop), y = .int .i64 (n : Int) ∧ n ≤ 8 ∧ FW D' b most (wrV most st f n) wr ∧ Off D w wr ∧ ∀ c, D' c → D c ∨ w.heap.size ≤ c) (fun y _ => (8 - intOf y).toNat)
 case atStart => exact ⟨0, D, rfl, by omega, HW.out.off ((Off.refl (fun _ => False) w).alloc _) (fun _ _ _ h => h), (Off.refl _ w).alloc _, fun c h => .inl h⟩
 case round =>
  obtain ⟨n, D', rfl, hn, hw, O, hD⟩ := hrel
  have HW' : Hid _ := hw
  have HD : Hid _ := hD
  clear hw hD
  by_cases h : n < 8
  ·have hd : decide ((n : Int) < 8) = true := by simp; omega
   have hi := idx_vec f h
   have hl := wrV_le hst f n
   go_wp2_with fail
   refine (fwint_any HW'.out (f n) (hr n h).1 (hr n h).2 (.inr ⟨hm, hl⟩)).mono ?_
   rintro e v ⟨rfl, E, W1, o1, hE⟩
   have HW1 : Hid _ := W1
   have HE : Hid _ := hE
   clear W1 hE
   go_wp2_with fail
   go_roundw
   case rel =>
    refine ⟨n + 1, E, by go_num, by omega, HW1.out, O.trans o1 (fun i hi h => (HD.out i h).elim id (fun h2 => by omega)), fun c hc => ?_⟩
    rcases HE.out c hc with h1 | h1
    ·exact HD.out c h1
    ·exact .inr (Nat.le_trans O.size h1)
   case measure => simp [intOf]; omega
  ·obtain rfl : n = 8 := by omega
   go_wp2_with fail
   first | go_end0 | refine bodyPost_ret (results_none rfl _ _ _) rfl ?_
   exact ⟨rfl, D', HW'.out, O, HD.out⟩
set_option maxRecDepth 100000 in
set_option maxHeartbeats 2000000 in
theorem gswrite_any {D : Nat → Prop} {b most : Nat} {st : Option (List Nat)} {w : World} (hW : FW D b most st w) (hm : most ≤ 140737488355328) (hst : (st.getD []).length ≤ most) (f : Nat → Int) (hr : ∀ j, j < 8 → -9223372036854775808 ≤ f j ∧ f j ≤ 9223372036854775807) (a : Option Addr) (ca : Nat) (l : List V) (hrow : ∀ w', Off D w w' → Row w' a ca l) :
  Calls Try.prog 91 #[.pointer (some ⟨b, 0, none⟩), .agg #[.int .i64 (f 0), .int .i64 (f 1), .int .i64 (f 2), .int .i64 (f 3), .int .i64 (f 4), .int .i64 (f 5), .int .i64 (f 6), .int .i64 (f 7), .slice a l.length ca]] w fun e w' => e = .returned (.tuple #[]) ∧ ∃ D', FW D' b most (wrS most st f (cont l)) w' ∧ Off D w w' ∧ ∀ c, D' c → D c ∨ w.heap.size ≤ c := by
 have hlb : l.length ≤ 9223372036854775807 := by have h := hrow w (Off.refl _ w); have h1 := h.len; have h2 := h.bound; omega
 have hu0 : IntKind.u64.wrap ((l.length : Nat) : Int) = ((l.length : Nat) : Int) := by
  simp only [IntKind.wrap, IntKind.bits, IntKind.signed]
  go_num
 have HRW : Hid _ := hrow
 have C0 := Cel.new w 38 #[.int .i64 (f 0), .int .i64 (f 1), .int .i64 (f 2), .int .i64 (f 3), .int .i64 (f 4), .int .i64 (f 5), .int .i64 (f 6), .int .i64 (f 7), .slice a l.length ca]
 have O0 : Off (fun _ => False) w (w.alloc (.cells #[.int .i64 (f 0), .int .i64 (f 1), .int .i64 (f 2), .int .i64 (f 3), .int .i64 (f 4), .int .i64 (f 5), .int .i64 (f 6), .int .i64 (f 7), .slice a l.length ca] 38)) := (Off.refl _ w).alloc _
 have HWA : Hid _ := hW.off O0 (fun _ _ _ h => h)
 have HL0 : Hid (¬ D w.heap.size) := fun h => by have := hW.lt _ h; omega
 clear hrow hW
 go_enter Try.func91, Try.ntmps91
 go_upto_region 1 with fail
 have hq0 : w.heap.size < (w.alloc (.cells #[.int .i64 (f 0), .int .i64 (f 1), .int .i64 (f 2), .int .i64 (f 3), .int .i64 (f 4), .int .i64 (f 5), .int .i64 (f 6), .int .i64 (f 7), .slice a l.length ca] 38)).heap.size := by simp [World.size_alloc]
 generalize hq : w.heap.size = q at C0 HL0 hq0 ⊢
 generalize hv : w.alloc (.cells #[.int .i64 (f 0), .int .i64 (f 1), .int .i64 (f 2), .int .i64 (f 3), .int .i64 (f 4), .int .i64 (f 5), .int .i64 (f 6), .int .i64 (f 7), .slice a l.length ca] 38) = W at C0 O0 HWA hq0 ⊢
 have HQ : Hid (w.heap.size ≤ q ∧ q < W.heap.size) := ⟨by omega, hq0⟩
 clear hq hv hq0
 have HO0 : Hid (Off D w W) := O0.mono (fun _ _ h => h.elim)
 obtain ⟨x0, x1, x2, x3, x4, x5, x6, x7, x8⟩ := cel9 C0
 have HC0 : Hid _ := C0
 clear C0 O0
 go_wp2_with fail
 clear x0 x1 x2 x3 x4 x5 x6 x7 x8
 refine (gvwrite_any HWA.out hm hst f hr).mono ?_
 rintro e w1 ⟨rfl, D1, W1, o1, d1⟩
 have HW1 : Hid _ := W1
 have HD1 : Hid (∀ c, D1 c → D c ∨ W.heap.size ≤ c) := d1
 have HC1 : Hid _ := HC0.out.off o1 HL0.out
 have HO1 : Hid (Off D w w1) := HO0.out.trans o1 (fun _ _ h => h)
 have hz1 := o1.size
 have HZ1 : Hid _ := hz1
 clear W1 o1 d1 HC0 HO0 HWA hz1
 obtain ⟨x0, x1, x2, x3, x4, x5, x6, x7, x8⟩ := cel9 HC1.out
 go_wp2_with fail
 clear x0 x1 x2 x3 x4 x5 x6 x7 x8
 have hl1 := wrV_le hst f 8
 refine (fwnum_any HW1.out l.length (by omega) (.inr ⟨hm, hl1⟩)).mono ?_
 rintro e w2 ⟨rfl, D2, W2, o2, d2⟩
 have HW2 : Hid _ := W2
 have HN1 : Hid (¬ D1 q) := fun h => (HD1.out q h).elim HL0.out (fun h2 => by have := HQ.out.2; omega)
 have HD2 : Hid (∀ c, D2 c → D c ∨ w.heap.size ≤ c) := fun c hc => (d2 c hc).elim (fun h => (HD1.out c h).imp id (fun h => by have := HQ.out; omega)) (fun h => by have := HZ1.out; have := HQ.out; exact .inr (by omega))
 have HN2 : Hid (¬ D2 q) := fun h => (d2 q h).elim HN1.out (fun h2 => by have := HQ.out.2; have := HZ1.out; omega)
 have HC2 : Hid _ := HC1.out.off o2 HN1.out
 have HO2 : Hid (Off D w w2) := HO1.out.trans o2 (fun i hi h => (HD1.out i h).elim id (fun h2 => by have := HQ.out; omega))
 have HZ2 : Hid (W.heap.size ≤ w2.heap.size) := Nat.le_trans HZ1.out o2.size
 clear W2 o2 d2 HC1 HO1 HW1 HD1 HN1
 have hl2 := put_le hl1 (numB l.length)
 obtain ⟨st2, hst2⟩ : ∃ s, s = putS most (wrV most st f 8) (numB l.length) := ⟨_, rfl⟩
 rw [← hst2] at HW2 hl2
 have HST2 : Hid _ := hst2
 clear hst2 hl1
 obtain ⟨x0, x1, x2, x3, x4, x5, x6, x7, x8⟩ := cel9 HC2.out
 go_wp2_with fail
 clear x0 x1 x2 x3 x4 x5 x6 x7 x8
 go_loopw [19] (fun y wr => ∃ (n : Nat) (D' : Nat → Prop), y = .int .i64 (n : Int) ∧ n ≤ l.length ∧ FW D' b most (wrL most st2 (cont (l.take n))) wr ∧ Off D w wr ∧ ∀ c, D' c → D c ∨ w.heap.size ≤ c) (fun y _ => (l.length - intOf y).toNat)
 case atStart => exact ⟨0, D2, rfl, by omega, by simpa [wrL, cont] using HW2.out, HO2.out, HD2.out⟩
 case round =>
  clear HW2 HO2 HD2 HN2 HC2 HZ2
  obtain ⟨n, D', rfl, hn, hw, O, hD⟩ := hrel
  by_cases hln : n < l.length
  ·have i1 : decide ((n : Int) < (l.length : Int)) = true := decide_eq_true (by omega)
   have i2 : decide (n < l.length) = true := decide_eq_true hln
   obtain ⟨x, hx⟩ : ∃ x, l[n]? = some x := ⟨_, List.getElem?_eq_getElem hln⟩
   obtain ⟨ba, fa, hay, h4, hvx⟩ := (HRW.out wr O).at_ n x hx
   obtain ⟨c0, c1, c2, c3⟩ := h4
   have HRO : Hid (∀ w', Off D w w' → VOk w' x) := fun w' o => by
    obtain ⟨_, _, _, _, h⟩ := (HRW.out w' o).at_ n x hx
    exact h
   have hstep : wrL most st2 (cont (l.take (n + 1))) = wrVal most (wrL most st2 (cont (l.take n))) x.abs := wrL_step hx
   have hlw := wrL_le hl2 (cont (l.take n))
   obtain ⟨s0, hs0⟩ : ∃ s, s = wrL most st2 (cont (l.take n)) := ⟨_, rfl⟩
   rw [← hs0] at hstep hlw hw
   have HSTEP : Hid _ := hstep
   have HWR : Hid _ := hw
   have HDD : Hid _ := hD
   have eu := u64_wrap x.node
   have hun := u64N_lt x.node
   have hvk := hvx
   clear hs0 hstep hx hw hD
   subst hay
   go_upto_region 6 with fail
   have CX := Cel.new wr 117 #[.int .i64 x.node, .int .i64 x.num, .slice x.ad x.data.length x.cap, .bool x.dead]
   have OA : Off (fun _ => False) wr (wr.alloc (.cells #[.int .i64 x.node, .int .i64 x.num, .slice x.ad x.data.length x.cap, .bool x.dead] 117)) := (Off.refl _ wr).alloc _
   have hqz : wr.heap.size < (wr.alloc (.cells #[.int .i64 x.node, .int .i64 x.num, .slice x.ad x.data.length x.cap, .bool x.dead] 117)).heap.size := by simp [World.size_alloc]
   have hq1 := HWR.out.lt
   generalize hq : wr.heap.size = qx at CX hqz hq1 ⊢
   have hq2 : w.heap.size ≤ qx := by have := O.size; omega
   have HW3 := HWR.out.off OA (fun _ _ _ h => h)
   generalize hv : wr.alloc (.cells #[.int .i64 x.node, .int .i64 x.num, .slice x.ad x.data.length x.cap, .bool x.dead] 117) = v0 at CX OA hqz HW3 ⊢
   have O1 : Off D w v0 := O.trans (OA.mono (fun _ _ h => h.elim)) (fun _ _ h => h)
   have hD0 : ∀ c, D' c → D c ∨ w.heap.size ≤ c := HDD.out
   have hN0 : ¬ D' qx := fun h => by have := hq1 qx h; omega
   clear hv hq c0 c1 c2 c3 OA O hq1 HWR HDD
   obtain ⟨e0, e1, e2, e3⟩ := cel4 CX
   go_wp2_with fail
   clear e0 e1 e2 e3
   refine (fwnum_any HW3 (u64N x.node) hun (.inr ⟨hm, hlw⟩)).mono ?_
   rintro e v1 ⟨rfl, E1, W1, o1, g1⟩
   have CX1 := CX.off o1 hN0
   have O2 : Off D w v1 := O1.trans o1 (fun k hk h => (hD0 k h).elim id (fun h2 => by omega))
   have hD1 : ∀ c, E1 c → D c ∨ w.heap.size ≤ c := fun c hc => (g1 c hc).elim (hD0 c) (fun h => .inr (Nat.le_trans O1.size h))
   have hN1 : ¬ E1 qx := fun h => (g1 qx h).elim hN0 (fun h => by omega)
   have hl1 := put_le hlw (numB (u64N x.node))
   have hz1 : qx < v1.heap.size := Nat.lt_of_lt_of_le hqz o1.size
   clear HW3 CX O1 o1 g1 hD0 hN0 hqz
   obtain ⟨e0, e1, e2, e3⟩ := cel4 CX1
   go_wp2_with fail
   clear e0 e1 e2 e3
   refine (fwint_any W1 x.num hvk.m0 hvk.m1 (.inr ⟨hm, hl1⟩)).mono ?_
   rintro e v2 ⟨rfl, E2, W2, o2, g2⟩
   have CX2 := CX1.off o2 hN1
   have O3 : Off D w v2 := O2.trans o2 (fun k hk h => (hD1 k h).elim id (fun h2 => by omega))
   have hD2 : ∀ c, E2 c → D c ∨ w.heap.size ≤ c := fun c hc => (g2 c hc).elim (hD1 c) (fun h => .inr (Nat.le_trans O2.size h))
   have hN2 : ¬ E2 qx := fun h => (g2 qx h).elim hN1 (fun h => by omega)
   have hl3 := put_le hl1 (numB (zig x.num))
   have hz2 : qx < v2.heap.size := Nat.lt_of_lt_of_le hz1 o2.size
   clear W1 CX1 O2 o2 g2 hD1 hN1 hz1
   obtain ⟨e0, e1, e2, e3⟩ := cel4 CX2
   go_wp2_with fail
   clear e0 e1 e2 e3
   refine (fwflag_any W2 x.dead (.inr ⟨hm, hl3⟩)).mono ?_
   rintro e v3 ⟨rfl, E3, W3, o3, g3⟩
   have CX3 := CX2.off o3 hN2
   have O4 : Off D w v3 := O3.trans o3 (fun k hk h => (hD2 k h).elim id (fun h2 => by omega))
   have hD3 : ∀ c, E3 c → D c ∨ w.heap.size ≤ c := fun c hc => (g3 c hc).elim (hD2 c) (fun h => .inr (Nat.le_trans O3.size h))
   have hl4 := put_le hl3 [if x.dead then 1 else 0]
   clear W2 CX2 O3 o3 g3 hD2 hN2 hz2
   obtain ⟨e0, e1, e2, e3⟩ := cel4 CX3
   go_wp2_with fail
   clear e0 e1 e2 e3
   refine (fwtext_any W3 x.ad x.cap x.data (HRO.out _ O4).src (.inr ⟨hm, hl4, hvk.len⟩)).mono ?_
   rintro e v4 ⟨rfl, E4, W4, o4, g4⟩
   have O5 : Off D w v4 := O4.trans o4 (fun k hk h => (hD3 k h).elim id (fun h2 => by omega))
   have hD4 : ∀ c, E4 c → D c ∨ w.heap.size ≤ c := fun c hc => (g4 c hc).elim (hD3 c) (fun h => .inr (Nat.le_trans O4.size h))
   have HF : Hid (FW E4 b most (wrL most st2 (cont (l.take (n + 1)))) v4) := by rw [HSTEP.out]; exact W4
   have HO5 : Hid _ := O5
   have HD4 : Hid _ := hD4
   clear W3 W4 CX3 O4 O5 o4 g4 hD3 hD4 hl1 hl3 hl4 hlw HSTEP
   go_wp2_with fail
   go_roundw
   case rel => exact ⟨n + 1, E4, by go_num, by omega, HF.out, HO5.out, HD4.out⟩
   case measure => simp [intOf]; omega
  ·have i1 : decide ((n : Int) < (l.length : Int)) = false := decide_eq_false (by omega)
   have i2 : decide (n < l.length) = false := decide_eq_false hln
   have hF : FW D' b most (wrS most st f (cont l)) wr := by
    have e : n = l.length := by omega
    rw [e, List.take_length, HST2.out] at hw
    simpa [wrS, cont_len] using hw
   have HF : Hid _ := hF
   have HO : Hid _ := O
   have HDD : Hid _ := hD
   clear hF hw O hD
   go_wp2_with fail
   first | go_end0 | refine bodyPost_ret (results_none rfl _ _ _) rfl ?_
   exact ⟨rfl, D', HF.out, HO.out, HDD.out⟩
end Go.Proofs.Ytpnnpdfmoldiiaa

namespace Go.Proofs.Ytpnnpdfmoldiiaa
open Go.RowKit
def keyL (s : ByteArray) : List Nat := s.data.toList.map UInt8.toNat
theorem keyL_len (s : ByteArray) : (keyL s).length = s.size := by
 unfold keyL
 rw [List.length_map, Array.length_toList]
 rfl
def wrE (most : Nat) (st : Option (List Nat)) (key : ByteArray) (f : Nat → Int) (l : List A) : Option (List Nat) := wrS most (putS most st (numB (keyL key).length ++ keyL key)) f l
theorem conv_key (key : ByteArray) (W : World) : ∃ cap W', (convert 9 46 (.string key)).run Try.prog W = .ok (.slice (some ⟨W.heap.size, 0, none⟩) (keyL key).length cap) W' ∧ Src W' (some ⟨W.heap.size, 0, none⟩) cap (keyL key) ∧ Off (fun _ => False) W W' := by
 refine ⟨_, _, by rw [keyL_len]; exact run_bytes_of_string W 9 46 5 key Try.underlying9 Try.underlying46 Try.underlying5, ⟨.inr ⟨_, rfl, fun j u hj => ?_⟩⟩, ((Off.refl _ W).drew).alloc _⟩
 have hj' := vl_lt hj
 rw [vl_get _ _ hj'] at hj
 rw [keyL_len] at hj'
 rw [add_lit]
 simp only [World.cell?]
 rw [show (W.heap.size) = W.drew.heap.size from rfl, heap_alloc_new]
 simp only [Nat.zero_add]
 rw [← hj]
 have hj2 : j < key.data.size := hj'
 have h := bytesRow_at key (grownCap W key.size 0 5) j hj2
 have e : (keyL key).getD j 0 = key.data[j].toNat := by
  unfold keyL
  rw [List.getD_eq_getElem?_getD, List.getElem?_map, Array.getElem?_toList, Array.getElem?_eq_getElem hj2]
  rfl
 rw [e]
 exact h
set_option maxRecDepth 100000 in
set_option maxHeartbeats 1000000 in
theorem writeEntry_any {D : Nat → Prop} {b most : Nat} {st : Option (List Nat)} {w : World} (hW : Wtr D b most st w) (hm : most ≤ 140737488355328) (hst : (st.getD []).length ≤ most) (key : ByteArray) (hks : key.size ≤ 140737488351232) (f : Nat → Int) (hr : ∀ j, j < 8 → -9223372036854775808 ≤ f j ∧ f j ≤ 9223372036854775807) (a : Option Addr) (ca : Nat) (l : List V) (hrow : ∀ w', Off D w w' → Row w' a ca l) :
  Calls Try.prog 51 #[.pointer (some ⟨b, 0, none⟩), .agg #[.string key, .int .i64 (f 0), .int .i64 (f 1), .int .i64 (f 2), .int .i64 (f 3), .int .i64 (f 4), .int .i64 (f 5), .int .i64 (f 6), .int .i64 (f 7), .slice a l.length ca]] w fun e w' => e = .returned (.tuple #[]) ∧ ∃ D', Wtr D' b most (wrE most st key f (cont l)) w' ∧ Off D w w' ∧ ∀ c, D' c → D c ∨ w.heap.size ≤ c := by
 have C := Cel.new w 40 #[.string key, .int .i64 (f 0), .int .i64 (f 1), .int .i64 (f 2), .int .i64 (f 3), .int .i64 (f 4), .int .i64 (f 5), .int .i64 (f 6), .int .i64 (f 7), .slice a l.length ca]
 have O : Off (fun _ => False) w (w.alloc (.cells #[.string key, .int .i64 (f 0), .int .i64 (f 1), .int .i64 (f 2), .int .i64 (f 3), .int .i64 (f 4), .int .i64 (f 5), .int .i64 (f 6), .int .i64 (f 7), .slice a l.length ca] 40)) := (Off.refl _ w).alloc _
 have hlt0 := hW.lt
 have W0 := hW.off O (fun _ _ _ h => h)
 have HRW : Hid _ := hrow
 have hz : w.heap.size < (w.alloc (.cells #[.string key, .int .i64 (f 0), .int .i64 (f 1), .int .i64 (f 2), .int .i64 (f 3), .int .i64 (f 4), .int .i64 (f 5), .int .i64 (f 6), .int .i64 (f 7), .slice a l.length ca] 40)).heap.size := by simp [World.size_alloc]
 clear hW hrow
 go_enter Try.func51, Try.ntmps51
 go_upto_region 1 with fail
 generalize hq : w.heap.size = q at C hz ⊢
 have HQ : Hid (w.heap.size ≤ q) := by show _ ≤ _; omega
 have hdq : ¬ D q := fun h => by have := hlt0 q h; omega
 generalize hv : w.alloc (.cells #[.string key, .int .i64 (f 0), .int .i64 (f 1), .int .i64 (f 2), .int .i64 (f 3), .int .i64 (f 4), .int .i64 (f 5), .int .i64 (f 6), .int .i64 (f 7), .slice a l.length ca] 40) = W at C O W0 hz ⊢
 clear hq hv hlt0
 obtain ⟨kl, hkl⟩ : ∃ x, x = keyL key := ⟨_, rfl⟩
 obtain ⟨kc, W1, hrun, hsrc, o1⟩ := conv_key key W
 rw [← hkl] at hrun hsrc
 have hkz : kl.length ≤ 140737488351232 := by rw [hkl, keyL_len]; exact hks
 have c0 : W.cell? ⟨q, 0, none⟩ = some (.string key) := C.cell 0
 have W2 := W0.off o1 (fun _ _ _ h => h)
 have C1 := C.off o1 (fun h => h)
 have O1 : Off D w W1 := (O.trans o1 (fun _ _ h => h)).mono (fun _ _ h => h.elim)
 have HDL : Hid (∀ c, D c → c < W.heap.size) := W0.lt
 have HKS : Hid _ := hsrc
 have HKL : Hid _ := hkl
 have hz1 := o1.size
 clear W0 C O o1 hsrc hkl
 go_wp2_with fail
 clear c0 hrun
 refine (wtext_any W2 _ kc kl (fun w' o => HKS.out.off o (fun c hc hb h => by simp [blk] at hb; have := HDL.out c h; omega)) (.inr ⟨hm, hst, hkz⟩)).mono ?_
 rintro e v1 ⟨rfl, D1, W3, o2, d1⟩
 have C2 := C1.off o2 hdq
 have O2 : Off D w v1 := O1.trans o2 (fun _ _ h => h)
 have hl1 := put_le hst (numB kl.length ++ kl)
 have hD1 : ∀ c, D1 c → D c ∨ w.heap.size ≤ c := fun c hc => (d1 c hc).imp id (fun h => Nat.le_trans O1.size h)
 have HC2 : Hid _ := C2
 have HO2 : Hid _ := O2
 have HD1 : Hid _ := hD1
 have HW3 : Hid _ := W3
 have k1 : v1.cell? ⟨q, 1, none⟩ = some (.int .i64 (f 0)) := C2.cell 1
 have k2 : v1.cell? ⟨q, 2, none⟩ = some (.int .i64 (f 1)) := C2.cell 2
 have k3 : v1.cell? ⟨q, 3, none⟩ = some (.int .i64 (f 2)) := C2.cell 3
 have k4 : v1.cell? ⟨q, 4, none⟩ = some (.int .i64 (f 3)) := C2.cell 4
 have k5 : v1.cell? ⟨q, 5, none⟩ = some (.int .i64 (f 4)) := C2.cell 5
 have k6 : v1.cell? ⟨q, 6, none⟩ = some (.int .i64 (f 5)) := C2.cell 6
 have k7 : v1.cell? ⟨q, 7, none⟩ = some (.int .i64 (f 6)) := C2.cell 7
 have k8 : v1.cell? ⟨q, 8, none⟩ = some (.int .i64 (f 7)) := C2.cell 8
 have k9 : v1.cell? ⟨q, 9, none⟩ = some (.slice a l.length ca) := C2.cell 9
 clear W2 C1 C2 O1 O2 o2 d1 hD1 W3 hz1
 go_wp2_with fail
 clear k1 k2 k3 k4 k5 k6 k7 k8 k9
 refine (swrite_any HW3.out hm hl1 f hr a ca l (fun w' o => HRW.out w' (HO2.out.trans o (fun k hk h => (HD1.out k h).elim id (fun h2 => by omega))))).mono ?_
 rintro e v2 ⟨rfl, D2, W4, o3, d2⟩
 have HF : Hid (Wtr D2 b most (wrE most st key f (cont l)) v2) := by show Wtr D2 b most (wrE most st key f (cont l)) v2; unfold wrE; rw [← HKL.out]; exact W4
 have HO3 : Hid (Off D w v2) := HO2.out.trans o3 (fun k hk h => (HD1.out k h).elim id (fun h2 => by omega))
 have HD2 : Hid (∀ c, D2 c → D c ∨ w.heap.size ≤ c) := fun c hc => (d2 c hc).elim (HD1.out c) (fun h => .inr (Nat.le_trans HO2.out.size h))
 clear W4 o3 d2
 go_wp2_with fail
 first | go_end0 | refine bodyPost_ret (results_none rfl _ _ _) rfl ?_
 exact ⟨rfl, D2, HF.out, HO3.out, HD2.out⟩
set_option maxRecDepth 100000 in
set_option maxHeartbeats 1000000 in
theorem gwriteEntry_any {D : Nat → Prop} {b most : Nat} {st : Option (List Nat)} {w : World} (hW : FW D b most st w) (hm : most ≤ 140737488355328) (hst : (st.getD []).length ≤ most) (key : ByteArray) (hks : key.size ≤ 140737488351232) (f : Nat → Int) (hr : ∀ j, j < 8 → -9223372036854775808 ≤ f j ∧ f j ≤ 9223372036854775807) (a : Option Addr) (ca : Nat) (l : List V) (hrow : ∀ w', Off D w w' → Row w' a ca l) :
  Calls Try.prog 52 #[.pointer (some ⟨b, 0, none⟩), .agg #[.string key, .int .i64 (f 0), .int .i64 (f 1), .int .i64 (f 2), .int .i64 (f 3), .int .i64 (f 4), .int .i64 (f 5), .int .i64 (f 6), .int .i64 (f 7), .slice a l.length ca]] w fun e w' => e = .returned (.tuple #[]) ∧ ∃ D', FW D' b most (wrE most st key f (cont l)) w' ∧ Off D w w' ∧ ∀ c, D' c → D c ∨ w.heap.size ≤ c := by
 have C := Cel.new w 40 #[.string key, .int .i64 (f 0), .int .i64 (f 1), .int .i64 (f 2), .int .i64 (f 3), .int .i64 (f 4), .int .i64 (f 5), .int .i64 (f 6), .int .i64 (f 7), .slice a l.length ca]
 have O : Off (fun _ => False) w (w.alloc (.cells #[.string key, .int .i64 (f 0), .int .i64 (f 1), .int .i64 (f 2), .int .i64 (f 3), .int .i64 (f 4), .int .i64 (f 5), .int .i64 (f 6), .int .i64 (f 7), .slice a l.length ca] 40)) := (Off.refl _ w).alloc _
 have hlt0 := hW.lt
 have W0 := hW.off O (fun _ _ _ h => h)
 have HRW : Hid _ := hrow
 have hz : w.heap.size < (w.alloc (.cells #[.string key, .int .i64 (f 0), .int .i64 (f 1), .int .i64 (f 2), .int .i64 (f 3), .int .i64 (f 4), .int .i64 (f 5), .int .i64 (f 6), .int .i64 (f 7), .slice a l.length ca] 40)).heap.size := by simp [World.size_alloc]
 clear hW hrow
 go_enter Try.func52, Try.ntmps52
 go_upto_region 1 with fail
 generalize hq : w.heap.size = q at C hz ⊢
 have HQ : Hid (w.heap.size ≤ q) := by show _ ≤ _; omega
 have hdq : ¬ D q := fun h => by have := hlt0 q h; omega
 generalize hv : w.alloc (.cells #[.string key, .int .i64 (f 0), .int .i64 (f 1), .int .i64 (f 2), .int .i64 (f 3), .int .i64 (f 4), .int .i64 (f 5), .int .i64 (f 6), .int .i64 (f 7), .slice a l.length ca] 40) = W at C O W0 hz ⊢
 clear hq hv hlt0
 obtain ⟨kl, hkl⟩ : ∃ x, x = keyL key := ⟨_, rfl⟩
 obtain ⟨kc, W1, hrun, hsrc, o1⟩ := conv_key key W
 rw [← hkl] at hrun hsrc
 have hkz : kl.length ≤ 140737488351232 := by rw [hkl, keyL_len]; exact hks
 have c0 : W.cell? ⟨q, 0, none⟩ = some (.string key) := C.cell 0
 have W2 := W0.off o1 (fun _ _ _ h => h)
 have C1 := C.off o1 (fun h => h)
 have O1 : Off D w W1 := (O.trans o1 (fun _ _ h => h)).mono (fun _ _ h => h.elim)
 have HDL : Hid (∀ c, D c → c < W.heap.size) := W0.lt
 have HKS : Hid _ := hsrc
 have HKL : Hid _ := hkl
 have hz1 := o1.size
 clear W0 C O o1 hsrc hkl
 go_wp2_with fail
 clear c0 hrun
 refine (fwtext_any W2 _ kc kl HKS.out (.inr ⟨hm, hst, hkz⟩)).mono ?_
 rintro e v1 ⟨rfl, D1, W3, o2, d1⟩
 have C2 := C1.off o2 hdq
 have O2 : Off D w v1 := O1.trans o2 (fun _ _ h => h)
 have hl1 := put_le hst (numB kl.length ++ kl)
 have hD1 : ∀ c, D1 c → D c ∨ w.heap.size ≤ c := fun c hc => (d1 c hc).imp id (fun h => Nat.le_trans O1.size h)
 have HC2 : Hid _ := C2
 have HO2 : Hid _ := O2
 have HD1 : Hid _ := hD1
 have HW3 : Hid _ := W3
 have k1 : v1.cell? ⟨q, 1, none⟩ = some (.int .i64 (f 0)) := C2.cell 1
 have k2 : v1.cell? ⟨q, 2, none⟩ = some (.int .i64 (f 1)) := C2.cell 2
 have k3 : v1.cell? ⟨q, 3, none⟩ = some (.int .i64 (f 2)) := C2.cell 3
 have k4 : v1.cell? ⟨q, 4, none⟩ = some (.int .i64 (f 3)) := C2.cell 4
 have k5 : v1.cell? ⟨q, 5, none⟩ = some (.int .i64 (f 4)) := C2.cell 5
 have k6 : v1.cell? ⟨q, 6, none⟩ = some (.int .i64 (f 5)) := C2.cell 6
 have k7 : v1.cell? ⟨q, 7, none⟩ = some (.int .i64 (f 6)) := C2.cell 7
 have k8 : v1.cell? ⟨q, 8, none⟩ = some (.int .i64 (f 7)) := C2.cell 8
 have k9 : v1.cell? ⟨q, 9, none⟩ = some (.slice a l.length ca) := C2.cell 9
 clear W2 C1 C2 O1 O2 o2 d1 hD1 W3 hz1
 go_wp2_with fail
 clear k1 k2 k3 k4 k5 k6 k7 k8 k9
 refine (gswrite_any HW3.out hm hl1 f hr a ca l (fun w' o => HRW.out w' (HO2.out.trans o (fun k hk h => (HD1.out k h).elim id (fun h2 => by omega))))).mono ?_
 rintro e v2 ⟨rfl, D2, W4, o3, d2⟩
 have HF : Hid (FW D2 b most (wrE most st key f (cont l)) v2) := by show FW D2 b most (wrE most st key f (cont l)) v2; unfold wrE; rw [← HKL.out]; exact W4
 have HO3 : Hid (Off D w v2) := HO2.out.trans o3 (fun k hk h => (HD1.out k h).elim id (fun h2 => by omega))
 have HD2 : Hid (∀ c, D2 c → D c ∨ w.heap.size ≤ c) := fun c hc => (d2 c hc).elim (HD1.out c) (fun h => .inr (Nat.le_trans HO2.out.size h))
 clear W4 o3 d2
 go_wp2_with fail
 first | go_end0 | refine bodyPost_ret (results_none rfl _ _ _) rfl ?_
 exact ⟨rfl, D2, HF.out, HO3.out, HD2.out⟩
end Go.Proofs.Ytpnnpdfmoldiiaa
