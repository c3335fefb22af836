/- Items of several texts. -/
import Derived.Test.YtmbphlkohlggfaaDWRefW
import Derived.Test.YtmbphlkohlggfaaDEn20
import Derived.Test.YtmbphlkohlggfaaDZm20
namespace Go.Proofs.Ytmbphlkohlggfaa
set_option maxRecDepth 100000
open Go.RowKit
theorem WqF.off {K : Nat → Prop} {b most : Nat} {st : Option (List Nat)} {w w' : World} (h : Wq FW K b most st w) (o : Off (fun _ => False) w w') : Wq FW K b most st w' := by
 obtain ⟨D, h1, h2⟩ := h.ex
 exact ⟨⟨D, h1.off o (fun _ _ _ h => h), h2⟩, h.fit, fun c hc => Nat.lt_of_lt_of_le (h.bd c hc) o.size⟩
theorem WqF.more {K L : Nat → Prop} {b most : Nat} {st : Option (List Nat)} {w w' : World} (h : Wq FW K b most st w) (o : Off (fun _ => False) w w') (hL : ∀ c, L c → K c ∨ w.heap.size ≤ c ∧ c < w'.heap.size) : Wq FW L b most st w' := by
 obtain ⟨D, h1, h2⟩ := h.ex
 refine ⟨⟨D, h1.off o (fun _ _ _ h => h), fun c hc hl => ?_⟩, h.fit, fun c hc => ?_⟩
 ·rcases hL c hl with h | h
  ·exact h2 c hc h
  ·have := h1.lt c hc
   omega
 ·rcases hL c hc with h5 | h5
  ·exact Nat.lt_of_lt_of_le (h.bd c h5) o.size
  ·exact h5.2
theorem WqF.less {K L : Nat → Prop} {b most : Nat} {st : Option (List Nat)} {w : World} (h : Wq FW K b most st w) (hL : ∀ c, L c → K c) : Wq FW L b most st w := by
 obtain ⟨D, h1, h2⟩ := h.ex
 exact ⟨⟨D, h1, fun c hc hl => h2 c hc (hL c hl)⟩, h.fit, fun c hc => h.bd c (hL c hc)⟩
theorem fq1E {K : Nat → Prop} {b most : Nat} {sn : Option (List Nat)} {w : World} (h : Wq FW K b most sn w) (hm : most ≤ 140737488355328) (v : E) (hok : (keyB v.key && mayS v.f (cont v.l)) = true) (hrow : ∀ w', Off (fun c => ¬ K c) w w' → Row w' v.a v.cap v.l) :
  Calls Try.prog 55 #[.pointer (some ⟨b, 0, none⟩), .agg #[.string v.key, .int .i64 (v.f 0), .int .i64 (v.f 1), .int .i64 (v.f 2), .int .i64 (v.f 3), .int .i64 (v.f 4), .int .i64 (v.f 5), .int .i64 (v.f 6), .int .i64 (v.f 7), .slice v.a v.l.length v.cap]] w fun e w' => e = .returned (.tuple #[]) ∧ Wq FW K b most (wrE most sn v.key v.f (cont v.l)) w' ∧ Off (fun c => ¬ K c) w w' := by
 obtain ⟨D, hW, hD⟩ := h.ex
 have hst := h.fit
 have hrow := fun w' (o : Off D w w') => hrow w' (o.mono (fun c _ hc => hD c hc))
 refine (gwriteEntry_any hW hm hst v.key (by have := (may_rng hok).1; omega) v.f (may_rng hok).2 v.a v.cap v.l hrow).mono ?_
 rintro e w' ⟨he, hP⟩
 exact ⟨he, Wq.step h.bd hD hP (wrE_le h.fit _ _ _)⟩
theorem fq1D {K : Nat → Prop} {b most : Nat} {sn : Option (List Nat)} {w : World} (h : Wq FW K b most sn w) (hm : most ≤ 140737488355328) (v : G) (hok : mayD ⟨v.key, v.f, v.ds⟩ = true) (hrow : ∀ w', Off (fun c => ¬ K c) w w' → RowD w' v.a v.cap v.ds) :
  Calls Try.prog 56 #[.pointer (some ⟨b, 0, none⟩), .agg #[.string v.key, .int .i64 (v.f 0), .int .i64 (v.f 1), .int .i64 (v.f 2), .int .i64 (v.f 3), .int .i64 (v.f 4), .int .i64 (v.f 5), .int .i64 (v.f 6), .int .i64 (v.f 7), .slice v.a v.ds.length v.cap]] w fun e w' => e = .returned (.tuple #[]) ∧ Wq FW K b most (wrG most sn v.key v.f v.ds) w' ∧ Off (fun c => ¬ K c) w w' := by
 obtain ⟨D, hW, hD⟩ := h.ex
 have hst := h.fit
 have hrow := fun w' (o : Off D w w') => hrow w' (o.mono (fun c _ hc => hD c hc))
 refine (gdwrite_any hW hm hst v.key (by have := (mayD_rng hok).1; omega) v.f (mayD_rng hok).2.1 v.a v.cap v.ds (mayD_rng hok).2.2 hrow).mono ?_
 rintro e w' ⟨he, hP⟩
 exact ⟨he, Wq.step h.bd hD hP (wrG_le h.fit _ _ _)⟩
theorem fqNum {K : Nat → Prop} {b most : Nat} {st : Option (List Nat)} {w : World} (h : Wq FW K b most st w) (hm : most ≤ 140737488355328) (n : Nat) (hn : n < 18446744073709551616) :
  Calls Try.prog 52 #[.pointer (some ⟨b, 0, none⟩), .int .u64 (n : Int)] w fun e w' => e = .returned (.tuple #[]) ∧ Wq FW K b most (putS most st (numB n)) w' ∧ Off (fun c => ¬ K c) w w' := by
 obtain ⟨D, hW, hD⟩ := h.ex
 refine (fwnum_any hW n hn (.inr ⟨hm, h.fit⟩)).mono ?_
 rintro e w' ⟨he, hP⟩
 exact ⟨he, Wq.step h.bd hD hP (put_le h.fit _)⟩
theorem fqInt {K : Nat → Prop} {b most : Nat} {st : Option (List Nat)} {w : World} (h : Wq FW K b most st w) (hm : most ≤ 140737488355328) (i : Int) (h0 : -9223372036854775808 ≤ i) (h1 : i ≤ 9223372036854775807) :
  Calls Try.prog 53 #[.pointer (some ⟨b, 0, none⟩), .int .i64 i] w fun e w' => e = .returned (.tuple #[]) ∧ Wq FW K b most (putS most st (numB (zig i))) w' ∧ Off (fun c => ¬ K c) w w' := by
 obtain ⟨D, hW, hD⟩ := h.ex
 refine (fwint_any hW i h0 h1 (.inr ⟨hm, h.fit⟩)).mono ?_
 rintro e w' ⟨he, hP⟩
 exact ⟨he, Wq.step h.bd hD hP (put_le h.fit _)⟩
theorem fqText {K : Nat → Prop} {b most : Nat} {st : Option (List Nat)} {w : World} (h : Wq FW K b most st w) (hm : most ≤ 140737488355328) (bt : Option Addr) (bc : Nat) (bb : List Nat) (hb : bb.length ≤ 32) (hs : Src w bt bc bb) :
  Calls Try.prog 54 #[.pointer (some ⟨b, 0, none⟩), .slice bt bb.length bc] w fun e w' => e = .returned (.tuple #[]) ∧ Wq FW K b most (putS most st (numB bb.length ++ bb)) w' ∧ Off (fun c => ¬ K c) w w' := by
 obtain ⟨D, hW, hD⟩ := h.ex
 refine (fwtext_any hW bt bc bb hs (.inr ⟨hm, h.fit, by omega⟩)).mono ?_
 rintro e w' ⟨he, hP⟩
 exact ⟨he, Wq.step h.bd hD hP (put_le h.fit _)⟩
theorem bits_k {k : Int} : ∃ v0 v1 v2 v3 v4 v5 v6 : Int, (bits .and .i64 (hsK k) 1 = v0 ∧ (v0 != 0) = (msk k).op) ∧ (bits .and .i64 (hsK k) 2 = v1 ∧ (v1 != 0) = (msk k).fo) ∧ (bits .and .i64 (hsK k) 4 = v2 ∧ (v2 != 0) = (msk k).key) ∧ (bits .and .i64 (hsK k) 8 = v3 ∧ (v3 != 0) = (msk k).bk) ∧ (bits .and .i64 (hsK k) 16 = v4 ∧ (v4 != 0) = (msk k).es) ∧ (bits .and .i64 (hsK k) 32 = v5 ∧ (v5 != 0) = (msk k).gs) ∧ (bits .and .i64 (hsK k) 64 = v6 ∧ (v6 != 0) = (msk k).ms) := by
 by_cases h1 : k = 1
 ·subst h1
  exact ⟨_, _, _, _, _, _, _, ⟨rfl, by kernel_rfl⟩, ⟨rfl, by kernel_rfl⟩, ⟨rfl, by kernel_rfl⟩, ⟨rfl, by kernel_rfl⟩, ⟨rfl, by kernel_rfl⟩, ⟨rfl, by kernel_rfl⟩, ⟨rfl, by kernel_rfl⟩⟩
 by_cases h2 : k = 2
 ·subst h2
  exact ⟨_, _, _, _, _, _, _, ⟨rfl, by kernel_rfl⟩, ⟨rfl, by kernel_rfl⟩, ⟨rfl, by kernel_rfl⟩, ⟨rfl, by kernel_rfl⟩, ⟨rfl, by kernel_rfl⟩, ⟨rfl, by kernel_rfl⟩, ⟨rfl, by kernel_rfl⟩⟩
 by_cases h3 : k = 3
 ·subst h3
  exact ⟨_, _, _, _, _, _, _, ⟨rfl, by kernel_rfl⟩, ⟨rfl, by kernel_rfl⟩, ⟨rfl, by kernel_rfl⟩, ⟨rfl, by kernel_rfl⟩, ⟨rfl, by kernel_rfl⟩, ⟨rfl, by kernel_rfl⟩, ⟨rfl, by kernel_rfl⟩⟩
 by_cases h4 : k = 4
 ·subst h4
  exact ⟨_, _, _, _, _, _, _, ⟨rfl, by kernel_rfl⟩, ⟨rfl, by kernel_rfl⟩, ⟨rfl, by kernel_rfl⟩, ⟨rfl, by kernel_rfl⟩, ⟨rfl, by kernel_rfl⟩, ⟨rfl, by kernel_rfl⟩, ⟨rfl, by kernel_rfl⟩⟩
 by_cases h5 : k = 5
 ·subst h5
  exact ⟨_, _, _, _, _, _, _, ⟨rfl, by kernel_rfl⟩, ⟨rfl, by kernel_rfl⟩, ⟨rfl, by kernel_rfl⟩, ⟨rfl, by kernel_rfl⟩, ⟨rfl, by kernel_rfl⟩, ⟨rfl, by kernel_rfl⟩, ⟨rfl, by kernel_rfl⟩⟩
 by_cases h6 : k = 6
 ·subst h6
  exact ⟨_, _, _, _, _, _, _, ⟨rfl, by kernel_rfl⟩, ⟨rfl, by kernel_rfl⟩, ⟨rfl, by kernel_rfl⟩, ⟨rfl, by kernel_rfl⟩, ⟨rfl, by kernel_rfl⟩, ⟨rfl, by kernel_rfl⟩, ⟨rfl, by kernel_rfl⟩⟩
 by_cases h7 : k = 7
 ·subst h7
  exact ⟨_, _, _, _, _, _, _, ⟨rfl, by kernel_rfl⟩, ⟨rfl, by kernel_rfl⟩, ⟨rfl, by kernel_rfl⟩, ⟨rfl, by kernel_rfl⟩, ⟨rfl, by kernel_rfl⟩, ⟨rfl, by kernel_rfl⟩, ⟨rfl, by kernel_rfl⟩⟩
 by_cases h8 : k = 8
 ·subst h8
  exact ⟨_, _, _, _, _, _, _, ⟨rfl, by kernel_rfl⟩, ⟨rfl, by kernel_rfl⟩, ⟨rfl, by kernel_rfl⟩, ⟨rfl, by kernel_rfl⟩, ⟨rfl, by kernel_rfl⟩, ⟨rfl, by kernel_rfl⟩, ⟨rfl, by kernel_rfl⟩⟩
 by_cases h9 : k = 9
 ·subst h9
  exact ⟨_, _, _, _, _, _, _, ⟨rfl, by kernel_rfl⟩, ⟨rfl, by kernel_rfl⟩, ⟨rfl, by kernel_rfl⟩, ⟨rfl, by kernel_rfl⟩, ⟨rfl, by kernel_rfl⟩, ⟨rfl, by kernel_rfl⟩, ⟨rfl, by kernel_rfl⟩⟩
 have e1 : hsK k = 0 := by unfold hsK; rw [if_neg h1, if_neg h2, if_neg h3, if_neg h4, if_neg h5, if_neg h6, if_neg h7, if_neg h8, if_neg h9]
 have e2 : msk k = ⟨false, false, false, false, false, false, false⟩ := by unfold msk; rw [if_neg h1, if_neg h2, if_neg h3, if_neg h4, if_neg h5, if_neg h6, if_neg h7, if_neg h8, if_neg h9]
 rw [e1, e2]
 exact ⟨_, _, _, _, _, _, _, ⟨rfl, by kernel_rfl⟩, ⟨rfl, by kernel_rfl⟩, ⟨rfl, by kernel_rfl⟩, ⟨rfl, by kernel_rfl⟩, ⟨rfl, by kernel_rfl⟩, ⟨rfl, by kernel_rfl⟩, ⟨rfl, by kernel_rfl⟩⟩
set_option maxHeartbeats 8000000 in
theorem zencode_any (m : Mg) (es : List E) (gs : List G) (ms : List (Int × Int)) (w : World) (h : MsgAt w m es gs ms) :
  Calls Try.prog 17 #[(.agg #[.int .i64 m.k, .int .i64 m.fr, .int .i64 m.tn, .int .i64 m.op, .int .i64 m.fo, .string m.key, .int .i64 m.bk, .slice m.ea m.el m.ec, .slice m.da m.dl m.dc, .slice m.ma m.ml m.mc])] w fun e w' => ∃ (t : Option Addr) (c : Nat) (bs : List Nat) (er : Int), e = .returned (.tuple #[.slice t bs.length c, .int .i64 er]) ∧ EncR (mdM m es gs ms) bs er ∧ OwnR w' t c bs ∧ (∀ k, blk t = some k → w.heap.size ≤ k) ∧ Off (fun _ => False) w w' := by
 obtain ⟨k, fr, tn, op, fo, key, bk, ea, el, ec, da, dl, dc, ma, ml, mc⟩ := m
 obtain rfl : el = es.length := h.el
 obtain rfl : dl = gs.length := h.dl
 obtain rfl : ml = ms.length := h.ml
 show Calls Try.prog 17 #[.agg #[.int .i64 k, .int .i64 fr, .int .i64 tn, .int .i64 op, .int .i64 fo, .string key, .int .i64 bk, .slice ea es.length ec, .slice da gs.length dc, .slice ma ms.length mc]] w fun e w' => ∃ (t : Option Addr) (c : Nat) (bs : List Nat) (er : Int), e = .returned (.tuple #[.slice t bs.length c, .int .i64 er]) ∧ EncR (mdM (⟨k, fr, tn, op, fo, key, bk, ea, es.length, ec, da, gs.length, dc, ma, ms.length, mc⟩ : Mg) es gs ms) bs er ∧ OwnR w' t c bs ∧ (∀ k, blk t = some k → w.heap.size ≤ k) ∧ Off (fun _ => False) w w'
 have HLN4 : Hid (es.length ≤ 9223372036854775807) := Nat.le_trans h.ens.len h.ens.bound
 have HLN5 : Hid (gs.length ≤ 9223372036854775807) := Nat.le_trans h.dgs.len h.dgs.bound
 have HLN6 : Hid (ms.length ≤ 9223372036854775807) := Nat.le_trans h.mbs.len h.mbs.bound
 obtain ⟨d, hd⟩ : ∃ d, d = mdM (⟨k, fr, tn, op, fo, key, bk, ea, es.length, ec, da, gs.length, dc, ma, ms.length, mc⟩ : Mg) es gs ms := ⟨_, rfl⟩
 have HD : Hid (d = mdM (⟨k, fr, tn, op, fo, key, bk, ea, es.length, ec, da, gs.length, dc, ma, ms.length, mc⟩ : Mg) es gs ms) := hd
 rw [← hd]
 clear hd
 have C0 := Cel.new w 26 #[.int .i64 k, .int .i64 fr, .int .i64 tn, .int .i64 op, .int .i64 fo, .string key, .int .i64 bk, .slice ea es.length ec, .slice da gs.length dc, .slice ma ms.length mc]
 have O0 : Off (fun _ => False) w (w.alloc (.cells #[.int .i64 k, .int .i64 fr, .int .i64 tn, .int .i64 op, .int .i64 fo, .string key, .int .i64 bk, .slice ea es.length ec, .slice da gs.length dc, .slice ma ms.length mc] 26)) := (Off.refl _ w).alloc _
 have HX : Hid _ := h
 clear h
 go_enter Try.func17, Try.ntmps17
 go_upto_region 1 with fail
 generalize hv : w.alloc (.cells #[.int .i64 k, .int .i64 fr, .int .i64 tn, .int .i64 op, .int .i64 fo, .string key, .int .i64 bk, .slice ea es.length ec, .slice da gs.length dc, .slice ma ms.length mc] 26) = V0 at C0 O0 ⊢
 generalize hp : w.heap.size = p at C0 ⊢
 have HP : Hid (w.heap.size = p) := hp
 clear hv hp
 obtain ⟨x0, x1, x2, x3, x4, x5, x6, x7, x8, x9⟩ := celw10 C0
 have HC : Hid _ := C0
 have HO0 : Hid _ := O0
 clear C0 O0
 go_wp2_with fail
 refine (zmay_any (⟨k, fr, tn, op, fo, key, bk, ea, es.length, ec, da, gs.length, dc, ma, ms.length, mc⟩ : Mg) es gs ms _ (HX.out.off HO0.out)).mono ?_
 rintro e w1 ⟨⟨b, rfl, hb⟩, o1⟩
 rw [← HD.out] at hb
 have HB : Hid (b = true ↔ MayM d) := hb
 clear x0 x1 x2 x3 x4 x5 x6 x7 x8 x9 hb
 have HC1 : Hid _ := HC.out.off o1 (fun h => h)
 have HO1 : Hid _ := HO0.out.trans o1 (fun _ _ h => h)
 clear o1 HC HO0
 cases b with
 | false =>
  go_wp2_with fail
  refine bodyPost_ret (results_tmp2 rfl _ _ _) rfl ?_
  exact ⟨none, 0, [], 1, rfl, ⟨.inl ⟨fun h => (by have := HB.out.2 h; cases this), rfl, rfl⟩⟩, OwnR.nil _, fun k hk => by simp [blk] at hk, HO1.out⟩
 | true =>
  have HMAY : Hid (MayM d) := HB.out.1 rfl
  clear HB
  obtain ⟨x0, x1, x2, x3, x4, x5, x6, x7, x8, x9⟩ := celw10 HC1.out
  obtain ⟨hh, hhh⟩ : ∃ hh, hh = hsK k := ⟨_, rfl⟩
  have HHS : Hid (∀ W, Calls Try.prog 28 #[.int .i64 k] W fun e w' => e = .returned (.int .i64 hh) ∧ w' = W) := fun W => by rw [hhh]; exact has_any k W
  obtain ⟨v0, v1, v2, v3, v4, v5, v6, ⟨a0, q0⟩, ⟨a1, q1⟩, ⟨a2, q2⟩, ⟨a3, q3⟩, ⟨a4, q4⟩, ⟨a5, q5⟩, a6, q6⟩ := bits_k (k := k)
  rw [← hhh] at a0 a1 a2 a3 a4 a5 a6
  have HR0 := may_parts (m := (⟨k, fr, tn, op, fo, key, bk, ea, es.length, ec, da, gs.length, dc, ma, ms.length, mc⟩ : Mg)) (es := es) (gs := gs) (ms := ms) (by rw [← HD.out]; exact HMAY.out)
  have HDK : Hid (d.k = k) := by show d.k = k; rw [HD.out]; rfl
  have HWP : Hid (wrMsg 60000 (some []) (msk d.k) d = wrMsg 60000 (some []) (msk k) (mdOf (⟨k, fr, tn, op, fo, key, bk, ea, es.length, ec, da, gs.length, dc, ma, ms.length, mc⟩ : Mg) es gs ms)) := by show _ = _; rw [HDK.out, HD.out]; exact wr_plain 60000 (some []) (msk k) (⟨k, fr, tn, op, fo, key, bk, ea, es.length, ec, da, gs.length, dc, ma, ms.length, mc⟩ : Mg) es gs ms
  have HR0 : ((msk k).op = true → 0 ≤ op ∧ op ≤ 1099511627776) ∧ ((msk k).key = true → key.size ≤ 32) ∧ ((msk k).es = true → ∀ x ∈ es, (keyB x.key && mayS x.f (cont x.l)) = true) ∧ ((msk k).gs = true → ∀ x ∈ gs, mayD ⟨x.key, x.f, x.ds⟩ = true) ∧ ((msk k).ms = true → ∀ x ∈ ms, mbB x.1 x.2 = true) := HR0
  generalize msk k = s at HR0 HWP q0 q1 q2 q3 q4 q5 q6
  obtain ⟨so, sf, sk, sb, se, sg, sn⟩ := s
  have HR : Hid _ := HR0
  have HV0 : Hid (bits .and .i64 hh 1 = v0 ∧ (v0 != 0) = so) := ⟨a0, q0⟩
  have HV1 : Hid (bits .and .i64 hh 2 = v1 ∧ (v1 != 0) = sf) := ⟨a1, q1⟩
  have HV2 : Hid (bits .and .i64 hh 4 = v2 ∧ (v2 != 0) = sk) := ⟨a2, q2⟩
  have HV3 : Hid (bits .and .i64 hh 8 = v3 ∧ (v3 != 0) = sb) := ⟨a3, q3⟩
  have HV4 : Hid (bits .and .i64 hh 16 = v4 ∧ (v4 != 0) = se) := ⟨a4, q4⟩
  have HV5 : Hid (bits .and .i64 hh 32 = v5 ∧ (v5 != 0) = sg) := ⟨a5, q5⟩
  have HV6 : Hid (bits .and .i64 hh 64 = v6 ∧ (v6 != 0) = sn) := ⟨a6, q6⟩
  clear hhh HR0 a0 a1 a2 a3 a4 a5 a6 q0 q1 q2 q3 q4 q5 q6
  go_wp2_with fail
  refine (HHS.out _).mono ?_
  rintro e w' ⟨rfl, hw⟩
  rw [hw]
  clear hw w' HHS
  go_upto_region 5 with fail
  have CW := Cel.new w1 87 #[.slice none 0 0, .int .i64 60000, .bool false]
  have OW : Off (fun _ => False) w1 (w1.alloc (.cells #[.slice none 0 0, .int .i64 60000, .bool false] 87)) := (Off.refl _ w1).alloc _
  generalize hv : w1.alloc (.cells #[.slice none 0 0, .int .i64 60000, .bool false] 87) = V at CW OW ⊢
  obtain ⟨q, hq⟩ : ∃ q, q = w1.heap.size := ⟨_, rfl⟩
  rw [← hq] at CW ⊢
  obtain ⟨N, hN⟩ : ∃ N, N = w1.heap.size := ⟨_, rfl⟩
  have HQ : Hid (Wq FW (fun c => c < N) q 60000 (some []) V) := ⟨⟨fun c => c = q, ⟨rfl, fun c h => by have := CW.lt; have h : c = q := h; omega, by decide, .inr ⟨[], none, 0, rfl, CW, OwnR.nil _, fun k hk => by simp [blk] at hk⟩⟩, fun c hc h => by have hc : c = q := hc; have h : c < N := h; omega⟩, by simp, fun c hc => Nat.lt_of_lt_of_le (show c < N from hc) (by have := OW.size; omega)⟩
  have HMB : Hid _ := HC1.out.off OW (fun h => h)
  have HPN : Hid (p < N) := by show _ < _; rw [hN]; exact HC1.out.lt
  have HE : Hid (∀ w', Off (fun c => ¬ c < N) V w' → MsgAt w' (⟨k, fr, tn, op, fo, key, bk, ea, es.length, ec, da, gs.length, dc, ma, ms.length, mc⟩ : Mg) es gs ms) := fun w' o => HX.out.off (HO1.out.trans ((OW.mono (fun _ _ h => h.elim)).trans o (fun c hc h => h (by omega))) (fun c hc h => h))
  have HOV : Hid (Off (fun _ => False) w V) := HO1.out.trans OW (fun _ _ h => h)
  have HNW : Hid (w.heap.size ≤ N) := by show _ ≤ _; rw [hN]; exact HO1.out.size
  have HO : Hid (Off (fun c => ¬ c < N) V V) := Off.refl _ V
  clear hv hq hN CW OW x0 x1 x2 x3 x4 x5 x6 x7 x8 x9 HC1 HO1 HX
  obtain ⟨x0, x1, x2, x3, x4, x5, x6, x7, x8, x9⟩ := celw10 HMB.out
  have hu0 := u64_wrap k
  have hu1 := u64_wrap fr
  have hu2 := u64_wrap tn
  go_wp2_with fail
  refine (fqNum HQ.out (by decide) (u64N k) (u64N_lt k)).mono ?_
  rintro e w5 ⟨rfl, hq, o5⟩
  clear x0 x1 x2 x3 x4 x5 x6 x7 x8 x9
  have HO5 : Hid _ := HO.out.trans o5 (fun _ _ h => h)
  clear HQ HO
  have HQ : Hid _ := hq
  have HO : Hid _ := HO5.out
  clear hq o5 HO5
  obtain ⟨x0, x1, x2, x3, x4, x5, x6, x7, x8, x9⟩ := celw10 (HMB.out.off HO.out (fun e => e HPN.out))
  go_wp2_with fail
  refine (fqNum HQ.out (by decide) (u64N fr) (u64N_lt fr)).mono ?_
  rintro e w5 ⟨rfl, hq, o5⟩
  clear x0 x1 x2 x3 x4 x5 x6 x7 x8 x9
  have HO5 : Hid _ := HO.out.trans o5 (fun _ _ h => h)
  clear HQ HO
  have HQ : Hid _ := hq
  have HO : Hid _ := HO5.out
  clear hq o5 HO5
  obtain ⟨x0, x1, x2, x3, x4, x5, x6, x7, x8, x9⟩ := celw10 (HMB.out.off HO.out (fun e => e HPN.out))
  go_wp2_with fail
  refine (fqNum HQ.out (by decide) (u64N tn) (u64N_lt tn)).mono ?_
  rintro e w5 ⟨rfl, hq, o5⟩
  clear x0 x1 x2 x3 x4 x5 x6 x7 x8 x9
  have HO5 : Hid _ := HO.out.trans o5 (fun _ _ h => h)
  clear HQ HO
  have HQ : Hid _ := hq
  have HO : Hid _ := HO5.out
  clear hq o5 HO5
  obtain ⟨x0, x1, x2, x3, x4, x5, x6, x7, x8, x9⟩ := celw10 (HMB.out.off HO.out (fun e => e HPN.out))
  clear hu0 hu1 hu2
  obtain ⟨s3, hs⟩ : ∃ x, x = wr3 60000 (some []) (mdOf (⟨k, fr, tn, op, fo, key, bk, ea, es.length, ec, da, gs.length, dc, ma, ms.length, mc⟩ : Mg) es gs ms) := ⟨_, rfl⟩
  have HS3 : Hid (s3 = wr3 60000 (some []) (mdOf (⟨k, fr, tn, op, fo, key, bk, ea, es.length, ec, da, gs.length, dc, ma, ms.length, mc⟩ : Mg) es gs ms)) := hs
  have HQ' : Hid (Wq FW (fun c => c < N) q 60000 s3 w5) := by show Wq _ _ _ _ _ _; rw [hs]; exact HQ.out
  clear HQ hs x0 x1 x2 x3 x4 x5 x6 x7 x8 x9
  have HQ := HQ'
  clear HQ'
  have bt := HV0.out.1
  have bn := HV0.out.2
  obtain ⟨s4, hs⟩ : ∃ x, x = wrOp 60000 so (mdOf (⟨k, fr, tn, op, fo, key, bk, ea, es.length, ec, da, gs.length, dc, ma, ms.length, mc⟩ : Mg) es gs ms) s3 := ⟨_, rfl⟩
  have HS4 : Hid (s4 = wrOp 60000 so (mdOf (⟨k, fr, tn, op, fo, key, bk, ea, es.length, ec, da, gs.length, dc, ma, ms.length, mc⟩ : Mg) es gs ms) s3) := hs
  clear hs
  go_upto_if 37 with fail
  clear bt bn
  go_cut [] from 37 to 41 (fun wx => Hid (Wq FW (fun c => c < N) q 60000 s4 wx) ∧ Hid (Off (fun c => ¬ c < N) V wx))
  case first =>
   have HS := HS4
   have m0 := (HMB.out.off HO.out (fun e => e HPN.out)).cell 3
   simp at m0
   cases so
   ·go_wp2_with fail
    go_meet
    case rel => exact ⟨by rw [show s4 = _ from HS.out]; exact HQ.out, HO.out⟩
   ·go_wp2_with fail
    refine (fqInt HQ.out (by decide) op (by have := (HR.out.1 (by simp)); omega) (by have := (HR.out.1 (by simp)); omega)).mono ?_
    rintro e w5 ⟨rfl, hq, o5⟩
    have HQ5 : Hid _ := hq
    have HO5 : Hid _ := HO.out.trans o5 (fun _ _ h => h)
    clear hq o5
    go_wp2_with fail
    go_meet
    case rel => exact ⟨by rw [show s4 = _ from HS.out]; exact HQ5.out, HO5.out⟩
  case rest =>
   clear HQ HO
   obtain ⟨HQ, HO⟩ := hcut
   have bt := HV1.out.1
   have bn := HV1.out.2
   obtain ⟨s5, hs⟩ : ∃ x, x = wrFo 60000 sf (mdOf (⟨k, fr, tn, op, fo, key, bk, ea, es.length, ec, da, gs.length, dc, ma, ms.length, mc⟩ : Mg) es gs ms) s4 := ⟨_, rfl⟩
   have HS5 : Hid (s5 = wrFo 60000 sf (mdOf (⟨k, fr, tn, op, fo, key, bk, ea, es.length, ec, da, gs.length, dc, ma, ms.length, mc⟩ : Mg) es gs ms) s4) := hs
   clear hs
   go_upto_if 44 with fail
   clear bt bn
   go_cut [] from 44 to 49 (fun wx => Hid (Wq FW (fun c => c < N) q 60000 s5 wx) ∧ Hid (Off (fun c => ¬ c < N) V wx))
   case first =>
    have HS := HS5
    have m1 := (HMB.out.off HO.out (fun e => e HPN.out)).cell 4
    simp at m1
    have hu := u64_wrap fo
    cases sf
    ·go_wp2_with fail
     go_meet
     case rel => exact ⟨by rw [show s5 = _ from HS.out]; exact HQ.out, HO.out⟩
    ·go_wp2_with fail
     refine (fqNum HQ.out (by decide) (u64N fo) (u64N_lt fo)).mono ?_
     rintro e w5 ⟨rfl, hq, o5⟩
     have HQ5 : Hid _ := hq
     have HO5 : Hid _ := HO.out.trans o5 (fun _ _ h => h)
     clear hq o5
     go_wp2_with fail
     go_meet
     case rel => exact ⟨by rw [show s5 = _ from HS.out]; exact HQ5.out, HO5.out⟩
   case rest =>
    clear HQ HO
    obtain ⟨HQ, HO⟩ := hcut
    have bt := HV2.out.1
    have bn := HV2.out.2
    obtain ⟨s6, hs⟩ : ∃ x, x = wrKey 60000 sk (mdOf (⟨k, fr, tn, op, fo, key, bk, ea, es.length, ec, da, gs.length, dc, ma, ms.length, mc⟩ : Mg) es gs ms) s5 := ⟨_, rfl⟩
    have HS6 : Hid (s6 = wrKey 60000 sk (mdOf (⟨k, fr, tn, op, fo, key, bk, ea, es.length, ec, da, gs.length, dc, ma, ms.length, mc⟩ : Mg) es gs ms) s5) := hs
    clear hs
    go_upto_if 52 with fail
    clear bt bn
    go_cut [] from 52 to 57 (fun wx => Hid (Wq FW (fun c => c < N) q 60000 s6 wx) ∧ Hid (Off (fun c => ¬ c < N) V wx))
    case first =>
     have HS := HS6
     have m2 := (HMB.out.off HO.out (fun e => e HPN.out)).cell 5
     simp at m2
     obtain ⟨cap, W', hcv, hsrc, hof, -⟩ := conv_key2 key wc
     have HSR : Hid _ := hsrc
     have HOF : Hid _ := hof
     clear hsrc hof
     cases sk
     ·go_wp2_with fail
      go_meet
      case rel => exact ⟨by rw [show s6 = _ from HS.out]; exact HQ.out, HO.out⟩
     ·go_wp2_with fail
      refine (fqText (WqF.off HQ.out HOF.out) (by decide) _ cap (keyL key) (by rw [keyL_len]; exact HR.out.2.1 (by simp)) HSR.out).mono ?_
      rintro e w5 ⟨rfl, hq, o5⟩
      have HQ5 : Hid _ := hq
      have HO5 : Hid _ := (HO.out.trans HOF.out (fun _ _ h => h.elim)).trans o5 (fun _ _ h => h)
      clear hq o5
      go_wp2_with fail
      go_meet
      case rel => exact ⟨by rw [show s6 = _ from HS.out]; exact HQ5.out, HO5.out⟩
    case rest =>
     clear HQ HO
     obtain ⟨HQ, HO⟩ := hcut
     have bt := HV3.out.1
     have bn := HV3.out.2
     obtain ⟨s7, hs⟩ : ∃ x, x = wrBk 60000 sb (mdOf (⟨k, fr, tn, op, fo, key, bk, ea, es.length, ec, da, gs.length, dc, ma, ms.length, mc⟩ : Mg) es gs ms) s6 := ⟨_, rfl⟩
     have HS7 : Hid (s7 = wrBk 60000 sb (mdOf (⟨k, fr, tn, op, fo, key, bk, ea, es.length, ec, da, gs.length, dc, ma, ms.length, mc⟩ : Mg) es gs ms) s6) := hs
     clear hs
     go_upto_if 60 with fail
     clear bt bn
     go_cut [] from 60 to 65 (fun wx => Hid (Wq FW (fun c => c < N) q 60000 s7 wx) ∧ Hid (Off (fun c => ¬ c < N) V wx))
     case first =>
      have HS := HS7
      have m3 := (HMB.out.off HO.out (fun e => e HPN.out)).cell 6
      simp at m3
      have hu := u64_wrap bk
      cases sb
      ·go_wp2_with fail
       go_meet
       case rel => exact ⟨by rw [show s7 = _ from HS.out]; exact HQ.out, HO.out⟩
      ·go_wp2_with fail
       refine (fqNum HQ.out (by decide) (u64N bk) (u64N_lt bk)).mono ?_
       rintro e w5 ⟨rfl, hq, o5⟩
       have HQ5 : Hid _ := hq
       have HO5 : Hid _ := HO.out.trans o5 (fun _ _ h => h)
       clear hq o5
       go_wp2_with fail
       go_meet
       case rel => exact ⟨by rw [show s7 = _ from HS.out]; exact HQ5.out, HO5.out⟩
     case rest =>
      clear HQ HO
      obtain ⟨HQ, HO⟩ := hcut
      have bt := HV4.out.1
      have bn := HV4.out.2
      obtain ⟨s8, hs⟩ : ∃ x, x = wrES 60000 se (mdOf (⟨k, fr, tn, op, fo, key, bk, ea, es.length, ec, da, gs.length, dc, ma, ms.length, mc⟩ : Mg) es gs ms) s7 := ⟨_, rfl⟩
      have HS8 : Hid (s8 = wrES 60000 se (mdOf (⟨k, fr, tn, op, fo, key, bk, ea, es.length, ec, da, gs.length, dc, ma, ms.length, mc⟩ : Mg) es gs ms) s7) := hs
      clear hs
      go_upto_if 68 with fail
      clear bt bn
      go_cut [] from 68 to 85 (fun wx => Hid (Wq FW (fun c => c < N) q 60000 s8 wx) ∧ Hid (Off (fun c => ¬ c < N) V wx))
      case first =>
       have HS := HS8
       have m4 := (HMB.out.off HO.out (fun e => e HPN.out)).cell 7
       simp at m4
       have hwl := len_wrap es HLN4.out
       have hlq : es.length ≤ 9223372036854775807 := HLN4.out
       cases se
       ·go_wp2_with fail
        go_meet
        case rel => exact ⟨by rw [show s8 = _ from HS.out]; exact HQ.out, HO.out⟩
       ·go_wp2_with fail
        refine (fqNum HQ.out (by decide) es.length (by omega)).mono ?_
        rintro e w5 ⟨rfl, hq, o5⟩
        have HQ5 : Hid _ := hq
        have HO5 : Hid _ := HO.out.trans o5 (fun _ _ h => h)
        clear hq o5 m4 hwl
        have m4 := (HMB.out.off HO5.out (fun e => e HPN.out)).cell 7
        simp at m4
        go_wp2_with fail
        go_loopw [78] (fun y wr => ∃ n : Nat, y = .int .i64 (n : Int) ∧ n ≤ es.length ∧ Hid (Wq FW (fun c => c < N) q 60000 (wrEs 60000 (putS 60000 s7 (numB es.length)) ((es.take n).map E.abs)) wr) ∧ Hid (Off (fun c => ¬ c < N) V wr)) (fun y _ => (es.length - intOf y).toNat)
        case atStart => exact ⟨0, rfl, by omega, HQ5.out, HO5.out⟩
        case round =>
         clear HQ5 HO5 HQ HO m4
         obtain ⟨n, rfl, hn, HQ, HO⟩ := hrel
         by_cases hlt : n < es.length
         ·have g1b : decide ((n : Int) < (es.length : Int)) = true := decide_eq_true (by omega)
          have g2b : decide (n < es.length) = true := decide_eq_true hlt
          obtain ⟨v, hv⟩ : ∃ v, es[n]? = some v := ⟨_, List.getElem?_eq_getElem hlt⟩
          have hA := (HE.out wr HO.out).ens.at_ n v hv
          obtain ⟨bx, off, ea', k10, kr⟩ := hA
          have HRW : Hid (∀ w', Off (fun c => ¬ c < N) wr w' → Row w' v.a v.cap v.l) := fun w' o => by
           obtain ⟨_, _, _, _, r⟩ := (HE.out w' (HO.out.trans o (fun _ _ h => h))).ens.at_ n v hv
           exact r
          clear kr
          have ea'' : ea = some ⟨bx, off, none⟩ := ea'
          clear ea'
          subst ea''
          obtain ⟨k0, k1, k2, k3, k4, k5, k6, k7, k8, k9⟩ := ent10 k10
          clear k10
          have hix := idx_ents hlt
          have HV : Hid _ := hv
          have HV2 : Hid _ := HR.out.2.2.1 (by simp) v (List.mem_of_getElem? hv)
          clear hv
          go_upto_region 21 with fail
          have CN := Cel.new wr 46 #[.string v.key, .int .i64 (v.f 0), .int .i64 (v.f 1), .int .i64 (v.f 2), .int .i64 (v.f 3), .int .i64 (v.f 4), .int .i64 (v.f 5), .int .i64 (v.f 6), .int .i64 (v.f 7), .slice v.a v.l.length v.cap]
          have ON : Off (fun _ => False) wr (wr.alloc (.cells #[.string v.key, .int .i64 (v.f 0), .int .i64 (v.f 1), .int .i64 (v.f 2), .int .i64 (v.f 3), .int .i64 (v.f 4), .int .i64 (v.f 5), .int .i64 (v.f 6), .int .i64 (v.f 7), .slice v.a v.l.length v.cap] 46)) := (Off.refl _ wr).alloc _
          generalize hvv : wr.alloc (.cells #[.string v.key, .int .i64 (v.f 0), .int .i64 (v.f 1), .int .i64 (v.f 2), .int .i64 (v.f 3), .int .i64 (v.f 4), .int .i64 (v.f 5), .int .i64 (v.f 6), .int .i64 (v.f 7), .slice v.a v.l.length v.cap] 46) = v1 at CN ON ⊢
          obtain ⟨pb, hpp⟩ : ∃ pb, pb = wr.heap.size := ⟨_, rfl⟩
          rw [← hpp] at CN ⊢
          have z0 := CN.cell 0
          have z1 := CN.cell 1
          have z2 := CN.cell 2
          have z3 := CN.cell 3
          have z4 := CN.cell 4
          have z5 := CN.cell 5
          have z6 := CN.cell 6
          have z7 := CN.cell 7
          have z8 := CN.cell 8
          have z9 := CN.cell 9
          simp at z0 z1 z2 z3 z4 z5 z6 z7 z8 z9
          have HQ1 : Hid _ := WqF.off HQ.out ON
          have HON : Hid (Off (fun c => ¬ c < N) wr v1) := ON.mono (fun _ _ h => h.elim)
          clear hvv hpp k0 k1 k2 k3 k4 k5 k6 k7 k8 k9 hix CN ON
          go_wp2_with fail
          refine (fq1E HQ1.out (by decide) v HV2.out (fun w1 o1 => HRW.out w1 (HON.out.trans o1 (fun _ _ h => h)))).mono ?_
          rintro e w2 ⟨rfl, hq, o2⟩
          clear z0 z1 z2 z3 z4 z5 z6 z7 z8 z9
          have HQ2 : Hid _ := hq
          have HO2 : Hid _ := (HO.out.trans HON.out (fun _ _ h => h)).trans o2 (fun _ _ h => h)
          clear hq o2 HQ1
          go_wp2_with fail
          go_roundw
          case rel => exact ⟨n + 1, by go_num, by omega, by rw [wrEs_step HV.out]; exact HQ2.out, HO2.out⟩
          case measure => simp [intOf]; omega
         ·obtain rfl : n = es.length := by omega
          have g1b : decide ((es.length : Int) < (es.length : Int)) = false := decide_eq_false (by omega)
          have g2b : decide (es.length < es.length) = false := decide_eq_false (by omega)
          rw [List.take_length] at HQ
          go_wp2_with fail
          go_meet
          case rel => exact ⟨by rw [show s8 = _ from HS.out]; show Wq _ _ _ _ (wrEs 60000 (putS 60000 s7 (numB ((es.map E.abs)).length)) _) _; rw [List.length_map]; exact HQ.out, HO.out⟩
      case rest =>
       clear HQ HO
       obtain ⟨HQ, HO⟩ := hcut
       have bt := HV5.out.1
       have bn := HV5.out.2
       obtain ⟨s9, hs⟩ : ∃ x, x = wrGS 60000 sg (mdOf (⟨k, fr, tn, op, fo, key, bk, ea, es.length, ec, da, gs.length, dc, ma, ms.length, mc⟩ : Mg) es gs ms) s8 := ⟨_, rfl⟩
       have HS9 : Hid (s9 = wrGS 60000 sg (mdOf (⟨k, fr, tn, op, fo, key, bk, ea, es.length, ec, da, gs.length, dc, ma, ms.length, mc⟩ : Mg) es gs ms) s8) := hs
       clear hs
       go_upto_if 88 with fail
       clear bt bn
       go_cut [] from 88 to 105 (fun wx => Hid (Wq FW (fun c => c < N) q 60000 s9 wx) ∧ Hid (Off (fun c => ¬ c < N) V wx))
       case first =>
        have HS := HS9
        have m5 := (HMB.out.off HO.out (fun e => e HPN.out)).cell 8
        simp at m5
        have hwl := len_wrap gs HLN5.out
        have hlq : gs.length ≤ 9223372036854775807 := HLN5.out
        cases sg
        ·go_wp2_with fail
         go_meet
         case rel => exact ⟨by rw [show s9 = _ from HS.out]; exact HQ.out, HO.out⟩
        ·go_wp2_with fail
         refine (fqNum HQ.out (by decide) gs.length (by omega)).mono ?_
         rintro e w5 ⟨rfl, hq, o5⟩
         have HQ5 : Hid _ := hq
         have HO5 : Hid _ := HO.out.trans o5 (fun _ _ h => h)
         clear hq o5 m5 hwl
         have m5 := (HMB.out.off HO5.out (fun e => e HPN.out)).cell 8
         simp at m5
         go_wp2_with fail
         go_loopw [98] (fun y wr => ∃ n : Nat, y = .int .i64 (n : Int) ∧ n ≤ gs.length ∧ Hid (Wq FW (fun c => c < N) q 60000 (wrGs 60000 (putS 60000 s8 (numB gs.length)) ((gs.take n).map G.abs)) wr) ∧ Hid (Off (fun c => ¬ c < N) V wr)) (fun y _ => (gs.length - intOf y).toNat)
         case atStart => exact ⟨0, rfl, by omega, HQ5.out, HO5.out⟩
         case round =>
          clear HQ5 HO5 HQ HO m5
          obtain ⟨n, rfl, hn, HQ, HO⟩ := hrel
          by_cases hlt : n < gs.length
          ·have g1b : decide ((n : Int) < (gs.length : Int)) = true := decide_eq_true (by omega)
           have g2b : decide (n < gs.length) = true := decide_eq_true hlt
           obtain ⟨v, hv⟩ : ∃ v, gs[n]? = some v := ⟨_, List.getElem?_eq_getElem hlt⟩
           have hA := (HE.out wr HO.out).dgs.at_ n v hv
           obtain ⟨bx, off, ea', k10, kr⟩ := hA
           have HRW : Hid (∀ w', Off (fun c => ¬ c < N) wr w' → RowD w' v.a v.cap v.ds) := fun w' o => by
            obtain ⟨_, _, _, _, r⟩ := (HE.out w' (HO.out.trans o (fun _ _ h => h))).dgs.at_ n v hv
            exact r
           clear kr
           have ea'' : da = some ⟨bx, off, none⟩ := ea'
           clear ea'
           subst ea''
           obtain ⟨k0, k1, k2, k3, k4, k5, k6, k7, k8, k9⟩ := dg10 k10
           clear k10
           have hix := idx_dgs hlt
           have HV : Hid _ := hv
           have HV2 : Hid _ := HR.out.2.2.2.1 (by simp) v (List.mem_of_getElem? hv)
           clear hv
           go_upto_region 28 with fail
           have CN := Cel.new wr 53 #[.string v.key, .int .i64 (v.f 0), .int .i64 (v.f 1), .int .i64 (v.f 2), .int .i64 (v.f 3), .int .i64 (v.f 4), .int .i64 (v.f 5), .int .i64 (v.f 6), .int .i64 (v.f 7), .slice v.a v.ds.length v.cap]
           have ON : Off (fun _ => False) wr (wr.alloc (.cells #[.string v.key, .int .i64 (v.f 0), .int .i64 (v.f 1), .int .i64 (v.f 2), .int .i64 (v.f 3), .int .i64 (v.f 4), .int .i64 (v.f 5), .int .i64 (v.f 6), .int .i64 (v.f 7), .slice v.a v.ds.length v.cap] 53)) := (Off.refl _ wr).alloc _
           generalize hvv : wr.alloc (.cells #[.string v.key, .int .i64 (v.f 0), .int .i64 (v.f 1), .int .i64 (v.f 2), .int .i64 (v.f 3), .int .i64 (v.f 4), .int .i64 (v.f 5), .int .i64 (v.f 6), .int .i64 (v.f 7), .slice v.a v.ds.length v.cap] 53) = v1 at CN ON ⊢
           obtain ⟨pb, hpp⟩ : ∃ pb, pb = wr.heap.size := ⟨_, rfl⟩
           rw [← hpp] at CN ⊢
           have z0 := CN.cell 0
           have z1 := CN.cell 1
           have z2 := CN.cell 2
           have z3 := CN.cell 3
           have z4 := CN.cell 4
           have z5 := CN.cell 5
           have z6 := CN.cell 6
           have z7 := CN.cell 7
           have z8 := CN.cell 8
           have z9 := CN.cell 9
           simp at z0 z1 z2 z3 z4 z5 z6 z7 z8 z9
           have HQ1 : Hid _ := WqF.off HQ.out ON
           have HON : Hid (Off (fun c => ¬ c < N) wr v1) := ON.mono (fun _ _ h => h.elim)
           clear hvv hpp k0 k1 k2 k3 k4 k5 k6 k7 k8 k9 hix CN ON
           go_wp2_with fail
           refine (fq1D HQ1.out (by decide) v HV2.out (fun w1 o1 => HRW.out w1 (HON.out.trans o1 (fun _ _ h => h)))).mono ?_
           rintro e w2 ⟨rfl, hq, o2⟩
           clear z0 z1 z2 z3 z4 z5 z6 z7 z8 z9
           have HQ2 : Hid _ := hq
           have HO2 : Hid _ := (HO.out.trans HON.out (fun _ _ h => h)).trans o2 (fun _ _ h => h)
           clear hq o2 HQ1
           go_wp2_with fail
           go_roundw
           case rel => exact ⟨n + 1, by go_num, by omega, by rw [wrGs_step HV.out]; exact HQ2.out, HO2.out⟩
           case measure => simp [intOf]; omega
          ·obtain rfl : n = gs.length := by omega
           have g1b : decide ((gs.length : Int) < (gs.length : Int)) = false := decide_eq_false (by omega)
           have g2b : decide (gs.length < gs.length) = false := decide_eq_false (by omega)
           rw [List.take_length] at HQ
           go_wp2_with fail
           go_meet
           case rel => exact ⟨by rw [show s9 = _ from HS.out]; show Wq _ _ _ _ (wrGs 60000 (putS 60000 s8 (numB ((gs.map G.abs)).length)) _) _; rw [List.length_map]; exact HQ.out, HO.out⟩
       case rest =>
        clear HQ HO
        obtain ⟨HQ, HO⟩ := hcut
        have bt := HV6.out.1
        have bn := HV6.out.2
        obtain ⟨s10, hs⟩ : ∃ x, x = wrMS 60000 sn (mdOf (⟨k, fr, tn, op, fo, key, bk, ea, es.length, ec, da, gs.length, dc, ma, ms.length, mc⟩ : Mg) es gs ms) s9 := ⟨_, rfl⟩
        have HS10 : Hid (s10 = wrMS 60000 sn (mdOf (⟨k, fr, tn, op, fo, key, bk, ea, es.length, ec, da, gs.length, dc, ma, ms.length, mc⟩ : Mg) es gs ms) s9) := hs
        clear hs
        go_upto_if 108 with fail
        clear bt bn
        go_cut [] from 108 to 131 (fun wx => Hid (Wq FW (fun c => c < N) q 60000 s10 wx) ∧ Hid (Off (fun c => ¬ c < N) V wx))
        case first =>
         have HS := HS10
         have m6 := (HMB.out.off HO.out (fun e => e HPN.out)).cell 9
         simp at m6
         have hwl := len_wrap ms HLN6.out
         have hlq : ms.length ≤ 9223372036854775807 := HLN6.out
         cases sn
         ·go_wp2_with fail
          go_meet
          case rel => exact ⟨by rw [show s10 = _ from HS.out]; exact HQ.out, HO.out⟩
         ·go_wp2_with fail
          refine (fqNum HQ.out (by decide) ms.length (by omega)).mono ?_
          rintro e w5 ⟨rfl, hq, o5⟩
          have HQ5 : Hid _ := hq
          have HO5 : Hid _ := HO.out.trans o5 (fun _ _ h => h)
          clear hq o5 m6 hwl
          have m6 := (HMB.out.off HO5.out (fun e => e HPN.out)).cell 9
          simp at m6
          go_wp2_with fail
          go_loopw [118] (fun y wr => ∃ n : Nat, y = .int .i64 (n : Int) ∧ n ≤ ms.length ∧ Hid (Wq FW (fun c => c < N) q 60000 (wrMs 60000 (putS 60000 s9 (numB ms.length)) (ms.take n)) wr) ∧ Hid (Off (fun c => ¬ c < N) V wr)) (fun y _ => (ms.length - intOf y).toNat)
          case atStart => exact ⟨0, rfl, by omega, HQ5.out, HO5.out⟩
          case round =>
           clear HQ5 HO5 HQ HO m6
           obtain ⟨n, rfl, hn, HQ, HO⟩ := hrel
           by_cases hlt : n < ms.length
           ·have g1b : decide ((n : Int) < (ms.length : Int)) = true := decide_eq_true (by omega)
            have g2b : decide (n < ms.length) = true := decide_eq_true hlt
            obtain ⟨v, hv⟩ : ∃ v, ms[n]? = some v := ⟨_, List.getElem?_eq_getElem hlt⟩
            have hA := (HE.out wr HO.out).mbs.at_ n v hv
            obtain ⟨bx, off, ea', k0, k1⟩ := hA
            have ea'' : ma = some ⟨bx, off, none⟩ := ea'
            clear ea'
            subst ea''
            have hix := idx_mems hlt
            have HV : Hid _ := hv
            have HV2 : Hid _ := HR.out.2.2.2.2 (by simp) v (List.mem_of_getElem? hv)
            clear hv
            go_upto_region 35 with fail
            have CN := Cel.new wr 63 #[.int .i64 v.1, .int .i64 v.2]
            have ON : Off (fun _ => False) wr (wr.alloc (.cells #[.int .i64 v.1, .int .i64 v.2] 63)) := (Off.refl _ wr).alloc _
            generalize hvv : wr.alloc (.cells #[.int .i64 v.1, .int .i64 v.2] 63) = v1 at CN ON ⊢
            obtain ⟨pb, hpp⟩ : ∃ pb, pb = wr.heap.size := ⟨_, rfl⟩
            rw [← hpp] at CN ⊢
            have z0 := CN.cell 0
            have z1 := CN.cell 1
            simp at z0 z1
            have HQ1 : Hid (Wq FW (fun c => c < N ∨ c = pb) q 60000 _ v1) := WqF.more HQ.out ON (fun c hc => hc.imp id (fun e => ⟨by omega, by rw [e]; exact CN.lt⟩))
            have HON : Hid (Off (fun c => ¬ c < N) wr v1) := ON.mono (fun _ _ h => h.elim)
            have HCN : Hid _ := CN
            clear hvv hpp k0 k1 hix CN ON
            have hu := u64_wrap v.1
            go_wp2_with fail
            refine (fqNum HQ1.out (by decide) (u64N v.1) (u64N_lt v.1)).mono ?_
            rintro e w2 ⟨rfl, hq, o2⟩
            clear z0 z1 hu
            have HQ2 : Hid _ := hq
            have HCN2 := HCN.out.off o2 (fun e => e (.inr rfl))
            have HO2 : Hid (Off (fun c => ¬ c < N) wr w2) := HON.out.trans o2 (fun c _ h h2 => h (.inl h2))
            have z1 := HCN2.cell 1
            simp at z1
            clear hq o2 HQ1 HCN2
            go_wp2_with fail
            refine (fqInt HQ2.out (by decide) v.2 (by have := mb_of HV2.out; omega) (by have := mb_of HV2.out; omega)).mono ?_
            rintro e w3 ⟨rfl, hq, o3⟩
            clear z1
            have HQ2' : Hid _ := WqF.less hq (fun c h => .inl h)
            have HO2' : Hid _ := HO.out.trans (HO2.out.trans o3 (fun c _ h h2 => h (.inl h2))) (fun _ _ h => h)
            clear hq o3 HQ2 HO2
            have HQ2 : Hid _ := HQ2'.out
            have HO2 : Hid _ := HO2'.out
            clear HQ2' HO2'
            go_wp2_with fail
            go_roundw
            case rel => exact ⟨n + 1, by go_num, by omega, by rw [wrMs_step HV.out]; exact HQ2.out, HO2.out⟩
            case measure => simp [intOf]; omega
           ·obtain rfl : n = ms.length := by omega
            have g1b : decide ((ms.length : Int) < (ms.length : Int)) = false := decide_eq_false (by omega)
            have g2b : decide (ms.length < ms.length) = false := decide_eq_false (by omega)
            rw [List.take_length] at HQ
            go_wp2_with fail
            go_meet
            case rel => exact ⟨by rw [show s10 = _ from HS.out]; exact HQ.out, HO.out⟩
        case rest =>
         clear HQ HO
         obtain ⟨HQ, HO⟩ := hcut
         have HST : Hid (s10 = wrMsg 60000 (some []) (msk d.k) d) := by
          show s10 = _
          rw [HWP.out, show s10 = _ from HS10.out, show s9 = _ from HS9.out, show s8 = _ from HS8.out, show s7 = _ from HS7.out, show s6 = _ from HS6.out, show s5 = _ from HS5.out, show s4 = _ from HS4.out, show s3 = _ from HS3.out]
          rfl
         have HOF : Hid (Off (fun _ => False) w wc) := HOV.out.trans HO.out (fun c hc h => h (by have := HNW.out; omega))
         obtain ⟨D, hF, hD⟩ := HQ.out.ex
         rcases hF.is with ⟨e, t9, n9, c9, c0⟩ | ⟨bs, tad, cap, e, c0, own, hb⟩
         ·have y2 := c0.cell 2
          simp at y2
          have HE0 : Hid (s10 = none) := e
          clear e c0 hF hD
          go_wp2_with fail
          refine bodyPost_ret (results_tmp2 rfl _ _ _) rfl ?_
          exact ⟨none, 0, [], 4, rfl, ⟨.inr ⟨HMAY.out, by rw [← HST.out, HE0.out]; rfl, by rw [← HST.out, HE0.out]; rfl⟩⟩, OwnR.nil _, fun k hk => by simp [blk] at hk, HOF.out⟩
         ·have y2 := c0.cell 2
          have y0 := c0.cell 0
          simp at y0 y2
          have HE0 : Hid (s10 = some bs) := e
          have HW9 : Hid _ := own
          have HLO : Hid (∀ k, blk tad = some k → w.heap.size ≤ k) := fun k hk => by have := hD k (hb k hk).1; have := HNW.out; omega
          clear e c0 hF hD own hb
          go_wp2_with fail
          refine bodyPost_ret (results_tmp2 rfl _ _ _) rfl ?_
          exact ⟨tad, cap, bs, 0, rfl, ⟨.inr ⟨HMAY.out, by rw [← HST.out, HE0.out]; rfl, by rw [← HST.out, HE0.out]; rfl⟩⟩, HW9.out, HLO.out, HOF.out⟩
end Go.Proofs.Ytmbphlkohlggfaa
