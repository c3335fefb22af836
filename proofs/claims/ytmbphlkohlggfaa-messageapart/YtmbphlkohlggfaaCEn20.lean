/- Items of several texts. -/
import Derived.Test.YtmbphlkohlggfaaCWr20
namespace Go.Proofs.Ytmbphlkohlggfaa
set_option maxRecDepth 100000
open Go.RowKit
structure EncR (d : MD) (bs : List Nat) (er : Int) : Prop where
 is : (¬ MayM d ∧ bs = [] ∧ er = 1) ∨ (MayM d ∧ bs = (wrMsg 60000 (some []) (msk d.k) d).getD [] ∧ er = ((errW (wrMsg 60000 (some []) (msk d.k) d) : Nat) : Int))
theorem may_parts {m : Mg} {es : List E} {gs : List G} {ms : List (Int × Int)} (h : MayM (mdM m es gs ms)) : ((msk m.k).op = true → 0 ≤ m.op ∧ m.op ≤ 1099511627776) ∧ ((msk m.k).key = true → m.key.size ≤ 32) ∧ ((msk m.k).es = true → ∀ x ∈ es, (keyB x.key && mayS x.f (cont x.l)) = true) ∧ ((msk m.k).gs = true → ∀ x ∈ gs, mayD ⟨x.key, x.f, x.ds⟩ = true) ∧ ((msk m.k).ms = true → ∀ x ∈ ms, mbB x.1 x.2 = true) := by
 have h1 := h.op
 have h3 := h.es
 have h4 := h.gs
 have h5 := h.ms
 simp only [mdM, mdOf, plM] at h1 h3 h4 h5
 refine ⟨fun e => ?_, fun e => ?_, fun e => ?_, fun e => ?_, fun e => ?_⟩
 ·rw [e] at h1
  exact h1
 ·have ek : (mdM m es gs ms).key = m.key := by show cond (msk m.k).key m.key _ = _; rw [e]; rfl
  rw [← ek]
  have h2 := h.key
  cases hd : decide ((mdM m es gs ms).k = 4)
  ·rw [hd] at h2
   simpa using h2
  ·rw [hd] at h2
   simp [keyB] at h2
   omega
 ·rw [e] at h3
  exact allE_iff.1 h3
 ·rw [e] at h4
  exact allG_iff.1 h4
 ·rw [e] at h5
  exact h5
theorem xwrite_any {K : Nat → Prop} {b most : Nat} {st : Option (List Nat)} {w : World} (h : Wq Wtr K b most st w) (hm : most ≤ 140737488355328) (m : Mg) (es : List E) (gs : List G) (ms : List (Int × Int)) (hE : ∀ w', Off (fun c => ¬ K c) w w' → MsgAt w' m es gs ms) (hmay : MayM (mdM m es gs ms)) :
  Calls Try.prog 50 #[.pointer (some ⟨b, 0, none⟩), (.agg #[.int .i64 m.k, .int .i64 m.fr, .int .i64 m.tn, .int .i64 m.op, .int .i64 m.fo, .string m.key, .int .i64 m.bk, .slice m.ea m.el m.ec, .slice m.da m.dl m.dc, .slice m.ma m.ml m.mc])] w fun e w' => e = .returned (.tuple #[]) ∧ Wq Wtr K b most (wrMsg most st (msk m.k) (mdM m es gs ms)) w' ∧ Off (fun c => ¬ K c) w w' := by
 have e : wrMsg most st (msk m.k) (mdM m es gs ms) = wrMsg most st (msk m.k) (mdOf m es gs ms) := wr_plain most st (msk m.k) m es gs ms
 rw [e]
 exact xwrite_core h hm m es gs ms hE _ _ _ _ _ _ _ (fun W => xpartsOf_any m.k W) (may_parts hmay)
set_option maxHeartbeats 2000000 in
theorem xencode_any (m : Mg) (es : List E) (gs : List G) (ms : List (Int × Int)) (w : World) (h : MsgAt w m es gs ms) :
  Calls Try.prog 16 #[(.agg #[.int .i64 m.k, .int .i64 m.fr, .int .i64 m.tn, .int .i64 m.op, .int .i64 m.fo, .string m.key, .int .i64 m.bk, .slice m.ea m.el m.ec, .slice m.da m.dl m.dc, .slice m.ma m.ml m.mc])] w fun e w' => ∃ (t : Option Addr) (c : Nat) (bs : List Nat) (er : Int), e = .returned (.tuple #[.slice t bs.length c, .int .i64 er]) ∧ EncR (mdM m es gs ms) bs er ∧ OwnR w' t c bs ∧ (∀ k, blk t = some k → w.heap.size ≤ k) ∧ Off (fun _ => False) w w' := by
 have C0 := Cel.new w 26 #[.int .i64 m.k, .int .i64 m.fr, .int .i64 m.tn, .int .i64 m.op, .int .i64 m.fo, .string m.key, .int .i64 m.bk, .slice m.ea m.el m.ec, .slice m.da m.dl m.dc, .slice m.ma m.ml m.mc]
 have O0 : Off (fun _ => False) w (w.alloc (.cells #[.int .i64 m.k, .int .i64 m.fr, .int .i64 m.tn, .int .i64 m.op, .int .i64 m.fo, .string m.key, .int .i64 m.bk, .slice m.ea m.el m.ec, .slice m.da m.dl m.dc, .slice m.ma m.ml m.mc] 26)) := (Off.refl _ w).alloc _
 obtain ⟨d, hd⟩ : ∃ d, d = mdM m es gs ms := ⟨_, rfl⟩
 have HD : Hid (d = mdM m es gs ms) := hd
 rw [← hd]
 clear hd
 have HX : Hid _ := h
 clear h
 go_enter Try.func16, Try.ntmps16
 go_upto_region 1 with fail
 generalize hv : w.alloc (.cells #[.int .i64 m.k, .int .i64 m.fr, .int .i64 m.tn, .int .i64 m.op, .int .i64 m.fo, .string m.key, .int .i64 m.bk, .slice m.ea m.el m.ec, .slice m.da m.dl m.dc, .slice m.ma m.ml m.mc] 26) = V at C0 O0 ⊢
 generalize hp : w.heap.size = p at C0 ⊢
 have HP : Hid (w.heap.size = p) := hp
 clear hv hp
 obtain ⟨x0, x1, x2, x3, x4, x5, x6, x7, x8, x9⟩ := celw10 C0
 have HC : Hid _ := C0
 have HO : Hid _ := O0
 clear C0 O0
 go_wp2_with fail
 refine (xmay_any m es gs ms _ (HX.out.off HO.out)).mono ?_
 rintro e w1 ⟨⟨b, rfl, hb⟩, o1⟩
 rw [← HD.out] at hb
 have HB : Hid (b = true ↔ MayM d) := hb
 clear x0 x1 x2 x3 x4 x5 x6 x7 x8 x9 hb
 have HC1 : Hid _ := HC.out.off o1 (fun h => h)
 have HO1 : Hid _ := HO.out.trans o1 (fun _ _ h => h)
 clear o1 HC HO
 cases b with
 | false =>
  go_wp2_with fail
  refine bodyPost_ret (results_tmp2 rfl _ _ _) rfl ?_
  exact ⟨none, 0, [], 1, rfl, ⟨.inl ⟨fun h => (by have := HB.out.2 h; cases this), rfl, rfl⟩⟩, OwnR.nil _, fun k hk => by simp [blk] at hk, HO1.out⟩
 | true =>
  have HMAY : Hid (MayM d) := HB.out.1 rfl
  clear HB
  go_wp2_with fail
  refine (newWriter_any 60000 (by decide) w1).mono ?_
  rintro e w2 ⟨rfl, W2, o2⟩
  rw [show Int.toNat 60000 = 60000 from rfl] at W2
  have HQ : Hid (Wq Wtr (fun c => c < w1.heap.size) w1.heap.size 60000 (some []) w2) := ⟨⟨_, W2, fun c hc h => by have hc : c = w1.heap.size := hc; omega⟩, by simp, fun c hc => Nat.lt_of_lt_of_le hc o2.size⟩
  have HE : Hid (∀ w', Off (fun c => ¬ c < w1.heap.size) w2 w' → MsgAt w' m es gs ms) := fun w' o => HX.out.off (HO1.out.trans ((o2.mono (fun _ _ h => h.elim)).trans o (fun c hc h => h hc)) (fun c hc h => h))
  have HO2 : Hid _ := HO1.out.trans o2 (fun _ _ h => h)
  obtain ⟨x0, x1, x2, x3, x4, x5, x6, x7, x8, x9⟩ := celw10 (HC1.out.off o2 (fun h => h))
  have HS : Hid (w1.heap.size ≤ w2.heap.size) := o2.size
  have HP1 : Hid (w.heap.size ≤ w1.heap.size) := HO1.out.size
  clear W2 o2
  generalize hq : w1.heap.size = q at HQ HE HS HP1 ⊢
  clear hq
  go_wp2_with fail
  have WC := xwrite_any HQ.out (by decide) m es gs ms HE.out (by rw [← HD.out]; exact HMAY.out)
  rw [← HD.out] at WC
  refine WC.mono ?_
  clear WC
  rintro e w3 ⟨rfl, hq3, o3⟩
  clear x0 x1 x2 x3 x4 x5 x6 x7 x8 x9
  have HQ3 : Hid _ := hq3
  have HO3 : Hid (Off (fun _ => False) w w3) := HO2.out.trans o3 (fun c hc h => h (by have := HP1.out; omega))
  clear hq3 o3
  obtain ⟨st, hst⟩ : ∃ st, st = wrMsg 60000 (some []) (msk m.k) d := ⟨_, rfl⟩
  rw [← hst] at HQ3
  have HST : Hid (st = wrMsg 60000 (some []) (msk d.k) d) := by show st = _; rw [hst, HD.out]; rfl
  clear hst
  go_wp2_with fail
  obtain ⟨D, WD, -⟩ := HQ3.out.ex
  refine (done_any WD (by have := HQ3.out.fit; omega)).mono ?_
  rintro e w4 ⟨t, c, rfl, own, hlo, o4⟩
  have HOW : Hid _ := own
  have HLO : Hid _ := hlo
  have HO4 : Hid _ := HO3.out.trans o4 (fun _ _ h => h)
  have HS3 : Hid (w.heap.size ≤ w3.heap.size) := HO3.out.size
  clear WD own hlo o4
  go_wp2_with fail
  refine bodyPost_ret (results_tmp2 rfl _ _ _) rfl ?_
  exact ⟨t, c, st.getD [], _, rfl, ⟨.inr ⟨HMAY.out, by rw [HST.out], by rw [HST.out]⟩⟩, HOW.out, fun k hk => Nat.le_trans HS3.out (HLO.out k hk), HO4.out⟩
def mgA : Mg := ⟨4, 1, 2, 3, 0, ⟨#[97]⟩, 0, none, 0, 0, none, 0, 0, none, 0, 0⟩
theorem mgA_at (w : World) : MsgAt w mgA [] [] [] := ⟨Ens.nil w none 0 (by omega), rfl, Dgs.nil w none 0 (by omega), rfl, RowD.nil w none 0 (by omega), rfl⟩
theorem mgA_may : MayM (mdM mgA [] [] []) := ⟨by decide, by decide, by decide, by decide, by decide, by decide, by decide, by decide, by decide, fun x hx => (by revert x hx; decide), by decide, fun x hx => (by revert x hx; decide), by decide, fun x hx => (by revert x hx; decide)⟩
theorem mgA_enc {bs : List Nat} {er : Int} (h : EncR (mdM mgA [] [] []) bs er) : bs = [4, 1, 2, 6, 1, 97] ∧ er = 0 := by
 have e : wrMsg 60000 (some []) (msk (mdM mgA [] [] []).k) (mdM mgA [] [] []) = some [4, 1, 2, 6, 1, 97] := by decide +kernel
 rcases h.is with ⟨h1, -⟩ | ⟨-, h2, h3⟩
 ·exact absurd mgA_may h1
 ·rw [e] at h2 h3
  exact ⟨h2, h3⟩
set_option maxHeartbeats 2000000 in
theorem awake_any (w : World) : Calls Try.prog 9 #[] w fun e w' => e = .returned (.bool true) ∧ Off (fun _ => False) w w' := by
 go_enter Try.func9, Try.ntmps9
 go_wp2_with fail
 refine (xencode_any mgA [] [] [] w (mgA_at w)).mono ?_
 rintro e w1 ⟨t, c, bs, er, rfl, hr, own, -, o1⟩
 obtain ⟨rfl, rfl⟩ := mgA_enc hr
 have HO : Hid _ := o1
 obtain ⟨g, rfl, hc⟩ : ∃ g, t = some ⟨g, 0, none⟩ ∧ ∀ j u, (vl [4, 1, 2, 6, 1, 97])[j]? = some u → w1.cell? ⟨g, j, none⟩ = some u := by
  rcases own.shape with ⟨-, h, -⟩ | ⟨g, h1, -, -, h2⟩
  ·cases h
  ·exact ⟨g, h1, h2⟩
 have c3 := hc 3 _ rfl
 have c5 := hc 5 _ rfl
 simp at c3 c5
 clear hr own hc o1
 go_wp2_with fail
 go_ret
 exact ⟨rfl, HO.out⟩
end Go.Proofs.Ytmbphlkohlggfaa
