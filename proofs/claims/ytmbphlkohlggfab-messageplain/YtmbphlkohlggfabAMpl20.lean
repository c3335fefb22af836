/- Items of several texts. -/
import Derived.Test.YtmbphlkohlggfabAXs20
import Derived.Test.YtmbphlkohlggfabACp20
import Derived.Test.YtmbphlkohlggfabALg20
import Derived.Test.YtmbphlkohlggfabAEn20
namespace Go.Proofs.Ytmbphlkohlggfab
set_option maxRecDepth 100000
open Go.RowKit
theorem plain_nf (s : Msk) (m P : Mg) (es ks : List E) (gs hs : List G) (ms m1 : List (Int × Int)) (hm : msk m.k = s) (hk : P.k = m.k) (hf : P.fr = m.fr) (ht : P.tn = m.tn) (ho : P.op = cond s.op m.op 0) (hfo : P.fo = cond s.fo m.fo 0) (hy : P.key = cond s.key m.key ⟨#[]⟩) (hb : P.bk = cond s.bk m.bk 0)
  (he : ks.map E.abs = (cond s.es es []).map E.abs) (hg : hs.map G.abs = (cond s.gs gs []).map G.abs) (h1 : m1 = cond s.ms ms []) : nfM P ks hs m1 = nfM m es gs ms := by
 have hp : msk P.k = s := by rw [hk]; exact hm
 unfold nfM
 rw [hp, hm, nfP_iff]
 obtain ⟨o, f, y, b, e, g, n⟩ := s
 simp only at *
 refine ⟨hk, hf, ht, ?_, ?_, ?_, ?_, ?_, ?_, ?_⟩
 ·show cond o P.op 0 = cond o m.op 0
  rw [ho]
  cases o <;> rfl
 ·show cond f P.fo 0 = cond f m.fo 0
  rw [hfo]
  cases f <;> rfl
 ·show cond y P.key _ = cond y m.key _
  rw [hy]
  cases y <;> rfl
 ·show cond b P.bk 0 = cond b m.bk 0
  rw [hb]
  cases b <;> rfl
 ·cases e
  ·rfl
  ·have : (ks.map E.abs).map nK = (es.map E.abs).map nK := congrArg (List.map nK) he
   rw [List.map_map, List.map_map] at this
   exact this
 ·cases g
  ·rfl
  ·have : (hs.map G.abs).map nGK = (gs.map G.abs).map nGK := congrArg (List.map nGK) hg
   rw [List.map_map, List.map_map] at this
   exact this
 ·rw [h1]
  cases n <;> rfl
theorem cond_len {α : Type} {b : Bool} {l : List α} {n : Nat} (h : l.length ≤ n) : (cond b l []).length ≤ n := by cases b <;> simp [h]
theorem cond_all {α : Type} {b : Bool} {l : List α} {p : α → Prop} (h : ∀ x ∈ l, p x) : ∀ x ∈ cond b l [], p x := by
 cases b
 ·intro x hx
  cases hx
 ·exact h
theorem light_len {es : List E} {gs : List G} {ms : List (Int × Int)} (s : Msk) (h : Light es gs ms) : (cond s.es es []).length ≤ 1000 ∧ (∀ x ∈ cond s.es es [], x.l.length ≤ 1000) ∧ (cond s.gs gs []).length ≤ 1000 ∧ (∀ x ∈ cond s.gs gs [], x.ds.length ≤ 1000) ∧ (cond s.ms ms []).length ≤ 1000 :=
 ⟨cond_len (by have := h.e; omega), cond_all (fun x hx => by have := h.ev x hx; omega), cond_len (by have := h.g; omega), cond_all (fun x hx => by have := h.gv x hx; omega), cond_len (by have := h.m; omega)⟩
theorem map_length_eq {α β : Type} {f : α → β} {l k : List α} (h : l.map f = k.map f) : l.length = k.length := by
 have := congrArg List.length h
 simpa using this
theorem plain_md (s : Msk) (m P : Mg) (es ks : List E) (gs hs : List G) (ms m1 : List (Int × Int)) (hm : msk m.k = s) (hk : P.k = m.k) (hf : P.fr = m.fr) (ht : P.tn = m.tn) (ho : P.op = cond s.op m.op 0) (hfo : P.fo = cond s.fo m.fo 0) (hy : P.key = cond s.key m.key ⟨#[]⟩) (hb : P.bk = cond s.bk m.bk 0)
  (he : ks.map E.abs = (cond s.es es []).map E.abs) (hg : hs.map G.abs = (cond s.gs gs []).map G.abs) (h1 : m1 = cond s.ms ms []) : mdM P ks hs m1 = mdM m es gs ms := by
 have hp : msk P.k = s := by rw [hk]; exact hm
 unfold mdM
 rw [hp, hm]
 obtain ⟨o, f, y, b, e, g, n⟩ := s
 simp only at *
 show MD.mk P.k P.fr P.tn (cond o P.op 0) (cond f P.fo 0) (cond y P.key _) (cond b P.bk 0) _ _ _ = MD.mk m.k m.fr m.tn (cond o m.op 0) (cond f m.fo 0) (cond y m.key _) (cond b m.bk 0) _ _ _
 have e1 : cond o P.op 0 = cond o m.op 0 := by rw [ho]; cases o <;> rfl
 have e2 : cond f P.fo 0 = cond f m.fo 0 := by rw [hfo]; cases f <;> rfl
 have e3 : cond y P.key ⟨#[]⟩ = cond y m.key ⟨#[]⟩ := by rw [hy]; cases y <;> rfl
 have e4 : cond b P.bk 0 = cond b m.bk 0 := by rw [hb]; cases b <;> rfl
 have e5 : (cond e ks []).map E.abs = (cond e es []).map E.abs := by
  cases e
  ·rfl
  ·exact he
 have e6 : (cond g hs []).map G.abs = (cond g gs []).map G.abs := by
  cases g
  ·rfl
  ·exact hg
 have e7 : cond n m1 [] = cond n ms [] := by rw [h1]; cases n <;> rfl
 rw [hk, hf, ht, e1, e2, e3, e4, e5, e6, e7]
theorem light_map {es ks : List E} {gs hs : List G} {ms m1 : List (Int × Int)} (s : Msk) (h : Light es gs ms) (he : ks.map E.abs = (cond s.es es []).map E.abs) (hg : hs.map G.abs = (cond s.gs gs []).map G.abs) (h1 : m1 = cond s.ms ms []) : Light ks hs m1 := by
 have l1 := map_length_eq he
 have l2 := map_length_eq hg
 refine ⟨by rw [l1]; exact cond_len h.e, by rw [l2]; exact cond_len h.g, by rw [h1]; exact cond_len h.m, fun v hv => ?_, fun v hv => ?_⟩
 ·have : v.abs ∈ (cond s.es es []).map E.abs := he ▸ List.mem_map.2 ⟨v, hv, rfl⟩
  obtain ⟨u, hu, e⟩ := List.mem_map.1 this
  have := cond_all (p := fun x : E => x.l.length ≤ 20) h.ev u hu
  have e2 := congrArg (fun k : K => k.l.length) e
  simp only [E.abs, cont_len] at e2
  omega
 ·have : v.abs ∈ (cond s.gs gs []).map G.abs := hg ▸ List.mem_map.2 ⟨v, hv, rfl⟩
  obtain ⟨u, hu, e⟩ := List.mem_map.1 this
  have := cond_all (p := fun x : G => x.ds.length ≤ 30) h.gv u hu
  have e2 := congrArg (fun k : GK => k.ds.length) e
  simp only [G.abs] at e2
  omega
theorem plain_of (m : Mg) (es : List E) (gs : List G) (ms : List (Int × Int)) (w : World) (h : MsgAt w m es gs ms) (hl : Light es gs ms) :
  Calls Try.prog 6 #[(.agg #[.int .i64 m.k, .int .i64 m.fr, .int .i64 m.tn, .int .i64 m.op, .int .i64 m.fo, .string m.key, .int .i64 m.bk, .slice m.ea m.el m.ec, .slice m.da m.dl m.dc, .slice m.ma m.ml m.mc])] w fun e w' => ∃ (P : Mg) (ks : List E) (hs : List G) (m1 : List (Int × Int)), e = .returned ((.agg #[.int .i64 P.k, .int .i64 P.fr, .int .i64 P.tn, .int .i64 P.op, .int .i64 P.fo, .string P.key, .int .i64 P.bk, .slice P.ea P.el P.ec, .slice P.da P.dl P.dc, .slice P.ma P.ml P.mc])) ∧ (∀ U, Off (fun _ => False) w' U → MsgAt U P ks hs m1) ∧ mdM P ks hs m1 = mdM m es gs ms ∧ nfM P ks hs m1 = nfM m es gs ms ∧ Light ks hs m1 ∧ Off (fun _ => False) w w' := by
 obtain ⟨s, hs⟩ : ∃ s, s = msk m.k := ⟨_, rfl⟩
 have hX := h.plain s
 refine (xPlain_core m (plM s m) _ _ _ w hX (fun U => by rw [hs]; exact xbare_any m U) (light_len s hl)).mono ?_
 rintro e w1 ⟨tE, cE, ks, tD, cD, hds, tM, cM, he, hc, o1⟩
 refine ⟨(⟨(plM s m).k, (plM s m).fr, (plM s m).tn, (plM s m).op, (plM s m).fo, (plM s m).key, (plM s m).bk, tE, ks.length, cE, tD, hds.length, cD, tM, (cond s.ms ms []).length, cM⟩ : Mg), ks, hds, cond s.ms ms [], he, fun U ou => ?_, plain_md s m _ es ks gs hds ms _ hs.symm rfl rfl rfl rfl rfl rfl rfl hc.es hc.gs rfl, plain_nf s m _ es ks gs hds ms _ hs.symm rfl rfl rfl rfl rfl rfl rfl hc.es hc.gs rfl, light_map s hl hc.es hc.gs rfl, o1⟩
 obtain ⟨c1, c2, c3⟩ := hc.at_ U (ou.mono (fun _ _ h => h.elim))
 exact ⟨c1, rfl, c2, rfl, c3, rfl⟩
set_option maxHeartbeats 8000000 in
theorem plain_walk (m : Mg) (es : List E) (gs : List G) (ms : List (Int × Int)) (w : World) (h : MsgAt w m es gs ms) : Calls Try.prog 3 #[(.agg #[.int .i64 m.k, .int .i64 m.fr, .int .i64 m.tn, .int .i64 m.op, .int .i64 m.fo, .string m.key, .int .i64 m.bk, .slice m.ea m.el m.ec, .slice m.da m.dl m.dc, .slice m.ma m.ml m.mc])] w fun e w' => e = .returned (.bool true) ∧ Off (fun _ => False) w w' := by
 have C0 := Cel.new w 26 #[.int .i64 m.k, .int .i64 m.fr, .int .i64 m.tn, .int .i64 m.op, .int .i64 m.fo, .string m.key, .int .i64 m.bk, .slice m.ea m.el m.ec, .slice m.da m.dl m.dc, .slice m.ma m.ml m.mc]
 have O0 : Off (fun _ => False) w (w.alloc (.cells #[.int .i64 m.k, .int .i64 m.fr, .int .i64 m.tn, .int .i64 m.op, .int .i64 m.fo, .string m.key, .int .i64 m.bk, .slice m.ea m.el m.ec, .slice m.da m.dl m.dc, .slice m.ma m.ml m.mc] 26)) := (Off.refl _ w).alloc _
 have HX : Hid _ := h
 clear h
 go_enter Try.func3, Try.ntmps3
 go_upto_region 1 with fail
 generalize hv : w.alloc (.cells #[.int .i64 m.k, .int .i64 m.fr, .int .i64 m.tn, .int .i64 m.op, .int .i64 m.fo, .string m.key, .int .i64 m.bk, .slice m.ea m.el m.ec, .slice m.da m.dl m.dc, .slice m.ma m.ml m.mc] 26) = V at C0 O0 ⊢
 generalize w.heap.size = q1 at C0 ⊢
 obtain ⟨x0, x1, x2, x3, x4, x5, x6, x7, x8, x9⟩ := celw10 C0
 have HB0 : Hid _ := C0
 have HO0 : Hid _ := O0
 clear hv C0 O0
 go_wp2_with fail
 refine (light_any m es gs ms _ (HX.out.off HO0.out)).mono ?_
 rintro e w1 ⟨⟨b, rfl, hb⟩, o1⟩
 clear x0 x1 x2 x3 x4 x5 x6 x7 x8 x9
 have HO1 : Hid _ := HO0.out.trans o1 (fun _ _ h => h)
 have HB1 : Hid _ := HB0.out.off o1 (fun h => h)
 clear o1 HO0 HB0
 cases b with
 | false =>
  go_wp2_with fail
  refine (awake_any _).mono ?_
  rintro e w2 ⟨rfl, o2⟩
  go_wp2_with fail
  go_ret
  exact ⟨rfl, HO1.out.trans o2 (fun _ _ h => h)⟩
 | true =>
  have HLT : Hid (Light es gs ms) := hb.1 (by simp)
  clear hb
  obtain ⟨x0, x1, x2, x3, x4, x5, x6, x7, x8, x9⟩ := celw10 HB1.out
  go_wp2_with fail
  refine (plain_of m es gs ms w1 (HX.out.off HO1.out) HLT.out).mono ?_
  rintro e w2 ⟨P, ks, hs, m1, rfl, hat, hmd, hnf, hll, o2⟩
  clear x0 x1 x2 x3 x4 x5 x6 x7 x8 x9
  go_upto_region 4 with fail
  have C3 := Cel.new w2 26 #[.int .i64 P.k, .int .i64 P.fr, .int .i64 P.tn, .int .i64 P.op, .int .i64 P.fo, .string P.key, .int .i64 P.bk, .slice P.ea P.el P.ec, .slice P.da P.dl P.dc, .slice P.ma P.ml P.mc]
  have O3 : Off (fun _ => False) w2 (w2.alloc (.cells #[.int .i64 P.k, .int .i64 P.fr, .int .i64 P.tn, .int .i64 P.op, .int .i64 P.fo, .string P.key, .int .i64 P.bk, .slice P.ea P.el P.ec, .slice P.da P.dl P.dc, .slice P.ma P.ml P.mc] 26)) := (Off.refl _ w2).alloc _
  generalize hv : w2.alloc (.cells #[.int .i64 P.k, .int .i64 P.fr, .int .i64 P.tn, .int .i64 P.op, .int .i64 P.fo, .string P.key, .int .i64 P.bk, .slice P.ea P.el P.ec, .slice P.da P.dl P.dc, .slice P.ma P.ml P.mc] 26) = v3 at C3 O3 ⊢
  generalize w2.heap.size = q3 at C3 ⊢
  have HAT : Hid (∀ U, Off (fun _ => False) v3 U → MsgAt U P ks hs m1) := fun U o => hat U (O3.trans o (fun _ _ h => h))
  have HMD : Hid (mdM P ks hs m1 = mdM m es gs ms) := hmd
  have HNF : Hid (nfM P ks hs m1 = nfM m es gs ms) := hnf
  have HLL : Hid (Light ks hs m1) := hll
  have HB1' : Hid _ := (HB1.out.off o2 (fun h => h)).off O3 (fun h => h)
  have HB3' : Hid _ := C3
  have HO3 : Hid _ := (HO1.out.trans o2 (fun _ _ h => h)).trans O3 (fun _ _ h => h)
  clear hv hat hmd hnf hll o2 O3 C3 HB1 HO1
  obtain ⟨x0, x1, x2, x3, x4, x5, x6, x7, x8, x9⟩ := celw10 HB1'.out
  go_wp2_with fail
  refine (xencode_any m es gs ms _ (HX.out.off HO3.out)).mono ?_
  rintro e w4 ⟨t1, c1, bs, er, rfl, hr1, own1, -, o4⟩
  clear x0 x1 x2 x3 x4 x5 x6 x7 x8 x9
  have HR1 : Hid _ := hr1
  have HW1' : Hid _ := own1
  have HO4 : Hid (Off (fun _ => False) v3 w4) := o4
  clear hr1 own1 o4
  obtain ⟨x0, x1, x2, x3, x4, x5, x6, x7, x8, x9⟩ := celw10 (HB3'.out.off HO4.out (fun h => h))
  go_wp2_with fail
  refine (xencode_any P ks hs m1 _ (HAT.out _ HO4.out)).mono ?_
  rintro e w5 ⟨t2, c2, bs2, er2, rfl, hr2, own2, -, o5⟩
  clear x0 x1 x2 x3 x4 x5 x6 x7 x8 x9
  rw [HMD.out] at hr2
  obtain ⟨rfl, rfl⟩ := HR1.out.uniq hr2
  have HW1 : Hid _ := HW1'.out.off o5 (fun _ _ _ h => h)
  have HW2 : Hid _ := own2
  have HO5 : Hid (Off (fun _ => False) v3 w5) := HO4.out.trans o5 (fun _ _ h => h)
  have HB1 : Hid _ := HB1'.out.off HO5.out (fun h => h)
  have HB3 : Hid _ := HB3'.out.off HO5.out (fun h => h)
  clear hr2 own2 o5 HR1 HW1' HB1' HB3' HO4
  obtain ⟨MP, hmp⟩ : ∃ MP, MP = MayM (mdM m es gs ms) := ⟨_, rfl⟩
  have HM1 : Hid (∀ W, Off (fun _ => False) w5 W → Calls Try.prog 8 #[(.agg #[.int .i64 m.k, .int .i64 m.fr, .int .i64 m.tn, .int .i64 m.op, .int .i64 m.fo, .string m.key, .int .i64 m.bk, .slice m.ea m.el m.ec, .slice m.da m.dl m.dc, .slice m.ma m.ml m.mc])] W fun e w' => Yes MP e ∧ Off (fun _ => False) W w') := fun W o => by rw [hmp]; exact xmay_any m es gs ms W (HX.out.off ((HO3.out.trans HO5.out (fun _ _ h => h)).trans o (fun _ _ h => h)))
  have HM2 : Hid (∀ W, Off (fun _ => False) w5 W → Calls Try.prog 8 #[(.agg #[.int .i64 P.k, .int .i64 P.fr, .int .i64 P.tn, .int .i64 P.op, .int .i64 P.fo, .string P.key, .int .i64 P.bk, .slice P.ea P.el P.ec, .slice P.da P.dl P.dc, .slice P.ma P.ml P.mc])] W fun e w' => Yes MP e ∧ Off (fun _ => False) W w') := fun W o => by rw [hmp, ← HMD.out]; exact xmay_any P ks hs m1 W (HAT.out _ (HO5.out.trans o (fun _ _ h => h)))
  have HS1 : Hid (∀ W, Off (fun _ => False) w5 W → Calls Try.prog 9 #[(.agg #[.int .i64 m.k, .int .i64 m.fr, .int .i64 m.tn, .int .i64 m.op, .int .i64 m.fo, .string m.key, .int .i64 m.bk, .slice m.ea m.el m.ec, .slice m.da m.dl m.dc, .slice m.ma m.ml m.mc]), (.agg #[.int .i64 P.k, .int .i64 P.fr, .int .i64 P.tn, .int .i64 P.op, .int .i64 P.fo, .string P.key, .int .i64 P.bk, .slice P.ea P.el P.ec, .slice P.da P.dl P.dc, .slice P.ma P.ml P.mc])] W fun e w' => e = .returned (.bool true) ∧ Off (fun _ => False) W w') := fun W o => (xsame_any m P es ks gs hs ms m1 W (HX.out.off ((HO3.out.trans HO5.out (fun _ _ h => h)).trans o (fun _ _ h => h))) (HAT.out _ (HO5.out.trans o (fun _ _ h => h)))).mono (fun e w' ⟨⟨b, he, hb⟩, o⟩ => ⟨by rw [he, hb.2 HNF.out.symm], o⟩)
  have HPL : Hid (∀ W, Off (fun _ => False) w5 W → Calls Try.prog 6 #[(.agg #[.int .i64 P.k, .int .i64 P.fr, .int .i64 P.tn, .int .i64 P.op, .int .i64 P.fo, .string P.key, .int .i64 P.bk, .slice P.ea P.el P.ec, .slice P.da P.dl P.dc, .slice P.ma P.ml P.mc])] W fun e w' => ∃ Q : Mg, e = .returned (.agg #[.int .i64 Q.k, .int .i64 Q.fr, .int .i64 Q.tn, .int .i64 Q.op, .int .i64 Q.fo, .string Q.key, .int .i64 Q.bk, .slice Q.ea Q.el Q.ec, .slice Q.da Q.dl Q.dc, .slice Q.ma Q.ml Q.mc]) ∧ (∀ U, Off (fun _ => False) w' U → Calls Try.prog 9 #[.agg #[.int .i64 Q.k, .int .i64 Q.fr, .int .i64 Q.tn, .int .i64 Q.op, .int .i64 Q.fo, .string Q.key, .int .i64 Q.bk, .slice Q.ea Q.el Q.ec, .slice Q.da Q.dl Q.dc, .slice Q.ma Q.ml Q.mc], (.agg #[.int .i64 P.k, .int .i64 P.fr, .int .i64 P.tn, .int .i64 P.op, .int .i64 P.fo, .string P.key, .int .i64 P.bk, .slice P.ea P.el P.ec, .slice P.da P.dl P.dc, .slice P.ma P.ml P.mc])] U fun e w' => e = .returned (.bool true) ∧ Off (fun _ => False) U w') ∧ Off (fun _ => False) W w') := fun W o => (plain_of P ks hs m1 W (HAT.out _ (HO5.out.trans o (fun _ _ h => h))) HLL.out).mono (fun e w' ⟨Q, k2, h2, m2, he, hat, _, hnf, _, o2⟩ => ⟨Q, he, fun U ou => (xsame_any Q P k2 ks h2 hs m2 m1 U (hat U ou) (HAT.out _ (((HO5.out.trans o (fun _ _ h => h)).trans o2 (fun _ _ h => h)).trans ou (fun _ _ h => h)))).mono (fun e w' ⟨⟨b, he, hb⟩, o⟩ => ⟨by rw [he, hb.2 hnf], o⟩), o2⟩)
  clear hmp
  go_upto_region 6 with fail
  refine wp_region_held_drew (S := Off (fun _ => False) w5) (by kernel_rfl) ((Off.refl _ w5).drew) (fun hS => ?_)
  refine take_at (i := 0) 24 (v := (.agg #[.int .i64 m.k, .int .i64 m.fr, .int .i64 m.tn, .int .i64 m.op, .int .i64 m.fo, .string m.key, .int .i64 m.bk, .slice m.ea m.el m.ec, .slice m.da m.dl m.dc, .slice m.ma m.ml m.mc])) rfl rfl (by kernel_rfl) (by kernel_rfl) (by kernel_rfl) (fun _ _ _ h => h) (Or.inl ⟨by rfl, fun w' hw' => by obtain ⟨x0, x1, x2, x3, x4, x5, x6, x7, x8, x9⟩ := celw10 (HB1.out.off hw' (fun h => h)); go_simp⟩) hS ?_
  simp only [Act.put, lsA, lsZ, lsS]
  refine take_at (i := 2) 26 (v := (.agg #[.int .i64 P.k, .int .i64 P.fr, .int .i64 P.tn, .int .i64 P.op, .int .i64 P.fo, .string P.key, .int .i64 P.bk, .slice P.ea P.el P.ec, .slice P.da P.dl P.dc, .slice P.ma P.ml P.mc])) rfl rfl (by kernel_rfl) (by kernel_rfl) (by kernel_rfl) (fun _ _ _ h => h) (Or.inl ⟨by rfl, fun w' hw' => by obtain ⟨x0, x1, x2, x3, x4, x5, x6, x7, x8, x9⟩ := celw10 (HB3.out.off hw' (fun h => h)); go_simp⟩) hS ?_
  simp only [Act.put, lsA, lsZ, lsS]
  refine wpAnyH_ready (rs := [1]) (by kernel_rfl) (by simp) ?_
  refine AllReadyH.cons rfl (fun K' hK' => ?_) AllReadyH.nil
  go_simp
  refine (HM1.out _ hS).mono ?_
  rintro e v ⟨⟨b1, rfl, hb1⟩, o⟩
  have HB1b : Hid (b1 = true ↔ MP) := hb1
  clear hb1
  refine hK'.out _ _ (hS.trans o (fun _ _ h => h)) (fun hS => ?_)
  clear hK' K' o
  refine wpAnyH_ready (rs := [3]) (by kernel_rfl) (by simp) ?_
  refine AllReadyH.cons rfl (fun K' hK' => ?_) AllReadyH.nil
  go_simp
  refine (HM2.out _ hS).mono ?_
  rintro e v ⟨⟨b2, rfl, hb2⟩, o⟩
  have HE12 : Hid ((b1 == b2) = true) := by show _ = _; rw [beq_iff_eq, Bool.eq_iff_iff, HB1b.out, hb2]
  clear hb2
  refine hK'.out _ _ (hS.trans o (fun _ _ h => h)) (fun hS => ?_)
  clear hK' K' o
  refine take_at (i := 4) 28 (v := .bool true) rfl rfl (by kernel_rfl) (by kernel_rfl) (by kernel_rfl) (fun _ _ _ h => h) (Or.inl ⟨by rfl, fun w' hw' => by have hh : (b1 == b2) = true := HE12.out; go_simp⟩) hS ?_
  simp only [Act.put, lsA, lsZ, lsS]
  refine take_at (i := 5) 29 (v := .bool true) rfl rfl (by kernel_rfl) (by kernel_rfl) (by kernel_rfl) (fun _ _ _ h => h) (Or.inl ⟨by rfl, fun w' hw' => by go_simp⟩) hS ?_
  simp only [Act.put, lsA, lsZ, lsS]
  refine take_at (i := 6) 30 (v := (.agg #[.int .i64 m.k, .int .i64 m.fr, .int .i64 m.tn, .int .i64 m.op, .int .i64 m.fo, .string m.key, .int .i64 m.bk, .slice m.ea m.el m.ec, .slice m.da m.dl m.dc, .slice m.ma m.ml m.mc])) rfl rfl (by kernel_rfl) (by kernel_rfl) (by kernel_rfl) (fun _ _ _ h => h) (Or.inl ⟨by rfl, fun w' hw' => by obtain ⟨x0, x1, x2, x3, x4, x5, x6, x7, x8, x9⟩ := celw10 (HB1.out.off hw' (fun h => h)); go_simp⟩) hS ?_
  simp only [Act.put, lsA, lsZ, lsS]
  refine take_at (i := 7) 31 (v := (.agg #[.int .i64 P.k, .int .i64 P.fr, .int .i64 P.tn, .int .i64 P.op, .int .i64 P.fo, .string P.key, .int .i64 P.bk, .slice P.ea P.el P.ec, .slice P.da P.dl P.dc, .slice P.ma P.ml P.mc])) rfl rfl (by kernel_rfl) (by kernel_rfl) (by kernel_rfl) (fun _ _ _ h => h) (Or.inl ⟨by rfl, fun w' hw' => by obtain ⟨x0, x1, x2, x3, x4, x5, x6, x7, x8, x9⟩ := celw10 (HB3.out.off hw' (fun h => h)); go_simp⟩) hS ?_
  simp only [Act.put, lsA, lsZ, lsS]
  refine wpAnyH_ready (rs := [8]) (by kernel_rfl) (by simp) ?_
  refine AllReadyH.cons rfl (fun K' hK' => ?_) AllReadyH.nil
  go_simp
  refine (HS1.out _ hS).mono ?_
  rintro e v ⟨rfl, o⟩
  refine hK'.out _ _ (hS.trans o (fun _ _ h => h)) (fun hS => ?_)
  clear hK' K' o
  refine take_at (i := 9) 33 (v := .bool true) rfl rfl (by kernel_rfl) (by kernel_rfl) (by kernel_rfl) (fun _ _ _ h => h) (Or.inl ⟨by rfl, fun w' hw' => by go_simp⟩) hS ?_
  simp only [Act.put, lsA, lsZ, lsS]
  refine take_at (i := 10) 34 (v := .bool true) rfl rfl (by kernel_rfl) (by kernel_rfl) (by kernel_rfl) (fun _ _ _ h => h) (Or.inl ⟨by rfl, fun w' hw' => by go_simp⟩) hS ?_
  simp only [Act.put, lsA, lsZ, lsS]
  refine take_at (i := 11) 35 (v := .int .i64 er) rfl rfl (by kernel_rfl) (by kernel_rfl) (by kernel_rfl) (fun _ _ _ h => h) (Or.inl ⟨by rfl, fun w' hw' => by go_simp⟩) hS ?_
  simp only [Act.put, lsA, lsZ, lsS]
  refine take_at (i := 12) 36 (v := .int .i64 er) rfl rfl (by kernel_rfl) (by kernel_rfl) (by kernel_rfl) (fun _ _ _ h => h) (Or.inl ⟨by rfl, fun w' hw' => by go_simp⟩) hS ?_
  simp only [Act.put, lsA, lsZ, lsS]
  refine take_at (i := 13) 37 (v := .bool true) rfl rfl (by kernel_rfl) (by kernel_rfl) (by kernel_rfl) (fun _ _ _ h => h) (Or.inl ⟨by rfl, fun w' hw' => by go_simp⟩) hS ?_
  simp only [Act.put, lsA, lsZ, lsS]
  refine take_at (i := 14) 38 (v := .bool true) rfl rfl (by kernel_rfl) (by kernel_rfl) (by kernel_rfl) (fun _ _ _ h => h) (Or.inl ⟨by rfl, fun w' hw' => by go_simp⟩) hS ?_
  simp only [Act.put, lsA, lsZ, lsS]
  refine take_at (i := 15) 39 (v := .bool true) rfl rfl (by kernel_rfl) (by kernel_rfl) (by kernel_rfl) (fun _ _ _ h => h) (Or.inl ⟨by rfl, fun w' hw' => by go_simp⟩) hS ?_
  simp only [Act.put, lsA, lsZ, lsS]
  refine take_at (i := 16) 40 (v := .slice t1 bs.length c1) rfl rfl (by kernel_rfl) (by kernel_rfl) (by kernel_rfl) (fun _ _ _ h => h) (Or.inl ⟨by rfl, fun w' hw' => by go_simp⟩) hS ?_
  simp only [Act.put, lsA, lsZ, lsS]
  refine take_at (i := 17) 41 (v := .string (strOf bs)) rfl rfl (by kernel_rfl) (by kernel_rfl) (by kernel_rfl) (fun _ _ _ h => h) (Or.inl ⟨by rfl, fun w' hw' => by have x := conv_src (HW1.out.off hw' (fun _ _ _ h => h)).src; go_simp⟩) hS ?_
  simp only [Act.put, lsA, lsZ, lsS]
  refine take_at (i := 18) 42 (v := .slice t2 bs.length c2) rfl rfl (by kernel_rfl) (by kernel_rfl) (by kernel_rfl) (fun _ _ _ h => h) (Or.inl ⟨by rfl, fun w' hw' => by go_simp⟩) hS ?_
  simp only [Act.put, lsA, lsZ, lsS]
  refine take_at (i := 19) 43 (v := .string (strOf bs)) rfl rfl (by kernel_rfl) (by kernel_rfl) (by kernel_rfl) (fun _ _ _ h => h) (Or.inl ⟨by rfl, fun w' hw' => by have x := conv_src (HW2.out.off hw' (fun _ _ _ h => h)).src; go_simp⟩) hS ?_
  simp only [Act.put, lsA, lsZ, lsS]
  refine take_at (i := 20) 44 (v := .bool true) rfl rfl (by kernel_rfl) (by kernel_rfl) (by kernel_rfl) (fun _ _ _ h => h) (Or.inl ⟨by rfl, fun w' hw' => by go_simp⟩) hS ?_
  simp only [Act.put, lsA, lsZ, lsS]
  refine take_at (i := 21) 45 (v := .bool true) rfl rfl (by kernel_rfl) (by kernel_rfl) (by kernel_rfl) (fun _ _ _ h => h) (Or.inl ⟨by rfl, fun w' hw' => by go_simp⟩) hS ?_
  simp only [Act.put, lsA, lsZ, lsS]
  refine take_at (i := 22) 46 (v := .bool true) rfl rfl (by kernel_rfl) (by kernel_rfl) (by kernel_rfl) (fun _ _ _ h => h) (Or.inl ⟨by rfl, fun w' hw' => by go_simp⟩) hS ?_
  simp only [Act.put, lsA, lsZ, lsS]
  refine take_at (i := 23) 47 (v := (.agg #[.int .i64 P.k, .int .i64 P.fr, .int .i64 P.tn, .int .i64 P.op, .int .i64 P.fo, .string P.key, .int .i64 P.bk, .slice P.ea P.el P.ec, .slice P.da P.dl P.dc, .slice P.ma P.ml P.mc])) rfl rfl (by kernel_rfl) (by kernel_rfl) (by kernel_rfl) (fun _ _ _ h => h) (Or.inl ⟨by rfl, fun w' hw' => by obtain ⟨x0, x1, x2, x3, x4, x5, x6, x7, x8, x9⟩ := celw10 (HB3.out.off hw' (fun h => h)); go_simp⟩) hS ?_
  simp only [Act.put, lsA, lsZ, lsS]
  refine take_at (i := 25) 49 (v := (.agg #[.int .i64 P.k, .int .i64 P.fr, .int .i64 P.tn, .int .i64 P.op, .int .i64 P.fo, .string P.key, .int .i64 P.bk, .slice P.ea P.el P.ec, .slice P.da P.dl P.dc, .slice P.ma P.ml P.mc])) rfl rfl (by kernel_rfl) (by kernel_rfl) (by kernel_rfl) (fun _ _ _ h => h) (Or.inl ⟨by rfl, fun w' hw' => by obtain ⟨x0, x1, x2, x3, x4, x5, x6, x7, x8, x9⟩ := celw10 (HB3.out.off hw' (fun h => h)); go_simp⟩) hS ?_
  simp only [Act.put, lsA, lsZ, lsS]
  refine wpAnyH_ready (rs := [24]) (by kernel_rfl) (by simp) ?_
  refine AllReadyH.cons rfl (fun K' hK' => ?_) AllReadyH.nil
  go_simp
  refine (HPL.out _ hS).mono ?_
  rintro e v ⟨Q, rfl, hq, o⟩
  have HQM : Hid (∀ U, Off (fun _ => False) v U → Calls Try.prog 9 #[.agg #[.int .i64 Q.k, .int .i64 Q.fr, .int .i64 Q.tn, .int .i64 Q.op, .int .i64 Q.fo, .string Q.key, .int .i64 Q.bk, .slice Q.ea Q.el Q.ec, .slice Q.da Q.dl Q.dc, .slice Q.ma Q.ml Q.mc], (.agg #[.int .i64 P.k, .int .i64 P.fr, .int .i64 P.tn, .int .i64 P.op, .int .i64 P.fo, .string P.key, .int .i64 P.bk, .slice P.ea P.el P.ec, .slice P.da P.dl P.dc, .slice P.ma P.ml P.mc])] U fun e w' => e = .returned (.bool true) ∧ Off (fun _ => False) U w') := hq
  clear hq
  refine hK'.out _ _ (hS.trans o (fun _ _ h => h)) (fun hS => ?_)
  clear hK' K' o
  refine wpAnyH_ready (rs := [26]) (by kernel_rfl) (by simp) ?_
  refine AllReadyH.cons rfl (fun K' hK' => ?_) AllReadyH.nil
  go_simp
  have HQ9 := HQM.out _ (Off.refl _ _)
  refine (HQ9).mono ?_
  clear HQ9
  rintro e v ⟨rfl, o⟩
  refine hK'.out _ _ (hS.trans o (fun _ _ h => h)) (fun hS => ?_)
  clear hK' K' o
  refine take_at (i := 27) 51 (v := .bool true) rfl rfl (by kernel_rfl) (by kernel_rfl) (by kernel_rfl) (fun _ _ _ h => h) (Or.inl ⟨by rfl, fun w' hw' => by go_simp⟩) hS ?_
  simp only [Act.put, lsA, lsZ, lsS]
  refine take_at (i := 28) 52 (v := .bool true) rfl rfl (by kernel_rfl) (by kernel_rfl) (by kernel_rfl) (fun _ _ _ h => h) (Or.inl ⟨by rfl, fun w' hw' => by go_simp⟩) hS ?_
  simp only [Act.put, lsA, lsZ, lsS]
  refine wpAnyH_ready (rs := [29]) (by kernel_rfl) (by simp) ?_
  refine AllReadyH.cons rfl (fun K' hK' => ?_) AllReadyH.nil
  go_simp
  refine (awake_any _).mono ?_
  rintro e v ⟨rfl, o⟩
  refine hK'.out _ _ (hS.trans o (fun _ _ h => h)) (fun hS => ?_)
  clear hK' K' o
  refine take_at (i := 30) 54 (v := .bool true) rfl rfl (by kernel_rfl) (by kernel_rfl) (by kernel_rfl) (fun _ _ _ h => h) (Or.inl ⟨by rfl, fun w' hw' => by go_simp⟩) hS ?_
  simp only [Act.put, lsA, lsZ, lsS]
  refine take_at (i := 31) 2 (v := .bool true) rfl rfl (by kernel_rfl) (by kernel_rfl) (by kernel_rfl) (fun _ _ _ h => h) (Or.inl ⟨by rfl, fun w' hw' => by go_simp⟩) hS ?_
  simp only [Act.put, lsA, lsZ, lsS]
  refine wpAnyH_done (by kernel_rfl) ?_ _
  have HSF : Hid _ := hS
  clear hS
  go_wp2_with fail
  go_ret
  exact ⟨rfl, (HO3.out.trans HO5.out (fun _ _ h => h)).trans HSF.out (fun _ _ h => h)⟩
end Go.Proofs.Ytmbphlkohlggfab
