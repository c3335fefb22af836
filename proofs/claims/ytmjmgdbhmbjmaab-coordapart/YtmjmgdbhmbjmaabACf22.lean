/- Items of several texts. -/
import Derived.Test.YtmjmgdbhmbjmaabACs22
namespace Go.Proofs.Ytmjmgdbhmbjmaab
set_option maxRecDepth 100000
open Go.RowKit
theorem OpAt.k9 {o : OpD} {w : World} (h : OpAt o w) : w.cell? ⟨o.q, 2, none⟩ = some (.int .i64 (o.kn.f 0)) ∧ w.cell? ⟨o.q, 3, none⟩ = some (.int .i64 (o.kn.f 1)) ∧ w.cell? ⟨o.q, 4, none⟩ = some (.int .i64 (o.kn.f 2)) ∧ w.cell? ⟨o.q, 5, none⟩ = some (.int .i64 (o.kn.f 3)) ∧ w.cell? ⟨o.q, 6, none⟩ = some (.int .i64 (o.kn.f 4)) ∧ w.cell? ⟨o.q, 7, none⟩ = some (.int .i64 (o.kn.f 5)) ∧ w.cell? ⟨o.q, 8, none⟩ = some (.int .i64 (o.kn.f 6)) ∧ w.cell? ⟨o.q, 9, none⟩ = some (.int .i64 (o.kn.f 7)) ∧ w.cell? ⟨o.q, 10, none⟩ = some (.slice o.kn.a o.kn.l.length o.kn.cap) :=
 ⟨h.kn 0 _ rfl, h.kn 1 _ rfl, h.kn 2 _ rfl, h.kn 3 _ rfl, h.kn 4 _ rfl, h.kn 5 _ rfl, h.kn 6 _ rfl, h.kn 7 _ rfl, h.kn 8 _ rfl⟩
theorem OpAt.toldN {o : OpD} {w : World} (h : OpAt o w) {n O : Nat} (hn : n < 8) (hO : O = 11 + 9 * n) : w.rangeAt o.q O (sv9 (o.tl n)) := by
 subst hO
 intro j v hj
 have hl : j < 9 := (List.getElem?_eq_some_iff.1 hj).1
 have := h.told (9 * n + j) v
 rw [Nat.add_assoc]
 refine this ?_
 rw [← hj]
 obtain rfl | rfl | rfl | rfl | rfl | rfl | rfl | rfl : n = 0 ∨ n = 1 ∨ n = 2 ∨ n = 3 ∨ n = 4 ∨ n = 5 ∨ n = 6 ∨ n = 7 := by omega
 all_goals (obtain rfl | rfl | rfl | rfl | rfl | rfl | rfl | rfl | rfl : j = 0 ∨ j = 1 ∨ j = 2 ∨ j = 3 ∨ j = 4 ∨ j = 5 ∨ j = 6 ∨ j = 7 ∨ j = 8 := by omega) <;> rfl
theorem OpAt.ne {o : OpD} {w : World} (h : OpAt o w) : o.cb ≠ o.q := h.cnt.cel.nt h.cel (by decide)
theorem dropO_lt {n : Int} {t : List OpD} {o : OpD} (h : fndO n t = some o) : (dropO n t).length + 1 ≤ t.length := by
 obtain ⟨h1, h2⟩ := fndO_some h
 have : (dropO n t).length < t.length := by
  unfold dropO
  rw [List.length_filter_lt_length_iff_exists]
  exact ⟨o, h1, by simp [h2]⟩
 omega
theorem drop_mem {n : Int} {t : List OpD} {o : OpD} (h : o ∈ dropO n t) : o ∈ t ∧ o.id ≠ n := by
 unfold dropO at h
 rw [List.mem_filter] at h
 exact ⟨h.1, by simpa using h.2⟩
theorem fin2 {D Z : Nat → Prop} {p b : Nat} {x : CM} {w W V V2 V4 : World} (h : CST D Z p x w) (O : Off (fun _ => False) w W) (hb : x.mb = some b) {n err : Int} {o : OpD} (ho : fndO n x.t = some o) {s : SV} (hs : SOk Z w s) (oa : Off (fun _ => False) W V)
  {a2 : Option Addr} {c2 : Nat} (own2 : OwnG 46 11 anC V2 a2 c2 (x.an ++ [⟨n, err, s⟩])) (o2 : Off (fun c => blk x.aa = some c) V V2) (at2 : blk a2 = blk x.aa ∨ blk a2 = some V.heap.size)
  (CP : Cel p 61 #[.int .i64 x.wait, .int .i64 x.last, .map x.mb, .slice x.aa x.an.length x.ac] V2) (hpb : p ≠ b) (hab : blk x.aa ≠ some b) (hown : V4.ownsMap Try.prog 2 hRO b x.t.length ((datumO x.t).del (klO n)))
  (hturn : (V2.setCell ⟨p, 3, none⟩ (.slice a2 (x.an.length + 1) c2)).mapTurned V4 b) :
  ∃ x' D' Z', CST D' Z' p x' V4 ∧ Gro D D' Z Z' w V4 ∧ x'.t = dropO n x.t ∧ x'.an = x.an ++ [⟨n, err, s⟩] ∧ x'.wait = x.wait ∧ x'.last = x.last ∧ (∀ o', OpAt o' w → OpAt o' V4) := by
 have o4 : Off (fun c => c = b) (V2.setCell ⟨p, 3, none⟩ (.slice a2 (x.an.length + 1) c2)) V4 := (Off.refl _ _).grown hturn.grown (fun k hk => .inl (by simpa using hk.symm))
 have o3 : Off (fun c => c = p) V2 (V2.setCell ⟨p, 3, none⟩ (.slice a2 (x.an.length + 1) c2)) := (Off.refl (fun c => c = p) V2).setCell (p := ⟨p, 3, none⟩) (.inl rfl) _
 have o34 : Off (fun c => c = p ∨ c = b) V2 V4 := (o3.mono (fun _ _ h => .inl h)).trans o4 (fun _ _ h => .inr h)
 have oWV : Off (fun _ => False) w V := O.trans oa (fun _ _ h => h)
 have OT : Off (fun c => blk x.aa = some c ∨ c = p ∨ c = b) w V4 := ((oWV.mono (E := fun c => blk x.aa = some c ∨ c = p ∨ c = b) (fun _ _ h => h.elim)).trans (o2.mono (E := fun c => blk x.aa = some c ∨ c = p ∨ c = b) (fun _ _ h => .inl h)) (fun _ _ h => h)).trans o34 (fun _ _ h => .inr h)
 have hDb := (h.map1 b hb).1
 have hbl := (h.map1 b hb).2.lt
 have inD : ∀ c, blk x.aa = some c ∨ c = p ∨ c = b → D c := fun c hc => hc.elim (h.ina c) (fun e => e.elim (fun e => e ▸ h.inp) (fun e => e ▸ hDb))
 have neD : ∀ c, blk a2 = some c → D c ∨ w.heap.size ≤ c := fun c hc => at2.elim (fun e => .inl (h.ina c (e ▸ hc))) (fun e => .inr (by rw [e] at hc; have := oWV.size; simp at hc; omega))
 have keep : ∀ o', OpAt o' w → OpAt o' V4 := fun o' ho' => ho'.off OT
  (fun e => e.elim (h.ans.nt ho'.cel (by decide)) (fun e => e.elim (ho'.cel.nt h.cel (by decide)) (mo_ncel (h.map1 b hb).2 ho'.cel)))
  (fun e => e.elim (h.ans.nt ho'.cnt.cel (by decide)) (fun e => e.elim (ho'.cnt.cel.nt h.cel (by decide)) (mo_ncel (h.map1 b hb).2 ho'.cnt.cel)))
 have G : Gro D (fun c => D c ∨ blk a2 = some c) Z (fun c => Z c ∨ blk a2 = some c) w V4 := ⟨OT.mono (fun c _ hc => inD c hc), fun c hc => hc.elim .inl (neD c), fun c hc => hc.elim .inl (fun e => (neD c e).imp (h.sub c) id), fun c hc => .inl hc⟩
 have hp2 : blk a2 ≠ some p ∧ blk a2 ≠ some b := by
  have h1 := h.cel.lt
  have h2 := oWV.size
  rcases at2 with e | e
  ·rw [e]
   exact ⟨h.ans.nt h.cel (by decide), hab⟩
  ·rw [e]
   simp
   omega
 refine ⟨⟨x.wait, x.last, some b, a2, c2, dropO n x.t, x.an ++ [⟨n, err, s⟩]⟩, _, _, ?_, G, rfl, rfl, rfl, rfl, keep⟩
 refine ⟨?_, fun e => by simp at e, fun b' hb' => ?_, fun y hy => ?_, h.dif.filter _, h.sor.filter _, fun y hy => h.ids y (drop_mem hy).1, Nat.le_trans (List.length_filter_le _ _) h.few, own2.off o34 (fun c _ hc e => e.elim (fun e => hp2.1 (e ▸ hc)) (fun e => hp2.2 (e ▸ hc))), fun c hc => .inr hc, fun y hy => ?_, ?_, h.num, h.wt, .inl h.inp, fun c hc => hc.imp (h.sub c) id, fun c hc => ?_⟩
 ·have := (CP.set 3 (.slice a2 (x.an.length + 1) c2)).off o4 hpb
  simpa [hb] using this
 ·simp only [Option.some.injEq] at hb'
  subst hb'
  refine ⟨.inl hDb, ?_⟩
  rw [del_datumO] at hown
  have := mo_tight hown
  rw [size_datumO] at this
  exact this
 ·obtain ⟨k1, k2, k3, k4, k5⟩ := h.op y (drop_mem hy).1
  exact ⟨keep y k1, .inl k2, .inl k3, k4.gro G h.sub, fun m hm => (k5 m hm).gro G h.sub⟩
 ·rcases List.mem_append.1 hy with hy | hy
  ·exact (h.oks y hy).gro G h.sub
  ·rw [List.mem_singleton] at hy
   rw [hy]
   exact hs.gro G h.sub
 ·have h1 := h.cnt
  have h2 := dropO_lt ho
  simp only [List.length_append, List.length_singleton]
  omega
 ·rcases hc with hc | hc
  ·exact Nat.lt_of_lt_of_le (h.lt c hc) OT.size
  ·exact Nat.lt_of_lt_of_le (own2.lt c hc) o34.size
set_option maxHeartbeats 2000000 in
theorem finish_any {D Z : Nat → Prop} {p : Nat} {x : CM} {w : World} (h : CST D Z p x w) {n : Int} {o : OpD} (ho : fndO n x.t = some o) (hn : wf64 n) (err : Int) (s : SV) (hs : SOk Z w s) :
  Calls Try.prog 24 #[.pointer (some ⟨p, 0, none⟩), .int .i64 n, .int .i64 err, (.agg #[.int .i64 (s.f 0), .int .i64 (s.f 1), .int .i64 (s.f 2), .int .i64 (s.f 3), .int .i64 (s.f 4), .int .i64 (s.f 5), .int .i64 (s.f 6), .int .i64 (s.f 7), .slice s.a s.l.length s.cap])] w fun e w' => e = .returned (.tuple #[]) ∧ ∃ x' D' Z', CST D' Z' p x' w' ∧ Gro D D' Z Z' w w' ∧ x'.t = dropO n x.t ∧ x'.an = x.an ++ [⟨n, err, s⟩] ∧ x'.wait = x.wait ∧ x'.last = x.last ∧ (∀ o', OpAt o' w → OpAt o' w') := by
 obtain ⟨b, hb⟩ : ∃ b, x.mb = some b := by
  cases hm : x.mb with
  | none => rw [h.map0 hm] at ho; cases ho
  | some b => exact ⟨b, rfl⟩
 obtain ⟨W, hW⟩ : ∃ W, W = w.alloc (.cells #[.int .i64 (s.f 0), .int .i64 (s.f 1), .int .i64 (s.f 2), .int .i64 (s.f 3), .int .i64 (s.f 4), .int .i64 (s.f 5), .int .i64 (s.f 6), .int .i64 (s.f 7), .slice s.a s.l.length s.cap] 30) := ⟨_, rfl⟩
 have O : Off (fun _ => False) w W := by rw [hW]; exact (Off.refl _ w).alloc _
 have HB : Hid (Cel w.heap.size 30 #[.int .i64 (s.f 0), .int .i64 (s.f 1), .int .i64 (s.f 2), .int .i64 (s.f 3), .int .i64 (s.f 4), .int .i64 (s.f 5), .int .i64 (s.f 6), .int .i64 (s.f 7), .slice s.a s.l.length s.cap] W) := by rw [hW]; exact Cel.new w _ _
 have HW : Hid (w.alloc (.cells #[.int .i64 (s.f 0), .int .i64 (s.f 1), .int .i64 (s.f 2), .int .i64 (s.f 3), .int .i64 (s.f 4), .int .i64 (s.f 5), .int .i64 (s.f 6), .int .i64 (s.f 7), .slice s.a s.l.length s.cap] 30) = W) := hW.symm
 have HC : Hid _ := h.cel.off O (fun h => h)
 have HA : Hid _ := h.ans.off O (fun _ _ _ h => h)
 have HL : Hid (x.an.length ≤ 1000000) := by have h1 := h.cnt; have h2 := h.num; show _ ≤ _; omega
 have HN : Hid (blk x.aa ≠ some p) := h.ans.nt h.cel (by decide)
 have HH : Hid _ := h
 have HSS : Hid _ := hs
 have HO : Hid _ := O
 have HM : Hid (W.ownsMap Try.prog 2 hRO b x.t.length (datumO x.t)) := mo_off (h.map1 b hb).2 O (fun h => h)
 have HNB : Hid (¬ (blk x.aa = some w.heap.size ∨ w.heap.size = p)) := fun e => e.elim (fun e => by have := h.ans.lt _ e; omega) (fun e => by have := h.cel.lt; omega)
 have HPB : Hid (p ≠ b) := mo_ncel (h.map1 b hb).2 h.cel
 have HAB : Hid (blk x.aa ≠ some b) := by
  intro e
  obtain ⟨cur, hc⟩ := h.ans.cell_at e
  obtain ⟨es, clock, hh, -⟩ := (h.map1 b hb).2
  rw [hh] at hc
  cases hc
 clear h hs O hW
 go_enter Try.func24, Try.ntmps24
 go_upto_region 1 with fail
 rw [HW.out]
 refine wp_region_held_drew (S := fun w' => Off (fun c => blk x.aa = some c ∨ c = p) W w') (by kernel_rfl) ((Off.refl _ W).drew) (fun hS => ?_)
 refine take_at (i := 0) 8 (v := .pointer (some ⟨p, 0, none⟩)) rfl rfl (by kernel_rfl) (by kernel_rfl) (by kernel_rfl) (fun _ _ _ h => h) (Or.inl ⟨by rfl, fun w' hw' => by go_simp⟩) hS ?_
 simp only [Act.put, lsA, lsZ, lsS]
 refine take_at (i := 1) 9 (v := .pointer (some ⟨p, 0, none⟩)) rfl rfl (by kernel_rfl) (by kernel_rfl) (by kernel_rfl) (fun _ _ _ h => h) (Or.inl ⟨by rfl, fun w' hw' => by go_simp⟩) hS ?_
 simp only [Act.put, lsA, lsZ, lsS]
 refine take_at (i := 2) 10 (v := .pointer (some ⟨p, 0, none⟩)) rfl rfl (by kernel_rfl) (by kernel_rfl) (by kernel_rfl) (fun _ _ _ h => h) (Or.inl ⟨by rfl, fun w' hw' => by go_simp⟩) hS ?_
 simp only [Act.put, lsA, lsZ, lsS]
 refine take_at (i := 3) 11 (v := .pointer (some ⟨p, 3, none⟩)) rfl rfl (by kernel_rfl) (by kernel_rfl) (by kernel_rfl) (fun _ _ _ h => h) (Or.inl ⟨by rfl, fun w' hw' => by go_simp⟩) hS ?_
 simp only [Act.put, lsA, lsZ, lsS]
 refine take_at (i := 5) 13 (v := .int .i64 n) rfl rfl (by kernel_rfl) (by kernel_rfl) (by kernel_rfl) (fun _ _ _ h => h) (Or.inl ⟨by rfl, fun w' hw' => by go_simp⟩) hS ?_
 simp only [Act.put, lsA, lsZ, lsS]
 refine take_at (i := 6) 14 (v := .int .i64 err) rfl rfl (by kernel_rfl) (by kernel_rfl) (by kernel_rfl) (fun _ _ _ h => h) (Or.inl ⟨by rfl, fun w' hw' => by go_simp⟩) hS ?_
 simp only [Act.put, lsA, lsZ, lsS]
 refine take_at (i := 7) 15 (v := (.agg #[.int .i64 (s.f 0), .int .i64 (s.f 1), .int .i64 (s.f 2), .int .i64 (s.f 3), .int .i64 (s.f 4), .int .i64 (s.f 5), .int .i64 (s.f 6), .int .i64 (s.f 7), .slice s.a s.l.length s.cap])) rfl rfl (by kernel_rfl) (by kernel_rfl) (by kernel_rfl) (fun _ _ _ h => h) (Or.inl ⟨by rfl, fun w' hw' => by obtain ⟨x0, x1, x2, x3, x4, x5, x6, x7, x8⟩ := cel9 (HB.out.off hw' HNB.out); go_simp⟩) hS ?_
 simp only [Act.put, lsA, lsZ, lsS]
 refine take_at (i := 8) 16 (v := (.agg #[.int .i64 n, .int .i64 err, .int .i64 (s.f 0), .int .i64 (s.f 1), .int .i64 (s.f 2), .int .i64 (s.f 3), .int .i64 (s.f 4), .int .i64 (s.f 5), .int .i64 (s.f 6), .int .i64 (s.f 7), .slice s.a s.l.length s.cap])) rfl rfl (by kernel_rfl) (by kernel_rfl) (by kernel_rfl) (fun _ _ _ h => h) (Or.inl ⟨by rfl, fun w' hw' => by go_simp⟩) hS ?_
 simp only [Act.put, lsA, lsZ, lsS]
 refine wpAnyH_ready (rs := [4, 9]) (by kernel_rfl) (by simp) ?_
 refine AllReadyH.cons rfl (fun K' hK' => ?_) (AllReadyH.cons rfl (fun K' hK' => ?_) AllReadyH.nil)
 ·have c3 := HC.out.drew.cell 3
  simp at c3
  go_simp
  refine hK'.out _ _ hS (fun hS => ?_)
  clear hK' K' c3
  refine wpAnyH_ready (rs := [9]) (by kernel_rfl) (by simp) ?_
  refine AllReadyH.cons rfl (fun K' hK' => ?_) AllReadyH.nil
  go_simp
  have Cn := (Cel.new W 46 #[.int .i64 n, .int .i64 err, .int .i64 (s.f 0), .int .i64 (s.f 1), .int .i64 (s.f 2), .int .i64 (s.f 3), .int .i64 (s.f 4), .int .i64 (s.f 5), .int .i64 (s.f 6), .int .i64 (s.f 7), .slice s.a s.l.length s.cap]).drew
  have oa : Off (fun _ => False) W (W.alloc (.cells #[.int .i64 n, .int .i64 err, .int .i64 (s.f 0), .int .i64 (s.f 1), .int .i64 (s.f 2), .int .i64 (s.f 3), .int .i64 (s.f 4), .int .i64 (s.f 5), .int .i64 (s.f 6), .int .i64 (s.f 7), .slice s.a s.l.length s.cap] 46)).drew := ((Off.refl _ W).alloc _).drew
  have hS1 : Off (fun c => blk x.aa = some c ∨ c = p) W (W.alloc (.cells #[.int .i64 n, .int .i64 err, .int .i64 (s.f 0), .int .i64 (s.f 1), .int .i64 (s.f 2), .int .i64 (s.f 3), .int .i64 (s.f 4), .int .i64 (s.f 5), .int .i64 (s.f 6), .int .i64 (s.f 7), .slice s.a s.l.length s.cap] 46)).drew := oa.mono (fun _ _ h => h.elim)
  refine hK'.out _ _ hS1 (fun hS => ?_)
  clear hK' K' hS1
  generalize hV : (W.alloc (.cells #[.int .i64 n, .int .i64 err, .int .i64 (s.f 0), .int .i64 (s.f 1), .int .i64 (s.f 2), .int .i64 (s.f 3), .int .i64 (s.f 4), .int .i64 (s.f 5), .int .i64 (s.f 6), .int .i64 (s.f 7), .slice s.a s.l.length s.cap] 46)).drew = V at Cn hS oa ⊢
  generalize hG : W.heap.size = G at Cn ⊢
  obtain ⟨a2, c2, V2, hr, own2, o2, at2⟩ := app1_run (tS := 43) Try.underlying43 Try.infoAn rfl (by decide) anC_len anC_one (HA.out.off oa (fun _ _ _ h => h)) (⟨n, err, s⟩ : AnD) (g := G) (fun j u hj => (Cn.cell j).trans (List.getElem?_toArray.trans hj)) ⟨HL.out, by decide⟩ 43
  have HA2 : Hid _ := own2
  have HO2 : Hid _ := o2
  have HT2 : Hid _ := at2
  have HOA : Hid _ := oa
  have CP := (HC.out.off oa (fun h => h)).off o2 HN.out
  have HCP : Hid _ := CP
  have c3 := CP.cell 3
  simp at c3
  have fr := CP.free 3
  have hS2 := hS.trans o2 (fun _ _ h => .inl h)
  clear own2 o2 at2 CP Cn oa hG hV
  refine wpAnyH_ready (rs := [10]) (by kernel_rfl) (by simp) ?_
  refine AllReadyH.cons rfl (fun K' hK' => ?_) AllReadyH.nil
  refine wp_append_if rfl (.tmp 12) (.tmp 17) rfl rfl rfl hr 18 rfl ?_
  simp only [Act.put, lsA, lsZ, lsS]
  clear hr
  refine hK'.out _ _ hS2 (fun hS => ?_)
  clear hK' K' hS2
  refine take_at (i := 11) 19 (v := .pointer (some ⟨p, 0, none⟩)) rfl rfl (by kernel_rfl) (by kernel_rfl) (by kernel_rfl) (fun _ _ _ h => h) (Or.inl ⟨by rfl, fun w' hw' => by go_simp⟩) hS ?_
  simp only [Act.put, lsA, lsZ, lsS]
  refine take_at (i := 12) 20 (v := .pointer (some ⟨p, 3, none⟩)) rfl rfl (by kernel_rfl) (by kernel_rfl) (by kernel_rfl) (fun _ _ _ h => h) (Or.inl ⟨by rfl, fun w' hw' => by go_simp⟩) hS ?_
  simp only [Act.put, lsA, lsZ, lsS]
  refine wpAnyH_ready (rs := [13]) (by kernel_rfl) (by simp) ?_
  refine AllReadyH.cons rfl (fun K' hK' => ?_) AllReadyH.nil
  go_simp
  have hS3 := hS.setCell (p := ⟨p, 3, none⟩) (.inl (.inr rfl)) (.slice a2 (x.an.length + 1) c2)
  refine hK'.out _ _ hS3 (fun hS => ?_)
  clear hK' K' hS3 fr c3
  refine wpAnyH_done (by kernel_rfl) ?_ _
  have CQ := HCP.out.set 3 (.slice a2 (x.an.length + 1) c2)
  have c2' := CQ.cell 2
  simp [hb] at c2'
  have MV := mo_off HM.out (((HOA.out.mono (E := fun c => c = p ∨ blk x.aa = some c) (fun _ _ h => h.elim)).trans (HO2.out.mono (E := fun c => c = p ∨ blk x.aa = some c) (fun _ _ h => .inr h)) (fun _ _ h => h)).setCell (p := ⟨p, 3, none⟩) (.inl (.inl rfl)) (.slice a2 (x.an.length + 1) c2)) (fun e => e.elim (fun e => HPB.out e.symm) HAB.out)
  clear CQ
  generalize hV3 : V2.setCell ⟨p, 3, none⟩ (.slice a2 (x.an.length + 1) c2) = V3 at c2' MV ⊢
  go_wp2_with (first | (at_delete; refine wpList_delete_own _ rfl _ _ 59 2 rfl 63 lawO Try.underlying59 hRO b x.t.length (datumO x.t) rfl MV _ _ rfl (keyO hn) ?_; intro V4 hown4 hturn4) | fail)
  go_end0
  exact ⟨rfl, fin2 HH.out HO.out hb ho HSS.out HOA.out HA2.out HO2.out HT2.out HCP.out HPB.out HAB.out hown4 (hV3 ▸ hturn4)⟩
 ·go_simp
  have Cn := (Cel.new W 46 #[.int .i64 n, .int .i64 err, .int .i64 (s.f 0), .int .i64 (s.f 1), .int .i64 (s.f 2), .int .i64 (s.f 3), .int .i64 (s.f 4), .int .i64 (s.f 5), .int .i64 (s.f 6), .int .i64 (s.f 7), .slice s.a s.l.length s.cap]).drew
  have oa : Off (fun _ => False) W (W.alloc (.cells #[.int .i64 n, .int .i64 err, .int .i64 (s.f 0), .int .i64 (s.f 1), .int .i64 (s.f 2), .int .i64 (s.f 3), .int .i64 (s.f 4), .int .i64 (s.f 5), .int .i64 (s.f 6), .int .i64 (s.f 7), .slice s.a s.l.length s.cap] 46)).drew := ((Off.refl _ W).alloc _).drew
  have hS1 : Off (fun c => blk x.aa = some c ∨ c = p) W (W.alloc (.cells #[.int .i64 n, .int .i64 err, .int .i64 (s.f 0), .int .i64 (s.f 1), .int .i64 (s.f 2), .int .i64 (s.f 3), .int .i64 (s.f 4), .int .i64 (s.f 5), .int .i64 (s.f 6), .int .i64 (s.f 7), .slice s.a s.l.length s.cap] 46)).drew := oa.mono (fun _ _ h => h.elim)
  refine hK'.out _ _ hS1 (fun hS => ?_)
  clear hK' K' hS1
  generalize hV : (W.alloc (.cells #[.int .i64 n, .int .i64 err, .int .i64 (s.f 0), .int .i64 (s.f 1), .int .i64 (s.f 2), .int .i64 (s.f 3), .int .i64 (s.f 4), .int .i64 (s.f 5), .int .i64 (s.f 6), .int .i64 (s.f 7), .slice s.a s.l.length s.cap] 46)).drew = V at Cn hS oa ⊢
  generalize hG : W.heap.size = G at Cn ⊢
  refine wpAnyH_ready (rs := [4]) (by kernel_rfl) (by simp) ?_
  refine AllReadyH.cons rfl (fun K' hK' => ?_) AllReadyH.nil
  have c3 := (HC.out.off oa (fun h => h)).cell 3
  simp at c3
  go_simp
  refine hK'.out _ _ hS (fun hS => ?_)
  clear hK' K' c3
  obtain ⟨a2, c2, V2, hr, own2, o2, at2⟩ := app1_run (tS := 43) Try.underlying43 Try.infoAn rfl (by decide) anC_len anC_one (HA.out.off oa (fun _ _ _ h => h)) (⟨n, err, s⟩ : AnD) (g := G) (fun j u hj => (Cn.cell j).trans (List.getElem?_toArray.trans hj)) ⟨HL.out, by decide⟩ 43
  have HA2 : Hid _ := own2
  have HO2 : Hid _ := o2
  have HT2 : Hid _ := at2
  have HOA : Hid _ := oa
  have CP := (HC.out.off oa (fun h => h)).off o2 HN.out
  have HCP : Hid _ := CP
  have c3 := CP.cell 3
  simp at c3
  have fr := CP.free 3
  have hS2 := hS.trans o2 (fun _ _ h => .inl h)
  clear own2 o2 at2 CP Cn oa hG hV
  refine wpAnyH_ready (rs := [10]) (by kernel_rfl) (by simp) ?_
  refine AllReadyH.cons rfl (fun K' hK' => ?_) AllReadyH.nil
  refine wp_append_if rfl (.tmp 12) (.tmp 17) rfl rfl rfl hr 18 rfl ?_
  simp only [Act.put, lsA, lsZ, lsS]
  clear hr
  refine hK'.out _ _ hS2 (fun hS => ?_)
  clear hK' K' hS2
  refine take_at (i := 11) 19 (v := .pointer (some ⟨p, 0, none⟩)) rfl rfl (by kernel_rfl) (by kernel_rfl) (by kernel_rfl) (fun _ _ _ h => h) (Or.inl ⟨by rfl, fun w' hw' => by go_simp⟩) hS ?_
  simp only [Act.put, lsA, lsZ, lsS]
  refine take_at (i := 12) 20 (v := .pointer (some ⟨p, 3, none⟩)) rfl rfl (by kernel_rfl) (by kernel_rfl) (by kernel_rfl) (fun _ _ _ h => h) (Or.inl ⟨by rfl, fun w' hw' => by go_simp⟩) hS ?_
  simp only [Act.put, lsA, lsZ, lsS]
  refine wpAnyH_ready (rs := [13]) (by kernel_rfl) (by simp) ?_
  refine AllReadyH.cons rfl (fun K' hK' => ?_) AllReadyH.nil
  go_simp
  have hS3 := hS.setCell (p := ⟨p, 3, none⟩) (.inl (.inr rfl)) (.slice a2 (x.an.length + 1) c2)
  refine hK'.out _ _ hS3 (fun hS => ?_)
  clear hK' K' hS3 fr c3
  refine wpAnyH_done (by kernel_rfl) ?_ _
  have CQ := HCP.out.set 3 (.slice a2 (x.an.length + 1) c2)
  have c2' := CQ.cell 2
  simp [hb] at c2'
  have MV := mo_off HM.out (((HOA.out.mono (E := fun c => c = p ∨ blk x.aa = some c) (fun _ _ h => h.elim)).trans (HO2.out.mono (E := fun c => c = p ∨ blk x.aa = some c) (fun _ _ h => .inr h)) (fun _ _ h => h)).setCell (p := ⟨p, 3, none⟩) (.inl (.inl rfl)) (.slice a2 (x.an.length + 1) c2)) (fun e => e.elim (fun e => HPB.out e.symm) HAB.out)
  clear CQ
  generalize hV3 : V2.setCell ⟨p, 3, none⟩ (.slice a2 (x.an.length + 1) c2) = V3 at c2' MV ⊢
  go_wp2_with (first | (at_delete; refine wpList_delete_own _ rfl _ _ 59 2 rfl 63 lawO Try.underlying59 hRO b x.t.length (datumO x.t) rfl MV _ _ rfl (keyO hn) ?_; intro V4 hown4 hturn4) | fail)
  go_end0
  exact ⟨rfl, fin2 HH.out HO.out hb ho HSS.out HOA.out HA2.out HO2.out HT2.out HCP.out HPB.out HAB.out hown4 (hV3 ▸ hturn4)⟩
end Go.Proofs.Ytmjmgdbhmbjmaab
