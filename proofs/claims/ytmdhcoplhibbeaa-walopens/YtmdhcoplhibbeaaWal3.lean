/- What Compact of a log does; a log that there isn't. -/
import Derived.Test.YtmdhcoplhibbeaaWal2
import Derived.Test.YtmdhcoplhibbeaaRws8
namespace Go.Proofs.Ytmdhcoplhibbeaa
open Go.RowKit

set_option maxRecDepth 100000 in
set_option maxHeartbeats 1000000 in
theorem frames_any {w : World} {t : Option Addr} {c : Nat} {sl : List B} (h : Rws w t c sl) :
    Calls Try.prog 35 #[.slice t sl.length c] w fun e w' => ∃ t1 c1, e = .returned (.tuple #[.slice t1 (frs (sl.map B.data)).length c1, .int .i64 0]) ∧ OwnR w' t1 c1 (frs (sl.map B.data)) ∧ Off (fun _ => False) w w' := by
  have HR : Hid _ := h
  have s30 := h.len
  clear h
  go_enter Try.func35, Try.ntmps35
  go_wp2_with fail
  go_loopw [4, 11] (fun x y wr => ∃ (i : Nat) (t : Option Addr) (c : Nat), y = .int .i64 (i : Int) ∧ x = .slice t (fr sl i).length c ∧ i ≤ sl.length ∧ OwnR wr t c (fr sl i) ∧ (∀ k, blk t = some k → w.heap.size ≤ k) ∧ Off (fun _ => False) w wr) (fun _ y _ => (sl.length - intOf y).toNat)
  case atStart => exact ⟨0, none, 0, rfl, rfl, by omega, OwnR.nil _, fun k hk => by simp [blk] at hk, Off.refl _ _⟩
  case round =>
    obtain ⟨i, t2, c2, rfl, rfl, hi, own, hlo, O⟩ := hrel
    have HOWN : Hid _ := own
    have HLO : Hid _ := hlo
    have HO : Hid _ := O
    clear own hlo O
    by_cases hlt : i < sl.length
    · have e1 : decide ((i : Int) < (sl.length : Int)) = true := decide_eq_true (by omega)
      have e2 : decide (i < sl.length) = true := decide_eq_true hlt
      obtain ⟨x, g, hx, hm, rfl, kc⟩ := (HR.out.off HO.out).at_ hlt
      have HST : Hid _ := fr_succ hx
      have l4 := HR.out.five x hm
      have lf := HR.out.fr_len i
      have P1 : Hid _ := put1_any ((HR.out.inp x hm).free HO.out) (by omega)
      have hfb : (frm x.data).length ≤ 60008 := by rw [frm_len]; omega
      generalize frm x.data = fx at *
      generalize fr sl i = ys at *
      generalize hzz : fr sl (i + 1) = zs at *
      have HZZ : Hid _ := hzz
      clear hzz hx hm
      go_wp2_with fail
      refine Calls.mono P1.out ?_
      rintro e w1 ⟨t1, c1, rfl, R1, fr1, O1⟩
      have HR1 : Hid _ := R1
      have HO1 : Hid _ := O1
      clear P1 R1 fr1 O1 kc
      go_wp2_with (at_builtin; refine wpList_app rfl (.tmp 23) (.tmp 24) rfl t2 c2 ys rfl (HOWN.out.off HO1.out (fun _ _ _ h => h)) t1 c1 fx rfl HR1.out.src (by omega) ?_; intro t' c' w' qs hqs own' off' at')
      have HQ : Hid (qs = zs) := hqs.out.trans HST.out.symm
      have HOW' : Hid _ := own'
      have HOF' : Hid _ := off'
      clear own' off' hqs
      go_wp2_with fail
      go_roundw
      case rel =>
        have s1 := HO.out.size
        have s2 := HO1.out.size
        refine ⟨i + 1, t', c', by go_num, by rw [HZZ.out, ← HQ.out], by omega, by rw [HZZ.out, ← HQ.out]; exact HOW'.out, fun k hk => ?_, (((HO.out.trans HO1.out (fun _ _ h => h)).mono (fun _ _ h => h.elim)).trans HOF'.out (fun _ _ h => h)).mono (fun j hj e => by have := HLO.out j e; omega)⟩
        rcases at' with h9 | h9
        · exact HLO.out k (h9 ▸ hk)
        · rw [h9] at hk
          simp at hk
          omega
      case measure => simp [intOf]; omega
    · have e1 : decide ((i : Int) < (sl.length : Int)) = false := decide_eq_false (by omega)
      have e2 : decide (i < sl.length) = false := decide_eq_false hlt
      have hil : fr sl i = frs (sl.map B.data) := by rw [show i = sl.length by omega, fr_all]
      rw [hil] at HOWN ⊢
      clear hil
      go_wp2_with fail
      go_ret2
      exact ⟨t2, c2, rfl, HOWN.out, HO.out⟩

set_option maxRecDepth 100000 in
set_option maxHeartbeats 1000000 in
theorem wcompact_ok {D : Nat → Prop} {lb b most : Nat} {ds : List Nat} {s k m : Nat} {v : World} (h : Lg D lb b most ds s k m v) {t : Option Addr} {c : Nat} {sl : List B} (hr : Rws v t c sl) (hfit : (frs (sl.map B.data)).length ≤ most) :
    Calls Try.prog 24 #[.pointer (some ⟨lb, 0, none⟩), .slice t sl.length c] v fun e v' => e = .returned (.int .i64 0) ∧ ∃ D', Lg D' lb b most (frs (sl.map B.data)) (frs (sl.map B.data)).length sl.length (frs (sl.map B.data)).length v' ∧ Chg D D' v v' := by
  have hb := h.fit.2
  have s30 := hr.len
  have HL : Hid _ := h
  have HF : Hid _ := frames_any hr
  clear h hr
  generalize frs (sl.map B.data) = fs at *
  go_enter Try.func24, Try.ntmps24
  go_wp2_with fail
  refine Calls.mono HF.out ?_
  rintro e w1 ⟨t1, c1, rfl, own1, o1⟩
  have HL1 : Hid _ := HL.out.free o1
  have O1 : Hid _ := o1
  obtain ⟨D0, K0, sub0, nlb⟩ := HL1.out.dsk
  have C0 : w1.cell? ⟨lb, 0, none⟩ = some (.pointer (some ⟨b, 0, none⟩)) := by rw [HL1.out.log.cell]; rfl
  have A1 : Hid _ := dreplace_any K0 t1 c1 fs own1.src (by omega)
  have e1 : repE most fs = 0 := by rw [repE, if_pos hfit]
  have e2 : repL most ds fs = fs := by rw [repL, if_pos hfit]
  have e3 : repS most s fs = fs.length := by rw [repS, if_pos hfit]
  rw [e1, e2, e3] at A1
  have HSub : Hid _ := sub0
  have HNlb : Hid _ := nlb
  clear e1 e2 e3 sub0 nlb K0 own1 o1 HF
  go_wp2_with fail
  refine Calls.mono A1.out ?_
  rintro e w2 ⟨rfl, D1, K1, o2, d1⟩
  have G2 := HL1.out.log.off o2 HNlb.out
  have HG2 : Hid _ := G2
  have C2 : w2.cell? ⟨lb, 1, none⟩ = some (.int .i64 (k : Int)) := by rw [G2.cell]; rfl
  have C22 : w2.cell? ⟨lb, 2, none⟩ = some (.int .i64 (m : Int)) := by rw [G2.cell]; rfl
  have F2 := G2.free 1
  have F22 := G2.free 2
  have HK1 : Hid _ := K1
  have HD1 : Hid _ := d1
  have O2 : Hid _ := o2
  have N1 : Hid (¬ D1 lb) := fun hh => by
    rcases HD1.out lb hh with a | a
    · exact HNlb.out a
    · have := HL1.out.log.lt
      omega
  clear K1 d1 o2 A1 C0 G2
  go_wp2_with fail
  go_ret
  have G4 : Cel lb 63 #[.pointer (some ⟨b, 0, none⟩), .int .i64 ((sl.length : Nat) : Int), .int .i64 ((fs.length : Nat) : Int)] ((w2.setCell ⟨lb, 1, none⟩ (.int .i64 (sl.length : Int))).setCell ⟨lb, 2, none⟩ (.int .i64 (fs.length : Int))) := (HG2.out.set 1 (.int .i64 (sl.length : Int))).set 2 (.int .i64 (fs.length : Int))
  have O4 : Off (fun c => c = lb) w2 ((w2.setCell ⟨lb, 1, none⟩ (.int .i64 (sl.length : Int))).setCell ⟨lb, 2, none⟩ (.int .i64 (fs.length : Int))) := ((Off.refl (fun c => c = lb) w2).setCell (.inl rfl) _).setCell (.inl rfl) _
  generalize (w2.setCell ⟨lb, 1, none⟩ (.int .i64 (sl.length : Int))).setCell ⟨lb, 2, none⟩ (.int .i64 (fs.length : Int)) = w4 at G4 O4 ⊢
  have K4 := HK1.out.off O4 (fun c _ h e => N1.out (e ▸ h))
  have hlb := HL.out.here
  refine ⟨rfl, fun c => D1 c ∨ c = lb, ⟨.inr rfl, ?_, ⟨D1, K4, fun c h => .inl h, N1.out⟩, G4⟩, Chg.after O1.out ⟨(O2.out.mono (E := D) (fun i _ h => HSub.out i h)).trans O4 (fun i _ h => h ▸ hlb), ?_⟩⟩
  · rintro c (hc | rfl)
    · exact K4.lt c hc
    · exact G4.lt
  · rintro c (hc | rfl)
    · rcases HD1.out c hc with a | a
      · exact .inl (HSub.out c a)
      · exact .inr a
    · exact .inl hlb

set_option maxRecDepth 100000 in
set_option maxHeartbeats 1000000 in
theorem wcompact_no {D : Nat → Prop} {lb b most : Nat} {ds : List Nat} {s k m : Nat} {v : World} (h : Lg D lb b most ds s k m v) {t : Option Addr} {c : Nat} {sl : List B} (hr : Rws v t c sl) (hfit : most < (frs (sl.map B.data)).length) :
    Calls Try.prog 24 #[.pointer (some ⟨lb, 0, none⟩), .slice t sl.length c] v fun e v' => e = .returned (.int .i64 5) ∧ ∃ D', Lg D' lb b most ds s k m v' ∧ Chg D D' v v' := by
  have hb := h.fit.2
  have s30 := hr.len
  have HL : Hid _ := h
  have HF : Hid _ := frames_any hr
  have hfl : (frs (sl.map B.data)).length ≤ 12240 := by have := hr.fr_len sl.length; rwa [fr_all] at this
  clear h hr
  generalize frs (sl.map B.data) = fs at *
  go_enter Try.func24, Try.ntmps24
  go_wp2_with fail
  refine Calls.mono HF.out ?_
  rintro e w1 ⟨t1, c1, rfl, own1, o1⟩
  have HL1 : Hid _ := HL.out.free o1
  have O1 : Hid _ := o1
  obtain ⟨D0, K0, sub0, nlb⟩ := HL1.out.dsk
  have C0 : w1.cell? ⟨lb, 0, none⟩ = some (.pointer (some ⟨b, 0, none⟩)) := by rw [HL1.out.log.cell]; rfl
  have A1 : Hid _ := dreplace_any K0 t1 c1 fs own1.src (by omega)
  have e1 : repE most fs = 5 := by rw [repE, if_neg (by omega)]
  have e2 : repL most ds fs = ds := by rw [repL, if_neg (by omega)]
  have e3 : repS most s fs = s := by rw [repS, if_neg (by omega)]
  rw [e1, e2, e3] at A1
  have HSub : Hid _ := sub0
  have HNlb : Hid _ := nlb
  clear e1 e2 e3 sub0 nlb K0 own1 o1 HF
  go_wp2_with fail
  refine Calls.mono A1.out ?_
  rintro e w2 ⟨rfl, D1, K1, o2, d1⟩
  have HG2 : Hid _ := HL1.out.log.off o2 HNlb.out
  have HK1 : Hid _ := K1
  have HD1 : Hid _ := d1
  have O2 : Hid _ := o2
  have N1 : Hid (¬ D1 lb) := fun hh => by
    rcases HD1.out lb hh with a | a
    · exact HNlb.out a
    · have := HL1.out.log.lt
      omega
  clear K1 d1 o2 A1 C0
  go_wp2_with fail
  go_ret
  have hlb := HL.out.here
  refine ⟨rfl, fun c => D1 c ∨ c = lb, ⟨.inr rfl, ?_, ⟨D1, HK1.out, fun c h => .inl h, N1.out⟩, HG2.out⟩, Chg.after O1.out ⟨(O2.out.mono (E := D) (fun i _ h => HSub.out i h)), ?_⟩⟩
  · rintro c (hc | rfl)
    · exact HK1.out.lt c hc
    · exact HG2.out.lt
  · rintro c (hc | rfl)
    · rcases HD1.out c hc with a | a
      · exact .inl (HSub.out c a)
      · exact .inr a
    · exact .inl hlb
end Go.Proofs.Ytmdhcoplhibbeaa
