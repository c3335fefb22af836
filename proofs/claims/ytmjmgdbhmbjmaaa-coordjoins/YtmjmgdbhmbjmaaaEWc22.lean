/- Items of several texts. -/
import Derived.Test.YtmjmgdbhmbjmaaaECs22
namespace Go.Proofs.Ytmjmgdbhmbjmaaa
set_option maxRecDepth 100000
open Go.RowKit
theorem canswersP_any {D Z : Nat → Prop} {p : Nat} {x : CM} {w : World} (h : CST D Z p x w) : Calls Try.prog 19 #[.pointer (some ⟨p, 0, none⟩)] w fun e w' => e = .returned (.slice x.aa x.an.length x.ac) ∧ OwnG 67 11 anC w' x.aa x.ac x.an ∧ (∀ y ∈ x.an, SOk Z w' y.s) ∧ CST (fun c => D c ∧ blk x.aa ≠ some c) Z p (noAns x) w' ∧ Gro D (fun c => D c ∧ blk x.aa ≠ some c) Z Z w w' ∧ Off (fun c => c = p) w w' := by
 have hq := eql_pC
 have c3 : w.cell? ⟨p, 3, none⟩ = some (.slice x.aa x.an.length x.ac) := h.cel.cell 3
 have fr := h.cel.free 3
 have HC : Hid _ := h
 have C' := h.cel.set 3 (.slice none 0 0)
 have O : Off (fun c => c = p) w (w.setCell ⟨p, 3, none⟩ (.slice none 0 0)) := (Off.refl (fun c => c = p) w).setCell (p := ⟨p, 3, none⟩) (.inl rfl) _
 have HC' : Hid _ := C'
 have HO : Hid _ := O
 clear h C' O
 go_enter Try.func19, Try.ntmps19
 go_wp2_with fail
 go_ret
 have h := HC.out
 have O := HO.out
 have nan : ∀ c, blk x.aa = some c → c ≠ p := fun c hc e => h.ans.nt h.cel (by decide) (e ▸ hc)
 have OD : Off D w (w.setCell ⟨p, 3, none⟩ (.slice none 0 0)) := O.mono (fun c _ e => e ▸ h.inp)
 refine ⟨rfl, h.ans.off O (fun c _ hc e => nan c hc e), fun y hy => (h.oks y hy).off OD (fun c _ => h.sub c), ?_, ⟨OD, fun c hc => .inl hc.1, fun c hc => .inl hc, fun c hc => hc⟩, O⟩
 refine ⟨HC'.out, h.map0, fun b hb => ⟨⟨(h.map1 b hb).1, fun e => ?_⟩, mo_off (h.map1 b hb).2 O (fun e => mo_ncel (h.map1 b hb).2 h.cel e.symm)⟩, fun o ho => ⟨(h.op o ho).1.off O ((h.op o ho).1.cel.nt h.cel (by decide)) ((h.op o ho).1.cnt.cel.nt h.cel (by decide)), ⟨(h.op o ho).2.1, h.ans.nt (h.op o ho).1.cel (by decide)⟩, ⟨(h.op o ho).2.2.1, h.ans.nt (h.op o ho).1.cnt.cel (by decide)⟩, (h.op o ho).2.2.2.1.off OD (fun c _ => h.sub c), fun n hn => ((h.op o ho).2.2.2.2 n hn).off OD (fun c _ => h.sub c)⟩, h.dif, h.sor, h.ids, h.few, OwnG.nil _ _ _ _, fun c hc => by simp [noAns, blk] at hc, fun y hy => by simp [noAns] at hy, by have := h.cnt; simp only [noAns, List.length_nil]; omega, h.num, h.wt, ⟨h.inp, h.ans.nt h.cel (by decide)⟩, fun c hc => h.sub c hc.1, fun c hc => Nat.lt_of_lt_of_le (h.lt c hc) O.size⟩
 obtain ⟨cur, hc⟩ := h.ans.cell_at e
 obtain ⟨es, clock, hh, -⟩ := (h.map1 b hb).2
 rw [hh] at hc
 cases hc
end Go.Proofs.Ytmjmgdbhmbjmaaa
