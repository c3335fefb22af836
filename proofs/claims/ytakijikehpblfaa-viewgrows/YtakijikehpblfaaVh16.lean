/- What changes the program's view: hold, older, Asked, Heard. -/
import Derived.Test.YtakijikehpblfaaVc16
import Derived.Test.YtakijikehpblfaaMc16
import Derived.BigQuiet
namespace Go.Proofs.Ytakijikehpblfaa
set_option maxRecDepth 100000
open Go.RowKit

theorem Off.drewN {D : Nat → Prop} {a w : World} (h : Off D a w) (n : Nat) : Off D a (w.drewN n) := ⟨h.os, h.tape, h.output, h.size, h.block⟩
theorem Cel.drewN {b : Nat} {t : TypeId} {cs : Array Value} {w : World} (h : Cel b t cs w) (n : Nat) : Cel b t cs (w.drewN n) := ⟨h.is⟩
theorem Vw.drewN {p : Nat} {d : VD} {w : World} (h : Vw p d w) (n : Nat) : Vw p d (w.drewN n) := ⟨h.cel.drewN n, h.n8, h.self⟩
/-- x is taken for what i is. -/
def holdD (d : VD) (i : Nat) (x : Int × Int) : VD := if d.m i = x then d else { d with m := upd d.m i x, age := upd d.age i 0 }
theorem eqM_iff {a b : Int × Int} : eqM a.1 a.2 b.1 b.2 = true ↔ a = b := by
  unfold eqM
  rw [decide_eq_true_iff]
  exact ⟨fun h => Prod.ext h.1 h.2, fun h => ⟨congrArg Prod.fst h, congrArg Prod.snd h⟩⟩
theorem hold_any {p : Nat} {d : VD} {i : Nat} (hi : i < d.n) (x : Int × Int) {w : World} (h : Vw p d w) :
    Calls Try.prog 33 #[.pointer (some ⟨p, 0, none⟩), .int .i64 (i : Int), .agg #[.int .i64 x.1, .int .i64 x.2]] w fun e w' => e = .returned (.bool (!eqM (d.m i).1 (d.m i).2 x.1 x.2)) ∧ Vw p (holdD d i x) w' ∧ Off (fun c => c = p) w w' := by
  have HV : Hid _ := h
  have hn := h.n8
  have hlt := h.lt
  have x0 := h.m0 hi
  have x1 := h.m1 hi
  have fr := h.free
  have he := eql_mem (d.m i).1 (d.m i).2 x.1 x.2
  clear h
  cases hE : eqM (d.m i).1 (d.m i).2 x.1 x.2
  · rw [hE] at he
    have HD : Hid (holdD d i x = { d with m := upd d.m i x, age := upd d.age i 0 }) := if_neg (fun h => by rw [eqM_iff.2 h] at hE; cases hE)
    clear hE
    go_enter Try.func33, Try.ntmps33
    go_wp2_with fail
    go_quiet (fail)
    go_wp2_with fail
    generalize hW : (w.alloc (Obj.cells #[.int .i64 x.1, .int .i64 x.2] 46)).drewN nq = W
    have HO : Hid (Off (fun _ => False) w W) := by rw [← hW]; exact ((Off.refl _ w).alloc _).drewN _
    have HB : Hid (Cel w.heap.size 46 #[.int .i64 x.1, .int .i64 x.2] W) := by rw [← hW]; exact (Cel.new w _ _).drewN _
    have HVW : Hid (Vw p d W) := HV.out.off HO.out (fun h => h)
    clear hW x0 x1 fr he
    have fr := HVW.out.free
    have x0 := HVW.out.m0 hi
    have x1 := HVW.out.m1 hi
    have x2 := HVW.out.age hi
    have hi8 : (i : Int) < 8 := by omega
    have b0 : W.cell? ⟨w.heap.size, 0, none⟩ = some (.int .i64 x.1) := HB.out.cell 0
    have b1 : W.cell? ⟨w.heap.size, 1, none⟩ = some (.int .i64 x.2) := HB.out.cell 1
    go_region
    go_wp2_with fail
    go_ret
    rw [HD.out]
    refine ⟨rfl, ((HVW.out.setm hi x).setage hi 0).drew, ?_⟩
    exact (HO.out.mono (fun _ _ h => h.elim)).trans (((((Off.refl (fun c => c = p) W).setCell (.inl rfl) _).setCell (.inl rfl) _).setCell (.inl rfl) _).drew) (fun _ _ h => h)
  · rw [hE] at he
    have HD : Hid (holdD d i x = d) := if_pos (eqM_iff.1 hE)
    clear hE
    go_enter Try.func33, Try.ntmps33
    go_wp2_with fail
    go_quiet (fail)
    go_wp2_with fail
    go_ret
    rw [HD.out]
    exact ⟨rfl, (HV.out.alloc _).drewN _, ((Off.refl _ w).alloc _).drewN _⟩
/-- A Tick finds i. -/
def oldD (d : VD) (i : Nat) : VD := if (d.m i).1 = 1 then { d with age := upd d.age i (d.age i + 1) } else d
theorem older_any {p : Nat} {d : VD} {i : Nat} (hi : i < d.n) (ha : 0 ≤ d.age i ∧ d.age i ≤ 1000000) {w : World} (h : Vw p d w) :
    Calls Try.prog 35 #[.pointer (some ⟨p, 0, none⟩), .int .i64 (i : Int)] w fun e w' => e = .returned (.bool (decide ((d.m i).1 = 1 ∧ d.age i = 5))) ∧ Vw p (oldD d i) w' ∧ Off (fun c => c = p) w w' := by
  have HV : Hid _ := h
  have hn := h.n8
  have x0 := h.m0 hi
  have x2 := h.age hi
  have fr := h.free
  have hi8 : (i : Int) < 8 := by omega
  clear h
  by_cases hs : (d.m i).1 = 1
  · have HD : Hid (oldD d i = { d with age := upd d.age i (d.age i + 1) }) := if_pos hs
    have HB : Hid (decide ((d.m i).1 = 1 ∧ d.age i = 5) = decide (d.age i + 1 = 6)) := decide_eq_decide.2 ⟨fun h => by omega, fun h => ⟨hs, by omega⟩⟩
    rw [hs] at x0
    have e0 : ((1 : Int) != 1) = false := rfl
    have HSS : Hid (Vw p { d with age := upd d.age i (d.age i + 1) } (w.setCell ⟨p, 18 + i, none⟩ (.int .i64 (d.age i + 1)))) := HV.out.setage hi _
    clear hs
    generalize ha' : d.age i = a at *
    clear ha'
    go_enter Try.func35, Try.ntmps35
    go_wp2_with fail
    go_region
    have x3 := (HSS.out.drew).age hi
    simp only [upd_same] at x3
    go_wp2_with fail
    go_ret
    rw [HD.out, HB.out]
    exact ⟨rfl, HSS.out.drew, ((Off.refl (fun c => c = p) w).setCell (.inl rfl) _).drew⟩
  · have HD : Hid (oldD d i = d) := if_neg hs
    have HB : Hid (decide ((d.m i).1 = 1 ∧ d.age i = 5) = false) := decide_eq_false (fun h => hs h.1)
    have e0 : ((d.m i).1 != 1) = true := by simp [hs]
    clear hs
    generalize hm' : (d.m i).1 = s at x0 e0 ⊢
    rw [hm'] at HB
    clear hm'
    go_enter Try.func35, Try.ntmps35
    go_wp2_with fail
    go_ret
    rw [HD.out, HB.out]
    exact ⟨rfl, HV.out, Off.refl _ w⟩
/-- One more question. -/
def askD (d : VD) (k : Int) : VD := if othB d.n d.self k = true then { d with op := upd d.op k.toNat (d.op k.toNat + 1) } else d
theorem asked_any {p : Nat} {d : VD} (k : Int) (ho : ∀ i, i < d.n → -9223372036854775808 ≤ d.op i ∧ d.op i < 9223372036854775807) {w : World} (h : Vw p d w) :
    Calls Try.prog 17 #[.pointer (some ⟨p, 0, none⟩), .int .i64 k] w fun e w' => e = .returned (.tuple #[]) ∧ Vw p (askD d k) w' ∧ Off (fun c => c = p) w w' := by
  have HV : Hid _ := h
  have H1 : Hid _ := other_any k h
  have hn := h.n8
  clear h
  cases hh : othB d.n d.self k
  · rw [hh] at H1
    have HD : Hid (askD d k = d) := if_neg (by simp [hh])
    clear ho hh
    go_enter Try.func17, Try.ntmps17
    go_wp2_with fail
    refine Calls.mono H1.out ?_
    rintro e w2 ⟨rfl, hw⟩
    rw [hw]
    clear hw w2
    go_wp2_with fail
    go_end0
    rw [HD.out]
    exact ⟨rfl, HV.out, Off.refl _ w⟩
  · rw [hh] at H1
    have HD : Hid (askD d k = { d with op := upd d.op k.toNat (d.op k.toNat + 1) }) := if_pos hh
    obtain ⟨i, rfl, hi, -⟩ := othB_of hh
    rw [Int.toNat_natCast] at HD
    have x0 := HV.out.op hi
    have fr := HV.out.free
    have hi8 : (i : Int) < 8 := by omega
    have hb := ho i hi
    have HSS : Hid (Vw p { d with op := upd d.op i (d.op i + 1) } (w.setCell ⟨p, 26 + i, none⟩ (.int .i64 (d.op i + 1)))) := HV.out.setop hi _
    clear ho hh
    generalize ha' : d.op i = a at *
    clear ha'
    go_enter Try.func17, Try.ntmps17
    go_wp2_with fail
    refine Calls.mono H1.out ?_
    rintro e w2 ⟨rfl, hw⟩
    rw [hw]
    clear hw w2
    go_wp2_with fail
    go_region
    go_wp2_with fail
    go_end0
    rw [HD.out]
    exact ⟨rfl, HSS.out.drew, ((Off.refl (fun c => c = p) w).setCell (.inl rfl) _).drew⟩
/-- It was heard. -/
def hearD (d : VD) (k : Int) : VD := if hasB d.n k = true then { d with op := upd d.op k.toNat 0 } else d
theorem heard_any {p : Nat} {d : VD} (k : Int) {w : World} (h : Vw p d w) :
    Calls Try.prog 18 #[.pointer (some ⟨p, 0, none⟩), .int .i64 k] w fun e w' => e = .returned (.tuple #[]) ∧ Vw p (hearD d k) w' ∧ Off (fun c => c = p) w w' := by
  have HV : Hid _ := h
  have H1 : Hid _ := has_any k h
  have hn := h.n8
  clear h
  cases hh : hasB d.n k
  · rw [hh] at H1
    have HD : Hid (hearD d k = d) := if_neg (by simp [hh])
    clear hh
    go_enter Try.func18, Try.ntmps18
    go_wp2_with fail
    refine Calls.mono H1.out ?_
    rintro e w2 ⟨rfl, hw⟩
    rw [hw]
    clear hw w2
    go_wp2_with fail
    go_end0
    rw [HD.out]
    exact ⟨rfl, HV.out, Off.refl _ w⟩
  · rw [hh] at H1
    have HD : Hid (hearD d k = { d with op := upd d.op k.toNat 0 }) := if_pos hh
    obtain ⟨i, rfl, hi⟩ := hasB_of hh
    rw [Int.toNat_natCast] at HD
    have x0 := HV.out.op hi
    have fr := HV.out.free
    have hi8 : (i : Int) < 8 := by omega
    clear hh
    go_enter Try.func18, Try.ntmps18
    go_wp2_with fail
    refine Calls.mono H1.out ?_
    rintro e w2 ⟨rfl, hw⟩
    rw [hw]
    clear hw w2
    go_wp2_with fail
    go_end0
    rw [HD.out]
    exact ⟨rfl, HV.out.setop hi _, (Off.refl (fun c => c = p) w).setCell (.inl rfl) _⟩
theorem asked_nil (k : Int) (w : World) : Calls Try.prog 17 #[.pointer none, .int .i64 k] w fun e w' => e = .returned (.tuple #[]) ∧ w' = w := by
  have H1 : Hid _ := other_nil k w
  go_enter Try.func17, Try.ntmps17
  go_wp2_with fail
  refine Calls.mono H1.out ?_
  rintro e w2 ⟨rfl, hw⟩
  rw [hw]
  clear hw w2
  go_wp2_with fail
  go_end0
  exact ⟨rfl, rfl⟩
theorem heard_nil (k : Int) (w : World) : Calls Try.prog 18 #[.pointer none, .int .i64 k] w fun e w' => e = .returned (.tuple #[]) ∧ w' = w := by
  have H1 : Hid _ := has_nil k w
  go_enter Try.func18, Try.ntmps18
  go_wp2_with fail
  refine Calls.mono H1.out ?_
  rintro e w2 ⟨rfl, hw⟩
  rw [hw]
  clear hw w2
  go_wp2_with fail
  go_end0
  exact ⟨rfl, rfl⟩
end Go.Proofs.Ytakijikehpblfaa
