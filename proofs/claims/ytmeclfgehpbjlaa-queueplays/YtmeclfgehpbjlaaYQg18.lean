/- Items of several texts. -/
import Derived.Test.YtmeclfgehpbjlaaYArgb18
import Derived.Test.YtmeclfgehpbjlaaYQe18
namespace Go.Proofs.Ytmeclfgehpbjlaa
set_option maxRecDepth 100000
open Go.RowKit
theorem celw12 {b : Nat} {t : TypeId} {s0 s1 s2 s3 s4 s5 s6 s7 s8 s9 s10 s11 : Value} {w : World} (h : Cel b t #[s0, s1, s2, s3, s4, s5, s6, s7, s8, s9, s10, s11] w) : w.cell? ⟨b, 0, none⟩ = some s0 ∧ w.cell? ⟨b, 1, none⟩ = some s1 ∧ w.cell? ⟨b, 2, none⟩ = some s2 ∧ w.cell? ⟨b, 3, none⟩ = some s3 ∧ w.cell? ⟨b, 4, none⟩ = some s4 ∧ w.cell? ⟨b, 5, none⟩ = some s5 ∧ w.cell? ⟨b, 6, none⟩ = some s6 ∧ w.cell? ⟨b, 7, none⟩ = some s7 ∧ w.cell? ⟨b, 8, none⟩ = some s8 ∧ w.cell? ⟨b, 9, none⟩ = some s9 ∧ w.cell? ⟨b, 10, none⟩ = some s10 ∧ w.cell? ⟨b, 11, none⟩ = some s11 :=
 ⟨h.cell 0, h.cell 1, h.cell 2, h.cell 3, h.cell 4, h.cell 5, h.cell 6, h.cell 7, h.cell 8, h.cell 9, h.cell 10, h.cell 11⟩
theorem Cls.cells {w : World} {a : Option Addr} {cap : Nat} {cs : List Cl} (h : Cls w a cap cs) {i : Nat} {c : Cl} (hi : cs[i]? = some c) : ∃ b off, a = some ⟨b, off, none⟩ ∧ ∀ w', Off (fun _ => False) w w' → w'.cell? ⟨b, off + i * 12, none⟩ = some (.int .i64 c.k) ∧ w'.cell? ⟨b, off + i * 12 + 1, none⟩ = some (.int .i64 c.u) ∧ w'.cell? ⟨b, off + i * 12 + 2, none⟩ = some (.int .i64 c.m.k) ∧ w'.cell? ⟨b, off + i * 12 + 3, none⟩ = some (.int .i64 c.m.fr) ∧ w'.cell? ⟨b, off + i * 12 + 4, none⟩ = some (.int .i64 c.m.tn) ∧ w'.cell? ⟨b, off + i * 12 + 5, none⟩ = some (.int .i64 c.m.op) ∧ w'.cell? ⟨b, off + i * 12 + 6, none⟩ = some (.int .i64 c.m.fo) ∧ w'.cell? ⟨b, off + i * 12 + 7, none⟩ = some (.string c.m.key) ∧ w'.cell? ⟨b, off + i * 12 + 8, none⟩ = some (.int .i64 c.m.bk) ∧ w'.cell? ⟨b, off + i * 12 + 9, none⟩ = some (.slice c.m.ea c.m.el c.m.ec) ∧ w'.cell? ⟨b, off + i * 12 + 10, none⟩ = some (.slice c.m.da c.m.dl c.m.dc) ∧ w'.cell? ⟨b, off + i * 12 + 11, none⟩ = some (.slice c.m.ma c.m.ml c.m.mc) := by
 obtain ⟨b, off, rfl, h1, -⟩ := h.at_ i c hi
 refine ⟨b, off, rfl, fun w' o => ?_⟩
 have f : ∀ j u, (clcs c)[j]? = some u → w'.cell? ⟨b, off + i * 12 + j, none⟩ = some u := fun j u hj => by
  have h2 := h1 j u hj
  rw [← h2]
  exact World.cell?_of_block (a := ⟨b, off + i * 12 + j, none⟩) (o.block b (cell_lt h2) (fun h => h))
 exact ⟨f 0 _ rfl, f 1 _ rfl, f 2 _ rfl, f 3 _ rfl, f 4 _ rfl, f 5 _ rfl, f 6 _ rfl, f 7 _ rfl, f 8 _ rfl, f 9 _ rfl, f 10 _ rfl, f 11 _ rfl⟩
set_option maxHeartbeats 2000000 in
theorem light_any (k u : Int) (m : Mg) (w : World) (he : m.el ≤ 9223372036854775807) (hd : m.dl ≤ 9223372036854775807) (hm : m.ml ≤ 9223372036854775807) :
  Calls Try.prog 11 #[.agg #[.int .i64 k, .int .i64 u, .int .i64 m.k, .int .i64 m.fr, .int .i64 m.tn, .int .i64 m.op, .int .i64 m.fo, .string m.key, .int .i64 m.bk, .slice m.ea m.el m.ec, .slice m.da m.dl m.dc, .slice m.ma m.ml m.mc]] w fun e w' => ∃ b : Bool, e = .returned (.bool b) ∧ (b = true → m.el ≤ 3 ∧ m.dl ≤ 3 ∧ m.ml ≤ 10) ∧ Off (fun _ => False) w w' := by
 obtain ⟨W, hW⟩ : ∃ W, W = w.alloc (.cells #[.int .i64 k, .int .i64 u, .int .i64 m.k, .int .i64 m.fr, .int .i64 m.tn, .int .i64 m.op, .int .i64 m.fo, .string m.key, .int .i64 m.bk, .slice m.ea m.el m.ec, .slice m.da m.dl m.dc, .slice m.ma m.ml m.mc] 33) := ⟨_, rfl⟩
 have O : Off (fun _ => False) w W := by rw [hW]; exact (Off.refl _ w).alloc _
 have C0 : Cel w.heap.size 33 #[.int .i64 k, .int .i64 u, .int .i64 m.k, .int .i64 m.fr, .int .i64 m.tn, .int .i64 m.op, .int .i64 m.fo, .string m.key, .int .i64 m.bk, .slice m.ea m.el m.ec, .slice m.da m.dl m.dc, .slice m.ma m.ml m.mc] W := by rw [hW]; exact Cel.new w _ _
 go_enter Try.func11, Try.ntmps11
 go_upto_region 1 with fail
 rw [← hW]
 have HO : Hid _ := O
 obtain ⟨x0, x1, x2, x3, x4, x5, x6, x7, x8, x9, x10, x11⟩ := celw12 C0
 clear hW O C0
 generalize w.heap.size = b at x0 x1 x2 x3 x4 x5 x6 x7 x8 x9 x10 x11 ⊢
 by_cases h1 : m.el ≤ 3
 ·have d1 : decide ((m.el : Int) ≤ 3) = true := decide_eq_true (by omega)
  have d1' : decide (m.el ≤ 3) = true := decide_eq_true h1
  by_cases h2 : m.dl ≤ 3
  ·have d2 : decide ((m.dl : Int) ≤ 3) = true := decide_eq_true (by omega)
   have d2' : decide (m.dl ≤ 3) = true := decide_eq_true h2
   by_cases h3 : m.ml ≤ 10
   ·have d3 : decide ((m.ml : Int) ≤ 10) = true := decide_eq_true (by omega)
    have d3' : decide (m.ml ≤ 10) = true := decide_eq_true h3
    go_wp2_with fail
    go_ret
    exact ⟨true, rfl, fun _ => ⟨h1, h2, h3⟩, HO.out⟩
   ·have d3 : decide ((m.ml : Int) ≤ 10) = false := decide_eq_false (by omega)
    have d3' : decide (m.ml ≤ 10) = false := decide_eq_false h3
    go_wp2_with fail
    go_ret
    exact ⟨false, rfl, (fun h => by cases h), HO.out⟩
  ·have d2 : decide ((m.dl : Int) ≤ 3) = false := decide_eq_false (by omega)
   have d2' : decide (m.dl ≤ 3) = false := decide_eq_false h2
   go_wp2_with fail
   go_ret
   exact ⟨false, rfl, (fun h => by cases h), HO.out⟩
 ·have d1 : decide ((m.el : Int) ≤ 3) = false := decide_eq_false (by omega)
  have d1' : decide (m.el ≤ 3) = false := decide_eq_false h1
  go_wp2_with fail
  go_ret
  exact ⟨false, rfl, (fun h => by cases h), HO.out⟩
end Go.Proofs.Ytmeclfgehpbjlaa
