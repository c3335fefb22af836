/- Items of several texts. -/
import Derived.Test.YtpnnpdfmoldiiaaQLessP
namespace Go.Proofs.Ytpnnpdfmoldiiaa
open Go.RowKit
def dcs (d : Int × Int) : List Value := [.int .i64 d.1, .int .i64 d.2]
theorem dcs_len (d : Int × Int) : (dcs d).length = 2 := rfl
theorem dcs_one (d : Int × Int) : ∀ u ∈ dcs d, u.oneCell' = true := by simp [dcs, Value.oneCell']
theorem Try.infoDt : (Try.prog.info? 81).map (fun i => (i.zero, i.size, i.bytes)) = some (some (.agg #[.int .i64 0, .int .i64 0]), 2, 16) := by kernel_rfl
def dotA (x : A) : Int × Int := (x.node, x.num)
set_option maxRecDepth 100000 in
set_option maxHeartbeats 2000000 in
theorem sdots_any (f : Nat → Int) (a : Option Addr) (cap : Nat) (l : List V) (w : World) (hr : Row w a cap l) :
  Calls Try.prog 49 #[.agg #[.int .i64 (f 0), .int .i64 (f 1), .int .i64 (f 2), .int .i64 (f 3), .int .i64 (f 4), .int .i64 (f 5), .int .i64 (f 6), .int .i64 (f 7), .slice a l.length cap]] w fun e w' => ∃ (t : Option Addr) (c : Nat) (ds : List (Int × Int)), e = .returned (.slice t ds.length c) ∧ OwnG 81 2 dcs w' t c ds ∧ ds = (if mayS f (cont l) = true then (cont l).map dotA else []) ∧ Off (fun _ => False) w w' := by
 have hnot := not_any
 have B0 := Cel.new w 38 #[.int .i64 (f 0), .int .i64 (f 1), .int .i64 (f 2), .int .i64 (f 3), .int .i64 (f 4), .int .i64 (f 5), .int .i64 (f 6), .int .i64 (f 7), .slice a l.length cap]
 have O0 : Off (fun _ => False) w (w.alloc (.cells #[.int .i64 (f 0), .int .i64 (f 1), .int .i64 (f 2), .int .i64 (f 3), .int .i64 (f 4), .int .i64 (f 5), .int .i64 (f 6), .int .i64 (f 7), .slice a l.length cap] 38)) := (Off.refl _ w).alloc _
 have R0 := hr.off O0
 have HW : Hid (∃ W, w.alloc (.cells #[.int .i64 (f 0), .int .i64 (f 1), .int .i64 (f 2), .int .i64 (f 3), .int .i64 (f 4), .int .i64 (f 5), .int .i64 (f 6), .int .i64 (f 7), .slice a l.length cap] 38) = W) := ⟨_, rfl⟩
 obtain ⟨W, hW⟩ := HW.out
 rw [hW] at B0 O0 R0
 obtain ⟨x0, x1, x2, x3, x4, x5, x6, x7, x8⟩ := cel9 B0
 have HB0 : Hid _ := B0
 have HO0 : Hid _ := O0
 have HR0 : Hid _ := R0
 have HWW : Hid _ := hW
 have HRW : Hid _ := hr
 clear B0 O0 R0 hr HW hW
 cases hm : mayS f (cont l)
 ·go_enter Try.func49, Try.ntmps49
  go_wp2_with fail
  rw [HWW.out]
  refine (smay_any f a cap l W HR0.out).mono ?_
  rw [hm]
  rintro e w1 ⟨rfl, o1⟩
  go_wp2_with fail
  go_ret
  exact ⟨none, 0, [], rfl, OwnG.nil _ _ _ _, by simp, HO0.out.trans o1 (fun _ _ h => h)⟩
 have hl : l.length ≤ 16 := by have := (may_iff.1 hm).few; rwa [cont_len] at this
 go_enter Try.func49, Try.ntmps49
 go_wp2_with fail
 rw [HWW.out]
 refine (smay_any f a cap l W HR0.out).mono ?_
 rw [hm]
 rintro e w1 ⟨rfl, o1⟩
 have B1 := HB0.out.off o1 (fun h => h)
 have O1 := HO0.out.trans o1 (fun _ _ h => h)
 have c8 : w1.cell? ⟨w.heap.size, 8, none⟩ = some (.slice a l.length cap) := B1.cell 8
 have HO1 : Hid _ := O1
 clear B1 O1 o1 x0 x1 x2 x3 x4 x5 x6 x7 x8 HB0 HO0 HR0 HWW
 go_wp2_with fail
 go_loopw [3, 12] (fun x y wr => ∃ (n : Nat) (t : Option Addr) (c : Nat) (ds : List (Int × Int)), y = .int .i64 (n : Int) ∧ x = .slice t ds.length c ∧ n ≤ l.length ∧ ds.length = n ∧ OwnG 81 2 dcs wr t c ds ∧ (∀ k, blk t = some k → w.heap.size ≤ k) ∧ ds = (cont (l.take n)).map dotA ∧ Off (fun _ => False) w wr) (fun _ y _ => (l.length - intOf y).toNat)
 case atStart => exact ⟨0, none, 0, [], rfl, rfl, by omega, rfl, OwnG.nil _ _ _ _, fun k hk => by simp [blk] at hk, by simp [cont], HO1.out⟩
 case round =>
  clear HO1 c8
  obtain ⟨n, t, c, ds, rfl, rfl, hn, hdn, own, hlo, hdat, O⟩ := hrel
  have hr1 := HRW.out.off O
  have HOWN : Hid _ := own
  have HLO : Hid _ := hlo
  have HDA : Hid _ := hdat
  have HDN : Hid _ := hdn
  clear own hlo hdat hdn
  by_cases hlt : n < l.length
  ·have e1 : decide ((n : Int) < (l.length : Int)) = true := decide_eq_true (by omega)
   have e2 : decide (n < l.length) = true := decide_eq_true hlt
   obtain ⟨v, hv⟩ : ∃ v, l[n]? = some v := ⟨_, List.getElem?_eq_getElem hlt⟩
   obtain ⟨b, off, rfl, kk, -⟩ := hr1.at_ n v hv
   obtain ⟨k0, k1, k2, k3⟩ := kk
   have OA : Off (fun _ => False) wr ((wr.alloc (.cells #[.int .i64 v.node, .int .i64 v.num, .slice v.ad v.data.length v.cap, .bool v.dead] 117)).alloc (.cells #[.int .i64 v.node, .int .i64 v.num] 81)) := ((Off.refl _ wr).alloc _).alloc _
   have own4 := HOWN.out.off OA (fun _ _ _ h => h)
   have cn := Cel.new1 wr (.cells #[.int .i64 v.node, .int .i64 v.num, .slice v.ad v.data.length v.cap, .bool v.dead] 117) 81 #[.int .i64 v.node, .int .i64 v.num]
   have hcn : ∀ j x, (dcs (v.node, v.num))[j]? = some x → ((wr.alloc (.cells #[.int .i64 v.node, .int .i64 v.num, .slice v.ad v.data.length v.cap, .bool v.dead] 117)).alloc (.cells #[.int .i64 v.node, .int .i64 v.num] 81)).cell? ⟨wr.heap.size + 1, j, none⟩ = some x := fun j x hj => by
    rw [cn.cell j]
    simpa [dcs] using hj
   have HV : Hid _ := hv
   have HO : Hid _ := O
   have HOA : Hid _ := OA
   have hk1 : ds.length ≤ 1000000 := by have := HDN.out; omega
   clear hv hr1 O OA cn
   go_wp2_with (at_builtin; refine wpList_appG rfl (.tmp 16) (.tmp 19) Try.underlying25 Try.infoDt rfl (by decide) (by decide) dcs_len dcs_one rfl t c ds rfl own4 (wr.heap.size + 1) 1 (v.node, v.num) rfl hcn hk1 ?_; intro t' c' w' ys hys own' off' at')
   have HYS : Hid _ := hys.out
   have hyl : ys.length = ds.length + 1 := by rw [hys.out]; simp
   have HYL : Hid _ := hyl
   clear hys hyl hk1
   have HOW' : Hid _ := own'
   have HOF' : Hid _ := off'
   clear own' off' own4 hcn
   go_wp2_with fail
   go_roundw
   case rel =>
    have hyl := HYL.out
    have hdn := HDN.out
    have so := HO.out.size
    simp only [World.size_alloc] at at'
    have tf : ∀ i, blk t' = some i → w.heap.size ≤ i := fun i hi => by
     rcases at' with h9 | h9
     ·exact HLO.out i (h9 ▸ hi)
     ·rw [h9] at hi; simp at hi; omega
    refine ⟨n + 1, t', c', ys, by go_num, rfl, by omega, by omega, HOW'.out, tf, ?_, (HO.out.trans HOA.out (fun _ _ h => h)).trans HOF'.out (fun i hi e => by have := HLO.out i e; omega)⟩
    have ht : l.take (n + 1) = l.take n ++ [v] := by rw [List.take_add_one, HV.out]; rfl
    rw [HYS.out, ht, cont_append, List.map_append, ← HDA.out]
    simp [cont, dotA, V.abs]
   case measure => simp [intOf]; omega
  ·obtain rfl : n = l.length := by omega
   have e1 : decide ((l.length : Int) < (l.length : Int)) = false := decide_eq_false (by omega)
   have e2 : decide (l.length < l.length) = false := decide_eq_false (by omega)
   go_wp2_with fail
   go_ret
   refine ⟨t, c, ds, rfl, HOWN.out, ?_, O⟩
   rw [HDA.out, List.take_length]
end Go.Proofs.Ytpnnpdfmoldiiaa
