/- Items of several texts. -/
import Derived.Test.YtmjmgdbhmbjmaabACl22
namespace Go.Proofs.Ytmjmgdbhmbjmaab
set_option maxRecDepth 100000
open Go.RowKit
def vInt : Value → Int
 | .int _ q => q
 | _ => 0
def inC (x : Int) : List Value := [.int .i64 x]
theorem inC_len (x : Int) : (inC x).length = 1 := rfl
theorem inC_one (x : Int) : ∀ u ∈ inC x, u.oneCell' = true := by simp [inC, Value.oneCell']
theorem Try.infoInt : (Try.prog.info? 3).map (fun i => (i.zero, i.size, i.bytes)) = some (some (.int .i64 0), 1, 8) := by kernel_rfl
def lateB (o : OpD) (n : Nat) : Bool := o.who n && !sameSA (o.tl n).abs o.kn.abs
def behindN (o : OpD) : Nat → List Int
 | 0 => []
 | n + 1 => behindN o n ++ (if lateB o n = true then [(n : Int)] else [])
theorem wpList_appR {P : Program} {ops : Array Oper} {rest : List Oper} {o : Oper} {a : Act} {w w' : World} {Q : Exit → Act → World → Prop} (hgd : o.guard = none) (s x : Operand) {t u : TypeId}
  (ho : o.op = .call { callee := .builtin .append, args := #[s, x], argTypes := #[t, u] }) {v v' X : Value} (hs : a.eval s = v) (hx : a.eval x = X) (hr : (Builtin.append_ #[t, u] o.type #[v, X]).run P w = .ok v' w')
  (h : wpList P ops Q rest (a.put o.dst v') w') : wpList P ops Q (o :: rest) a w := by
 refine wpList_plain hgd fun K' hK' => ?_
 unfold Oper.wp
 simp only [execOp, ho, resolve, invoke, builtin, Sem.run_bind, Sem.run_pure, Result.andThen_ok, List.map_toArray, List.map_cons, List.map_nil, hs, hx, hr]
 exact hK' _ _ h
theorem behind_len (o : OpD) : ∀ n, (behindN o n).length ≤ n
 | 0 => Nat.le_refl _
 | n + 1 => by
  have := behind_len o n
  show (behindN o n ++ _).length ≤ n + 1
  rw [List.length_append]
  split <;> simp <;> omega
set_option maxHeartbeats 2000000 in
theorem behind_any {o : OpD} {w : World} (h : OpAt o w) (hk : Row w o.kn.a o.kn.cap o.kn.l) (ht : ∀ n, n < 8 → Row w (o.tl n).a (o.tl n).cap (o.tl n).l) :
  Calls Try.prog 25 #[.pointer (some ⟨o.q, 0, none⟩)] w fun e w' => ∃ a c l, e = .returned (.slice a l.length c) ∧ OwnG 3 1 inC w' a c l ∧ (∀ b, blk a = some b → w.heap.size ≤ b) ∧ l = behindN o 8 ∧ Off (fun _ => False) w w' := by
 have hl := h.told
 have HO : Hid _ := h
 have HK : Hid _ := hk
 have HT : Hid _ := ht
 have HO0 : Hid (Off (fun _ => False) w w) := Off.refl _ w
 clear h hk ht
 go_enter Try.func25, Try.ntmps25
 go_wp2_with (first | (refine wpList_load_mid rfl 65 _ rfl o.q 11 rfl (told72 o) _ hl Try.underlying65 rfl (by kernel_rfl) ?_) | fail)
 clear hl
 rename World => w0
 go_loopw [3, 10] (fun s3 s10 wr => ∃ (i : Nat) (a : Option Addr) (c : Nat) (l : List Int), s10 = .int .i64 (i : Int) ∧ i ≤ 8 ∧ s3 = .slice a l.length c ∧ (OwnG 3 1 inC wr a c l ∧ ∀ b, blk a = some b → w0.heap.size ≤ b) ∧ l = behindN o i ∧ Off (fun _ => False) w0 wr) (fun _ s10 _ => (8 - vInt s10).toNat)
 case atStart => exact ⟨0, none, 0, [], rfl, by omega, rfl, ⟨OwnG.nil _ _ _ _, fun b hb => by simp [blk] at hb⟩, rfl, HO0.out⟩
 case round =>
  obtain ⟨i, a, c, l, rfl, hi, rfl, RL, hl, OO⟩ := hrel
  have HRL : Hid _ := RL
  have HLB : Hid _ := hl
  have HOO : Hid _ := OO
  clear RL hl OO
  by_cases h8 : i < 8
  ·have hd : decide ((i : Int) < 8) = true := decide_eq_true (by omega)
   have hx := idx_told o h8
   obtain ⟨V, hV⟩ : ∃ V, V = wr.alloc (.cells #[.int .i64 ((o.tl i).f 0), .int .i64 ((o.tl i).f 1), .int .i64 ((o.tl i).f 2), .int .i64 ((o.tl i).f 3), .int .i64 ((o.tl i).f 4), .int .i64 ((o.tl i).f 5), .int .i64 ((o.tl i).f 6), .int .i64 ((o.tl i).f 7), .slice (o.tl i).a (o.tl i).l.length (o.tl i).cap] 30) := ⟨_, rfl⟩
   have OV : Off (fun _ => False) wr V := by rw [hV]; exact (Off.refl _ wr).alloc _
   have OT := HOO.out.trans OV (fun _ _ h => h)
   have HOT : Hid _ := OT
   have HOV : Hid _ := HO.out.off OT (fun h => h) (fun h => h)
   have HBV : Hid (Cel wr.heap.size 30 #[.int .i64 ((o.tl i).f 0), .int .i64 ((o.tl i).f 1), .int .i64 ((o.tl i).f 2), .int .i64 ((o.tl i).f 3), .int .i64 ((o.tl i).f 4), .int .i64 ((o.tl i).f 5), .int .i64 ((o.tl i).f 6), .int .i64 ((o.tl i).f 7), .slice (o.tl i).a (o.tl i).l.length (o.tl i).cap] V) := by rw [hV]; exact Cel.new wr _ _
   have HTR : Hid _ := (HT.out i h8).off OT
   have HKR : Hid _ := HK.out.off OT
   have HVV : Hid (OwnG 3 1 inC V a c l) := HRL.out.1.off OV (fun _ _ _ h => h)
   have HLE : Hid (l.length ≤ 8) := (by rw [HLB.out]; have := behind_len o i; show _ ≤ _; omega : l.length ≤ 8)
   clear OV OT
   have HWV : Hid (wr.alloc (.cells #[.int .i64 ((o.tl i).f 0), .int .i64 ((o.tl i).f 1), .int .i64 ((o.tl i).f 2), .int .i64 ((o.tl i).f 3), .int .i64 ((o.tl i).f 4), .int .i64 ((o.tl i).f 5), .int .i64 ((o.tl i).f 6), .int .i64 ((o.tl i).f 7), .slice (o.tl i).a (o.tl i).l.length (o.tl i).cap] 30) = V) := hV.symm
   clear hV
   go_upto_region 5 with fail
   rw [HWV.out]
   have OVd : Off (fun _ => False) w0 V.drew := HOT.out.drew
   cases hw : o.who i
   ·have HW2 : Hid ((okN (i : Int) && o.who (i : Int).toNat) = false) := (by rw [Int.toNat_natCast, hw, Bool.and_false] : _ = false)
    have hb : behindN o (i + 1) = behindN o i := by
     show behindN o i ++ _ = _
     simp [lateB, hw]
    refine wp_region_held_drew (S := fun w' => Off (fun _ => False) V w') (by kernel_rfl) ((Off.refl _ V).drew) (fun hS => ?_)
    refine take_at (i := 0) 14 (v := .pointer (some ⟨o.q, 0, none⟩)) rfl rfl (by kernel_rfl) (by kernel_rfl) (by kernel_rfl) (fun _ _ _ h => h) (Or.inl ⟨by rfl, fun w' hw' => by go_simp⟩) hS ?_
    simp only [Act.put, lsA, lsZ, lsS]
    refine take_at (i := 1) 15 (v := .pointer (some ⟨o.q, 0, none⟩)) rfl rfl (by kernel_rfl) (by kernel_rfl) (by kernel_rfl) (fun _ _ _ h => h) (Or.inl ⟨by rfl, fun w' hw' => by go_simp⟩) hS ?_
    simp only [Act.put, lsA, lsZ, lsS]
    refine take_at (i := 2) 16 (v := .pointer (some ⟨o.q, 83, none⟩)) rfl rfl (by kernel_rfl) (by kernel_rfl) (by kernel_rfl) (fun _ _ _ h => h) (Or.inl ⟨by rfl, fun w' hw' => by go_simp⟩) hS ?_
    simp only [Act.put, lsA, lsZ, lsS]
    refine take_at (i := 3) 17 (v := .pointer (some ⟨o.cb, 0, none⟩)) rfl rfl (by kernel_rfl) (by kernel_rfl) (by kernel_rfl) (fun _ _ _ h => h) (Or.inl ⟨by rfl, fun w' hw' => by have c83 := (HOV.out.off hw' (fun h => h) (fun h => h)).c83; go_simp⟩) hS ?_
    simp only [Act.put, lsA, lsZ, lsS]
    refine take_at (i := 4) 18 (v := .int .i64 (i : Int)) rfl rfl (by kernel_rfl) (by kernel_rfl) (by kernel_rfl) (fun _ _ _ h => h) (Or.inl ⟨by rfl, fun w' hw' => by go_simp⟩) hS ?_
    simp only [Act.put, lsA, lsZ, lsS]
    refine wpAnyH_ready (rs := [5]) (by kernel_rfl) (by simp) ?_
    refine AllReadyH.cons rfl (fun K' hK' => ?_) AllReadyH.nil
    go_simp
    refine Calls.mono (has_any (HOV.out.off hS (fun h => h) (fun h => h)).cnt (i : Int)) ?_
    rw [HW2.out]
    rintro e v1 ⟨rfl, hw1⟩
    rw [hw1]
    refine hK'.out _ _ hS (fun hS => ?_)
    clear hK' K' hw1 v1
    refine take_at (i := 6) 20 (v := .bool false) rfl rfl (by kernel_rfl) (by kernel_rfl) (by kernel_rfl) (fun _ _ _ h => h) (Or.inl ⟨by rfl, fun w' hw' => by go_simp⟩) hS ?_
    simp only [Act.put, lsA, lsZ, lsS]
    refine take_at (i := 7) 21 (v := undef) rfl rfl (by kernel_rfl) (by kernel_rfl) (by kernel_rfl) (fun _ _ _ h => h) (Or.inr ⟨by rfl, rfl⟩) hS ?_
    simp only [Act.put, lsA, lsZ, lsS]
    refine take_at (i := 8) 22 (v := undef) rfl rfl (by kernel_rfl) (by kernel_rfl) (by kernel_rfl) (fun _ _ _ h => h) (Or.inr ⟨by rfl, rfl⟩) hS ?_
    simp only [Act.put, lsA, lsZ, lsS]
    refine take_at (i := 9) 23 (v := undef) rfl rfl (by kernel_rfl) (by kernel_rfl) (by kernel_rfl) (fun _ _ _ h => h) (Or.inr ⟨by rfl, rfl⟩) hS ?_
    simp only [Act.put, lsA, lsZ, lsS]
    refine take_at (i := 10) 24 (v := undef) rfl rfl (by kernel_rfl) (by kernel_rfl) (by kernel_rfl) (fun _ _ _ h => h) (Or.inr ⟨by rfl, rfl⟩) hS ?_
    simp only [Act.put, lsA, lsZ, lsS]
    refine take_at (i := 11) 25 (v := undef) rfl rfl (by kernel_rfl) (by kernel_rfl) (by kernel_rfl) (fun _ _ _ h => h) (Or.inr ⟨by rfl, rfl⟩) hS ?_
    simp only [Act.put, lsA, lsZ, lsS]
    refine take_at (i := 12) 26 (v := undef) rfl rfl (by kernel_rfl) (by kernel_rfl) (by kernel_rfl) (fun _ _ _ h => h) (Or.inr ⟨by rfl, rfl⟩) hS ?_
    simp only [Act.put, lsA, lsZ, lsS]
    refine take_at (i := 13) 27 (v := undef) rfl rfl (by kernel_rfl) (by kernel_rfl) (by kernel_rfl) (fun _ _ _ h => h) (Or.inr ⟨by rfl, rfl⟩) hS ?_
    simp only [Act.put, lsA, lsZ, lsS]
    refine take_at (i := 14) 28 (v := .bool false) rfl rfl (by kernel_rfl) (by kernel_rfl) (by kernel_rfl) (fun _ _ _ h => h) (Or.inl ⟨by rfl, fun w' hw' => by go_simp⟩) hS ?_
    simp only [Act.put, lsA, lsZ, lsS]
    refine wpAnyH_done (by kernel_rfl) ?_ _
    go_wp2_with fail
    go_roundw
    case rel => exact ⟨i + 1, a, c, l, by go_num, by omega, rfl, ⟨HVV.out.off (Off.refl (fun _ => False) V).drew (fun _ _ _ h => h), HRL.out.2⟩, by rw [hb]; exact HLB.out, OVd⟩
    case measure => simp [vInt]; omega
   ·have HW2 : Hid ((okN (i : Int) && o.who (i : Int).toNat) = true) := (by rw [okN_of h8, Int.toNat_natCast, hw]; rfl : _ = true)
    cases hs : sameSA (o.tl i).abs o.kn.abs
    ·have HSA : Hid (sameSA (o.tl i).abs o.kn.abs = false) := hs
     have hb : behindN o (i + 1) = behindN o i ++ [(i : Int)] := by
      show behindN o i ++ _ = _
      simp [lateB, hw, hs]
     have HBB : Hid _ := hb
     clear hb
     refine wp_region_held_drew (S := fun w' => Off (fun _ => False) V w') (by kernel_rfl) ((Off.refl _ V).drew) (fun hS => ?_)
     refine take_at (i := 0) 14 (v := .pointer (some ⟨o.q, 0, none⟩)) rfl rfl (by kernel_rfl) (by kernel_rfl) (by kernel_rfl) (fun _ _ _ h => h) (Or.inl ⟨by rfl, fun w' hw' => by go_simp⟩) hS ?_
     simp only [Act.put, lsA, lsZ, lsS]
     refine take_at (i := 1) 15 (v := .pointer (some ⟨o.q, 0, none⟩)) rfl rfl (by kernel_rfl) (by kernel_rfl) (by kernel_rfl) (fun _ _ _ h => h) (Or.inl ⟨by rfl, fun w' hw' => by go_simp⟩) hS ?_
     simp only [Act.put, lsA, lsZ, lsS]
     refine take_at (i := 2) 16 (v := .pointer (some ⟨o.q, 83, none⟩)) rfl rfl (by kernel_rfl) (by kernel_rfl) (by kernel_rfl) (fun _ _ _ h => h) (Or.inl ⟨by rfl, fun w' hw' => by go_simp⟩) hS ?_
     simp only [Act.put, lsA, lsZ, lsS]
     refine take_at (i := 3) 17 (v := .pointer (some ⟨o.cb, 0, none⟩)) rfl rfl (by kernel_rfl) (by kernel_rfl) (by kernel_rfl) (fun _ _ _ h => h) (Or.inl ⟨by rfl, fun w' hw' => by have c83 := (HOV.out.off hw' (fun h => h) (fun h => h)).c83; go_simp⟩) hS ?_
     simp only [Act.put, lsA, lsZ, lsS]
     refine take_at (i := 4) 18 (v := .int .i64 (i : Int)) rfl rfl (by kernel_rfl) (by kernel_rfl) (by kernel_rfl) (fun _ _ _ h => h) (Or.inl ⟨by rfl, fun w' hw' => by go_simp⟩) hS ?_
     simp only [Act.put, lsA, lsZ, lsS]
     refine wpAnyH_ready (rs := [5]) (by kernel_rfl) (by simp) ?_
     refine AllReadyH.cons rfl (fun K' hK' => ?_) AllReadyH.nil
     go_simp
     refine Calls.mono (has_any (HOV.out.off hS (fun h => h) (fun h => h)).cnt (i : Int)) ?_
     rw [HW2.out]
     rintro e v1 ⟨rfl, hw1⟩
     rw [hw1]
     refine hK'.out _ _ hS (fun hS => ?_)
     clear hK' K' hw1 v1
     refine take_at (i := 6) 20 (v := .bool true) rfl rfl (by kernel_rfl) (by kernel_rfl) (by kernel_rfl) (fun _ _ _ h => h) (Or.inl ⟨by rfl, fun w' hw' => by go_simp⟩) hS ?_
     simp only [Act.put, lsA, lsZ, lsS]
     refine take_at (i := 7) 21 (v := (.agg #[.int .i64 ((o.tl i).f 0), .int .i64 ((o.tl i).f 1), .int .i64 ((o.tl i).f 2), .int .i64 ((o.tl i).f 3), .int .i64 ((o.tl i).f 4), .int .i64 ((o.tl i).f 5), .int .i64 ((o.tl i).f 6), .int .i64 ((o.tl i).f 7), .slice (o.tl i).a (o.tl i).l.length (o.tl i).cap])) rfl rfl (by kernel_rfl) (by kernel_rfl) (by kernel_rfl) (fun _ _ _ h => h) (Or.inl ⟨by rfl, fun w' hw' => by obtain ⟨x0, x1, x2, x3, x4, x5, x6, x7, x8⟩ := cel9 (HBV.out.off hw' (fun h => h)); go_simp⟩) hS ?_
     simp only [Act.put, lsA, lsZ, lsS]
     refine take_at (i := 8) 22 (v := .pointer (some ⟨o.q, 0, none⟩)) rfl rfl (by kernel_rfl) (by kernel_rfl) (by kernel_rfl) (fun _ _ _ h => h) (Or.inl ⟨by rfl, fun w' hw' => by go_simp⟩) hS ?_
     simp only [Act.put, lsA, lsZ, lsS]
     refine take_at (i := 9) 23 (v := .pointer (some ⟨o.q, 0, none⟩)) rfl rfl (by kernel_rfl) (by kernel_rfl) (by kernel_rfl) (fun _ _ _ h => h) (Or.inl ⟨by rfl, fun w' hw' => by go_simp⟩) hS ?_
     simp only [Act.put, lsA, lsZ, lsS]
     refine take_at (i := 10) 24 (v := .pointer (some ⟨o.q, 2, none⟩)) rfl rfl (by kernel_rfl) (by kernel_rfl) (by kernel_rfl) (fun _ _ _ h => h) (Or.inl ⟨by rfl, fun w' hw' => by go_simp⟩) hS ?_
     simp only [Act.put, lsA, lsZ, lsS]
     refine take_at (i := 11) 25 (v := (.agg #[.int .i64 (o.kn.f 0), .int .i64 (o.kn.f 1), .int .i64 (o.kn.f 2), .int .i64 (o.kn.f 3), .int .i64 (o.kn.f 4), .int .i64 (o.kn.f 5), .int .i64 (o.kn.f 6), .int .i64 (o.kn.f 7), .slice o.kn.a o.kn.l.length o.kn.cap])) rfl rfl (by kernel_rfl) (by kernel_rfl) (by kernel_rfl) (fun _ _ _ h => h) (Or.inl ⟨by rfl, fun w' hw' => by obtain ⟨x0, x1, x2, x3, x4, x5, x6, x7, x8⟩ := (HOV.out.off hw' (fun h => h) (fun h => h)).k9; go_simp⟩) hS ?_
     simp only [Act.put, lsA, lsZ, lsS]
     refine wpAnyH_ready (rs := [12]) (by kernel_rfl) (by simp) ?_
     refine AllReadyH.cons rfl (fun K' hK' => ?_) AllReadyH.nil
     go_simp
     refine Calls.mono (ssameS (o.tl i) o.kn _ (HTR.out.off hS) (HKR.out.off hS)) ?_
     rw [HSA.out]
     rintro e v1 ⟨rfl, o1⟩
     have hS1 := hS.trans o1 (fun _ _ h => h)
     refine hK'.out _ _ hS1 (fun hS => ?_)
     clear hK' K' hS1 o1
     refine take_at (i := 13) 27 (v := .bool true) rfl rfl (by kernel_rfl) (by kernel_rfl) (by kernel_rfl) (fun _ _ _ h => h) (Or.inl ⟨by rfl, fun w' hw' => by go_simp⟩) hS ?_
     simp only [Act.put, lsA, lsZ, lsS]
     refine take_at (i := 14) 28 (v := .bool true) rfl rfl (by kernel_rfl) (by kernel_rfl) (by kernel_rfl) (fun _ _ _ h => h) (Or.inl ⟨by rfl, fun w' hw' => by go_simp⟩) hS ?_
     simp only [Act.put, lsA, lsZ, lsS]
     refine wpAnyH_done (by kernel_rfl) ?_ _
     have HS6 : Hid _ := hS
     have HO6 : Hid _ := HOT.out.trans hS (fun _ _ h => h)
     clear hS
     go_upto_region 6 with fail
     rename World => V6
     obtain ⟨a2, c2, V7, hr, own2, o2, at2⟩ := app1_run (tS := 37) (w := V6.alloc (.cells #[.int .i64 (i : Int)] 3)) Try.underlying37 Try.infoInt rfl (by decide) inC_len inC_one ((HVV.out.off HS6.out (fun _ _ _ h => h)).off ((Off.refl (fun _ => False) V6).alloc _) (fun _ _ _ h => h)) (i : Int) (g := V6.heap.size) (fun j u hj => ((Cel.new V6 3 #[.int .i64 (i : Int)]).cell j).trans (List.getElem?_toArray.trans hj)) ⟨by have := HLE.out; omega, by decide⟩ 37
     have O7 : Off (fun _ => False) w0 V7 := (HO6.out.alloc (.cells #[.int .i64 (i : Int)] 3)).trans o2 (fun k hk e => by have := HRL.out.2 k e; omega)
     have HO7 : Hid _ := O7
     have HA7 : Hid _ := own2
     have HT7 : Hid _ := at2
     have HZ6 : Hid (w0.heap.size ≤ V6.heap.size) := HO6.out.size
     clear O7 own2 at2 o2
     go_wp2_with (first | (refine wpList_appR rfl (.tmp 29) (.tmp 31) rfl rfl rfl hr ?_) | fail)
     go_roundw
     case rel => exact ⟨i + 1, a2, c2, l ++ [(i : Int)], by go_num, by omega, by simp, ⟨HA7.out, fun b hb => HT7.out.elim (fun e => HRL.out.2 b (e ▸ hb)) (fun e => by rw [e] at hb; have := HZ6.out; simp at hb; omega)⟩, by rw [HBB.out, HLB.out], HO7.out⟩
     case measure => simp [vInt]; omega
    ·have HSA : Hid (sameSA (o.tl i).abs o.kn.abs = true) := hs
     have hb : behindN o (i + 1) = behindN o i := by
      show behindN o i ++ _ = _
      simp [lateB, hw, hs]
     have HBB : Hid _ := hb
     clear hb
     refine wp_region_held_drew (S := fun w' => Off (fun _ => False) V w') (by kernel_rfl) ((Off.refl _ V).drew) (fun hS => ?_)
     refine take_at (i := 0) 14 (v := .pointer (some ⟨o.q, 0, none⟩)) rfl rfl (by kernel_rfl) (by kernel_rfl) (by kernel_rfl) (fun _ _ _ h => h) (Or.inl ⟨by rfl, fun w' hw' => by go_simp⟩) hS ?_
     simp only [Act.put, lsA, lsZ, lsS]
     refine take_at (i := 1) 15 (v := .pointer (some ⟨o.q, 0, none⟩)) rfl rfl (by kernel_rfl) (by kernel_rfl) (by kernel_rfl) (fun _ _ _ h => h) (Or.inl ⟨by rfl, fun w' hw' => by go_simp⟩) hS ?_
     simp only [Act.put, lsA, lsZ, lsS]
     refine take_at (i := 2) 16 (v := .pointer (some ⟨o.q, 83, none⟩)) rfl rfl (by kernel_rfl) (by kernel_rfl) (by kernel_rfl) (fun _ _ _ h => h) (Or.inl ⟨by rfl, fun w' hw' => by go_simp⟩) hS ?_
     simp only [Act.put, lsA, lsZ, lsS]
     refine take_at (i := 3) 17 (v := .pointer (some ⟨o.cb, 0, none⟩)) rfl rfl (by kernel_rfl) (by kernel_rfl) (by kernel_rfl) (fun _ _ _ h => h) (Or.inl ⟨by rfl, fun w' hw' => by have c83 := (HOV.out.off hw' (fun h => h) (fun h => h)).c83; go_simp⟩) hS ?_
     simp only [Act.put, lsA, lsZ, lsS]
     refine take_at (i := 4) 18 (v := .int .i64 (i : Int)) rfl rfl (by kernel_rfl) (by kernel_rfl) (by kernel_rfl) (fun _ _ _ h => h) (Or.inl ⟨by rfl, fun w' hw' => by go_simp⟩) hS ?_
     simp only [Act.put, lsA, lsZ, lsS]
     refine wpAnyH_ready (rs := [5]) (by kernel_rfl) (by simp) ?_
     refine AllReadyH.cons rfl (fun K' hK' => ?_) AllReadyH.nil
     go_simp
     refine Calls.mono (has_any (HOV.out.off hS (fun h => h) (fun h => h)).cnt (i : Int)) ?_
     rw [HW2.out]
     rintro e v1 ⟨rfl, hw1⟩
     rw [hw1]
     refine hK'.out _ _ hS (fun hS => ?_)
     clear hK' K' hw1 v1
     refine take_at (i := 6) 20 (v := .bool true) rfl rfl (by kernel_rfl) (by kernel_rfl) (by kernel_rfl) (fun _ _ _ h => h) (Or.inl ⟨by rfl, fun w' hw' => by go_simp⟩) hS ?_
     simp only [Act.put, lsA, lsZ, lsS]
     refine take_at (i := 7) 21 (v := (.agg #[.int .i64 ((o.tl i).f 0), .int .i64 ((o.tl i).f 1), .int .i64 ((o.tl i).f 2), .int .i64 ((o.tl i).f 3), .int .i64 ((o.tl i).f 4), .int .i64 ((o.tl i).f 5), .int .i64 ((o.tl i).f 6), .int .i64 ((o.tl i).f 7), .slice (o.tl i).a (o.tl i).l.length (o.tl i).cap])) rfl rfl (by kernel_rfl) (by kernel_rfl) (by kernel_rfl) (fun _ _ _ h => h) (Or.inl ⟨by rfl, fun w' hw' => by obtain ⟨x0, x1, x2, x3, x4, x5, x6, x7, x8⟩ := cel9 (HBV.out.off hw' (fun h => h)); go_simp⟩) hS ?_
     simp only [Act.put, lsA, lsZ, lsS]
     refine take_at (i := 8) 22 (v := .pointer (some ⟨o.q, 0, none⟩)) rfl rfl (by kernel_rfl) (by kernel_rfl) (by kernel_rfl) (fun _ _ _ h => h) (Or.inl ⟨by rfl, fun w' hw' => by go_simp⟩) hS ?_
     simp only [Act.put, lsA, lsZ, lsS]
     refine take_at (i := 9) 23 (v := .pointer (some ⟨o.q, 0, none⟩)) rfl rfl (by kernel_rfl) (by kernel_rfl) (by kernel_rfl) (fun _ _ _ h => h) (Or.inl ⟨by rfl, fun w' hw' => by go_simp⟩) hS ?_
     simp only [Act.put, lsA, lsZ, lsS]
     refine take_at (i := 10) 24 (v := .pointer (some ⟨o.q, 2, none⟩)) rfl rfl (by kernel_rfl) (by kernel_rfl) (by kernel_rfl) (fun _ _ _ h => h) (Or.inl ⟨by rfl, fun w' hw' => by go_simp⟩) hS ?_
     simp only [Act.put, lsA, lsZ, lsS]
     refine take_at (i := 11) 25 (v := (.agg #[.int .i64 (o.kn.f 0), .int .i64 (o.kn.f 1), .int .i64 (o.kn.f 2), .int .i64 (o.kn.f 3), .int .i64 (o.kn.f 4), .int .i64 (o.kn.f 5), .int .i64 (o.kn.f 6), .int .i64 (o.kn.f 7), .slice o.kn.a o.kn.l.length o.kn.cap])) rfl rfl (by kernel_rfl) (by kernel_rfl) (by kernel_rfl) (fun _ _ _ h => h) (Or.inl ⟨by rfl, fun w' hw' => by obtain ⟨x0, x1, x2, x3, x4, x5, x6, x7, x8⟩ := (HOV.out.off hw' (fun h => h) (fun h => h)).k9; go_simp⟩) hS ?_
     simp only [Act.put, lsA, lsZ, lsS]
     refine wpAnyH_ready (rs := [12]) (by kernel_rfl) (by simp) ?_
     refine AllReadyH.cons rfl (fun K' hK' => ?_) AllReadyH.nil
     go_simp
     refine Calls.mono (ssameS (o.tl i) o.kn _ (HTR.out.off hS) (HKR.out.off hS)) ?_
     rw [HSA.out]
     rintro e v1 ⟨rfl, o1⟩
     have hS1 := hS.trans o1 (fun _ _ h => h)
     refine hK'.out _ _ hS1 (fun hS => ?_)
     clear hK' K' hS1 o1
     refine take_at (i := 13) 27 (v := .bool false) rfl rfl (by kernel_rfl) (by kernel_rfl) (by kernel_rfl) (fun _ _ _ h => h) (Or.inl ⟨by rfl, fun w' hw' => by go_simp⟩) hS ?_
     simp only [Act.put, lsA, lsZ, lsS]
     refine take_at (i := 14) 28 (v := .bool false) rfl rfl (by kernel_rfl) (by kernel_rfl) (by kernel_rfl) (fun _ _ _ h => h) (Or.inl ⟨by rfl, fun w' hw' => by go_simp⟩) hS ?_
     simp only [Act.put, lsA, lsZ, lsS]
     refine wpAnyH_done (by kernel_rfl) ?_ _
     have HS6 : Hid _ := hS
     have HO6 : Hid _ := HOT.out.trans hS (fun _ _ h => h)
     clear hS
     go_wp2_with fail
     go_roundw
     case rel => exact ⟨i + 1, a, c, l, by go_num, by omega, rfl, ⟨HVV.out.off HS6.out (fun _ _ _ h => h), HRL.out.2⟩, by rw [HBB.out]; exact HLB.out, HO6.out⟩
     case measure => simp [vInt]; omega
  ·obtain rfl : i = 8 := by omega
   have hd : decide (((8 : Nat) : Int) < 8) = false := rfl
   go_wp2_with fail
   go_ret
   exact ⟨a, c, l, rfl, HRL.out.1, HRL.out.2, HLB.out, HOO.out⟩
end Go.Proofs.Ytmjmgdbhmbjmaab
