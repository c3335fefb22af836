/- Items of several texts. -/
import Derived.Deep.Cut
import Derived.Test.YtmjmgdbhmbjmaaaESam
namespace Go.Proofs.Ytmjmgdbhmbjmaaa
open Go.RowKit
theorem neq_vec5 (f g : Nat → Int) (W : World) : (binOp .neq 30 (.agg #[.int .i64 (f 0), .int .i64 (f 1), .int .i64 (f 2), .int .i64 (f 3), .int .i64 (f 4), .int .i64 (f 5), .int .i64 (f 6), .int .i64 (f 7)]) (.agg #[.int .i64 (g 0), .int .i64 (g 1), .int .i64 (g 2), .int .i64 (g 3), .int .i64 (g 4), .int .i64 (g 5), .int .i64 (g 6), .int .i64 (g 7)])).run Try.prog W = .ok (.bool (!eqB f g)) W := by
 have h := eql_vec f g W
 have h1 : binOp .eql 30 (.agg #[.int .i64 (f 0), .int .i64 (f 1), .int .i64 (f 2), .int .i64 (f 3), .int .i64 (f 4), .int .i64 (f 5), .int .i64 (f 6), .int .i64 (f 7)]) (.agg #[.int .i64 (g 0), .int .i64 (g 1), .int .i64 (g 2), .int .i64 (g 3), .int .i64 (g 4), .int .i64 (g 5), .int .i64 (g 6), .int .i64 (g 7)]) = (do pure (.bool (← Op.equal 30 (.agg #[.int .i64 (f 0), .int .i64 (f 1), .int .i64 (f 2), .int .i64 (f 3), .int .i64 (f 4), .int .i64 (f 5), .int .i64 (f 6), .int .i64 (f 7)]) (.agg #[.int .i64 (g 0), .int .i64 (g 1), .int .i64 (g 2), .int .i64 (g 3), .int .i64 (g 4), .int .i64 (g 5), .int .i64 (g 6), .int .i64 (g 7)])))) := rfl
 have h2 : binOp .neq 30 (.agg #[.int .i64 (f 0), .int .i64 (f 1), .int .i64 (f 2), .int .i64 (f 3), .int .i64 (f 4), .int .i64 (f 5), .int .i64 (f 6), .int .i64 (f 7)]) (.agg #[.int .i64 (g 0), .int .i64 (g 1), .int .i64 (g 2), .int .i64 (g 3), .int .i64 (g 4), .int .i64 (g 5), .int .i64 (g 6), .int .i64 (g 7)]) = (do pure (.bool (!(← Op.equal 30 (.agg #[.int .i64 (f 0), .int .i64 (f 1), .int .i64 (f 2), .int .i64 (f 3), .int .i64 (f 4), .int .i64 (f 5), .int .i64 (f 6), .int .i64 (f 7)]) (.agg #[.int .i64 (g 0), .int .i64 (g 1), .int .i64 (g 2), .int .i64 (g 3), .int .i64 (g 4), .int .i64 (g 5), .int .i64 (g 6), .int .i64 (g 7)]))))) := rfl
 rw [h1, Sem.run_bind] at h
 rw [h2, Sem.run_bind]
 generalize (Op.equal 30 (.agg #[.int .i64 (f 0), .int .i64 (f 1), .int .i64 (f 2), .int .i64 (f 3), .int .i64 (f 4), .int .i64 (f 5), .int .i64 (f 6), .int .i64 (f 7)]) (.agg #[.int .i64 (g 0), .int .i64 (g 1), .int .i64 (g 2), .int .i64 (g 3), .int .i64 (g 4), .int .i64 (g 5), .int .i64 (g 6), .int .i64 (g 7)])).run Try.prog W = r at h ⊢
 cases r with
 | ok b w' =>
  simp only [Result.andThen_ok, Sem.run_pure, Result.ok.injEq, Value.bool.injEq] at h
  obtain ⟨rfl, rfl⟩ := h
  rfl
 | halt => simp [Result.andThen] at h
theorem neq_dot5 (a b c d : Int) (W : World) : (binOp .neq 89 (.agg #[.int .i64 a, .int .i64 b]) (.agg #[.int .i64 c, .int .i64 d])).run Try.prog W = .ok (.bool (!decide (a = c ∧ b = d))) W := by
 go_simp
 by_cases h1 : a = c <;> by_cases h2 : b = d <;> simp [h1, h2]
theorem same_no {f g : Nat → Int} {l k : List A} (h : ¬ l = k) : sameS f g l k = false := by simp [sameS, sameR, h]
set_option maxRecDepth 100000 in
set_option maxHeartbeats 4000000 in
theorem gsame_any (f g : Nat → Int) (a b : Option Addr) (ca cb : Nat) (l k : List V) (w : World) (h1 : Row w a ca l) (h2 : Row w b cb k) :
  Calls Try.prog 17 #[.agg #[.int .i64 (f 0), .int .i64 (f 1), .int .i64 (f 2), .int .i64 (f 3), .int .i64 (f 4), .int .i64 (f 5), .int .i64 (f 6), .int .i64 (f 7), .slice a l.length ca], .agg #[.int .i64 (g 0), .int .i64 (g 1), .int .i64 (g 2), .int .i64 (g 3), .int .i64 (g 4), .int .i64 (g 5), .int .i64 (g 6), .int .i64 (g 7), .slice b k.length cb]] w fun e w' => e = .returned (.bool (sameS f g (cont l) (cont k))) ∧ Off (fun _ => False) w w' := by
 have hnot := not_any
 obtain ⟨W, hW⟩ : ∃ W, W = ((w.alloc (.cells #[.int .i64 (f 0), .int .i64 (f 1), .int .i64 (f 2), .int .i64 (f 3), .int .i64 (f 4), .int .i64 (f 5), .int .i64 (f 6), .int .i64 (f 7), .slice a l.length ca] 33)).alloc (.cells #[.int .i64 (g 0), .int .i64 (g 1), .int .i64 (g 2), .int .i64 (g 3), .int .i64 (g 4), .int .i64 (g 5), .int .i64 (g 6), .int .i64 (g 7), .slice b k.length cb] 33)) := ⟨_, rfl⟩
 have O : Off (fun _ => False) w W := by rw [hW]; exact ((Off.refl _ w).alloc _).alloc _
 have C0 : Cel w.heap.size 33 #[.int .i64 (f 0), .int .i64 (f 1), .int .i64 (f 2), .int .i64 (f 3), .int .i64 (f 4), .int .i64 (f 5), .int .i64 (f 6), .int .i64 (f 7), .slice a l.length ca] W := by rw [hW]; exact (Cel.new w _ _).alloc _
 have C1 : Cel (w.heap.size + 1) 33 #[.int .i64 (g 0), .int .i64 (g 1), .int .i64 (g 2), .int .i64 (g 3), .int .i64 (g 4), .int .i64 (g 5), .int .i64 (g 6), .int .i64 (g 7), .slice b k.length cb] W := by rw [hW]; exact Cel.new1 w _ _ _
 have HW : Hid _ := hW.symm
 have H0 : Hid _ := C0
 have H1 : Hid _ := C1
 have HO : Hid _ := O
 have HR1 : Hid _ := h1.off O
 have HR2 : Hid _ := h2.off O
 have hnv := neq_vec5 f g
 clear hW C0 C1 O h1 h2
 go_enter Try.func17, Try.ntmps17
 go_upto_region 1 with fail
 rw [HW.out]
 generalize hq1 : w.heap.size + 1 = q1 at H1 ⊢
 generalize hq0 : w.heap.size = q0 at H0 ⊢
 clear hq0 hq1 HW
 obtain ⟨x0, x1, x2, x3, x4, x5, x6, x7, x8⟩ := cel9 H0.out
 obtain ⟨y0, y1, y2, y3, y4, y5, y6, y7, y8⟩ := cel9 H1.out
 cases he : eqB f g
 ·have HF : Hid (sameS f g (cont l) (cont k) = false) := by show _ = false; simp [sameS, he]
  have HOF : Hid _ := HO.out
  rw [he] at hnv
  go_wp2_with fail
  go_ret
  exact ⟨by rw [HF.out]; rfl, HOF.out⟩
 rw [he] at hnv
 by_cases hlk : l.length = k.length
 ·have hl0 : ((l.length : Int) != (k.length : Int)) = false := by rw [hlk]; simp
  have HLK : Hid _ := hlk
  have HE : Hid _ := he
  clear hlk he
  go_wp2_with fail
  clear x0 x1 x2 x3 x4 x5 x6 x7 x8 y0 y1 y2 y3 y4 y5 y6 y7 y8 hl0 hnv
  go_loopw [25] (fun y wr => ∃ n : Nat, y = .int .i64 (n : Int) ∧ n ≤ l.length ∧ (∀ j, j < n → (cont l)[j]? = (cont k)[j]?) ∧ Off (fun _ => False) W wr) (fun y _ => (l.length - intOf y).toNat)
  case atStart => exact ⟨0, rfl, by omega, fun j h => by omega, Off.refl _ _⟩
  case round =>
   obtain ⟨n, rfl, hn, hup, oo⟩ := hrel
   have HUP : Hid _ := hup
   have HP : Hid _ := oo
   clear hup oo
   by_cases hln : n < l.length
   ·have n1 : decide ((n : Int) < (l.length : Int)) = true := decide_eq_true (by omega)
    have n2 : decide (n < l.length) = true := decide_eq_true hln
    have hlb : l.length ≤ 9223372036854775807 := by have := HR1.out.len; have := HR1.out.bound; omega
    have hkn : n < k.length := by have := HLK.out; omega
    obtain ⟨v, hv⟩ : ∃ v, l[n]? = some v := ⟨_, List.getElem?_eq_getElem hln⟩
    obtain ⟨u, hu⟩ : ∃ u, k[n]? = some u := ⟨_, List.getElem?_eq_getElem hkn⟩
    obtain ⟨ba, fa, hay, h4, hok⟩ := HR1.out.at_ n v hv
    obtain ⟨bb, fb, hby, h5, hok2⟩ := HR2.out.at_ n u hu
    have HOK : Hid _ := hok
    have HOK2 : Hid _ := hok2
    have H5 : Hid _ := h5
    obtain ⟨c0, c1, c2, c3⟩ := h4.off HP.out (fun _ h => h)
    have HV : Hid _ := hv
    have HU : Hid _ := hu
    clear hv hu h4 h5 hok hok2
    subst hay
    subst hby
    go_upto_region 6 with fail
    have Cqv := Cel.new wr 92 #[.int .i64 v.node, .int .i64 v.num, .slice v.ad v.data.length v.cap, .bool v.dead]
    have OA : Off (fun _ => False) wr (wr.alloc (.cells #[.int .i64 v.node, .int .i64 v.num, .slice v.ad v.data.length v.cap, .bool v.dead] 92)) := (Off.refl _ wr).alloc _
    generalize hq : wr.heap.size = qv at Cqv ⊢
    generalize hv : wr.alloc (.cells #[.int .i64 v.node, .int .i64 v.num, .slice v.ad v.data.length v.cap, .bool v.dead] 92) = Vqv at Cqv OA ⊢
    clear hq hv
    have HGV : Hid _ := Cqv
    have HPV : Hid _ := HP.out.trans OA (fun _ _ h => h)
    clear Cqv OA c0 c1 c2 c3 HP
    obtain ⟨c0, c1, c2, c3⟩ := H5.out.off HPV.out (fun _ h => h)
    obtain ⟨y0, y1, y2, y3, y4, y5, y6, y7, y8⟩ := cel9 (H1.out.off HPV.out (fun h => h))
    go_upto_region 7 with fail
    have Cqu := Cel.new Vqv 92 #[.int .i64 u.node, .int .i64 u.num, .slice u.ad u.data.length u.cap, .bool u.dead]
    have OA : Off (fun _ => False) Vqv (Vqv.alloc (.cells #[.int .i64 u.node, .int .i64 u.num, .slice u.ad u.data.length u.cap, .bool u.dead] 92)) := (Off.refl _ Vqv).alloc _
    generalize hq : Vqv.heap.size = qu at Cqu ⊢
    generalize hv : Vqv.alloc (.cells #[.int .i64 u.node, .int .i64 u.num, .slice u.ad u.data.length u.cap, .bool u.dead] 92) = Vqu at Cqu OA ⊢
    clear hq hv
    have HPU : Hid _ := HPV.out.trans OA (fun _ _ h => h)
    have HGV2 : Hid _ := HGV.out.off OA (fun h => h)
    have HOF : Hid _ := HO.out.trans HPU.out (fun _ _ h => h)
    obtain ⟨e0, e1, e2, e3⟩ := cel4 Cqu
    obtain ⟨d0, d1, d2, d3⟩ := cel4 HGV2.out
    clear Cqu OA c0 c1 c2 c3 y0 y1 y2 y3 y4 y5 y6 y7 y8
    have hnd := neq_dot5 v.node v.num u.node u.num
    have key : v.abs ≠ u.abs → sameS f g (cont l) (cont k) = false := fun hne => same_no (fun e => hne (by
     have i1 := get_cont HV.out
     have i2 := get_cont HU.out
     rw [e, i2] at i1
     exact (Option.some.inj i1).symm))
    have HKEY : Hid _ := key
    clear key
    cases hdt : decide (v.node = u.node ∧ v.num = u.num)
    ·have HF : Hid (sameS f g (cont l) (cont k) = false) := HKEY.out (fun e => by
      have i1 : v.node = u.node := congrArg A.node e
      have i2 : v.num = u.num := congrArg A.num e
      simp [i1, i2] at hdt)
     rw [hdt] at hnd
     clear hdt
     go_wp2_with fail
     go_ret
     exact ⟨by rw [HF.out]; rfl, HOF.out⟩
    rw [hdt] at hnd
    have hdt2 : v.node = u.node ∧ v.num = u.num := by simpa using hdt
    have HDT : Hid _ := hdt2
    clear hdt hdt2
    rcases Bool.eq_false_or_eq_true (v.dead == u.dead) with hdd | hdd
    ·have cv1 := conv_src (HOK.out.src.off HPU.out (fun _ _ _ h => h))
     have cv2 := conv_src (HOK2.out.src.off HPU.out (fun _ _ _ h => h))
     by_cases hda : (strOf v.data).toList = (strOf u.data).toList
     ·have HAB : Hid (v.abs = u.abs) := by
       have i1 : v.data = u.data := (strOf_eq HOK.out.lt HOK2.out.lt).1 (ByteArray.ext (Array.toList_inj.1 (by rw [← ByteArray.toList_eq, ← ByteArray.toList_eq]; exact hda)))
       have i2 : v.dead = u.dead := by simpa using hdd
       have i3 := HDT.out
       show _ = _
       simp only [V.abs, i1, i2, i3.1, i3.2]
      go_wp2_with fail
      go_roundw
      case rel => exact ⟨n + 1, by go_num, by omega, fun j hj => by
       rcases Nat.lt_or_ge j n with h | h
       ·exact HUP.out j h
       ·obtain rfl : j = n := by omega
        rw [get_cont HV.out, get_cont HU.out, HAB.out], HPU.out⟩
      case measure => simp [intOf]; omega
     ·have HF : Hid (sameS f g (cont l) (cont k) = false) := HKEY.out (fun e => hda (by
       have i1 : v.data = u.data := congrArg A.data e
       rw [i1]))
      have hdb : ((strOf v.data).toList == (strOf u.data).toList) = false := by rw [beq_eq_false_iff_ne]; exact hda
      go_wp2_with fail
      go_ret
      exact ⟨by rw [HF.out]; rfl, HOF.out⟩
    ·have HF : Hid (sameS f g (cont l) (cont k) = false) := HKEY.out (fun e => by
      have i1 : v.dead = u.dead := congrArg A.dead e
      simp [i1] at hdd)
     go_wp2_with fail
     go_ret
     exact ⟨by rw [HF.out]; rfl, HOF.out⟩
   ·have n1 : decide ((n : Int) < (l.length : Int)) = false := decide_eq_false (by omega)
    have n2 : decide (n < l.length) = false := decide_eq_false hln
    have HF : Hid (sameS f g (cont l) (cont k) = true) := by
     have e : cont l = cont k := List.ext_getElem? (fun j => by
      rcases Nat.lt_or_ge j n with h | h
      ·exact HUP.out j h
      ·have h3 := HLK.out
       rw [List.getElem?_eq_none (by rw [cont_len]; omega), List.getElem?_eq_none (by rw [cont_len]; omega)])
     show _ = true
     simp [sameS, HE.out, sameR, e]
    have HOF : Hid _ := HO.out.trans HP.out (fun _ _ h => h)
    go_wp2_with fail
    go_ret
    exact ⟨by rw [HF.out]; rfl, HOF.out⟩
 ·have hl0 : ((l.length : Int) != (k.length : Int)) = true := by simp; omega
  have HF : Hid (sameS f g (cont l) (cont k) = false) := same_no (fun e => hlk (by have := congrArg List.length e; simpa [cont_len] using this))
  have HOF : Hid _ := HO.out
  clear hlk
  go_wp2_with fail
  go_ret
  exact ⟨by rw [HF.out]; rfl, HOF.out⟩
end Go.Proofs.Ytmjmgdbhmbjmaaa
