/- Items of several texts. -/
import Derived.Deep.Cut
import Derived.Test.YtmjmgdbhmbjmaaaERefA
import Derived.Test.YtmjmgdbhmbjmaaaEInsP
namespace Go.Proofs.Ytmjmgdbhmbjmaaa
open Go.RowKit
set_option maxRecDepth 100000 in
set_option maxHeartbeats 4000000 in
theorem insert_any (a : Option Addr) (ca : Nat) (l : List V) (v : V) (w : World) (hr : Row w a ca l) (hz : a = none → ca = 0) (hv : VOk w v) (hl : l.length ≤ 1000) :
  Calls Try.prog 53 #[.slice a l.length ca, .agg #[.int .i64 v.node, .int .i64 v.num, .slice v.ad v.data.length v.cap, .bool v.dead]] w fun e w' => ∃ (k : Nat) (a' : Option Addr) (c' : Nat), e = .returned (.slice a' (l.take k ++ v :: l.drop k).length c') ∧ k ≤ l.length ∧ (∀ z ∈ l.take k, lessB z.node z.num v.node v.num = true) ∧ (∀ y, l[k]? = some y → lessB y.node y.num v.node v.num = false) ∧
   OwnV w' a' c' (l.take k ++ v :: l.drop k) ∧ (∀ c, blk a' = some c → w.heap.size ≤ c) ∧ Off (fun _ => False) w w' := by
 have C0 := Cel.new w 92 #[.int .i64 v.node, .int .i64 v.num, .slice v.ad v.data.length v.cap, .bool v.dead]
 have O : Off (fun _ => False) w (w.alloc (.cells #[.int .i64 v.node, .int .i64 v.num, .slice v.ad v.data.length v.cap, .bool v.dead] 92)) := (Off.refl _ w).alloc _
 have hr0 := hr.off O
 have hv0 := hv.off O (fun _ _ _ h => h)
 go_enter Try.func53, Try.ntmps53
 go_upto_region 1 with fail
 generalize hq : w.heap.size = q at C0 ⊢
 generalize hV : w.alloc (.cells #[.int .i64 v.node, .int .i64 v.num, .slice v.ad v.data.length v.cap, .bool v.dead] 92) = V at C0 O hr0 hv0 ⊢
 clear hq hV hr hv
 have HQ : Hid _ := C0
 have HOV : Hid _ := O
 have HR : Hid _ := hr0
 have HV : Hid _ := hv0
 have HZ : Hid _ := hz
 clear C0 O hr0 hv0 hz
 go_wp2_with fail
 go_loopw [5] (fun y wr => ∃ m : Nat, y = .int .i64 (m : Int) ∧ m ≤ l.length ∧ (∀ z ∈ l.take m, lessB z.node z.num v.node v.num = true) ∧ Off (fun _ => False) V wr) (fun y _ => (l.length - intOf y).toNat)
 case atStart => exact ⟨0, rfl, by omega, fun z hz => by simp at hz, Off.refl _ _⟩
 case round =>
  obtain ⟨m, rfl, hm, hup, oo⟩ := hrel
  have HP : Hid _ := oo
  have HUP : Hid _ := hup
  clear oo hup
  by_cases hlm : m < l.length
  ·have i1 : decide ((m : Int) < (l.length : Int)) = true := decide_eq_true (by omega)
   have i2 : decide (m < l.length) = true := decide_eq_true hlm
   obtain ⟨x, hx⟩ : ∃ x, l[m]? = some x := ⟨_, List.getElem?_eq_getElem hlm⟩
   obtain ⟨ba, fa, hay, h4, -⟩ := HR.out.at_ m x hx
   have H4 : Hid _ := h4
   have HX : Hid _ := hx
   have HAY : Hid _ := hay
   clear hx h4
   cases hrr : lessB x.node x.num v.node v.num
   ·have HM : Hid (m ≤ l.length ∧ (∀ z ∈ l.take m, lessB z.node z.num v.node v.num = true) ∧ ∀ y, l[m]? = some y → lessB y.node y.num v.node v.num = false) := ⟨hm, HUP.out, fun y hy => by
     have := HX.out
     rw [this] at hy
     cases hy
     exact hrr⟩
    subst hay
    go_upto_region 2 with fail
    refine wp_region_held_drew (S := fun w' => Off (fun _ => False) wr w') (by kernel_rfl) ((Off.refl _ wr).drew) (fun hS => ?_)
    refine take_at (i := 0) 6 (v := .int .i64 (m : Int)) rfl rfl (by kernel_rfl) (by kernel_rfl) (by kernel_rfl) (fun _ _ _ h => h) (Or.inl ⟨by rfl, fun w' hw' => by go_simp⟩) hS ?_
    simp only [Act.put, lsA, lsZ, lsS]
    refine take_at (i := 1) 7 (v := .slice (some ⟨ba, fa, none⟩) l.length ca) rfl rfl (by kernel_rfl) (by kernel_rfl) (by kernel_rfl) (fun _ _ _ h => h) (Or.inl ⟨by rfl, fun w' hw' => by go_simp⟩) hS ?_
    simp only [Act.put, lsA, lsZ, lsS]
    refine take_at (i := 2) 8 (v := .int .i64 (l.length : Int)) rfl rfl (by kernel_rfl) (by kernel_rfl) (by kernel_rfl) (fun _ _ _ h => h) (Or.inl ⟨by rfl, fun w' hw' => by go_simp⟩) hS ?_
    simp only [Act.put, lsA, lsZ, lsS]
    refine take_at (i := 3) 9 (v := .bool true) rfl rfl (by kernel_rfl) (by kernel_rfl) (by kernel_rfl) (fun _ _ _ h => h) (Or.inl ⟨by rfl, fun w' hw' => by go_simp⟩) hS ?_
    simp only [Act.put, lsA, lsZ, lsS]
    refine take_at (i := 4) 10 (v := .bool true) rfl rfl (by kernel_rfl) (by kernel_rfl) (by kernel_rfl) (fun _ _ _ h => h) (Or.inl ⟨by rfl, fun w' hw' => by go_simp⟩) hS ?_
    simp only [Act.put, lsA, lsZ, lsS]
    refine take_at (i := 5) 11 (v := .slice (some ⟨ba, fa, none⟩) l.length ca) rfl rfl (by kernel_rfl) (by kernel_rfl) (by kernel_rfl) (fun _ _ _ h => h) (Or.inl ⟨by rfl, fun w' hw' => by go_simp⟩) hS ?_
    simp only [Act.put, lsA, lsZ, lsS]
    refine take_at (i := 6) 12 (v := .int .i64 (m : Int)) rfl rfl (by kernel_rfl) (by kernel_rfl) (by kernel_rfl) (fun _ _ _ h => h) (Or.inl ⟨by rfl, fun w' hw' => by go_simp⟩) hS ?_
    simp only [Act.put, lsA, lsZ, lsS]
    refine take_at (i := 7) 13 (v := .pointer (some ⟨ba, fa + m * 4, none⟩)) rfl rfl (by kernel_rfl) (by kernel_rfl) (by kernel_rfl) (fun _ _ _ h => h) (Or.inl ⟨by rfl, fun w' hw' => by go_simp⟩) hS ?_
    simp only [Act.put, lsA, lsZ, lsS]
    refine take_at (i := 8) 14 (v := .pointer (some ⟨ba, fa + m * 4, none⟩)) rfl rfl (by kernel_rfl) (by kernel_rfl) (by kernel_rfl) (fun _ _ _ h => h) (Or.inl ⟨by rfl, fun w' hw' => by go_simp⟩) hS ?_
    simp only [Act.put, lsA, lsZ, lsS]
    refine take_at (i := 9) 15 (v := .agg #[.int .i64 x.node, .int .i64 x.num]) rfl rfl (by kernel_rfl) (by kernel_rfl) (by kernel_rfl) (fun _ _ _ h => h) (Or.inl ⟨by rfl, fun w' hw' => by obtain ⟨c0, c1, c2, c3⟩ := H4.out.off (HP.out.trans hw' (fun _ _ h => h)) (fun _ h => h); go_simp⟩) hS ?_
    simp only [Act.put, lsA, lsZ, lsS]
    refine take_at (i := 10) 16 (v := .pointer (some ⟨q, 0, none⟩)) rfl rfl (by kernel_rfl) (by kernel_rfl) (by kernel_rfl) (fun _ _ _ h => h) (Or.inl ⟨by rfl, fun w' hw' => by go_simp⟩) hS ?_
    simp only [Act.put, lsA, lsZ, lsS]
    refine take_at (i := 11) 17 (v := .agg #[.int .i64 v.node, .int .i64 v.num]) rfl rfl (by kernel_rfl) (by kernel_rfl) (by kernel_rfl) (fun _ _ _ h => h) (Or.inl ⟨by rfl, fun w' hw' => by obtain ⟨x0, x1, x2, x3⟩ := cel4 (HQ.out.off (HP.out.trans hw' (fun _ _ h => h)) (fun h => h)); go_simp⟩) hS ?_
    simp only [Act.put, lsA, lsZ, lsS]
    refine wpAnyH_ready (rs := [12]) (by kernel_rfl) (by simp) ?_
    refine AllReadyH.cons rfl (fun K' hK' => ?_) AllReadyH.nil
    go_simp
    refine (fless_any _ _ _ _ _).mono ?_
    rw [hrr]
    rintro e v1 ⟨rfl, o1⟩
    refine hK'.out _ _ (hS.trans o1 (fun _ _ h => h)) (fun hS => ?_)
    clear hK' K' o1
    refine take_at (i := 13) 19 (v := .bool false) rfl rfl (by kernel_rfl) (by kernel_rfl) (by kernel_rfl) (fun _ _ _ h => h) (Or.inl ⟨by rfl, fun w' hw' => by go_simp⟩) hS ?_
    simp only [Act.put, lsA, lsZ, lsS]
    refine wpAnyH_done (by kernel_rfl) ?_ _
    have HP1 : Hid _ := HP.out.trans hS (fun _ _ h => h)
    clear hS HP
    clear hrr H4 HX i1 i2 hlm HUP
    generalize hbb : (some ⟨ba, fa, none⟩ : Option Addr) = a at HR HZ ⊢
    clear HAY hbb
    go_upto_region 4 with fail
    obtain ⟨hsh, hrt⟩ := HR.out.slh (k := m) hm
    obtain ⟨a2, hsl, hrd, hz2⟩ := HR.out.sll HZ.out (k := m) hm
    have HE : Hid ((l.take m ++ [v]) ++ l.drop m = l.take m ++ v :: l.drop m) := by show _ = _; simp
    have hlt : (l.take m).length ≤ 1000 := by simp; omega
    have hld : (l.drop m).length ≤ 1000 := by simp; omega
    have HRT : Hid _ := hrt
    have HRD : Hid _ := hrd
    have HZ2 : Hid _ := hz2
    clear hrt hrd hz2
    generalize hltt : l.take m = lt at hsh HRT HE hlt
    generalize hldd : l.drop m = ld at hsl HRD HE hld
    rw [← hltt, ← hldd] at HE
    replace HE : Hid ((lt ++ [v]) ++ ld = l.take m ++ v :: l.drop m) := by show _ = _; rw [hltt, hldd]; simp
    clear hltt hldd
    have HPV : Hid _ := HP1.out
    refine wp_region_held_drew (S := fun w' => Off (fun _ => False) V w') (by kernel_rfl) (HP1.out.drew) (fun hS => ?_)
    generalize hdr : v1.drew = v2 at hS ⊢
    clear hdr
    refine take_at (i := 0) 22 (v := .slice a l.length ca) rfl rfl (by kernel_rfl) (by kernel_rfl) (by kernel_rfl) (fun _ _ _ h => h) (Or.inl ⟨by rfl, fun w' hw' => by go_simp⟩) hS ?_
    simp only [Act.put, lsA, lsZ, lsS]
    refine take_at (i := 1) 23 (v := .int .i64 (m : Int)) rfl rfl (by kernel_rfl) (by kernel_rfl) (by kernel_rfl) (fun _ _ _ h => h) (Or.inl ⟨by rfl, fun w' hw' => by go_simp⟩) hS ?_
    simp only [Act.put, lsA, lsZ, lsS]
    refine take_at (i := 2) 24 (v := .slice a lt.length ca) rfl rfl (by kernel_rfl) (by kernel_rfl) (by kernel_rfl) (fun _ _ _ h => h) (Or.inl ⟨by rfl, fun w' hw' => by go_simp⟩) hS ?_
    simp only [Act.put, lsA, lsZ, lsS]
    refine take_at (i := 4) 26 (v := .agg #[.int .i64 v.node, .int .i64 v.num, .slice v.ad v.data.length v.cap, .bool v.dead]) rfl rfl (by kernel_rfl) (by kernel_rfl) (by kernel_rfl) (fun _ _ _ h => h) (Or.inl ⟨by rfl, fun w' hw' => by obtain ⟨x0, x1, x2, x3⟩ := cel4 (HQ.out.off hw' (fun h => h)); go_simp⟩) hS ?_
    simp only [Act.put, lsA, lsZ, lsS]
    refine take_at (i := 7) 29 (v := .slice a l.length ca) rfl rfl (by kernel_rfl) (by kernel_rfl) (by kernel_rfl) (fun _ _ _ h => h) (Or.inl ⟨by rfl, fun w' hw' => by go_simp⟩) hS ?_
    simp only [Act.put, lsA, lsZ, lsS]
    refine take_at (i := 8) 30 (v := .int .i64 (m : Int)) rfl rfl (by kernel_rfl) (by kernel_rfl) (by kernel_rfl) (fun _ _ _ h => h) (Or.inl ⟨by rfl, fun w' hw' => by go_simp⟩) hS ?_
    simp only [Act.put, lsA, lsZ, lsS]
    refine take_at (i := 9) 31 (v := .slice a2 ld.length (ca - m)) rfl rfl (by kernel_rfl) (by kernel_rfl) (by kernel_rfl) (fun _ _ _ h => h) (Or.inl ⟨by rfl, fun w' hw' => by go_simp⟩) hS ?_
    simp only [Act.put, lsA, lsZ, lsS]
    refine wpAnyH_ready (rs := [3, 5]) (by kernel_rfl) (by simp) ?_
    refine AllReadyH.cons rfl (fun K' hK' => ?_) (AllReadyH.cons rfl (fun K' hK' => ?_) AllReadyH.nil)
    ·obtain ⟨a3, c3, v3, hr, own3, o3, at3⟩ := app_runV (OwnV.nil v2) (HRT.out.off hS) HZ.out (by simp; omega) 31
     rw [List.nil_append] at hr own3
     replace o3 : Off (fun _ => False) v2 v3 := o3.mono (fun _ _ h => by simp [blk] at h)
     replace at3 : ∀ c, blk a3 = some c → V.heap.size ≤ c := fun c hc => by have := hS.size; rcases at3 with e | e <;> (rw [e] at hc; simp [blk] at hc; try omega)
     have hS3 := hS.trans o3 (fun _ _ h => h)
     refine wp_append_if rfl (.const (.slice none 0 0)) (.tmp 24) rfl rfl rfl hr 25 rfl ?_
     simp only [Act.put, lsA, lsZ, lsS]
     refine hK'.out _ _ hS3 (fun hS => ?_)
     clear hK' K' hr
     refine wpAnyH_ready (rs := [5]) (by kernel_rfl) (by simp) ?_
     refine AllReadyH.cons rfl (fun K' hK' => ?_) AllReadyH.nil
     go_simp
     refine hK'.out _ _ (hS.alloc _) (fun hS => ?_)
     clear hK' K'
     have CB := Cel.new v3 92 #[.int .i64 v.node, .int .i64 v.num, .slice v.ad v.data.length v.cap, .bool v.dead]
     have OB : Off (fun _ => False) v3 (v3.alloc (.cells #[.int .i64 v.node, .int .i64 v.num, .slice v.ad v.data.length v.cap, .bool v.dead] 92)) := (Off.refl _ v3).alloc _
     generalize hq5 : v3.heap.size = q5 at CB ⊢
     generalize hv5 : v3.alloc (.cells #[.int .i64 v.node, .int .i64 v.num, .slice v.ad v.data.length v.cap, .bool v.dead] 92) = v5 at CB OB hS ⊢
     clear hv5 hq5
     refine wpAnyH_ready (rs := [6]) (by kernel_rfl) (by simp) ?_
     refine AllReadyH.cons rfl (fun K' hK' => ?_) AllReadyH.nil
     have RB := row_one CB (HV.out.off hS (fun _ _ _ h => h))
     obtain ⟨a6, c6, v6, hr, own6, o6, at6⟩ := app_runV (own3.off OB (fun _ _ h => h)) RB (fun h => by simp at h) (by simp; omega) 31
     replace o6 : Off (fun _ => False) V v6 := ((hS.mono (fun _ _ h => h.elim)).trans o6 (fun _ _ h => h)).mono (fun j hj e => by have := at3 j e; omega)
     replace at6 : ∀ c, blk a6 = some c → V.heap.size ≤ c := fun c hc => by
      have := hS.size
      rcases at6 with e | e
      ·exact at3 c (e ▸ hc)
      ·rw [e] at hc
       simp at hc
       omega
     have hS6 := o6
     refine wp_append_if rfl (.tmp 25) (.tmp 27) rfl rfl rfl hr 28 rfl ?_
     simp only [Act.put, lsA, lsZ, lsS]
     refine hK'.out _ _ hS6 (fun hS => ?_)
     clear hK' K' hr
     clear o6 RB
     refine wpAnyH_ready (rs := [10]) (by kernel_rfl) (by simp) ?_
     refine AllReadyH.cons rfl (fun K' hK' => ?_) AllReadyH.nil
     obtain ⟨a10, c10, v10, hr, own10, o10, at10⟩ := app_runV own6 (HRD.out.off hS) HZ2.out (by simp; omega) 31
     replace o10 : Off (fun _ => False) V v10 := ((hS.mono (fun _ _ h => h.elim)).trans o10 (fun _ _ h => h)).mono (fun j hj e => by have := at6 j e; omega)
     replace at10 : ∀ c, blk a10 = some c → V.heap.size ≤ c := fun c hc => by
      have := hS.size
      rcases at10 with e | e
      ·exact at6 c (e ▸ hc)
      ·rw [e] at hc
       simp at hc
       omega
     have hS10 := o10
     refine wp_append_if rfl (.tmp 28) (.tmp 31) rfl rfl rfl hr 32 rfl ?_
     simp only [Act.put, lsA, lsZ, lsS]
     refine hK'.out _ _ hS10 (fun hS => ?_)
     clear hK' K' hr
     have hE := HE.out
     have own : OwnV v10 a10 c10 (l.take m ++ v :: l.drop m) := by rw [← hE]; exact own10
     have HOWN : Hid _ := own
     have HAT : Hid _ := at10
     have HLL : Hid (((lt ++ [v]) ++ ld).length = (l.take m ++ v :: l.drop m).length) := by show _ = _; rw [hE]
     generalize hzz : ((lt ++ [v]) ++ ld).length = zz at HLL ⊢
     refine take_at (i := 11) 4 (v := .slice a10 zz c10) rfl rfl (by kernel_rfl) (by kernel_rfl) (by kernel_rfl) (fun _ _ _ h => h) (Or.inl ⟨by rfl, fun w' hw' => by go_simp⟩) hS ?_
     simp only [Act.put, lsA, lsZ, lsS]
     refine wpAnyH_done (by kernel_rfl) ?_ _
     go_wp2_with fail
     go_ret
     exact ⟨m, a10, c10, by rw [← HLL.out]; rfl, HM.out.1, HM.out.2.1, HM.out.2.2, HOWN.out, fun c hc => Nat.le_trans HOV.out.size (HAT.out c hc), HOV.out.trans hS (fun _ _ h => h)⟩
    ·go_simp
     refine hK'.out _ _ (hS.alloc _) (fun hS => ?_)
     clear hK' K'
     have CB := Cel.new v2 92 #[.int .i64 v.node, .int .i64 v.num, .slice v.ad v.data.length v.cap, .bool v.dead]
     have OB : Off (fun _ => False) v2 (v2.alloc (.cells #[.int .i64 v.node, .int .i64 v.num, .slice v.ad v.data.length v.cap, .bool v.dead] 92)) := (Off.refl _ v2).alloc _
     generalize hq5 : v2.heap.size = q5 at CB ⊢
     generalize hv5 : v2.alloc (.cells #[.int .i64 v.node, .int .i64 v.num, .slice v.ad v.data.length v.cap, .bool v.dead] 92) = v3 at CB OB hS ⊢
     clear hv5 hq5
     refine wpAnyH_ready (rs := [3]) (by kernel_rfl) (by simp) ?_
     refine AllReadyH.cons rfl (fun K' hK' => ?_) AllReadyH.nil
     obtain ⟨a3, c3, v5, hr, own3, o3, at3⟩ := app_runV (OwnV.nil v3) (HRT.out.off hS) HZ.out (by simp; omega) 31
     rw [List.nil_append] at hr own3
     replace o3 : Off (fun _ => False) v3 v5 := o3.mono (fun _ _ h => by simp [blk] at h)
     replace at3 : ∀ c, blk a3 = some c → V.heap.size ≤ c := fun c hc => by have := hS.size; rcases at3 with e | e <;> (rw [e] at hc; simp [blk] at hc; try omega)
     have hS3 := hS.trans o3 (fun _ _ h => h)
     refine wp_append_if rfl (.const (.slice none 0 0)) (.tmp 24) rfl rfl rfl hr 25 rfl ?_
     simp only [Act.put, lsA, lsZ, lsS]
     refine hK'.out _ _ hS3 (fun hS => ?_)
     clear hK' K' hr
     refine wpAnyH_ready (rs := [6]) (by kernel_rfl) (by simp) ?_
     refine AllReadyH.cons rfl (fun K' hK' => ?_) AllReadyH.nil
     have RB := row_one (CB.off o3 (fun h => h)) (HV.out.off hS (fun _ _ _ h => h))
     obtain ⟨a6, c6, v6, hr, own6, o6, at6⟩ := app_runV own3 RB (fun h => by simp at h) (by simp; omega) 31
     replace o6 : Off (fun _ => False) V v6 := ((hS.mono (fun _ _ h => h.elim)).trans o6 (fun _ _ h => h)).mono (fun j hj e => by have := at3 j e; omega)
     replace at6 : ∀ c, blk a6 = some c → V.heap.size ≤ c := fun c hc => by
      have := hS.size
      rcases at6 with e | e
      ·exact at3 c (e ▸ hc)
      ·rw [e] at hc
       simp at hc
       omega
     have hS6 := o6
     refine wp_append_if rfl (.tmp 25) (.tmp 27) rfl rfl rfl hr 28 rfl ?_
     simp only [Act.put, lsA, lsZ, lsS]
     refine hK'.out _ _ hS6 (fun hS => ?_)
     clear hK' K' hr
     clear o6 RB
     refine wpAnyH_ready (rs := [10]) (by kernel_rfl) (by simp) ?_
     refine AllReadyH.cons rfl (fun K' hK' => ?_) AllReadyH.nil
     obtain ⟨a10, c10, v10, hr, own10, o10, at10⟩ := app_runV own6 (HRD.out.off hS) HZ2.out (by simp; omega) 31
     replace o10 : Off (fun _ => False) V v10 := ((hS.mono (fun _ _ h => h.elim)).trans o10 (fun _ _ h => h)).mono (fun j hj e => by have := at6 j e; omega)
     replace at10 : ∀ c, blk a10 = some c → V.heap.size ≤ c := fun c hc => by
      have := hS.size
      rcases at10 with e | e
      ·exact at6 c (e ▸ hc)
      ·rw [e] at hc
       simp at hc
       omega
     have hS10 := o10
     refine wp_append_if rfl (.tmp 28) (.tmp 31) rfl rfl rfl hr 32 rfl ?_
     simp only [Act.put, lsA, lsZ, lsS]
     refine hK'.out _ _ hS10 (fun hS => ?_)
     clear hK' K' hr
     have hE := HE.out
     have own : OwnV v10 a10 c10 (l.take m ++ v :: l.drop m) := by rw [← hE]; exact own10
     have HOWN : Hid _ := own
     have HAT : Hid _ := at10
     have HLL : Hid (((lt ++ [v]) ++ ld).length = (l.take m ++ v :: l.drop m).length) := by show _ = _; rw [hE]
     generalize hzz : ((lt ++ [v]) ++ ld).length = zz at HLL ⊢
     refine take_at (i := 11) 4 (v := .slice a10 zz c10) rfl rfl (by kernel_rfl) (by kernel_rfl) (by kernel_rfl) (fun _ _ _ h => h) (Or.inl ⟨by rfl, fun w' hw' => by go_simp⟩) hS ?_
     simp only [Act.put, lsA, lsZ, lsS]
     refine wpAnyH_done (by kernel_rfl) ?_ _
     go_wp2_with fail
     go_ret
     exact ⟨m, a10, c10, by rw [← HLL.out]; rfl, HM.out.1, HM.out.2.1, HM.out.2.2, HOWN.out, fun c hc => Nat.le_trans HOV.out.size (HAT.out c hc), HOV.out.trans hS (fun _ _ h => h)⟩
   ·subst hay
    go_upto_region 2 with fail
    refine wp_region_held_drew (S := fun w' => Off (fun _ => False) wr w') (by kernel_rfl) ((Off.refl _ wr).drew) (fun hS => ?_)
    refine take_at (i := 0) 6 (v := .int .i64 (m : Int)) rfl rfl (by kernel_rfl) (by kernel_rfl) (by kernel_rfl) (fun _ _ _ h => h) (Or.inl ⟨by rfl, fun w' hw' => by go_simp⟩) hS ?_
    simp only [Act.put, lsA, lsZ, lsS]
    refine take_at (i := 1) 7 (v := .slice (some ⟨ba, fa, none⟩) l.length ca) rfl rfl (by kernel_rfl) (by kernel_rfl) (by kernel_rfl) (fun _ _ _ h => h) (Or.inl ⟨by rfl, fun w' hw' => by go_simp⟩) hS ?_
    simp only [Act.put, lsA, lsZ, lsS]
    refine take_at (i := 2) 8 (v := .int .i64 (l.length : Int)) rfl rfl (by kernel_rfl) (by kernel_rfl) (by kernel_rfl) (fun _ _ _ h => h) (Or.inl ⟨by rfl, fun w' hw' => by go_simp⟩) hS ?_
    simp only [Act.put, lsA, lsZ, lsS]
    refine take_at (i := 3) 9 (v := .bool true) rfl rfl (by kernel_rfl) (by kernel_rfl) (by kernel_rfl) (fun _ _ _ h => h) (Or.inl ⟨by rfl, fun w' hw' => by go_simp⟩) hS ?_
    simp only [Act.put, lsA, lsZ, lsS]
    refine take_at (i := 4) 10 (v := .bool true) rfl rfl (by kernel_rfl) (by kernel_rfl) (by kernel_rfl) (fun _ _ _ h => h) (Or.inl ⟨by rfl, fun w' hw' => by go_simp⟩) hS ?_
    simp only [Act.put, lsA, lsZ, lsS]
    refine take_at (i := 5) 11 (v := .slice (some ⟨ba, fa, none⟩) l.length ca) rfl rfl (by kernel_rfl) (by kernel_rfl) (by kernel_rfl) (fun _ _ _ h => h) (Or.inl ⟨by rfl, fun w' hw' => by go_simp⟩) hS ?_
    simp only [Act.put, lsA, lsZ, lsS]
    refine take_at (i := 6) 12 (v := .int .i64 (m : Int)) rfl rfl (by kernel_rfl) (by kernel_rfl) (by kernel_rfl) (fun _ _ _ h => h) (Or.inl ⟨by rfl, fun w' hw' => by go_simp⟩) hS ?_
    simp only [Act.put, lsA, lsZ, lsS]
    refine take_at (i := 7) 13 (v := .pointer (some ⟨ba, fa + m * 4, none⟩)) rfl rfl (by kernel_rfl) (by kernel_rfl) (by kernel_rfl) (fun _ _ _ h => h) (Or.inl ⟨by rfl, fun w' hw' => by go_simp⟩) hS ?_
    simp only [Act.put, lsA, lsZ, lsS]
    refine take_at (i := 8) 14 (v := .pointer (some ⟨ba, fa + m * 4, none⟩)) rfl rfl (by kernel_rfl) (by kernel_rfl) (by kernel_rfl) (fun _ _ _ h => h) (Or.inl ⟨by rfl, fun w' hw' => by go_simp⟩) hS ?_
    simp only [Act.put, lsA, lsZ, lsS]
    refine take_at (i := 9) 15 (v := .agg #[.int .i64 x.node, .int .i64 x.num]) rfl rfl (by kernel_rfl) (by kernel_rfl) (by kernel_rfl) (fun _ _ _ h => h) (Or.inl ⟨by rfl, fun w' hw' => by obtain ⟨c0, c1, c2, c3⟩ := H4.out.off (HP.out.trans hw' (fun _ _ h => h)) (fun _ h => h); go_simp⟩) hS ?_
    simp only [Act.put, lsA, lsZ, lsS]
    refine take_at (i := 10) 16 (v := .pointer (some ⟨q, 0, none⟩)) rfl rfl (by kernel_rfl) (by kernel_rfl) (by kernel_rfl) (fun _ _ _ h => h) (Or.inl ⟨by rfl, fun w' hw' => by go_simp⟩) hS ?_
    simp only [Act.put, lsA, lsZ, lsS]
    refine take_at (i := 11) 17 (v := .agg #[.int .i64 v.node, .int .i64 v.num]) rfl rfl (by kernel_rfl) (by kernel_rfl) (by kernel_rfl) (fun _ _ _ h => h) (Or.inl ⟨by rfl, fun w' hw' => by obtain ⟨x0, x1, x2, x3⟩ := cel4 (HQ.out.off (HP.out.trans hw' (fun _ _ h => h)) (fun h => h)); go_simp⟩) hS ?_
    simp only [Act.put, lsA, lsZ, lsS]
    refine wpAnyH_ready (rs := [12]) (by kernel_rfl) (by simp) ?_
    refine AllReadyH.cons rfl (fun K' hK' => ?_) AllReadyH.nil
    go_simp
    refine (fless_any _ _ _ _ _).mono ?_
    rw [hrr]
    rintro e v1 ⟨rfl, o1⟩
    refine hK'.out _ _ (hS.trans o1 (fun _ _ h => h)) (fun hS => ?_)
    clear hK' K' o1
    refine take_at (i := 13) 19 (v := .bool true) rfl rfl (by kernel_rfl) (by kernel_rfl) (by kernel_rfl) (fun _ _ _ h => h) (Or.inl ⟨by rfl, fun w' hw' => by go_simp⟩) hS ?_
    simp only [Act.put, lsA, lsZ, lsS]
    refine wpAnyH_done (by kernel_rfl) ?_ _
    have HP1 : Hid _ := HP.out.trans hS (fun _ _ h => h)
    clear hS HP
    have HT : Hid (∀ z ∈ l.take (m + 1), lessB z.node z.num v.node v.num = true) := fun z hz => by
     have hX := HX.out
     rw [List.take_add_one, hX, List.mem_append] at hz
     rcases hz with hz | hz
     ·exact HUP.out z hz
     ·simp at hz
      subst hz
      exact hrr
    go_wp2_with fail
    go_roundw
    case rel => exact ⟨m + 1, by go_num, by omega, HT.out, HP1.out⟩
    case measure => simp [intOf]; omega
  ·have i1 : decide ((m : Int) < (l.length : Int)) = false := decide_eq_false (by omega)
   have i2 : decide (m < l.length) = false := decide_eq_false hlm
   have HM : Hid (m ≤ l.length ∧ (∀ z ∈ l.take m, lessB z.node z.num v.node v.num = true) ∧ ∀ y, l[m]? = some y → lessB y.node y.num v.node v.num = false) := ⟨hm, HUP.out, fun y hy => by
    obtain ⟨h, -⟩ := List.getElem?_eq_some_iff.1 hy
    omega⟩
   go_upto_region 2 with fail
   refine wp_region_held_drew (S := fun w' => w' = wr.drew) (by kernel_rfl) rfl (fun hS => ?_)
   refine take_at (i := 0) 6 (v := .int .i64 (m : Int)) rfl rfl (by kernel_rfl) (by kernel_rfl) (by kernel_rfl) (fun _ _ _ h => h) (Or.inl ⟨by rfl, fun w' hw' => by go_simp⟩) hS ?_
   simp only [Act.put, lsA, lsZ, lsS]
   refine take_at (i := 1) 7 (v := .slice a l.length ca) rfl rfl (by kernel_rfl) (by kernel_rfl) (by kernel_rfl) (fun _ _ _ h => h) (Or.inl ⟨by rfl, fun w' hw' => by go_simp⟩) hS ?_
   simp only [Act.put, lsA, lsZ, lsS]
   refine take_at (i := 2) 8 (v := .int .i64 (l.length : Int)) rfl rfl (by kernel_rfl) (by kernel_rfl) (by kernel_rfl) (fun _ _ _ h => h) (Or.inl ⟨by rfl, fun w' hw' => by go_simp⟩) hS ?_
   simp only [Act.put, lsA, lsZ, lsS]
   refine take_at (i := 3) 9 (v := .bool false) rfl rfl (by kernel_rfl) (by kernel_rfl) (by kernel_rfl) (fun _ _ _ h => h) (Or.inl ⟨by rfl, fun w' hw' => by go_simp⟩) hS ?_
   simp only [Act.put, lsA, lsZ, lsS]
   refine take_at (i := 4) 10 (v := .bool false) rfl rfl (by kernel_rfl) (by kernel_rfl) (by kernel_rfl) (fun _ _ _ h => h) (Or.inl ⟨by rfl, fun w' hw' => by go_simp⟩) hS ?_
   simp only [Act.put, lsA, lsZ, lsS]
   refine take_at (i := 5) 11 (v := undef) rfl rfl (by kernel_rfl) (by kernel_rfl) (by kernel_rfl) (fun _ _ _ h => h) (Or.inr ⟨by rfl, rfl⟩) hS ?_
   simp only [Act.put, lsA, lsZ, lsS]
   refine take_at (i := 6) 12 (v := undef) rfl rfl (by kernel_rfl) (by kernel_rfl) (by kernel_rfl) (fun _ _ _ h => h) (Or.inr ⟨by rfl, rfl⟩) hS ?_
   simp only [Act.put, lsA, lsZ, lsS]
   refine take_at (i := 7) 13 (v := undef) rfl rfl (by kernel_rfl) (by kernel_rfl) (by kernel_rfl) (fun _ _ _ h => h) (Or.inr ⟨by rfl, rfl⟩) hS ?_
   simp only [Act.put, lsA, lsZ, lsS]
   refine take_at (i := 8) 14 (v := undef) rfl rfl (by kernel_rfl) (by kernel_rfl) (by kernel_rfl) (fun _ _ _ h => h) (Or.inr ⟨by rfl, rfl⟩) hS ?_
   simp only [Act.put, lsA, lsZ, lsS]
   refine take_at (i := 9) 15 (v := undef) rfl rfl (by kernel_rfl) (by kernel_rfl) (by kernel_rfl) (fun _ _ _ h => h) (Or.inr ⟨by rfl, rfl⟩) hS ?_
   simp only [Act.put, lsA, lsZ, lsS]
   refine take_at (i := 10) 16 (v := undef) rfl rfl (by kernel_rfl) (by kernel_rfl) (by kernel_rfl) (fun _ _ _ h => h) (Or.inr ⟨by rfl, rfl⟩) hS ?_
   simp only [Act.put, lsA, lsZ, lsS]
   refine take_at (i := 11) 17 (v := undef) rfl rfl (by kernel_rfl) (by kernel_rfl) (by kernel_rfl) (fun _ _ _ h => h) (Or.inr ⟨by rfl, rfl⟩) hS ?_
   simp only [Act.put, lsA, lsZ, lsS]
   refine take_at (i := 12) 18 (v := undef) rfl rfl (by kernel_rfl) (by kernel_rfl) (by kernel_rfl) (fun _ _ _ h => h) (Or.inr ⟨by rfl, rfl⟩) hS ?_
   simp only [Act.put, lsA, lsZ, lsS]
   refine take_at (i := 13) 19 (v := .bool false) rfl rfl (by kernel_rfl) (by kernel_rfl) (by kernel_rfl) (fun _ _ _ h => h) (Or.inl ⟨by rfl, fun w' hw' => by go_simp⟩) hS ?_
   simp only [Act.put, lsA, lsZ, lsS]
   refine wpAnyH_done (by kernel_rfl) ?_ _
   have HP1 : Hid _ := HP.out.drew
   clear HP hS HUP
   generalize hdr : wr.drew = v1 at HP1 ⊢
   clear hdr i1 i2 hlm
   go_upto_region 4 with fail
   obtain ⟨hsh, hrt⟩ := HR.out.slh (k := m) hm
   obtain ⟨a2, hsl, hrd, hz2⟩ := HR.out.sll HZ.out (k := m) hm
   have HE : Hid ((l.take m ++ [v]) ++ l.drop m = l.take m ++ v :: l.drop m) := by show _ = _; simp
   have hlt : (l.take m).length ≤ 1000 := by simp; omega
   have hld : (l.drop m).length ≤ 1000 := by simp; omega
   have HRT : Hid _ := hrt
   have HRD : Hid _ := hrd
   have HZ2 : Hid _ := hz2
   clear hrt hrd hz2
   generalize hltt : l.take m = lt at hsh HRT HE hlt
   generalize hldd : l.drop m = ld at hsl HRD HE hld
   rw [← hltt, ← hldd] at HE
   replace HE : Hid ((lt ++ [v]) ++ ld = l.take m ++ v :: l.drop m) := by show _ = _; rw [hltt, hldd]; simp
   clear hltt hldd
   have HPV : Hid _ := HP1.out
   refine wp_region_held_drew (S := fun w' => Off (fun _ => False) V w') (by kernel_rfl) (HP1.out.drew) (fun hS => ?_)
   generalize hdr : v1.drew = v2 at hS ⊢
   clear hdr
   refine take_at (i := 0) 22 (v := .slice a l.length ca) rfl rfl (by kernel_rfl) (by kernel_rfl) (by kernel_rfl) (fun _ _ _ h => h) (Or.inl ⟨by rfl, fun w' hw' => by go_simp⟩) hS ?_
   simp only [Act.put, lsA, lsZ, lsS]
   refine take_at (i := 1) 23 (v := .int .i64 (m : Int)) rfl rfl (by kernel_rfl) (by kernel_rfl) (by kernel_rfl) (fun _ _ _ h => h) (Or.inl ⟨by rfl, fun w' hw' => by go_simp⟩) hS ?_
   simp only [Act.put, lsA, lsZ, lsS]
   refine take_at (i := 2) 24 (v := .slice a lt.length ca) rfl rfl (by kernel_rfl) (by kernel_rfl) (by kernel_rfl) (fun _ _ _ h => h) (Or.inl ⟨by rfl, fun w' hw' => by go_simp⟩) hS ?_
   simp only [Act.put, lsA, lsZ, lsS]
   refine take_at (i := 4) 26 (v := .agg #[.int .i64 v.node, .int .i64 v.num, .slice v.ad v.data.length v.cap, .bool v.dead]) rfl rfl (by kernel_rfl) (by kernel_rfl) (by kernel_rfl) (fun _ _ _ h => h) (Or.inl ⟨by rfl, fun w' hw' => by obtain ⟨x0, x1, x2, x3⟩ := cel4 (HQ.out.off hw' (fun h => h)); go_simp⟩) hS ?_
   simp only [Act.put, lsA, lsZ, lsS]
   refine take_at (i := 7) 29 (v := .slice a l.length ca) rfl rfl (by kernel_rfl) (by kernel_rfl) (by kernel_rfl) (fun _ _ _ h => h) (Or.inl ⟨by rfl, fun w' hw' => by go_simp⟩) hS ?_
   simp only [Act.put, lsA, lsZ, lsS]
   refine take_at (i := 8) 30 (v := .int .i64 (m : Int)) rfl rfl (by kernel_rfl) (by kernel_rfl) (by kernel_rfl) (fun _ _ _ h => h) (Or.inl ⟨by rfl, fun w' hw' => by go_simp⟩) hS ?_
   simp only [Act.put, lsA, lsZ, lsS]
   refine take_at (i := 9) 31 (v := .slice a2 ld.length (ca - m)) rfl rfl (by kernel_rfl) (by kernel_rfl) (by kernel_rfl) (fun _ _ _ h => h) (Or.inl ⟨by rfl, fun w' hw' => by go_simp⟩) hS ?_
   simp only [Act.put, lsA, lsZ, lsS]
   refine wpAnyH_ready (rs := [3, 5]) (by kernel_rfl) (by simp) ?_
   refine AllReadyH.cons rfl (fun K' hK' => ?_) (AllReadyH.cons rfl (fun K' hK' => ?_) AllReadyH.nil)
   ·obtain ⟨a3, c3, v3, hr, own3, o3, at3⟩ := app_runV (OwnV.nil v2) (HRT.out.off hS) HZ.out (by simp; omega) 31
    rw [List.nil_append] at hr own3
    replace o3 : Off (fun _ => False) v2 v3 := o3.mono (fun _ _ h => by simp [blk] at h)
    replace at3 : ∀ c, blk a3 = some c → V.heap.size ≤ c := fun c hc => by have := hS.size; rcases at3 with e | e <;> (rw [e] at hc; simp [blk] at hc; try omega)
    have hS3 := hS.trans o3 (fun _ _ h => h)
    refine wp_append_if rfl (.const (.slice none 0 0)) (.tmp 24) rfl rfl rfl hr 25 rfl ?_
    simp only [Act.put, lsA, lsZ, lsS]
    refine hK'.out _ _ hS3 (fun hS => ?_)
    clear hK' K' hr
    refine wpAnyH_ready (rs := [5]) (by kernel_rfl) (by simp) ?_
    refine AllReadyH.cons rfl (fun K' hK' => ?_) AllReadyH.nil
    go_simp
    refine hK'.out _ _ (hS.alloc _) (fun hS => ?_)
    clear hK' K'
    have CB := Cel.new v3 92 #[.int .i64 v.node, .int .i64 v.num, .slice v.ad v.data.length v.cap, .bool v.dead]
    have OB : Off (fun _ => False) v3 (v3.alloc (.cells #[.int .i64 v.node, .int .i64 v.num, .slice v.ad v.data.length v.cap, .bool v.dead] 92)) := (Off.refl _ v3).alloc _
    generalize hq5 : v3.heap.size = q5 at CB ⊢
    generalize hv5 : v3.alloc (.cells #[.int .i64 v.node, .int .i64 v.num, .slice v.ad v.data.length v.cap, .bool v.dead] 92) = v5 at CB OB hS ⊢
    clear hv5 hq5
    refine wpAnyH_ready (rs := [6]) (by kernel_rfl) (by simp) ?_
    refine AllReadyH.cons rfl (fun K' hK' => ?_) AllReadyH.nil
    have RB := row_one CB (HV.out.off hS (fun _ _ _ h => h))
    obtain ⟨a6, c6, v6, hr, own6, o6, at6⟩ := app_runV (own3.off OB (fun _ _ h => h)) RB (fun h => by simp at h) (by simp; omega) 31
    replace o6 : Off (fun _ => False) V v6 := ((hS.mono (fun _ _ h => h.elim)).trans o6 (fun _ _ h => h)).mono (fun j hj e => by have := at3 j e; omega)
    replace at6 : ∀ c, blk a6 = some c → V.heap.size ≤ c := fun c hc => by
     have := hS.size
     rcases at6 with e | e
     ·exact at3 c (e ▸ hc)
     ·rw [e] at hc
      simp at hc
      omega
    have hS6 := o6
    refine wp_append_if rfl (.tmp 25) (.tmp 27) rfl rfl rfl hr 28 rfl ?_
    simp only [Act.put, lsA, lsZ, lsS]
    refine hK'.out _ _ hS6 (fun hS => ?_)
    clear hK' K' hr
    clear o6 RB
    refine wpAnyH_ready (rs := [10]) (by kernel_rfl) (by simp) ?_
    refine AllReadyH.cons rfl (fun K' hK' => ?_) AllReadyH.nil
    obtain ⟨a10, c10, v10, hr, own10, o10, at10⟩ := app_runV own6 (HRD.out.off hS) HZ2.out (by simp; omega) 31
    replace o10 : Off (fun _ => False) V v10 := ((hS.mono (fun _ _ h => h.elim)).trans o10 (fun _ _ h => h)).mono (fun j hj e => by have := at6 j e; omega)
    replace at10 : ∀ c, blk a10 = some c → V.heap.size ≤ c := fun c hc => by
     have := hS.size
     rcases at10 with e | e
     ·exact at6 c (e ▸ hc)
     ·rw [e] at hc
      simp at hc
      omega
    have hS10 := o10
    refine wp_append_if rfl (.tmp 28) (.tmp 31) rfl rfl rfl hr 32 rfl ?_
    simp only [Act.put, lsA, lsZ, lsS]
    refine hK'.out _ _ hS10 (fun hS => ?_)
    clear hK' K' hr
    have hE := HE.out
    have own : OwnV v10 a10 c10 (l.take m ++ v :: l.drop m) := by rw [← hE]; exact own10
    have HOWN : Hid _ := own
    have HAT : Hid _ := at10
    have HLL : Hid (((lt ++ [v]) ++ ld).length = (l.take m ++ v :: l.drop m).length) := by show _ = _; rw [hE]
    generalize hzz : ((lt ++ [v]) ++ ld).length = zz at HLL ⊢
    refine take_at (i := 11) 4 (v := .slice a10 zz c10) rfl rfl (by kernel_rfl) (by kernel_rfl) (by kernel_rfl) (fun _ _ _ h => h) (Or.inl ⟨by rfl, fun w' hw' => by go_simp⟩) hS ?_
    simp only [Act.put, lsA, lsZ, lsS]
    refine wpAnyH_done (by kernel_rfl) ?_ _
    go_wp2_with fail
    go_ret
    exact ⟨m, a10, c10, by rw [← HLL.out]; rfl, HM.out.1, HM.out.2.1, HM.out.2.2, HOWN.out, fun c hc => Nat.le_trans HOV.out.size (HAT.out c hc), HOV.out.trans hS (fun _ _ h => h)⟩
   ·go_simp
    refine hK'.out _ _ (hS.alloc _) (fun hS => ?_)
    clear hK' K'
    have CB := Cel.new v2 92 #[.int .i64 v.node, .int .i64 v.num, .slice v.ad v.data.length v.cap, .bool v.dead]
    have OB : Off (fun _ => False) v2 (v2.alloc (.cells #[.int .i64 v.node, .int .i64 v.num, .slice v.ad v.data.length v.cap, .bool v.dead] 92)) := (Off.refl _ v2).alloc _
    generalize hq5 : v2.heap.size = q5 at CB ⊢
    generalize hv5 : v2.alloc (.cells #[.int .i64 v.node, .int .i64 v.num, .slice v.ad v.data.length v.cap, .bool v.dead] 92) = v3 at CB OB hS ⊢
    clear hv5 hq5
    refine wpAnyH_ready (rs := [3]) (by kernel_rfl) (by simp) ?_
    refine AllReadyH.cons rfl (fun K' hK' => ?_) AllReadyH.nil
    obtain ⟨a3, c3, v5, hr, own3, o3, at3⟩ := app_runV (OwnV.nil v3) (HRT.out.off hS) HZ.out (by simp; omega) 31
    rw [List.nil_append] at hr own3
    replace o3 : Off (fun _ => False) v3 v5 := o3.mono (fun _ _ h => by simp [blk] at h)
    replace at3 : ∀ c, blk a3 = some c → V.heap.size ≤ c := fun c hc => by have := hS.size; rcases at3 with e | e <;> (rw [e] at hc; simp [blk] at hc; try omega)
    have hS3 := hS.trans o3 (fun _ _ h => h)
    refine wp_append_if rfl (.const (.slice none 0 0)) (.tmp 24) rfl rfl rfl hr 25 rfl ?_
    simp only [Act.put, lsA, lsZ, lsS]
    refine hK'.out _ _ hS3 (fun hS => ?_)
    clear hK' K' hr
    refine wpAnyH_ready (rs := [6]) (by kernel_rfl) (by simp) ?_
    refine AllReadyH.cons rfl (fun K' hK' => ?_) AllReadyH.nil
    have RB := row_one (CB.off o3 (fun h => h)) (HV.out.off hS (fun _ _ _ h => h))
    obtain ⟨a6, c6, v6, hr, own6, o6, at6⟩ := app_runV own3 RB (fun h => by simp at h) (by simp; omega) 31
    replace o6 : Off (fun _ => False) V v6 := ((hS.mono (fun _ _ h => h.elim)).trans o6 (fun _ _ h => h)).mono (fun j hj e => by have := at3 j e; omega)
    replace at6 : ∀ c, blk a6 = some c → V.heap.size ≤ c := fun c hc => by
     have := hS.size
     rcases at6 with e | e
     ·exact at3 c (e ▸ hc)
     ·rw [e] at hc
      simp at hc
      omega
    have hS6 := o6
    refine wp_append_if rfl (.tmp 25) (.tmp 27) rfl rfl rfl hr 28 rfl ?_
    simp only [Act.put, lsA, lsZ, lsS]
    refine hK'.out _ _ hS6 (fun hS => ?_)
    clear hK' K' hr
    clear o6 RB
    refine wpAnyH_ready (rs := [10]) (by kernel_rfl) (by simp) ?_
    refine AllReadyH.cons rfl (fun K' hK' => ?_) AllReadyH.nil
    obtain ⟨a10, c10, v10, hr, own10, o10, at10⟩ := app_runV own6 (HRD.out.off hS) HZ2.out (by simp; omega) 31
    replace o10 : Off (fun _ => False) V v10 := ((hS.mono (fun _ _ h => h.elim)).trans o10 (fun _ _ h => h)).mono (fun j hj e => by have := at6 j e; omega)
    replace at10 : ∀ c, blk a10 = some c → V.heap.size ≤ c := fun c hc => by
     have := hS.size
     rcases at10 with e | e
     ·exact at6 c (e ▸ hc)
     ·rw [e] at hc
      simp at hc
      omega
    have hS10 := o10
    refine wp_append_if rfl (.tmp 28) (.tmp 31) rfl rfl rfl hr 32 rfl ?_
    simp only [Act.put, lsA, lsZ, lsS]
    refine hK'.out _ _ hS10 (fun hS => ?_)
    clear hK' K' hr
    have hE := HE.out
    have own : OwnV v10 a10 c10 (l.take m ++ v :: l.drop m) := by rw [← hE]; exact own10
    have HOWN : Hid _ := own
    have HAT : Hid _ := at10
    have HLL : Hid (((lt ++ [v]) ++ ld).length = (l.take m ++ v :: l.drop m).length) := by show _ = _; rw [hE]
    generalize hzz : ((lt ++ [v]) ++ ld).length = zz at HLL ⊢
    refine take_at (i := 11) 4 (v := .slice a10 zz c10) rfl rfl (by kernel_rfl) (by kernel_rfl) (by kernel_rfl) (fun _ _ _ h => h) (Or.inl ⟨by rfl, fun w' hw' => by go_simp⟩) hS ?_
    simp only [Act.put, lsA, lsZ, lsS]
    refine wpAnyH_done (by kernel_rfl) ?_ _
    go_wp2_with fail
    go_ret
    exact ⟨m, a10, c10, by rw [← HLL.out]; rfl, HM.out.1, HM.out.2.1, HM.out.2.2, HOWN.out, fun c hc => Nat.le_trans HOV.out.size (HAT.out c hc), HOV.out.trans hS (fun _ _ h => h)⟩
end Go.Proofs.Ytmjmgdbhmbjmaaa
