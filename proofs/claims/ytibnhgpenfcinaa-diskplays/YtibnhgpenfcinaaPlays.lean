/- The walk of DiskPlays. -/
import Derived.Test.YtibnhgpenfcinaaCal6
namespace Go.Proofs.Ytibnhgpenfcinaa
open Go.RowKit

theorem min_int (x y : Int) (ts : Array TypeId) (t : TypeId) (W : World) : (Builtin.min_ ts t #[.int .i64 x, .int .i64 y]).run Try.prog W = .ok (.int .i64 (min x y)) W := by
  rw [run_min_int2]
  congr 2
  split <;> omega
theorem max_int (x y : Int) (ts : Array TypeId) (t : TypeId) (W : World) : (Builtin.max_ ts t #[.int .i64 x, .int .i64 y]).run Try.prog W = .ok (.int .i64 (max x y)) W := by
  rw [run_max_int2]
  congr 2
  split <;> omega
theorem cel3 {b : Nat} {t : TypeId} {x y z : Value} {w : World} (h : Cel b t #[x, y, z] w) : w.cell? ⟨b, 0, none⟩ = some x ∧ w.cell? ⟨b, 1, none⟩ = some y ∧ w.cell? ⟨b, 2, none⟩ = some z := ⟨h.cell 0, h.cell 1, h.cell 2⟩

set_option maxRecDepth 100000 in
set_option maxHeartbeats 8000000 in
theorem plays_walk (most : Int) (a : Option Addr) (len cap : Nat) (cs : Nat → CallD) (w : World) (_ : -9223372036854775808 ≤ most ∧ most ≤ 9223372036854775807) (hA : ArgC w a len cs) :
    Calls Try.prog 3 #[.int .i64 most, .slice a len cap] w fun e w' => e = .returned (.bool true) ∧ Off (fun _ => False) w w' := by
  obtain ⟨mm, hmm⟩ : ∃ mm, mm = roomOf most := ⟨_, rfl⟩
  have hmb : mm ≤ 1048576 := by rw [hmm, roomOf]; omega
  have m1 := min_int most 1048576
  have m2 : ∀ ts t W, (Builtin.max_ ts t #[.int .i64 0, .int .i64 (min most 1048576)]).run Try.prog W = .ok (.int .i64 (mm : Int)) W := fun ts t W => by
    rw [max_int, hmm, roomOf]
    congr 2
    omega
  have HA : Hid _ := hA
  have lb := hA.bound
  clear hA
  go_enter Try.func3, Try.ntmps3
  go_wp2_with fail
  refine (anew_any most (Off.refl _ w)).mono ?_
  rintro e v0 ⟨b, rfl, A, -, -⟩
  rw [← hmm] at A
  clear hmm
  go_wp2_with fail
  refine (amost_any A).mono ?_
  rintro e v' ⟨rfl, hv⟩
  rw [hv]
  clear hv v'
  have HST : Hid (Sta w v0 b mm [] 0 none 0 []) := by
    obtain ⟨h1, D, k, hd⟩ := A
    exact ⟨h1, D, k, hd, OwnR.nil _, fun c hc => by simp [blk] at hc⟩
  clear A
  go_wp2_with fail
  clear m1 m2
  go_loopw [9, 7, 8] (fun y z x wr => ∃ (i : Nat) (ns : List Nat) (s : Nat) (tn : Option Addr) (cn : Nat), y = .int .i64 (i : Int) ∧ z = .slice tn ns.length cn ∧ x = .int .i64 (s : Int) ∧ i ≤ len ∧ i ≤ 80 ∧ Sta w wr b mm ns s tn cn ns) (fun y _ _ _ => (len - intOf y).toNat)
  case atStart => exact ⟨0, [], 0, none, 0, rfl, rfl, rfl, by omega, by omega, HST.out⟩
  case round =>
    clear HST
    obtain ⟨i, ns, s, tn, cn, rfl, rfl, rfl, hi, hi8, ST⟩ := hrel
    have hfit := ST.att.fit
    have hsu := ST.att.su
    by_cases hin : i < len
    · have t1 : decide ((i : Int) < (len : Int)) = true := decide_eq_true (by omega)
      have t1' : decide (i < len) = true := decide_eq_true (by omega)
      by_cases h8 : i < 80
      · have t2 : decide ((i : Int) < 80) = true := decide_eq_true (by omega)
        obtain ⟨pb, poff, rfl, hpb, hc⟩ := HA.out.at_ i hin
        obtain ⟨⟨act, num, tt, tc, text⟩, ec⟩ : ∃ c, c = cs i := ⟨_, rfl⟩
        rw [← ec] at hc
        obtain ⟨k0, k1, k2, i0, i1, -, tl⟩ := hc.off ST.off
        have HX : Hid (Src w tt tc text) := hc.src
        clear ec hc
        simp only at k0 k1 k2 i0 i1 tl
        go_upto_region 11 with fail
        clear k0 k1 k2
        have CQ := Cel.new wr 28 #[.int .i64 act, .int .i64 num, .slice tt text.length tc]
        have OA : Off (fun _ => False) wr (wr.alloc (.cells #[.int .i64 act, .int .i64 num, .slice tt text.length tc] 28)) := (Off.refl _ wr).alloc _
        generalize hq : wr.heap.size = q at CQ ⊢
        generalize hv : wr.alloc (.cells #[.int .i64 act, .int .i64 num, .slice tt text.length tc] 28) = v1 at CQ OA ⊢
        clear hq hv
        replace ST := ST.free OA
        have HQ : Hid _ := CQ
        clear CQ OA
        by_cases a0 : act = 0
        · subst a0
          by_cases hf : ns.length + text.length ≤ mm
          · obtain ⟨eE, eA⟩ := app_yes (m := mm) (bs := ns) (xs := text) (by omega)
            have d2 : decide ((mm : Int) - (ns.length : Int) < (text.length : Int)) = false := decide_eq_false (by omega)
            obtain ⟨y0, y1, y2⟩ := cel3 HQ.out
            go_upto_region 19 with fail
            clear y0 y1 y2
            refine wp_region_held_drew (S := fun w' => Off (fun _ => False) v1 w') (by kernel_rfl) ((Off.refl _ v1).drew) (fun hS => ?_)
            have ST1 := ST.free ((Off.refl _ v1).drew)
            generalize hdr : v1.drew = v2 at ST1 hS ⊢
            clear hdr
            refine take_at (i := 0) 74 (v := .slice tn ns.length cn) rfl rfl (by kernel_rfl) (by kernel_rfl) (by kernel_rfl) (fun _ _ _ h => h) (Or.inl ⟨by rfl, fun w' hw' => by go_simp⟩) hS ?_
            simp only [Act.put, List.setIfInBounds_toArray, List.set_cons_zero, List.set_cons_succ]
            refine take_at (i := 2) 76 (v := .pointer (some ⟨q, 2, none⟩)) rfl rfl (by kernel_rfl) (by kernel_rfl) (by kernel_rfl) (fun _ _ _ h => h) (Or.inl ⟨by rfl, fun w' hw' => by go_simp⟩) hS ?_
            simp only [Act.put, List.setIfInBounds_toArray, List.set_cons_zero, List.set_cons_succ]
            refine take_at (i := 3) 77 (v := .slice tt text.length tc) rfl rfl (by kernel_rfl) (by kernel_rfl) (by kernel_rfl) (fun _ _ _ h => h) (Or.inl ⟨by rfl, fun w' hw' => by have y2 := (HQ.out.off hw' (fun h => h)).cell 2; simp at y2; go_simp⟩) hS ?_
            simp only [Act.put, List.setIfInBounds_toArray, List.set_cons_zero, List.set_cons_succ]
            have HS1 : Hid _ := hS
            obtain ⟨t3, c3, v3, hr, own3, o3, at3⟩ := app_run (OwnR.nil v2) ST1.own.src (by simp; omega) 25
            rw [List.nil_append] at hr own3
            replace o3 : Off (fun _ => False) v2 v3 := o3.mono (fun _ _ h => by simp [blk] at h)
            replace at3 : ∀ c, blk t3 = some c → v2.heap.size ≤ c := fun c hc => by rcases at3 with e | e <;> (rw [e] at hc; simp [blk] at hc; try omega)
            refine wpAnyH_ready (rs := [1]) (by kernel_rfl) (by simp) ?_
            refine AllReadyH.cons rfl (fun K' hK' => ?_) AllReadyH.nil
            refine wp_append_if rfl (.const (.slice none 0 0)) (.tmp 74) rfl rfl rfl hr 75 rfl ?_
            simp only [Act.put, List.setIfInBounds_toArray, List.set_cons_zero, List.set_cons_succ]
            refine hK'.out _ _ (hS.trans o3 (fun _ _ h => h)) (fun hS => ?_)
            clear hK' K' hr
            obtain ⟨t4, c4, v4, hr, own4, o4, at4⟩ := app_run own3 (HX.out.off (ST.off.trans hS (fun _ _ h => h)) (fun _ _ _ h => h)) (by omega) 25
            replace o4 : Off (fun _ => False) v2 v4 := ((o3.mono (fun _ _ h => h.elim)).trans o4 (fun _ _ h => h)).mono (fun j hj e => by have := at3 j e; omega)
            have at5 : ∀ c, blk t4 = some c → v2.heap.size ≤ c := fun c hc => by
              rcases at4 with e | e
              · exact at3 c (e ▸ hc)
              · rw [e] at hc
                simp at hc
                have := o3.size
                omega
            replace ST := ST1.anew o4 own4 at5
            clear at4 at5 own4 own3 at3 o3 ST1
            have hS4 : Off (fun _ => False) v1 v4 := HS1.out.trans o4 (fun _ _ h => h)
            refine wpAnyH_ready (rs := [4]) (by kernel_rfl) (by simp) ?_
            refine AllReadyH.cons rfl (fun K' hK' => ?_) AllReadyH.nil
            refine wp_append_if rfl (.tmp 75) (.tmp 77) rfl rfl rfl hr 78 rfl ?_
            simp only [Act.put, List.setIfInBounds_toArray, List.set_cons_zero, List.set_cons_succ]
            refine hK'.out _ _ hS4 (fun hS => ?_)
            clear hK' K' hr hS4
            generalize hzs : ns ++ text = zs at ST
            refine take_at (i := 5) 7 (v := .slice t4 zs.length c4) rfl rfl (by kernel_rfl) (by kernel_rfl) (by kernel_rfl) (fun _ _ _ h => h) (Or.inl ⟨by rfl, fun w' hw' => by go_simp⟩) hS ?_
            simp only [Act.put, List.setIfInBounds_toArray, List.set_cons_zero, List.set_cons_succ]
            refine wpAnyH_done (by kernel_rfl) ?_ _
            obtain ⟨y0, y1, y2⟩ := cel3 (HQ.out.off hS (fun h => h))
            go_wp2_with fail
            clear y0 y1 y2
            have HS9 : Hid _ := HX.out.off (ST.off) (fun _ _ _ h => h)
            refine (sappend_any ST tt tc text HS9.out (by omega)).mono ?_
            rintro e v9 ⟨rfl, ST9⟩
            clear HS9
            rw [eE] at *
            rw [eA, hzs] at ST9
            clear ST
            have ST := ST9
            clear ST9
            go_upto_region 42 with fail
            have HN : Hid _ := ST.own.src
            have AT := ST.att
            refine wp_region_held_drew (S := fun w' => Off (fun _ => False) v9 w') (by kernel_rfl) ((Off.refl _ v9).drew) (fun hS => ?_)
            replace AT := AT.free ((Off.refl _ v9).drew)
            generalize hdr : v9.drew = va at AT hS ⊢
            clear hdr
            refine take_at (i := 0) 134 (v := .pointer (some ⟨b, 0, none⟩)) rfl rfl (by kernel_rfl) (by kernel_rfl) (by kernel_rfl) (fun _ _ _ h => h) (Or.inl ⟨by rfl, fun w' hw' => by go_simp⟩) hS ?_
            simp only [Act.put, List.setIfInBounds_toArray, List.set_cons_zero, List.set_cons_succ]
            refine take_at (i := 3) 137 (v := .slice t4 zs.length c4) rfl rfl (by kernel_rfl) (by kernel_rfl) (by kernel_rfl) (fun _ _ _ h => h) (Or.inl ⟨by rfl, fun w' hw' => by go_simp⟩) hS ?_
            simp only [Act.put, List.setIfInBounds_toArray, List.set_cons_zero, List.set_cons_succ]
            refine take_at (i := 4) 138 (v := .string (strOf zs)) rfl rfl (by kernel_rfl) (by kernel_rfl) (by kernel_rfl) (fun _ _ _ h => h) (Or.inl ⟨by rfl, fun w' hw' => by have hcs := conv_src (HN.out.off hw' (fun _ _ _ h => h)); go_simp⟩) hS ?_
            simp only [Act.put, List.setIfInBounds_toArray, List.set_cons_zero, List.set_cons_succ]
            refine wpAnyH_ready (rs := [1]) (by kernel_rfl) (by simp) ?_
            refine AllReadyH.cons rfl (fun K' hK' => ?_) AllReadyH.nil
            go_simp
            refine (abytes_any AT).mono ?_
            rintro e vb ⟨tb, cb, rfl, own, -, AT2, ob⟩
            have hcs := conv_src own.src
            refine hK'.out _ _ (hS.trans ob (fun _ _ h => h)) (fun hS => ?_)
            clear hK' K' own ob AT
            refine wpAnyH_ready (rs := [2]) (by kernel_rfl) (by simp) ?_
            refine AllReadyH.cons rfl (fun K' hK' => ?_) AllReadyH.nil
            go_simp
            refine hK'.out _ _ hS (fun hS => ?_)
            clear hK' K'
            clear hcs
            refine take_at (i := 5) 139 (v := .bool false) rfl rfl (by kernel_rfl) (by kernel_rfl) (by kernel_rfl) (fun _ _ _ h => h) (Or.inl ⟨by rfl, fun w' hw' => by go_simp⟩) hS ?_
            simp only [Act.put, List.setIfInBounds_toArray, List.set_cons_zero, List.set_cons_succ]
            refine take_at (i := 6) 140 (v := .bool false) rfl rfl (by kernel_rfl) (by kernel_rfl) (by kernel_rfl) (fun _ _ _ h => h) (Or.inl ⟨by rfl, fun w' hw' => by go_simp⟩) hS ?_
            simp only [Act.put, List.setIfInBounds_toArray, List.set_cons_zero, List.set_cons_succ]
            refine take_at (i := 7) 141 (v := .pointer (some ⟨b, 0, none⟩)) rfl rfl (by kernel_rfl) (by kernel_rfl) (by kernel_rfl) (fun _ _ _ h => h) (Or.inl ⟨by rfl, fun w' hw' => by go_simp⟩) hS ?_
            simp only [Act.put, List.setIfInBounds_toArray, List.set_cons_zero, List.set_cons_succ]
            refine take_at (i := 9) 143 (v := .slice t4 zs.length c4) rfl rfl (by kernel_rfl) (by kernel_rfl) (by kernel_rfl) (fun _ _ _ h => h) (Or.inl ⟨by rfl, fun w' hw' => by go_simp⟩) hS ?_
            simp only [Act.put, List.setIfInBounds_toArray, List.set_cons_zero, List.set_cons_succ]
            refine take_at (i := 10) 144 (v := .int .i64 (zs.length : Int)) rfl rfl (by kernel_rfl) (by kernel_rfl) (by kernel_rfl) (fun _ _ _ h => h) (Or.inl ⟨by rfl, fun w' hw' => by go_simp⟩) hS ?_
            simp only [Act.put, List.setIfInBounds_toArray, List.set_cons_zero, List.set_cons_succ]
            refine wpAnyH_ready (rs := [8]) (by kernel_rfl) (by simp) ?_
            refine AllReadyH.cons rfl (fun K' hK' => ?_) AllReadyH.nil
            go_simp
            refine (asize_any AT2).mono ?_
            rintro e v' ⟨rfl, hv⟩
            rw [hv]
            clear hv v'
            refine hK'.out _ _ hS (fun hS => ?_)
            clear hK' K'
            refine take_at (i := 11) 145 (v := .bool false) rfl rfl (by kernel_rfl) (by kernel_rfl) (by kernel_rfl) (fun _ _ _ h => h) (Or.inl ⟨by rfl, fun w' hw' => by go_simp⟩) hS ?_
            simp only [Act.put, List.setIfInBounds_toArray, List.set_cons_zero, List.set_cons_succ]
            refine take_at (i := 12) 146 (v := .bool false) rfl rfl (by kernel_rfl) (by kernel_rfl) (by kernel_rfl) (fun _ _ _ h => h) (Or.inl ⟨by rfl, fun w' hw' => by go_simp⟩) hS ?_
            simp only [Act.put, List.setIfInBounds_toArray, List.set_cons_zero, List.set_cons_succ]
            refine take_at (i := 13) 147 (v := .bool false) rfl rfl (by kernel_rfl) (by kernel_rfl) (by kernel_rfl) (fun _ _ _ h => h) (Or.inl ⟨by rfl, fun w' hw' => by go_simp⟩) hS ?_
            simp only [Act.put, List.setIfInBounds_toArray, List.set_cons_zero, List.set_cons_succ]
            refine take_at (i := 14) 148 (v := .pointer (some ⟨b, 0, none⟩)) rfl rfl (by kernel_rfl) (by kernel_rfl) (by kernel_rfl) (fun _ _ _ h => h) (Or.inl ⟨by rfl, fun w' hw' => by go_simp⟩) hS ?_
            simp only [Act.put, List.setIfInBounds_toArray, List.set_cons_zero, List.set_cons_succ]
            refine take_at (i := 16) 150 (v := .int .i64 (s : Int)) rfl rfl (by kernel_rfl) (by kernel_rfl) (by kernel_rfl) (fun _ _ _ h => h) (Or.inl ⟨by rfl, fun w' hw' => by go_simp⟩) hS ?_
            simp only [Act.put, List.setIfInBounds_toArray, List.set_cons_zero, List.set_cons_succ]
            refine wpAnyH_ready (rs := [15]) (by kernel_rfl) (by simp) ?_
            refine AllReadyH.cons rfl (fun K' hK' => ?_) AllReadyH.nil
            go_simp
            refine (asure_any AT2).mono ?_
            rintro e v' ⟨rfl, hv⟩
            rw [hv]
            clear hv v'
            refine hK'.out _ _ hS (fun hS => ?_)
            clear hK' K'
            refine take_at (i := 17) 151 (v := .bool false) rfl rfl (by kernel_rfl) (by kernel_rfl) (by kernel_rfl) (fun _ _ _ h => h) (Or.inl ⟨by rfl, fun w' hw' => by go_simp⟩) hS ?_
            simp only [Act.put, List.setIfInBounds_toArray, List.set_cons_zero, List.set_cons_succ]
            refine take_at (i := 18) 152 (v := .bool false) rfl rfl (by kernel_rfl) (by kernel_rfl) (by kernel_rfl) (fun _ _ _ h => h) (Or.inl ⟨by rfl, fun w' hw' => by go_simp⟩) hS ?_
            simp only [Act.put, List.setIfInBounds_toArray, List.set_cons_zero, List.set_cons_succ]
            refine wpAnyH_done (by kernel_rfl) ?_ _
            have ST9 := ST.free hS
            clear hS AT2 HN ST
            go_wp2_with fail
            go_roundw
            case rel => exact ⟨i + 1, zs, s, t4, c4, by go_num, rfl, rfl, by omega, by omega, ST9⟩
            case measure => simp [intOf]; omega
          · obtain ⟨eE, eA⟩ := app_no (m := mm) (bs := ns) (xs := text) (by omega)
            have d2 : decide ((mm : Int) - (ns.length : Int) < (text.length : Int)) = true := decide_eq_true (by omega)
            obtain ⟨y0, y1, y2⟩ := cel3 HQ.out
            go_wp2_with fail
            clear y0 y1 y2
            have HS9 : Hid _ := HX.out.off (ST.off) (fun _ _ _ h => h)
            refine (sappend_any ST tt tc text HS9.out (by omega)).mono ?_
            rintro e v9 ⟨rfl, ST9⟩
            clear HS9
            rw [eE] at *
            rw [eA] at ST9
            clear ST
            have ST := ST9
            clear ST9
            go_upto_region 42 with fail
            have HN : Hid _ := ST.own.src
            have AT := ST.att
            refine wp_region_held_drew (S := fun w' => Off (fun _ => False) v9 w') (by kernel_rfl) ((Off.refl _ v9).drew) (fun hS => ?_)
            replace AT := AT.free ((Off.refl _ v9).drew)
            generalize hdr : v9.drew = va at AT hS ⊢
            clear hdr
            refine take_at (i := 0) 134 (v := .pointer (some ⟨b, 0, none⟩)) rfl rfl (by kernel_rfl) (by kernel_rfl) (by kernel_rfl) (fun _ _ _ h => h) (Or.inl ⟨by rfl, fun w' hw' => by go_simp⟩) hS ?_
            simp only [Act.put, List.setIfInBounds_toArray, List.set_cons_zero, List.set_cons_succ]
            refine take_at (i := 3) 137 (v := .slice tn ns.length cn) rfl rfl (by kernel_rfl) (by kernel_rfl) (by kernel_rfl) (fun _ _ _ h => h) (Or.inl ⟨by rfl, fun w' hw' => by go_simp⟩) hS ?_
            simp only [Act.put, List.setIfInBounds_toArray, List.set_cons_zero, List.set_cons_succ]
            refine take_at (i := 4) 138 (v := .string (strOf ns)) rfl rfl (by kernel_rfl) (by kernel_rfl) (by kernel_rfl) (fun _ _ _ h => h) (Or.inl ⟨by rfl, fun w' hw' => by have hcs := conv_src (HN.out.off hw' (fun _ _ _ h => h)); go_simp⟩) hS ?_
            simp only [Act.put, List.setIfInBounds_toArray, List.set_cons_zero, List.set_cons_succ]
            refine wpAnyH_ready (rs := [1]) (by kernel_rfl) (by simp) ?_
            refine AllReadyH.cons rfl (fun K' hK' => ?_) AllReadyH.nil
            go_simp
            refine (abytes_any AT).mono ?_
            rintro e vb ⟨tb, cb, rfl, own, -, AT2, ob⟩
            have hcs := conv_src own.src
            refine hK'.out _ _ (hS.trans ob (fun _ _ h => h)) (fun hS => ?_)
            clear hK' K' own ob AT
            refine wpAnyH_ready (rs := [2]) (by kernel_rfl) (by simp) ?_
            refine AllReadyH.cons rfl (fun K' hK' => ?_) AllReadyH.nil
            go_simp
            refine hK'.out _ _ hS (fun hS => ?_)
            clear hK' K'
            clear hcs
            refine take_at (i := 5) 139 (v := .bool false) rfl rfl (by kernel_rfl) (by kernel_rfl) (by kernel_rfl) (fun _ _ _ h => h) (Or.inl ⟨by rfl, fun w' hw' => by go_simp⟩) hS ?_
            simp only [Act.put, List.setIfInBounds_toArray, List.set_cons_zero, List.set_cons_succ]
            refine take_at (i := 6) 140 (v := .bool false) rfl rfl (by kernel_rfl) (by kernel_rfl) (by kernel_rfl) (fun _ _ _ h => h) (Or.inl ⟨by rfl, fun w' hw' => by go_simp⟩) hS ?_
            simp only [Act.put, List.setIfInBounds_toArray, List.set_cons_zero, List.set_cons_succ]
            refine take_at (i := 7) 141 (v := .pointer (some ⟨b, 0, none⟩)) rfl rfl (by kernel_rfl) (by kernel_rfl) (by kernel_rfl) (fun _ _ _ h => h) (Or.inl ⟨by rfl, fun w' hw' => by go_simp⟩) hS ?_
            simp only [Act.put, List.setIfInBounds_toArray, List.set_cons_zero, List.set_cons_succ]
            refine take_at (i := 9) 143 (v := .slice tn ns.length cn) rfl rfl (by kernel_rfl) (by kernel_rfl) (by kernel_rfl) (fun _ _ _ h => h) (Or.inl ⟨by rfl, fun w' hw' => by go_simp⟩) hS ?_
            simp only [Act.put, List.setIfInBounds_toArray, List.set_cons_zero, List.set_cons_succ]
            refine take_at (i := 10) 144 (v := .int .i64 (ns.length : Int)) rfl rfl (by kernel_rfl) (by kernel_rfl) (by kernel_rfl) (fun _ _ _ h => h) (Or.inl ⟨by rfl, fun w' hw' => by go_simp⟩) hS ?_
            simp only [Act.put, List.setIfInBounds_toArray, List.set_cons_zero, List.set_cons_succ]
            refine wpAnyH_ready (rs := [8]) (by kernel_rfl) (by simp) ?_
            refine AllReadyH.cons rfl (fun K' hK' => ?_) AllReadyH.nil
            go_simp
            refine (asize_any AT2).mono ?_
            rintro e v' ⟨rfl, hv⟩
            rw [hv]
            clear hv v'
            refine hK'.out _ _ hS (fun hS => ?_)
            clear hK' K'
            refine take_at (i := 11) 145 (v := .bool false) rfl rfl (by kernel_rfl) (by kernel_rfl) (by kernel_rfl) (fun _ _ _ h => h) (Or.inl ⟨by rfl, fun w' hw' => by go_simp⟩) hS ?_
            simp only [Act.put, List.setIfInBounds_toArray, List.set_cons_zero, List.set_cons_succ]
            refine take_at (i := 12) 146 (v := .bool false) rfl rfl (by kernel_rfl) (by kernel_rfl) (by kernel_rfl) (fun _ _ _ h => h) (Or.inl ⟨by rfl, fun w' hw' => by go_simp⟩) hS ?_
            simp only [Act.put, List.setIfInBounds_toArray, List.set_cons_zero, List.set_cons_succ]
            refine take_at (i := 13) 147 (v := .bool false) rfl rfl (by kernel_rfl) (by kernel_rfl) (by kernel_rfl) (fun _ _ _ h => h) (Or.inl ⟨by rfl, fun w' hw' => by go_simp⟩) hS ?_
            simp only [Act.put, List.setIfInBounds_toArray, List.set_cons_zero, List.set_cons_succ]
            refine take_at (i := 14) 148 (v := .pointer (some ⟨b, 0, none⟩)) rfl rfl (by kernel_rfl) (by kernel_rfl) (by kernel_rfl) (fun _ _ _ h => h) (Or.inl ⟨by rfl, fun w' hw' => by go_simp⟩) hS ?_
            simp only [Act.put, List.setIfInBounds_toArray, List.set_cons_zero, List.set_cons_succ]
            refine take_at (i := 16) 150 (v := .int .i64 (s : Int)) rfl rfl (by kernel_rfl) (by kernel_rfl) (by kernel_rfl) (fun _ _ _ h => h) (Or.inl ⟨by rfl, fun w' hw' => by go_simp⟩) hS ?_
            simp only [Act.put, List.setIfInBounds_toArray, List.set_cons_zero, List.set_cons_succ]
            refine wpAnyH_ready (rs := [15]) (by kernel_rfl) (by simp) ?_
            refine AllReadyH.cons rfl (fun K' hK' => ?_) AllReadyH.nil
            go_simp
            refine (asure_any AT2).mono ?_
            rintro e v' ⟨rfl, hv⟩
            rw [hv]
            clear hv v'
            refine hK'.out _ _ hS (fun hS => ?_)
            clear hK' K'
            refine take_at (i := 17) 151 (v := .bool false) rfl rfl (by kernel_rfl) (by kernel_rfl) (by kernel_rfl) (fun _ _ _ h => h) (Or.inl ⟨by rfl, fun w' hw' => by go_simp⟩) hS ?_
            simp only [Act.put, List.setIfInBounds_toArray, List.set_cons_zero, List.set_cons_succ]
            refine take_at (i := 18) 152 (v := .bool false) rfl rfl (by kernel_rfl) (by kernel_rfl) (by kernel_rfl) (fun _ _ _ h => h) (Or.inl ⟨by rfl, fun w' hw' => by go_simp⟩) hS ?_
            simp only [Act.put, List.setIfInBounds_toArray, List.set_cons_zero, List.set_cons_succ]
            refine wpAnyH_done (by kernel_rfl) ?_ _
            have ST9 := ST.free hS
            clear hS AT2 HN ST
            go_wp2_with fail
            go_roundw
            case rel => exact ⟨i + 1, ns, s, tn, cn, by go_num, rfl, rfl, by omega, by omega, ST9⟩
            case measure => simp [intOf]; omega
        have q0 : (act == 0) = false := by simp [a0]
        by_cases a1 : act = 1
        · subst a1
          obtain ⟨y0, y1, y2⟩ := cel3 HQ.out
          go_wp2_with fail
          clear y0 y1 y2
          refine (ssync_any ST).mono ?_
          rintro e v9 ⟨rfl, ST9⟩
          clear ST
          have ST := ST9
          clear ST9
          go_upto_region 42 with fail
          have HN : Hid _ := ST.own.src
          have AT := ST.att
          refine wp_region_held_drew (S := fun w' => Off (fun _ => False) v9 w') (by kernel_rfl) ((Off.refl _ v9).drew) (fun hS => ?_)
          replace AT := AT.free ((Off.refl _ v9).drew)
          generalize hdr : v9.drew = va at AT hS ⊢
          clear hdr
          refine take_at (i := 0) 134 (v := .pointer (some ⟨b, 0, none⟩)) rfl rfl (by kernel_rfl) (by kernel_rfl) (by kernel_rfl) (fun _ _ _ h => h) (Or.inl ⟨by rfl, fun w' hw' => by go_simp⟩) hS ?_
          simp only [Act.put, List.setIfInBounds_toArray, List.set_cons_zero, List.set_cons_succ]
          refine take_at (i := 3) 137 (v := .slice tn ns.length cn) rfl rfl (by kernel_rfl) (by kernel_rfl) (by kernel_rfl) (fun _ _ _ h => h) (Or.inl ⟨by rfl, fun w' hw' => by go_simp⟩) hS ?_
          simp only [Act.put, List.setIfInBounds_toArray, List.set_cons_zero, List.set_cons_succ]
          refine take_at (i := 4) 138 (v := .string (strOf ns)) rfl rfl (by kernel_rfl) (by kernel_rfl) (by kernel_rfl) (fun _ _ _ h => h) (Or.inl ⟨by rfl, fun w' hw' => by have hcs := conv_src (HN.out.off hw' (fun _ _ _ h => h)); go_simp⟩) hS ?_
          simp only [Act.put, List.setIfInBounds_toArray, List.set_cons_zero, List.set_cons_succ]
          refine wpAnyH_ready (rs := [1]) (by kernel_rfl) (by simp) ?_
          refine AllReadyH.cons rfl (fun K' hK' => ?_) AllReadyH.nil
          go_simp
          refine (abytes_any AT).mono ?_
          rintro e vb ⟨tb, cb, rfl, own, -, AT2, ob⟩
          have hcs := conv_src own.src
          refine hK'.out _ _ (hS.trans ob (fun _ _ h => h)) (fun hS => ?_)
          clear hK' K' own ob AT
          refine wpAnyH_ready (rs := [2]) (by kernel_rfl) (by simp) ?_
          refine AllReadyH.cons rfl (fun K' hK' => ?_) AllReadyH.nil
          go_simp
          refine hK'.out _ _ hS (fun hS => ?_)
          clear hK' K'
          clear hcs
          refine take_at (i := 5) 139 (v := .bool false) rfl rfl (by kernel_rfl) (by kernel_rfl) (by kernel_rfl) (fun _ _ _ h => h) (Or.inl ⟨by rfl, fun w' hw' => by go_simp⟩) hS ?_
          simp only [Act.put, List.setIfInBounds_toArray, List.set_cons_zero, List.set_cons_succ]
          refine take_at (i := 6) 140 (v := .bool false) rfl rfl (by kernel_rfl) (by kernel_rfl) (by kernel_rfl) (fun _ _ _ h => h) (Or.inl ⟨by rfl, fun w' hw' => by go_simp⟩) hS ?_
          simp only [Act.put, List.setIfInBounds_toArray, List.set_cons_zero, List.set_cons_succ]
          refine take_at (i := 7) 141 (v := .pointer (some ⟨b, 0, none⟩)) rfl rfl (by kernel_rfl) (by kernel_rfl) (by kernel_rfl) (fun _ _ _ h => h) (Or.inl ⟨by rfl, fun w' hw' => by go_simp⟩) hS ?_
          simp only [Act.put, List.setIfInBounds_toArray, List.set_cons_zero, List.set_cons_succ]
          refine take_at (i := 9) 143 (v := .slice tn ns.length cn) rfl rfl (by kernel_rfl) (by kernel_rfl) (by kernel_rfl) (fun _ _ _ h => h) (Or.inl ⟨by rfl, fun w' hw' => by go_simp⟩) hS ?_
          simp only [Act.put, List.setIfInBounds_toArray, List.set_cons_zero, List.set_cons_succ]
          refine take_at (i := 10) 144 (v := .int .i64 (ns.length : Int)) rfl rfl (by kernel_rfl) (by kernel_rfl) (by kernel_rfl) (fun _ _ _ h => h) (Or.inl ⟨by rfl, fun w' hw' => by go_simp⟩) hS ?_
          simp only [Act.put, List.setIfInBounds_toArray, List.set_cons_zero, List.set_cons_succ]
          refine wpAnyH_ready (rs := [8]) (by kernel_rfl) (by simp) ?_
          refine AllReadyH.cons rfl (fun K' hK' => ?_) AllReadyH.nil
          go_simp
          refine (asize_any AT2).mono ?_
          rintro e v' ⟨rfl, hv⟩
          rw [hv]
          clear hv v'
          refine hK'.out _ _ hS (fun hS => ?_)
          clear hK' K'
          refine take_at (i := 11) 145 (v := .bool false) rfl rfl (by kernel_rfl) (by kernel_rfl) (by kernel_rfl) (fun _ _ _ h => h) (Or.inl ⟨by rfl, fun w' hw' => by go_simp⟩) hS ?_
          simp only [Act.put, List.setIfInBounds_toArray, List.set_cons_zero, List.set_cons_succ]
          refine take_at (i := 12) 146 (v := .bool false) rfl rfl (by kernel_rfl) (by kernel_rfl) (by kernel_rfl) (fun _ _ _ h => h) (Or.inl ⟨by rfl, fun w' hw' => by go_simp⟩) hS ?_
          simp only [Act.put, List.setIfInBounds_toArray, List.set_cons_zero, List.set_cons_succ]
          refine take_at (i := 13) 147 (v := .bool false) rfl rfl (by kernel_rfl) (by kernel_rfl) (by kernel_rfl) (fun _ _ _ h => h) (Or.inl ⟨by rfl, fun w' hw' => by go_simp⟩) hS ?_
          simp only [Act.put, List.setIfInBounds_toArray, List.set_cons_zero, List.set_cons_succ]
          refine take_at (i := 14) 148 (v := .pointer (some ⟨b, 0, none⟩)) rfl rfl (by kernel_rfl) (by kernel_rfl) (by kernel_rfl) (fun _ _ _ h => h) (Or.inl ⟨by rfl, fun w' hw' => by go_simp⟩) hS ?_
          simp only [Act.put, List.setIfInBounds_toArray, List.set_cons_zero, List.set_cons_succ]
          refine take_at (i := 16) 150 (v := .int .i64 (ns.length : Int)) rfl rfl (by kernel_rfl) (by kernel_rfl) (by kernel_rfl) (fun _ _ _ h => h) (Or.inl ⟨by rfl, fun w' hw' => by go_simp⟩) hS ?_
          simp only [Act.put, List.setIfInBounds_toArray, List.set_cons_zero, List.set_cons_succ]
          refine wpAnyH_ready (rs := [15]) (by kernel_rfl) (by simp) ?_
          refine AllReadyH.cons rfl (fun K' hK' => ?_) AllReadyH.nil
          go_simp
          refine (asure_any AT2).mono ?_
          rintro e v' ⟨rfl, hv⟩
          rw [hv]
          clear hv v'
          refine hK'.out _ _ hS (fun hS => ?_)
          clear hK' K'
          refine take_at (i := 17) 151 (v := .bool false) rfl rfl (by kernel_rfl) (by kernel_rfl) (by kernel_rfl) (fun _ _ _ h => h) (Or.inl ⟨by rfl, fun w' hw' => by go_simp⟩) hS ?_
          simp only [Act.put, List.setIfInBounds_toArray, List.set_cons_zero, List.set_cons_succ]
          refine take_at (i := 18) 152 (v := .bool false) rfl rfl (by kernel_rfl) (by kernel_rfl) (by kernel_rfl) (fun _ _ _ h => h) (Or.inl ⟨by rfl, fun w' hw' => by go_simp⟩) hS ?_
          simp only [Act.put, List.setIfInBounds_toArray, List.set_cons_zero, List.set_cons_succ]
          refine wpAnyH_done (by kernel_rfl) ?_ _
          have ST9 := ST.free hS
          clear hS AT2 HN ST
          go_wp2_with fail
          go_roundw
          case rel => exact ⟨i + 1, ns, ns.length, tn, cn, by go_num, rfl, rfl, by omega, by omega, ST9⟩
          case measure => simp [intOf]; omega
        have q1 : (act == 1) = false := by simp [a1]
        by_cases a2 : act = 2
        · subst a2
          by_cases hf : text.length ≤ mm
          · obtain ⟨eE, eA, eS⟩ := rep_yes (m := mm) (s := s) (bs := ns) (xs := text) (by omega)
            have d2 : decide ((mm : Int) < (text.length : Int)) = false := decide_eq_false (by omega)
            obtain ⟨y0, y1, y2⟩ := cel3 HQ.out
            have HS1 : Hid (Sta w v1 b mm ns s tn cn ns) := ST
            have HX1 : Hid _ := HX.out.off ST.off (fun _ _ _ h => h)
            go_wp2_with (at_builtin; refine wpList_app rfl (.const (.slice none 0 0)) (.tmp 100) rfl none 0 [] rfl (OwnR.nil _) tt tc text rfl HX1.out (by simp; omega) ?_; intro t4 c4 v4 zs hzs own4 o4 at4; have O4 : Off (fun _ => False) v1 v4 := o4.mono (fun _ _ h => (by simp [blk] at h)); obtain ⟨y0, y1, y2⟩ := cel3 (HQ.out.off O4 (fun h => h)))
            obtain rfl : text = zs := by have := hzs.out; simpa using this.symm
            have at5 : ∀ c, blk t4 = some c → v1.heap.size ≤ c := fun c hc => by rcases at4 with e | e <;> (rw [e] at hc; simp [blk] at hc; try omega)
            replace ST := ST.anew O4 own4 at5
            clear at5 at4 own4 o4 hzs y0 y1 y2
            refine (sreplace_any ST tt tc text (HX.out.off (ST.off) (fun _ _ _ h => h)) (by omega)).mono ?_
            rintro e v9 ⟨rfl, ST9⟩
            rw [eE] at *
            rw [eA, eS] at ST9
            clear ST
            have ST := ST9
            clear ST9
            go_upto_region 42 with fail
            have HN : Hid _ := ST.own.src
            have AT := ST.att
            refine wp_region_held_drew (S := fun w' => Off (fun _ => False) v9 w') (by kernel_rfl) ((Off.refl _ v9).drew) (fun hS => ?_)
            replace AT := AT.free ((Off.refl _ v9).drew)
            generalize hdr : v9.drew = va at AT hS ⊢
            clear hdr
            refine take_at (i := 0) 134 (v := .pointer (some ⟨b, 0, none⟩)) rfl rfl (by kernel_rfl) (by kernel_rfl) (by kernel_rfl) (fun _ _ _ h => h) (Or.inl ⟨by rfl, fun w' hw' => by go_simp⟩) hS ?_
            simp only [Act.put, List.setIfInBounds_toArray, List.set_cons_zero, List.set_cons_succ]
            refine take_at (i := 3) 137 (v := .slice t4 text.length c4) rfl rfl (by kernel_rfl) (by kernel_rfl) (by kernel_rfl) (fun _ _ _ h => h) (Or.inl ⟨by rfl, fun w' hw' => by go_simp⟩) hS ?_
            simp only [Act.put, List.setIfInBounds_toArray, List.set_cons_zero, List.set_cons_succ]
            refine take_at (i := 4) 138 (v := .string (strOf text)) rfl rfl (by kernel_rfl) (by kernel_rfl) (by kernel_rfl) (fun _ _ _ h => h) (Or.inl ⟨by rfl, fun w' hw' => by have hcs := conv_src (HN.out.off hw' (fun _ _ _ h => h)); go_simp⟩) hS ?_
            simp only [Act.put, List.setIfInBounds_toArray, List.set_cons_zero, List.set_cons_succ]
            refine wpAnyH_ready (rs := [1]) (by kernel_rfl) (by simp) ?_
            refine AllReadyH.cons rfl (fun K' hK' => ?_) AllReadyH.nil
            go_simp
            refine (abytes_any AT).mono ?_
            rintro e vb ⟨tb, cb, rfl, own, -, AT2, ob⟩
            have hcs := conv_src own.src
            refine hK'.out _ _ (hS.trans ob (fun _ _ h => h)) (fun hS => ?_)
            clear hK' K' own ob AT
            refine wpAnyH_ready (rs := [2]) (by kernel_rfl) (by simp) ?_
            refine AllReadyH.cons rfl (fun K' hK' => ?_) AllReadyH.nil
            go_simp
            refine hK'.out _ _ hS (fun hS => ?_)
            clear hK' K'
            clear hcs
            refine take_at (i := 5) 139 (v := .bool false) rfl rfl (by kernel_rfl) (by kernel_rfl) (by kernel_rfl) (fun _ _ _ h => h) (Or.inl ⟨by rfl, fun w' hw' => by go_simp⟩) hS ?_
            simp only [Act.put, List.setIfInBounds_toArray, List.set_cons_zero, List.set_cons_succ]
            refine take_at (i := 6) 140 (v := .bool false) rfl rfl (by kernel_rfl) (by kernel_rfl) (by kernel_rfl) (fun _ _ _ h => h) (Or.inl ⟨by rfl, fun w' hw' => by go_simp⟩) hS ?_
            simp only [Act.put, List.setIfInBounds_toArray, List.set_cons_zero, List.set_cons_succ]
            refine take_at (i := 7) 141 (v := .pointer (some ⟨b, 0, none⟩)) rfl rfl (by kernel_rfl) (by kernel_rfl) (by kernel_rfl) (fun _ _ _ h => h) (Or.inl ⟨by rfl, fun w' hw' => by go_simp⟩) hS ?_
            simp only [Act.put, List.setIfInBounds_toArray, List.set_cons_zero, List.set_cons_succ]
            refine take_at (i := 9) 143 (v := .slice t4 text.length c4) rfl rfl (by kernel_rfl) (by kernel_rfl) (by kernel_rfl) (fun _ _ _ h => h) (Or.inl ⟨by rfl, fun w' hw' => by go_simp⟩) hS ?_
            simp only [Act.put, List.setIfInBounds_toArray, List.set_cons_zero, List.set_cons_succ]
            refine take_at (i := 10) 144 (v := .int .i64 (text.length : Int)) rfl rfl (by kernel_rfl) (by kernel_rfl) (by kernel_rfl) (fun _ _ _ h => h) (Or.inl ⟨by rfl, fun w' hw' => by go_simp⟩) hS ?_
            simp only [Act.put, List.setIfInBounds_toArray, List.set_cons_zero, List.set_cons_succ]
            refine wpAnyH_ready (rs := [8]) (by kernel_rfl) (by simp) ?_
            refine AllReadyH.cons rfl (fun K' hK' => ?_) AllReadyH.nil
            go_simp
            refine (asize_any AT2).mono ?_
            rintro e v' ⟨rfl, hv⟩
            rw [hv]
            clear hv v'
            refine hK'.out _ _ hS (fun hS => ?_)
            clear hK' K'
            refine take_at (i := 11) 145 (v := .bool false) rfl rfl (by kernel_rfl) (by kernel_rfl) (by kernel_rfl) (fun _ _ _ h => h) (Or.inl ⟨by rfl, fun w' hw' => by go_simp⟩) hS ?_
            simp only [Act.put, List.setIfInBounds_toArray, List.set_cons_zero, List.set_cons_succ]
            refine take_at (i := 12) 146 (v := .bool false) rfl rfl (by kernel_rfl) (by kernel_rfl) (by kernel_rfl) (fun _ _ _ h => h) (Or.inl ⟨by rfl, fun w' hw' => by go_simp⟩) hS ?_
            simp only [Act.put, List.setIfInBounds_toArray, List.set_cons_zero, List.set_cons_succ]
            refine take_at (i := 13) 147 (v := .bool false) rfl rfl (by kernel_rfl) (by kernel_rfl) (by kernel_rfl) (fun _ _ _ h => h) (Or.inl ⟨by rfl, fun w' hw' => by go_simp⟩) hS ?_
            simp only [Act.put, List.setIfInBounds_toArray, List.set_cons_zero, List.set_cons_succ]
            refine take_at (i := 14) 148 (v := .pointer (some ⟨b, 0, none⟩)) rfl rfl (by kernel_rfl) (by kernel_rfl) (by kernel_rfl) (fun _ _ _ h => h) (Or.inl ⟨by rfl, fun w' hw' => by go_simp⟩) hS ?_
            simp only [Act.put, List.setIfInBounds_toArray, List.set_cons_zero, List.set_cons_succ]
            refine take_at (i := 16) 150 (v := .int .i64 (text.length : Int)) rfl rfl (by kernel_rfl) (by kernel_rfl) (by kernel_rfl) (fun _ _ _ h => h) (Or.inl ⟨by rfl, fun w' hw' => by go_simp⟩) hS ?_
            simp only [Act.put, List.setIfInBounds_toArray, List.set_cons_zero, List.set_cons_succ]
            refine wpAnyH_ready (rs := [15]) (by kernel_rfl) (by simp) ?_
            refine AllReadyH.cons rfl (fun K' hK' => ?_) AllReadyH.nil
            go_simp
            refine (asure_any AT2).mono ?_
            rintro e v' ⟨rfl, hv⟩
            rw [hv]
            clear hv v'
            refine hK'.out _ _ hS (fun hS => ?_)
            clear hK' K'
            refine take_at (i := 17) 151 (v := .bool false) rfl rfl (by kernel_rfl) (by kernel_rfl) (by kernel_rfl) (fun _ _ _ h => h) (Or.inl ⟨by rfl, fun w' hw' => by go_simp⟩) hS ?_
            simp only [Act.put, List.setIfInBounds_toArray, List.set_cons_zero, List.set_cons_succ]
            refine take_at (i := 18) 152 (v := .bool false) rfl rfl (by kernel_rfl) (by kernel_rfl) (by kernel_rfl) (fun _ _ _ h => h) (Or.inl ⟨by rfl, fun w' hw' => by go_simp⟩) hS ?_
            simp only [Act.put, List.setIfInBounds_toArray, List.set_cons_zero, List.set_cons_succ]
            refine wpAnyH_done (by kernel_rfl) ?_ _
            have ST9 := ST.free hS
            clear hS AT2 HN ST
            go_wp2_with fail
            go_roundw
            case rel => exact ⟨i + 1, text, text.length, t4, c4, by go_num, rfl, rfl, by omega, by omega, ST9⟩
            case measure => simp [intOf]; omega
          · obtain ⟨eE, eA, eS⟩ := rep_no (m := mm) (s := s) (bs := ns) (xs := text) (by omega)
            have d2 : decide ((mm : Int) < (text.length : Int)) = true := decide_eq_true (by omega)
            obtain ⟨y0, y1, y2⟩ := cel3 HQ.out
            go_wp2_with fail
            clear y0 y1 y2
            refine (sreplace_any ST tt tc text (HX.out.off (ST.off) (fun _ _ _ h => h)) (by omega)).mono ?_
            rintro e v9 ⟨rfl, ST9⟩
            rw [eE] at *
            rw [eA, eS] at ST9
            clear ST
            have ST := ST9
            clear ST9
            go_upto_region 42 with fail
            have HN : Hid _ := ST.own.src
            have AT := ST.att
            refine wp_region_held_drew (S := fun w' => Off (fun _ => False) v9 w') (by kernel_rfl) ((Off.refl _ v9).drew) (fun hS => ?_)
            replace AT := AT.free ((Off.refl _ v9).drew)
            generalize hdr : v9.drew = va at AT hS ⊢
            clear hdr
            refine take_at (i := 0) 134 (v := .pointer (some ⟨b, 0, none⟩)) rfl rfl (by kernel_rfl) (by kernel_rfl) (by kernel_rfl) (fun _ _ _ h => h) (Or.inl ⟨by rfl, fun w' hw' => by go_simp⟩) hS ?_
            simp only [Act.put, List.setIfInBounds_toArray, List.set_cons_zero, List.set_cons_succ]
            refine take_at (i := 3) 137 (v := .slice tn ns.length cn) rfl rfl (by kernel_rfl) (by kernel_rfl) (by kernel_rfl) (fun _ _ _ h => h) (Or.inl ⟨by rfl, fun w' hw' => by go_simp⟩) hS ?_
            simp only [Act.put, List.setIfInBounds_toArray, List.set_cons_zero, List.set_cons_succ]
            refine take_at (i := 4) 138 (v := .string (strOf ns)) rfl rfl (by kernel_rfl) (by kernel_rfl) (by kernel_rfl) (fun _ _ _ h => h) (Or.inl ⟨by rfl, fun w' hw' => by have hcs := conv_src (HN.out.off hw' (fun _ _ _ h => h)); go_simp⟩) hS ?_
            simp only [Act.put, List.setIfInBounds_toArray, List.set_cons_zero, List.set_cons_succ]
            refine wpAnyH_ready (rs := [1]) (by kernel_rfl) (by simp) ?_
            refine AllReadyH.cons rfl (fun K' hK' => ?_) AllReadyH.nil
            go_simp
            refine (abytes_any AT).mono ?_
            rintro e vb ⟨tb, cb, rfl, own, -, AT2, ob⟩
            have hcs := conv_src own.src
            refine hK'.out _ _ (hS.trans ob (fun _ _ h => h)) (fun hS => ?_)
            clear hK' K' own ob AT
            refine wpAnyH_ready (rs := [2]) (by kernel_rfl) (by simp) ?_
            refine AllReadyH.cons rfl (fun K' hK' => ?_) AllReadyH.nil
            go_simp
            refine hK'.out _ _ hS (fun hS => ?_)
            clear hK' K'
            clear hcs
            refine take_at (i := 5) 139 (v := .bool false) rfl rfl (by kernel_rfl) (by kernel_rfl) (by kernel_rfl) (fun _ _ _ h => h) (Or.inl ⟨by rfl, fun w' hw' => by go_simp⟩) hS ?_
            simp only [Act.put, List.setIfInBounds_toArray, List.set_cons_zero, List.set_cons_succ]
            refine take_at (i := 6) 140 (v := .bool false) rfl rfl (by kernel_rfl) (by kernel_rfl) (by kernel_rfl) (fun _ _ _ h => h) (Or.inl ⟨by rfl, fun w' hw' => by go_simp⟩) hS ?_
            simp only [Act.put, List.setIfInBounds_toArray, List.set_cons_zero, List.set_cons_succ]
            refine take_at (i := 7) 141 (v := .pointer (some ⟨b, 0, none⟩)) rfl rfl (by kernel_rfl) (by kernel_rfl) (by kernel_rfl) (fun _ _ _ h => h) (Or.inl ⟨by rfl, fun w' hw' => by go_simp⟩) hS ?_
            simp only [Act.put, List.setIfInBounds_toArray, List.set_cons_zero, List.set_cons_succ]
            refine take_at (i := 9) 143 (v := .slice tn ns.length cn) rfl rfl (by kernel_rfl) (by kernel_rfl) (by kernel_rfl) (fun _ _ _ h => h) (Or.inl ⟨by rfl, fun w' hw' => by go_simp⟩) hS ?_
            simp only [Act.put, List.setIfInBounds_toArray, List.set_cons_zero, List.set_cons_succ]
            refine take_at (i := 10) 144 (v := .int .i64 (ns.length : Int)) rfl rfl (by kernel_rfl) (by kernel_rfl) (by kernel_rfl) (fun _ _ _ h => h) (Or.inl ⟨by rfl, fun w' hw' => by go_simp⟩) hS ?_
            simp only [Act.put, List.setIfInBounds_toArray, List.set_cons_zero, List.set_cons_succ]
            refine wpAnyH_ready (rs := [8]) (by kernel_rfl) (by simp) ?_
            refine AllReadyH.cons rfl (fun K' hK' => ?_) AllReadyH.nil
            go_simp
            refine (asize_any AT2).mono ?_
            rintro e v' ⟨rfl, hv⟩
            rw [hv]
            clear hv v'
            refine hK'.out _ _ hS (fun hS => ?_)
            clear hK' K'
            refine take_at (i := 11) 145 (v := .bool false) rfl rfl (by kernel_rfl) (by kernel_rfl) (by kernel_rfl) (fun _ _ _ h => h) (Or.inl ⟨by rfl, fun w' hw' => by go_simp⟩) hS ?_
            simp only [Act.put, List.setIfInBounds_toArray, List.set_cons_zero, List.set_cons_succ]
            refine take_at (i := 12) 146 (v := .bool false) rfl rfl (by kernel_rfl) (by kernel_rfl) (by kernel_rfl) (fun _ _ _ h => h) (Or.inl ⟨by rfl, fun w' hw' => by go_simp⟩) hS ?_
            simp only [Act.put, List.setIfInBounds_toArray, List.set_cons_zero, List.set_cons_succ]
            refine take_at (i := 13) 147 (v := .bool false) rfl rfl (by kernel_rfl) (by kernel_rfl) (by kernel_rfl) (fun _ _ _ h => h) (Or.inl ⟨by rfl, fun w' hw' => by go_simp⟩) hS ?_
            simp only [Act.put, List.setIfInBounds_toArray, List.set_cons_zero, List.set_cons_succ]
            refine take_at (i := 14) 148 (v := .pointer (some ⟨b, 0, none⟩)) rfl rfl (by kernel_rfl) (by kernel_rfl) (by kernel_rfl) (fun _ _ _ h => h) (Or.inl ⟨by rfl, fun w' hw' => by go_simp⟩) hS ?_
            simp only [Act.put, List.setIfInBounds_toArray, List.set_cons_zero, List.set_cons_succ]
            refine take_at (i := 16) 150 (v := .int .i64 (s : Int)) rfl rfl (by kernel_rfl) (by kernel_rfl) (by kernel_rfl) (fun _ _ _ h => h) (Or.inl ⟨by rfl, fun w' hw' => by go_simp⟩) hS ?_
            simp only [Act.put, List.setIfInBounds_toArray, List.set_cons_zero, List.set_cons_succ]
            refine wpAnyH_ready (rs := [15]) (by kernel_rfl) (by simp) ?_
            refine AllReadyH.cons rfl (fun K' hK' => ?_) AllReadyH.nil
            go_simp
            refine (asure_any AT2).mono ?_
            rintro e v' ⟨rfl, hv⟩
            rw [hv]
            clear hv v'
            refine hK'.out _ _ hS (fun hS => ?_)
            clear hK' K'
            refine take_at (i := 17) 151 (v := .bool false) rfl rfl (by kernel_rfl) (by kernel_rfl) (by kernel_rfl) (fun _ _ _ h => h) (Or.inl ⟨by rfl, fun w' hw' => by go_simp⟩) hS ?_
            simp only [Act.put, List.setIfInBounds_toArray, List.set_cons_zero, List.set_cons_succ]
            refine take_at (i := 18) 152 (v := .bool false) rfl rfl (by kernel_rfl) (by kernel_rfl) (by kernel_rfl) (fun _ _ _ h => h) (Or.inl ⟨by rfl, fun w' hw' => by go_simp⟩) hS ?_
            simp only [Act.put, List.setIfInBounds_toArray, List.set_cons_zero, List.set_cons_succ]
            refine wpAnyH_done (by kernel_rfl) ?_ _
            have ST9 := ST.free hS
            clear hS AT2 HN ST
            go_wp2_with fail
            go_roundw
            case rel => exact ⟨i + 1, ns, s, tn, cn, by go_num, rfl, rfl, by omega, by omega, ST9⟩
            case measure => simp [intOf]; omega
        have q2 : (act == 2) = false := by simp [a2]
        by_cases a3 : act = 3
        · subst a3
          by_cases hn0 : num < 0
          · have HN3 : Hid (num < 0 ∨ (ns.length : Int) < num) := .inl hn0
            have d2 : decide (num < 0) = true := decide_eq_true hn0
            obtain ⟨y0, y1, y2⟩ := cel3 HQ.out
            go_wp2_with fail
            clear y0 y1 y2
            refine (scutno_any ST num HN3.out).mono ?_
            rintro e v' ⟨rfl, hv⟩
            rw [hv]
            clear hv v'
            have ST9 := ST
            clear ST
            obtain ⟨v9, hv9⟩ : ∃ v9, v9 = v1 := ⟨_, rfl⟩
            rw [← hv9] at ST9 ⊢
            have ST := ST9
            clear hv9 ST9
            go_upto_region 42 with fail
            have HN : Hid _ := ST.own.src
            have AT := ST.att
            refine wp_region_held_drew (S := fun w' => Off (fun _ => False) v9 w') (by kernel_rfl) ((Off.refl _ v9).drew) (fun hS => ?_)
            replace AT := AT.free ((Off.refl _ v9).drew)
            generalize hdr : v9.drew = va at AT hS ⊢
            clear hdr
            refine take_at (i := 0) 134 (v := .pointer (some ⟨b, 0, none⟩)) rfl rfl (by kernel_rfl) (by kernel_rfl) (by kernel_rfl) (fun _ _ _ h => h) (Or.inl ⟨by rfl, fun w' hw' => by go_simp⟩) hS ?_
            simp only [Act.put, List.setIfInBounds_toArray, List.set_cons_zero, List.set_cons_succ]
            refine take_at (i := 3) 137 (v := .slice tn ns.length cn) rfl rfl (by kernel_rfl) (by kernel_rfl) (by kernel_rfl) (fun _ _ _ h => h) (Or.inl ⟨by rfl, fun w' hw' => by go_simp⟩) hS ?_
            simp only [Act.put, List.setIfInBounds_toArray, List.set_cons_zero, List.set_cons_succ]
            refine take_at (i := 4) 138 (v := .string (strOf ns)) rfl rfl (by kernel_rfl) (by kernel_rfl) (by kernel_rfl) (fun _ _ _ h => h) (Or.inl ⟨by rfl, fun w' hw' => by have hcs := conv_src (HN.out.off hw' (fun _ _ _ h => h)); go_simp⟩) hS ?_
            simp only [Act.put, List.setIfInBounds_toArray, List.set_cons_zero, List.set_cons_succ]
            refine wpAnyH_ready (rs := [1]) (by kernel_rfl) (by simp) ?_
            refine AllReadyH.cons rfl (fun K' hK' => ?_) AllReadyH.nil
            go_simp
            refine (abytes_any AT).mono ?_
            rintro e vb ⟨tb, cb, rfl, own, -, AT2, ob⟩
            have hcs := conv_src own.src
            refine hK'.out _ _ (hS.trans ob (fun _ _ h => h)) (fun hS => ?_)
            clear hK' K' own ob AT
            refine wpAnyH_ready (rs := [2]) (by kernel_rfl) (by simp) ?_
            refine AllReadyH.cons rfl (fun K' hK' => ?_) AllReadyH.nil
            go_simp
            refine hK'.out _ _ hS (fun hS => ?_)
            clear hK' K'
            clear hcs
            refine take_at (i := 5) 139 (v := .bool false) rfl rfl (by kernel_rfl) (by kernel_rfl) (by kernel_rfl) (fun _ _ _ h => h) (Or.inl ⟨by rfl, fun w' hw' => by go_simp⟩) hS ?_
            simp only [Act.put, List.setIfInBounds_toArray, List.set_cons_zero, List.set_cons_succ]
            refine take_at (i := 6) 140 (v := .bool false) rfl rfl (by kernel_rfl) (by kernel_rfl) (by kernel_rfl) (fun _ _ _ h => h) (Or.inl ⟨by rfl, fun w' hw' => by go_simp⟩) hS ?_
            simp only [Act.put, List.setIfInBounds_toArray, List.set_cons_zero, List.set_cons_succ]
            refine take_at (i := 7) 141 (v := .pointer (some ⟨b, 0, none⟩)) rfl rfl (by kernel_rfl) (by kernel_rfl) (by kernel_rfl) (fun _ _ _ h => h) (Or.inl ⟨by rfl, fun w' hw' => by go_simp⟩) hS ?_
            simp only [Act.put, List.setIfInBounds_toArray, List.set_cons_zero, List.set_cons_succ]
            refine take_at (i := 9) 143 (v := .slice tn ns.length cn) rfl rfl (by kernel_rfl) (by kernel_rfl) (by kernel_rfl) (fun _ _ _ h => h) (Or.inl ⟨by rfl, fun w' hw' => by go_simp⟩) hS ?_
            simp only [Act.put, List.setIfInBounds_toArray, List.set_cons_zero, List.set_cons_succ]
            refine take_at (i := 10) 144 (v := .int .i64 (ns.length : Int)) rfl rfl (by kernel_rfl) (by kernel_rfl) (by kernel_rfl) (fun _ _ _ h => h) (Or.inl ⟨by rfl, fun w' hw' => by go_simp⟩) hS ?_
            simp only [Act.put, List.setIfInBounds_toArray, List.set_cons_zero, List.set_cons_succ]
            refine wpAnyH_ready (rs := [8]) (by kernel_rfl) (by simp) ?_
            refine AllReadyH.cons rfl (fun K' hK' => ?_) AllReadyH.nil
            go_simp
            refine (asize_any AT2).mono ?_
            rintro e v' ⟨rfl, hv⟩
            rw [hv]
            clear hv v'
            refine hK'.out _ _ hS (fun hS => ?_)
            clear hK' K'
            refine take_at (i := 11) 145 (v := .bool false) rfl rfl (by kernel_rfl) (by kernel_rfl) (by kernel_rfl) (fun _ _ _ h => h) (Or.inl ⟨by rfl, fun w' hw' => by go_simp⟩) hS ?_
            simp only [Act.put, List.setIfInBounds_toArray, List.set_cons_zero, List.set_cons_succ]
            refine take_at (i := 12) 146 (v := .bool false) rfl rfl (by kernel_rfl) (by kernel_rfl) (by kernel_rfl) (fun _ _ _ h => h) (Or.inl ⟨by rfl, fun w' hw' => by go_simp⟩) hS ?_
            simp only [Act.put, List.setIfInBounds_toArray, List.set_cons_zero, List.set_cons_succ]
            refine take_at (i := 13) 147 (v := .bool false) rfl rfl (by kernel_rfl) (by kernel_rfl) (by kernel_rfl) (fun _ _ _ h => h) (Or.inl ⟨by rfl, fun w' hw' => by go_simp⟩) hS ?_
            simp only [Act.put, List.setIfInBounds_toArray, List.set_cons_zero, List.set_cons_succ]
            refine take_at (i := 14) 148 (v := .pointer (some ⟨b, 0, none⟩)) rfl rfl (by kernel_rfl) (by kernel_rfl) (by kernel_rfl) (fun _ _ _ h => h) (Or.inl ⟨by rfl, fun w' hw' => by go_simp⟩) hS ?_
            simp only [Act.put, List.setIfInBounds_toArray, List.set_cons_zero, List.set_cons_succ]
            refine take_at (i := 16) 150 (v := .int .i64 (s : Int)) rfl rfl (by kernel_rfl) (by kernel_rfl) (by kernel_rfl) (fun _ _ _ h => h) (Or.inl ⟨by rfl, fun w' hw' => by go_simp⟩) hS ?_
            simp only [Act.put, List.setIfInBounds_toArray, List.set_cons_zero, List.set_cons_succ]
            refine wpAnyH_ready (rs := [15]) (by kernel_rfl) (by simp) ?_
            refine AllReadyH.cons rfl (fun K' hK' => ?_) AllReadyH.nil
            go_simp
            refine (asure_any AT2).mono ?_
            rintro e v' ⟨rfl, hv⟩
            rw [hv]
            clear hv v'
            refine hK'.out _ _ hS (fun hS => ?_)
            clear hK' K'
            refine take_at (i := 17) 151 (v := .bool false) rfl rfl (by kernel_rfl) (by kernel_rfl) (by kernel_rfl) (fun _ _ _ h => h) (Or.inl ⟨by rfl, fun w' hw' => by go_simp⟩) hS ?_
            simp only [Act.put, List.setIfInBounds_toArray, List.set_cons_zero, List.set_cons_succ]
            refine take_at (i := 18) 152 (v := .bool false) rfl rfl (by kernel_rfl) (by kernel_rfl) (by kernel_rfl) (fun _ _ _ h => h) (Or.inl ⟨by rfl, fun w' hw' => by go_simp⟩) hS ?_
            simp only [Act.put, List.setIfInBounds_toArray, List.set_cons_zero, List.set_cons_succ]
            refine wpAnyH_done (by kernel_rfl) ?_ _
            have ST9 := ST.free hS
            clear hS AT2 HN ST
            go_wp2_with fail
            go_roundw
            case rel => exact ⟨i + 1, ns, s, tn, cn, by go_num, rfl, rfl, by omega, by omega, ST9⟩
            case measure => simp [intOf]; omega
          by_cases hn1 : (ns.length : Int) < num
          · have HN3 : Hid (num < 0 ∨ (ns.length : Int) < num) := .inr hn1
            have d2 : decide (num < 0) = false := decide_eq_false hn0
            have d3 : decide ((ns.length : Int) < num) = true := decide_eq_true hn1
            obtain ⟨y0, y1, y2⟩ := cel3 HQ.out
            go_wp2_with fail
            clear y0 y1 y2
            refine (scutno_any ST num HN3.out).mono ?_
            rintro e v' ⟨rfl, hv⟩
            rw [hv]
            clear hv v'
            have ST9 := ST
            clear ST
            obtain ⟨v9, hv9⟩ : ∃ v9, v9 = v1 := ⟨_, rfl⟩
            rw [← hv9] at ST9 ⊢
            have ST := ST9
            clear hv9 ST9
            go_upto_region 42 with fail
            have HN : Hid _ := ST.own.src
            have AT := ST.att
            refine wp_region_held_drew (S := fun w' => Off (fun _ => False) v9 w') (by kernel_rfl) ((Off.refl _ v9).drew) (fun hS => ?_)
            replace AT := AT.free ((Off.refl _ v9).drew)
            generalize hdr : v9.drew = va at AT hS ⊢
            clear hdr
            refine take_at (i := 0) 134 (v := .pointer (some ⟨b, 0, none⟩)) rfl rfl (by kernel_rfl) (by kernel_rfl) (by kernel_rfl) (fun _ _ _ h => h) (Or.inl ⟨by rfl, fun w' hw' => by go_simp⟩) hS ?_
            simp only [Act.put, List.setIfInBounds_toArray, List.set_cons_zero, List.set_cons_succ]
            refine take_at (i := 3) 137 (v := .slice tn ns.length cn) rfl rfl (by kernel_rfl) (by kernel_rfl) (by kernel_rfl) (fun _ _ _ h => h) (Or.inl ⟨by rfl, fun w' hw' => by go_simp⟩) hS ?_
            simp only [Act.put, List.setIfInBounds_toArray, List.set_cons_zero, List.set_cons_succ]
            refine take_at (i := 4) 138 (v := .string (strOf ns)) rfl rfl (by kernel_rfl) (by kernel_rfl) (by kernel_rfl) (fun _ _ _ h => h) (Or.inl ⟨by rfl, fun w' hw' => by have hcs := conv_src (HN.out.off hw' (fun _ _ _ h => h)); go_simp⟩) hS ?_
            simp only [Act.put, List.setIfInBounds_toArray, List.set_cons_zero, List.set_cons_succ]
            refine wpAnyH_ready (rs := [1]) (by kernel_rfl) (by simp) ?_
            refine AllReadyH.cons rfl (fun K' hK' => ?_) AllReadyH.nil
            go_simp
            refine (abytes_any AT).mono ?_
            rintro e vb ⟨tb, cb, rfl, own, -, AT2, ob⟩
            have hcs := conv_src own.src
            refine hK'.out _ _ (hS.trans ob (fun _ _ h => h)) (fun hS => ?_)
            clear hK' K' own ob AT
            refine wpAnyH_ready (rs := [2]) (by kernel_rfl) (by simp) ?_
            refine AllReadyH.cons rfl (fun K' hK' => ?_) AllReadyH.nil
            go_simp
            refine hK'.out _ _ hS (fun hS => ?_)
            clear hK' K'
            clear hcs
            refine take_at (i := 5) 139 (v := .bool false) rfl rfl (by kernel_rfl) (by kernel_rfl) (by kernel_rfl) (fun _ _ _ h => h) (Or.inl ⟨by rfl, fun w' hw' => by go_simp⟩) hS ?_
            simp only [Act.put, List.setIfInBounds_toArray, List.set_cons_zero, List.set_cons_succ]
            refine take_at (i := 6) 140 (v := .bool false) rfl rfl (by kernel_rfl) (by kernel_rfl) (by kernel_rfl) (fun _ _ _ h => h) (Or.inl ⟨by rfl, fun w' hw' => by go_simp⟩) hS ?_
            simp only [Act.put, List.setIfInBounds_toArray, List.set_cons_zero, List.set_cons_succ]
            refine take_at (i := 7) 141 (v := .pointer (some ⟨b, 0, none⟩)) rfl rfl (by kernel_rfl) (by kernel_rfl) (by kernel_rfl) (fun _ _ _ h => h) (Or.inl ⟨by rfl, fun w' hw' => by go_simp⟩) hS ?_
            simp only [Act.put, List.setIfInBounds_toArray, List.set_cons_zero, List.set_cons_succ]
            refine take_at (i := 9) 143 (v := .slice tn ns.length cn) rfl rfl (by kernel_rfl) (by kernel_rfl) (by kernel_rfl) (fun _ _ _ h => h) (Or.inl ⟨by rfl, fun w' hw' => by go_simp⟩) hS ?_
            simp only [Act.put, List.setIfInBounds_toArray, List.set_cons_zero, List.set_cons_succ]
            refine take_at (i := 10) 144 (v := .int .i64 (ns.length : Int)) rfl rfl (by kernel_rfl) (by kernel_rfl) (by kernel_rfl) (fun _ _ _ h => h) (Or.inl ⟨by rfl, fun w' hw' => by go_simp⟩) hS ?_
            simp only [Act.put, List.setIfInBounds_toArray, List.set_cons_zero, List.set_cons_succ]
            refine wpAnyH_ready (rs := [8]) (by kernel_rfl) (by simp) ?_
            refine AllReadyH.cons rfl (fun K' hK' => ?_) AllReadyH.nil
            go_simp
            refine (asize_any AT2).mono ?_
            rintro e v' ⟨rfl, hv⟩
            rw [hv]
            clear hv v'
            refine hK'.out _ _ hS (fun hS => ?_)
            clear hK' K'
            refine take_at (i := 11) 145 (v := .bool false) rfl rfl (by kernel_rfl) (by kernel_rfl) (by kernel_rfl) (fun _ _ _ h => h) (Or.inl ⟨by rfl, fun w' hw' => by go_simp⟩) hS ?_
            simp only [Act.put, List.setIfInBounds_toArray, List.set_cons_zero, List.set_cons_succ]
            refine take_at (i := 12) 146 (v := .bool false) rfl rfl (by kernel_rfl) (by kernel_rfl) (by kernel_rfl) (fun _ _ _ h => h) (Or.inl ⟨by rfl, fun w' hw' => by go_simp⟩) hS ?_
            simp only [Act.put, List.setIfInBounds_toArray, List.set_cons_zero, List.set_cons_succ]
            refine take_at (i := 13) 147 (v := .bool false) rfl rfl (by kernel_rfl) (by kernel_rfl) (by kernel_rfl) (fun _ _ _ h => h) (Or.inl ⟨by rfl, fun w' hw' => by go_simp⟩) hS ?_
            simp only [Act.put, List.setIfInBounds_toArray, List.set_cons_zero, List.set_cons_succ]
            refine take_at (i := 14) 148 (v := .pointer (some ⟨b, 0, none⟩)) rfl rfl (by kernel_rfl) (by kernel_rfl) (by kernel_rfl) (fun _ _ _ h => h) (Or.inl ⟨by rfl, fun w' hw' => by go_simp⟩) hS ?_
            simp only [Act.put, List.setIfInBounds_toArray, List.set_cons_zero, List.set_cons_succ]
            refine take_at (i := 16) 150 (v := .int .i64 (s : Int)) rfl rfl (by kernel_rfl) (by kernel_rfl) (by kernel_rfl) (fun _ _ _ h => h) (Or.inl ⟨by rfl, fun w' hw' => by go_simp⟩) hS ?_
            simp only [Act.put, List.setIfInBounds_toArray, List.set_cons_zero, List.set_cons_succ]
            refine wpAnyH_ready (rs := [15]) (by kernel_rfl) (by simp) ?_
            refine AllReadyH.cons rfl (fun K' hK' => ?_) AllReadyH.nil
            go_simp
            refine (asure_any AT2).mono ?_
            rintro e v' ⟨rfl, hv⟩
            rw [hv]
            clear hv v'
            refine hK'.out _ _ hS (fun hS => ?_)
            clear hK' K'
            refine take_at (i := 17) 151 (v := .bool false) rfl rfl (by kernel_rfl) (by kernel_rfl) (by kernel_rfl) (fun _ _ _ h => h) (Or.inl ⟨by rfl, fun w' hw' => by go_simp⟩) hS ?_
            simp only [Act.put, List.setIfInBounds_toArray, List.set_cons_zero, List.set_cons_succ]
            refine take_at (i := 18) 152 (v := .bool false) rfl rfl (by kernel_rfl) (by kernel_rfl) (by kernel_rfl) (fun _ _ _ h => h) (Or.inl ⟨by rfl, fun w' hw' => by go_simp⟩) hS ?_
            simp only [Act.put, List.setIfInBounds_toArray, List.set_cons_zero, List.set_cons_succ]
            refine wpAnyH_done (by kernel_rfl) ?_ _
            have ST9 := ST.free hS
            clear hS AT2 HN ST
            go_wp2_with fail
            go_roundw
            case rel => exact ⟨i + 1, ns, s, tn, cn, by go_num, rfl, rfl, by omega, by omega, ST9⟩
            case measure => simp [intOf]; omega
          obtain ⟨k, rfl⟩ : ∃ k : Nat, num = (k : Int) := ⟨num.toNat, by omega⟩
          have hk : k ≤ ns.length := by omega
          obtain ⟨y0, y1, y2⟩ := cel3 HQ.out
          have hsl := (ST.own.take hk).1
          have d2 : decide ((k : Int) < 0) = false := decide_eq_false (by omega)
          have d3 : decide ((ns.length : Int) < (k : Int)) = false := decide_eq_false (by omega)
          have hlen : (ns.take k).length = k := by simp; omega
          replace hsl : ∀ W, (Instr.slice 25 (.slice tn ns.length cn) none (some (.int .i64 (k : Int))) none).run Try.prog W = .ok (.slice tn (ns.take k).length cn) W := by rw [hlen]; exact hsl
          replace ST := ST.take hk
          have HST : Hid _ := ST
          obtain ⟨zs, hzs⟩ : ∃ zs, zs = ns.take k := ⟨_, rfl⟩
          rw [← hzs] at hsl hlen
          have HLEN : Hid _ := hlen
          have HZS : Hid _ := hzs
          clear hlen hzs ST
          go_wp2_with fail
          clear y0 y1 y2
          refine (scut_any HST.out k hk).mono ?_
          rintro e v9 ⟨rfl, ST9⟩
          rw [← HZS.out] at ST9
          clear HST
          have ST := ST9
          clear ST9
          have ST : Sta w v9 b mm zs zs.length tn cn zs := by rw [HLEN.out]; exact ST
          go_upto_region 42 with fail
          have HN : Hid _ := ST.own.src
          have AT := ST.att
          refine wp_region_held_drew (S := fun w' => Off (fun _ => False) v9 w') (by kernel_rfl) ((Off.refl _ v9).drew) (fun hS => ?_)
          replace AT := AT.free ((Off.refl _ v9).drew)
          generalize hdr : v9.drew = va at AT hS ⊢
          clear hdr
          refine take_at (i := 0) 134 (v := .pointer (some ⟨b, 0, none⟩)) rfl rfl (by kernel_rfl) (by kernel_rfl) (by kernel_rfl) (fun _ _ _ h => h) (Or.inl ⟨by rfl, fun w' hw' => by go_simp⟩) hS ?_
          simp only [Act.put, List.setIfInBounds_toArray, List.set_cons_zero, List.set_cons_succ]
          refine take_at (i := 3) 137 (v := .slice tn zs.length cn) rfl rfl (by kernel_rfl) (by kernel_rfl) (by kernel_rfl) (fun _ _ _ h => h) (Or.inl ⟨by rfl, fun w' hw' => by go_simp⟩) hS ?_
          simp only [Act.put, List.setIfInBounds_toArray, List.set_cons_zero, List.set_cons_succ]
          refine take_at (i := 4) 138 (v := .string (strOf zs)) rfl rfl (by kernel_rfl) (by kernel_rfl) (by kernel_rfl) (fun _ _ _ h => h) (Or.inl ⟨by rfl, fun w' hw' => by have hcs := conv_src (HN.out.off hw' (fun _ _ _ h => h)); go_simp⟩) hS ?_
          simp only [Act.put, List.setIfInBounds_toArray, List.set_cons_zero, List.set_cons_succ]
          refine wpAnyH_ready (rs := [1]) (by kernel_rfl) (by simp) ?_
          refine AllReadyH.cons rfl (fun K' hK' => ?_) AllReadyH.nil
          go_simp
          refine (abytes_any AT).mono ?_
          rintro e vb ⟨tb, cb, rfl, own, -, AT2, ob⟩
          have hcs := conv_src own.src
          refine hK'.out _ _ (hS.trans ob (fun _ _ h => h)) (fun hS => ?_)
          clear hK' K' own ob AT
          refine wpAnyH_ready (rs := [2]) (by kernel_rfl) (by simp) ?_
          refine AllReadyH.cons rfl (fun K' hK' => ?_) AllReadyH.nil
          go_simp
          refine hK'.out _ _ hS (fun hS => ?_)
          clear hK' K'
          clear hcs
          refine take_at (i := 5) 139 (v := .bool false) rfl rfl (by kernel_rfl) (by kernel_rfl) (by kernel_rfl) (fun _ _ _ h => h) (Or.inl ⟨by rfl, fun w' hw' => by go_simp⟩) hS ?_
          simp only [Act.put, List.setIfInBounds_toArray, List.set_cons_zero, List.set_cons_succ]
          refine take_at (i := 6) 140 (v := .bool false) rfl rfl (by kernel_rfl) (by kernel_rfl) (by kernel_rfl) (fun _ _ _ h => h) (Or.inl ⟨by rfl, fun w' hw' => by go_simp⟩) hS ?_
          simp only [Act.put, List.setIfInBounds_toArray, List.set_cons_zero, List.set_cons_succ]
          refine take_at (i := 7) 141 (v := .pointer (some ⟨b, 0, none⟩)) rfl rfl (by kernel_rfl) (by kernel_rfl) (by kernel_rfl) (fun _ _ _ h => h) (Or.inl ⟨by rfl, fun w' hw' => by go_simp⟩) hS ?_
          simp only [Act.put, List.setIfInBounds_toArray, List.set_cons_zero, List.set_cons_succ]
          refine take_at (i := 9) 143 (v := .slice tn zs.length cn) rfl rfl (by kernel_rfl) (by kernel_rfl) (by kernel_rfl) (fun _ _ _ h => h) (Or.inl ⟨by rfl, fun w' hw' => by go_simp⟩) hS ?_
          simp only [Act.put, List.setIfInBounds_toArray, List.set_cons_zero, List.set_cons_succ]
          refine take_at (i := 10) 144 (v := .int .i64 (zs.length : Int)) rfl rfl (by kernel_rfl) (by kernel_rfl) (by kernel_rfl) (fun _ _ _ h => h) (Or.inl ⟨by rfl, fun w' hw' => by go_simp⟩) hS ?_
          simp only [Act.put, List.setIfInBounds_toArray, List.set_cons_zero, List.set_cons_succ]
          refine wpAnyH_ready (rs := [8]) (by kernel_rfl) (by simp) ?_
          refine AllReadyH.cons rfl (fun K' hK' => ?_) AllReadyH.nil
          go_simp
          refine (asize_any AT2).mono ?_
          rintro e v' ⟨rfl, hv⟩
          rw [hv]
          clear hv v'
          refine hK'.out _ _ hS (fun hS => ?_)
          clear hK' K'
          refine take_at (i := 11) 145 (v := .bool false) rfl rfl (by kernel_rfl) (by kernel_rfl) (by kernel_rfl) (fun _ _ _ h => h) (Or.inl ⟨by rfl, fun w' hw' => by go_simp⟩) hS ?_
          simp only [Act.put, List.setIfInBounds_toArray, List.set_cons_zero, List.set_cons_succ]
          refine take_at (i := 12) 146 (v := .bool false) rfl rfl (by kernel_rfl) (by kernel_rfl) (by kernel_rfl) (fun _ _ _ h => h) (Or.inl ⟨by rfl, fun w' hw' => by go_simp⟩) hS ?_
          simp only [Act.put, List.setIfInBounds_toArray, List.set_cons_zero, List.set_cons_succ]
          refine take_at (i := 13) 147 (v := .bool false) rfl rfl (by kernel_rfl) (by kernel_rfl) (by kernel_rfl) (fun _ _ _ h => h) (Or.inl ⟨by rfl, fun w' hw' => by go_simp⟩) hS ?_
          simp only [Act.put, List.setIfInBounds_toArray, List.set_cons_zero, List.set_cons_succ]
          refine take_at (i := 14) 148 (v := .pointer (some ⟨b, 0, none⟩)) rfl rfl (by kernel_rfl) (by kernel_rfl) (by kernel_rfl) (fun _ _ _ h => h) (Or.inl ⟨by rfl, fun w' hw' => by go_simp⟩) hS ?_
          simp only [Act.put, List.setIfInBounds_toArray, List.set_cons_zero, List.set_cons_succ]
          refine take_at (i := 16) 150 (v := .int .i64 (zs.length : Int)) rfl rfl (by kernel_rfl) (by kernel_rfl) (by kernel_rfl) (fun _ _ _ h => h) (Or.inl ⟨by rfl, fun w' hw' => by go_simp⟩) hS ?_
          simp only [Act.put, List.setIfInBounds_toArray, List.set_cons_zero, List.set_cons_succ]
          refine wpAnyH_ready (rs := [15]) (by kernel_rfl) (by simp) ?_
          refine AllReadyH.cons rfl (fun K' hK' => ?_) AllReadyH.nil
          go_simp
          refine (asure_any AT2).mono ?_
          rintro e v' ⟨rfl, hv⟩
          rw [hv]
          clear hv v'
          refine hK'.out _ _ hS (fun hS => ?_)
          clear hK' K'
          refine take_at (i := 17) 151 (v := .bool false) rfl rfl (by kernel_rfl) (by kernel_rfl) (by kernel_rfl) (fun _ _ _ h => h) (Or.inl ⟨by rfl, fun w' hw' => by go_simp⟩) hS ?_
          simp only [Act.put, List.setIfInBounds_toArray, List.set_cons_zero, List.set_cons_succ]
          refine take_at (i := 18) 152 (v := .bool false) rfl rfl (by kernel_rfl) (by kernel_rfl) (by kernel_rfl) (fun _ _ _ h => h) (Or.inl ⟨by rfl, fun w' hw' => by go_simp⟩) hS ?_
          simp only [Act.put, List.setIfInBounds_toArray, List.set_cons_zero, List.set_cons_succ]
          refine wpAnyH_done (by kernel_rfl) ?_ _
          have ST9 := ST.free hS
          clear hS AT2 HN ST
          go_wp2_with fail
          go_roundw
          case rel => exact ⟨i + 1, zs, zs.length, tn, cn, by go_num, rfl, rfl, by omega, by omega, ST9⟩
          case measure => simp [intOf]; omega
        have q3 : (act == 3) = false := by simp [a3]
        obtain ⟨m, hm⟩ : ∃ m, m = (num % 18446744073709551616).toNat % (ns.length - s + 1) := ⟨_, rfl⟩
        have hkn : keepN ns.length s num = s + m := by rw [hm]; rfl
        have hsu := ST.att.su
        have hle := keepN_le hsu num
        rw [hkn] at hle
        have ek : (IntKind.u64.wrap num).tmod ((ns.length : Int) - (s : Int) + 1) = (m : Int) := wrap_mod hsu num m hm
        obtain ⟨k, hk⟩ : ∃ k, k = s + m := ⟨_, rfl⟩
        have ek2 : (s : Int) + (m : Int) = (k : Int) := by omega
        rw [← hk] at hle hkn
        have HKN : Hid _ := hkn
        clear hm hkn
        have hsl := (ST.own.take hle).1
        have hlen : (ns.take k).length = k := by simp; omega
        replace hsl : ∀ W, (Instr.slice 25 (.slice tn ns.length cn) none (some (.int .i64 (k : Int))) none).run Try.prog W = .ok (.slice tn (ns.take k).length cn) W := by rw [hlen]; exact hsl
        replace ST := ST.take hle
        have HST : Hid _ := ST
        obtain ⟨zs, hzs⟩ : ∃ zs, zs = ns.take k := ⟨_, rfl⟩
        rw [← hzs] at hsl hlen
        have HLEN : Hid _ := hlen
        have HZS : Hid _ := hzs
        clear hlen hzs ST
        have hmm : m ≤ ns.length := by omega
        clear hk
        obtain ⟨y0, y1, y2⟩ := cel3 HQ.out
        go_wp2_with fail
        clear y0 y1 y2
        refine (scrash_any HST.out num).mono ?_
        rintro e v9 ⟨rfl, ST9⟩
        rw [HKN.out, ← HZS.out] at ST9
        clear HST
        have ST := ST9
        clear ST9
        have ST : Sta w v9 b mm zs zs.length tn cn zs := by rw [HLEN.out]; exact ST
        go_upto_region 42 with fail
        have HN : Hid _ := ST.own.src
        have AT := ST.att
        refine wp_region_held_drew (S := fun w' => Off (fun _ => False) v9 w') (by kernel_rfl) ((Off.refl _ v9).drew) (fun hS => ?_)
        replace AT := AT.free ((Off.refl _ v9).drew)
        generalize hdr : v9.drew = va at AT hS ⊢
        clear hdr
        refine take_at (i := 0) 134 (v := .pointer (some ⟨b, 0, none⟩)) rfl rfl (by kernel_rfl) (by kernel_rfl) (by kernel_rfl) (fun _ _ _ h => h) (Or.inl ⟨by rfl, fun w' hw' => by go_simp⟩) hS ?_
        simp only [Act.put, List.setIfInBounds_toArray, List.set_cons_zero, List.set_cons_succ]
        refine take_at (i := 3) 137 (v := .slice tn zs.length cn) rfl rfl (by kernel_rfl) (by kernel_rfl) (by kernel_rfl) (fun _ _ _ h => h) (Or.inl ⟨by rfl, fun w' hw' => by go_simp⟩) hS ?_
        simp only [Act.put, List.setIfInBounds_toArray, List.set_cons_zero, List.set_cons_succ]
        refine take_at (i := 4) 138 (v := .string (strOf zs)) rfl rfl (by kernel_rfl) (by kernel_rfl) (by kernel_rfl) (fun _ _ _ h => h) (Or.inl ⟨by rfl, fun w' hw' => by have hcs := conv_src (HN.out.off hw' (fun _ _ _ h => h)); go_simp⟩) hS ?_
        simp only [Act.put, List.setIfInBounds_toArray, List.set_cons_zero, List.set_cons_succ]
        refine wpAnyH_ready (rs := [1]) (by kernel_rfl) (by simp) ?_
        refine AllReadyH.cons rfl (fun K' hK' => ?_) AllReadyH.nil
        go_simp
        refine (abytes_any AT).mono ?_
        rintro e vb ⟨tb, cb, rfl, own, -, AT2, ob⟩
        have hcs := conv_src own.src
        refine hK'.out _ _ (hS.trans ob (fun _ _ h => h)) (fun hS => ?_)
        clear hK' K' own ob AT
        refine wpAnyH_ready (rs := [2]) (by kernel_rfl) (by simp) ?_
        refine AllReadyH.cons rfl (fun K' hK' => ?_) AllReadyH.nil
        go_simp
        refine hK'.out _ _ hS (fun hS => ?_)
        clear hK' K'
        clear hcs
        refine take_at (i := 5) 139 (v := .bool false) rfl rfl (by kernel_rfl) (by kernel_rfl) (by kernel_rfl) (fun _ _ _ h => h) (Or.inl ⟨by rfl, fun w' hw' => by go_simp⟩) hS ?_
        simp only [Act.put, List.setIfInBounds_toArray, List.set_cons_zero, List.set_cons_succ]
        refine take_at (i := 6) 140 (v := .bool false) rfl rfl (by kernel_rfl) (by kernel_rfl) (by kernel_rfl) (fun _ _ _ h => h) (Or.inl ⟨by rfl, fun w' hw' => by go_simp⟩) hS ?_
        simp only [Act.put, List.setIfInBounds_toArray, List.set_cons_zero, List.set_cons_succ]
        refine take_at (i := 7) 141 (v := .pointer (some ⟨b, 0, none⟩)) rfl rfl (by kernel_rfl) (by kernel_rfl) (by kernel_rfl) (fun _ _ _ h => h) (Or.inl ⟨by rfl, fun w' hw' => by go_simp⟩) hS ?_
        simp only [Act.put, List.setIfInBounds_toArray, List.set_cons_zero, List.set_cons_succ]
        refine take_at (i := 9) 143 (v := .slice tn zs.length cn) rfl rfl (by kernel_rfl) (by kernel_rfl) (by kernel_rfl) (fun _ _ _ h => h) (Or.inl ⟨by rfl, fun w' hw' => by go_simp⟩) hS ?_
        simp only [Act.put, List.setIfInBounds_toArray, List.set_cons_zero, List.set_cons_succ]
        refine take_at (i := 10) 144 (v := .int .i64 (zs.length : Int)) rfl rfl (by kernel_rfl) (by kernel_rfl) (by kernel_rfl) (fun _ _ _ h => h) (Or.inl ⟨by rfl, fun w' hw' => by go_simp⟩) hS ?_
        simp only [Act.put, List.setIfInBounds_toArray, List.set_cons_zero, List.set_cons_succ]
        refine wpAnyH_ready (rs := [8]) (by kernel_rfl) (by simp) ?_
        refine AllReadyH.cons rfl (fun K' hK' => ?_) AllReadyH.nil
        go_simp
        refine (asize_any AT2).mono ?_
        rintro e v' ⟨rfl, hv⟩
        rw [hv]
        clear hv v'
        refine hK'.out _ _ hS (fun hS => ?_)
        clear hK' K'
        refine take_at (i := 11) 145 (v := .bool false) rfl rfl (by kernel_rfl) (by kernel_rfl) (by kernel_rfl) (fun _ _ _ h => h) (Or.inl ⟨by rfl, fun w' hw' => by go_simp⟩) hS ?_
        simp only [Act.put, List.setIfInBounds_toArray, List.set_cons_zero, List.set_cons_succ]
        refine take_at (i := 12) 146 (v := .bool false) rfl rfl (by kernel_rfl) (by kernel_rfl) (by kernel_rfl) (fun _ _ _ h => h) (Or.inl ⟨by rfl, fun w' hw' => by go_simp⟩) hS ?_
        simp only [Act.put, List.setIfInBounds_toArray, List.set_cons_zero, List.set_cons_succ]
        refine take_at (i := 13) 147 (v := .bool false) rfl rfl (by kernel_rfl) (by kernel_rfl) (by kernel_rfl) (fun _ _ _ h => h) (Or.inl ⟨by rfl, fun w' hw' => by go_simp⟩) hS ?_
        simp only [Act.put, List.setIfInBounds_toArray, List.set_cons_zero, List.set_cons_succ]
        refine take_at (i := 14) 148 (v := .pointer (some ⟨b, 0, none⟩)) rfl rfl (by kernel_rfl) (by kernel_rfl) (by kernel_rfl) (fun _ _ _ h => h) (Or.inl ⟨by rfl, fun w' hw' => by go_simp⟩) hS ?_
        simp only [Act.put, List.setIfInBounds_toArray, List.set_cons_zero, List.set_cons_succ]
        refine take_at (i := 16) 150 (v := .int .i64 (zs.length : Int)) rfl rfl (by kernel_rfl) (by kernel_rfl) (by kernel_rfl) (fun _ _ _ h => h) (Or.inl ⟨by rfl, fun w' hw' => by go_simp⟩) hS ?_
        simp only [Act.put, List.setIfInBounds_toArray, List.set_cons_zero, List.set_cons_succ]
        refine wpAnyH_ready (rs := [15]) (by kernel_rfl) (by simp) ?_
        refine AllReadyH.cons rfl (fun K' hK' => ?_) AllReadyH.nil
        go_simp
        refine (asure_any AT2).mono ?_
        rintro e v' ⟨rfl, hv⟩
        rw [hv]
        clear hv v'
        refine hK'.out _ _ hS (fun hS => ?_)
        clear hK' K'
        refine take_at (i := 17) 151 (v := .bool false) rfl rfl (by kernel_rfl) (by kernel_rfl) (by kernel_rfl) (fun _ _ _ h => h) (Or.inl ⟨by rfl, fun w' hw' => by go_simp⟩) hS ?_
        simp only [Act.put, List.setIfInBounds_toArray, List.set_cons_zero, List.set_cons_succ]
        refine take_at (i := 18) 152 (v := .bool false) rfl rfl (by kernel_rfl) (by kernel_rfl) (by kernel_rfl) (fun _ _ _ h => h) (Or.inl ⟨by rfl, fun w' hw' => by go_simp⟩) hS ?_
        simp only [Act.put, List.setIfInBounds_toArray, List.set_cons_zero, List.set_cons_succ]
        refine wpAnyH_done (by kernel_rfl) ?_ _
        have ST9 := ST.free hS
        clear hS AT2 HN ST
        go_wp2_with fail
        go_roundw
        case rel => exact ⟨i + 1, zs, zs.length, tn, cn, by go_num, rfl, rfl, by omega, by omega, ST9⟩
        case measure => simp [intOf]; omega
      · have t2 : decide ((i : Int) < 80) = false := decide_eq_false (by omega)
        go_wp2_with fail
        refine (awake_any _).mono ?_
        rintro e v ⟨rfl, o⟩
        go_wp2_with fail
        go_ret
        exact ⟨rfl, ST.off.trans o (fun _ _ h => h)⟩
    · have t1 : decide ((i : Int) < (len : Int)) = false := decide_eq_false (by omega)
      have t1' : decide (i < len) = false := decide_eq_false (by omega)
      go_wp2_with fail
      refine (awake_any _).mono ?_
      rintro e v ⟨rfl, o⟩
      go_wp2_with fail
      go_ret
      exact ⟨rfl, ST.off.trans o (fun _ _ h => h)⟩
end Go.Proofs.Ytibnhgpenfcinaa
