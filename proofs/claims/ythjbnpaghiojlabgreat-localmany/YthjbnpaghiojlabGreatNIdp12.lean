/- Items of several texts. -/
import Derived.Test.YthjbnpaghiojlabGreatNAw12
import Derived.Test.YthjbnpaghiojlabGreatNSms11
namespace Go.Proofs.YthjbnpaghiojlabGreat
open Go.RowKit
def stepA (most : Nat) (z : List (List Nat) × PS) (x : C) : Ans :=
 if x.d = 0 then putA most z.1 z.2 x.node x.key x.g x.data x.dead else if x.d = 1 then joinA most z.1 z.2 x.e.abs else if x.d = 2 then hintA most z.1 z.2 x.node x.e.abs else if x.d = 3 then unhA most z.1 z.2 x.node x.key x.f (cont x.l) else if x.d = 4 then reaA most z.1 z.2 x.key else ⟨0, z.1, z.2⟩
def stepP (most : Nat) (z : List (List Nat) × PS) (x : C) : List (List Nat) × PS := ((stepA most z x).rs, (stepA most z x).s)
def runP (most : Nat) (z : List (List Nat) × PS) (cs : List C) : List (List Nat) × PS := cs.foldl (stepP most) z
theorem run_take {most : Nat} {z : List (List Nat) × PS} {cs : List C} {n : Nat} {x : C} (h : cs[n]? = some x) : runP most z (cs.take (n + 1)) = stepP most (runP most z (cs.take n)) x := by
 unfold runP
 rw [List.take_add_one, h, Option.toList_some, List.foldl_append]
 rfl
set_option maxRecDepth 100000 in
set_option maxHeartbeats 4000000 in
theorem play_any {D S : Nat → Prop} {p lb b most : Nat} {rs : List (List Nat)} {s : PS} {w : World} (h : Hol D S p lb b most rs s w) (a : Option Addr) (cap : Nat) (cs : List C) (hC : ∀ v, Off (fun c => D c ∨ S c) w v → Cas v a cap cs) (hT : ∀ x ∈ cs, Ter (fun c => (¬ D c ∧ ¬ S c) ∧ c < w.heap.size) x.a x.l) :
  Calls Tryz.prog 11 #[.pointer (some ⟨p, 0, none⟩), .slice a cs.length cap] w fun e w' => e = .returned (.tuple #[]) ∧ ∃ D' S', Hol D' S' p lb b most (runP most (rs, s) cs).1 (runP most (rs, s) cs).2 w' ∧ Mov D S D' S' w w' := by
 have HCA : Hid _ := hC
 have HT : Hid _ := hT
 have HH0 : Hid _ := h
 have h0 := hC w (Off.refl _ _)
 have hbb : cs.length ≤ 9223372036854775807 := Nat.le_trans h0.len h0.bound
 clear h hC hT h0
 go_enter Tryz.func11, Tryz.ntmps11
 go_wp2_with fail
 go_loopw [9] (fun y wr => ∃ (n : Nat) (D1 S1 : Nat → Prop), y = .int .i64 (n : Int) ∧ n ≤ cs.length ∧ Hol D1 S1 p lb b most (runP most (rs, s) (cs.take n)).1 (runP most (rs, s) (cs.take n)).2 wr ∧ Mov D S D1 S1 w wr) (fun y _ => (cs.length - intOf y).toNat)
 case atStart => exact ⟨0, D, S, rfl, by omega, HH0.out, Mov.refl D S w⟩
 case round =>
  obtain ⟨n, D1, S1, rfl, hn, hhol, hmv⟩ := hrel
  have HHOL : Hid _ := hhol
  have HMV : Hid _ := hmv
  clear hhol hmv
  by_cases hlt : n < cs.length
  ·have e1 : decide ((n : Int) < (cs.length : Int)) = true := decide_eq_true (by omega)
   have e2 : decide (n < cs.length) = true := decide_eq_true hlt
   obtain ⟨x, hx⟩ : ∃ x, cs[n]? = some x := ⟨_, List.getElem?_eq_getElem hlt⟩
   have hE := HCA.out wr HMV.out.off
   obtain ⟨bx, ox, rfl, kx, rx, sx⟩ := hE.at_ n x hx
   have HOK : Hid _ := hE.ok x (List.mem_of_getElem? hx)
   clear hE
   go_upto_region 2 with fail
   refine wp_region_list ?_
   refine wpList_exec 11 rfl rfl (exec_idx10 rfl (idx_calls hlt _ _ _ _)) ?_
   simp only [Act.put, lsA, lsZ, lsS]
   refine wpList_exec 12 rfl rfl (exec_load rfl (run_loadAt_mid wr bx (ox + n * 22) 56 (ccs x) _ kx Tryz.underlying56 rfl (by kernel_rfl))) ?_
   simp only [Act.put, lsA, lsZ, lsS]
   refine wpList_exec 5 rfl rfl (exec_alloc rfl (allocC wr)) ?_
   simp only [Act.put, lsA, lsZ, lsS]
   refine wpList_skip rfl rfl (exec_store rfl (storeC wr x)) ?_
   have Cq4 := Cel.new wr 56 (ccs x).toArray
   have OA : Off (fun _ => False) wr (wr.alloc (.cells (ccs x).toArray 56)) := (Off.refl _ wr).alloc _
   generalize hq : wr.heap.size = q4 at Cq4 ⊢
   generalize hv : wr.alloc (.cells (ccs x).toArray 56) = V4 at Cq4 OA ⊢
   clear hq hv kx
   have HC4 : Hid _ := Cq4
   obtain ⟨u0, u1, u2, u3, u4, u5, u6, u7, u8, u9, u10, u11, u12, u13, u14, u15, u16, u17, u18, u19, u20, u21⟩ := cel22 Cq4
   clear Cq4
   go_upto_region 4 with fail
   have OB : Off (fun _ => False) V4 (V4.alloc (.cells #[.string x.key, .int .i64 (x.f 0), .int .i64 (x.f 1), .int .i64 (x.f 2), .int .i64 (x.f 3), .int .i64 (x.f 4), .int .i64 (x.f 5), .int .i64 (x.f 6), .int .i64 (x.f 7), .slice x.a x.l.length x.cap] 47)) := (Off.refl _ V4).alloc _
   have C5 := Cel.new V4 47 #[.string x.key, .int .i64 (x.f 0), .int .i64 (x.f 1), .int .i64 (x.f 2), .int .i64 (x.f 3), .int .i64 (x.f 4), .int .i64 (x.f 5), .int .i64 (x.f 6), .int .i64 (x.f 7), .slice x.a x.l.length x.cap]
   clear u0 u1 u2 u3 u4 u5 u6 u7 u8 u9 u10 u11 u12 u13 u14 u15 u16 u17 u18 u19 u20 u21
   generalize hq5 : V4.heap.size = q5 at C5 ⊢
   generalize hv5 : V4.alloc (.cells #[.string x.key, .int .i64 (x.f 0), .int .i64 (x.f 1), .int .i64 (x.f 2), .int .i64 (x.f 3), .int .i64 (x.f 4), .int .i64 (x.f 5), .int .i64 (x.f 6), .int .i64 (x.f 7), .slice x.a x.l.length x.cap] 47) = V5 at C5 OB ⊢
   clear hq5 hv5
   have OO : Off (fun _ => False) wr V5 := OA.trans OB (fun _ _ h => h)
   have HOL : Hid _ := HHOL.out.free OO
   have HMOV : Hid _ := HMV.out.free OO
   have HROW : Hid (Row V5 x.a x.cap x.l) := rx.off OO
   have HSRC : Hid (Src V5 x.da x.dc x.data) := sx.off OO (fun _ _ _ h => h)
   have HTER : Hid (Ter (fun c => ¬ D1 c ∧ ¬ S1 c) x.a x.l) := (HT.out x (List.mem_of_getElem? hx)).mono (fun c hc => HMV.out.not hc.2 hc.1)
   obtain ⟨t0, t1, t2, t3, t4, t5, t6, t7, t8, t9⟩ := cel10 C5
   have HC5 : Hid _ := C5
   obtain ⟨u0, u1, u2, u3, u4, u5, u6, u7, u8, u9, u10, u11, u12, u13, u14, u15, u16, u17, u18, u19, u20, u21⟩ := cel22 (HC4.out.off OB (fun h => h))
   have HX : Hid _ := hx
   clear OA OB OO rx sx hx C5 HC4 HHOL HMV
   by_cases h0 : x.d = 0
   ·have d0 : (x.d == 0) = true := by rw [h0]; rfl
    have d0' : decide (x.d = 0) = true := decide_eq_true h0
    go_wp2_with fail
    clear u0 u1 u2 u3 u4 u5 u6 u7 u8 u9 u10 u11 u12 u13 u14 u15 u16 u17 u18 u19 u20 u21 t0 t1 t2 t3 t4 t5 t6 t7 t8 t9
    refine (lput_any HOL.out x.node HOK.out.no x.key HOK.out.key x.g HOK.out.g x.da x.dc x.data x.dead HSRC.out HOK.out.lt HOK.out.len).mono ?_
    rintro e v6 ⟨f1, a1, c1, l1, rfl, -, -, -, -, D2, S2, hol, mv⟩
    have HH : Hid _ := hol
    have HM : Hid _ := mv
    clear hol mv
    go_wp2_with fail
    go_roundw
    case rel =>
     have es : stepP most (runP most (rs, s) (cs.take n)) x = ((putA most (runP most (rs, s) (cs.take n)).1 (runP most (rs, s) (cs.take n)).2 x.node x.key x.g x.data x.dead).rs, (putA most (runP most (rs, s) (cs.take n)).1 (runP most (rs, s) (cs.take n)).2 x.node x.key x.g x.data x.dead).s) := by
      unfold stepP stepA
      rw [if_pos h0]
     refine ⟨n + 1, D2, S2, by go_num, by omega, ?_, HMOV.out.trans HM.out⟩
     rw [run_take HX.out, es]
     exact HH.out
    case measure => simp [intOf]; omega
   ·have d0 : (x.d == 0) = false := by rw [beq_eq_false_iff_ne]; exact h0
    have d0' : decide (x.d = 0) = false := decide_eq_false h0
    by_cases h1 : x.d = 1
    ·have d1 : (x.d == 1) = true := by rw [h1]; rfl
     have d1' : decide (x.d = 1) = true := decide_eq_true h1
     go_wp2_with fail
     clear u0 u1 u2 u3 u4 u5 u6 u7 u8 u9 u10 u11 u12 u13 u14 u15 u16 u17 u18 u19 u20 u21 t0 t1 t2 t3 t4 t5 t6 t7 t8 t9
     refine (ljoin_any HOL.out x.e HROW.out HOK.out.f HTER.out HOK.out.key).mono ?_
     rintro e v6 ⟨rfl, D2, S2, hol, mv⟩
     have HH : Hid _ := hol
     have HM : Hid _ := mv
     clear hol mv
     go_wp2_with fail
     go_roundw
     case rel =>
      have es : stepP most (runP most (rs, s) (cs.take n)) x = ((joinA most (runP most (rs, s) (cs.take n)).1 (runP most (rs, s) (cs.take n)).2 x.e.abs).rs, (joinA most (runP most (rs, s) (cs.take n)).1 (runP most (rs, s) (cs.take n)).2 x.e.abs).s) := by
       unfold stepP stepA
       rw [if_neg h0, if_pos h1]
      refine ⟨n + 1, D2, S2, by go_num, by omega, ?_, HMOV.out.trans HM.out⟩
      rw [run_take HX.out, es]
      exact HH.out
     case measure => simp [intOf]; omega
    ·have d1 : (x.d == 1) = false := by rw [beq_eq_false_iff_ne]; exact h1
     have d1' : decide (x.d = 1) = false := decide_eq_false h1
     by_cases h2 : x.d = 2
     ·have d2 : (x.d == 2) = true := by rw [h2]; rfl
      have d2' : decide (x.d = 2) = true := decide_eq_true h2
      go_wp2_with fail
      clear u0 u1 u2 u3 u4 u5 u6 u7 u8 u9 u10 u11 u12 u13 u14 u15 u16 u17 u18 u19 u20 u21 t0 t1 t2 t3 t4 t5 t6 t7 t8 t9
      refine (lhint_any HOL.out x.node x.e HROW.out HOK.out.f HTER.out).mono ?_
      rintro e v6 ⟨rfl, D2, S2, hol, mv⟩
      have HH : Hid _ := hol
      have HM : Hid _ := mv
      clear hol mv
      go_wp2_with fail
      go_roundw
      case rel =>
       have es : stepP most (runP most (rs, s) (cs.take n)) x = ((hintA most (runP most (rs, s) (cs.take n)).1 (runP most (rs, s) (cs.take n)).2 x.node x.e.abs).rs, (hintA most (runP most (rs, s) (cs.take n)).1 (runP most (rs, s) (cs.take n)).2 x.node x.e.abs).s) := by
        unfold stepP stepA
        rw [if_neg h0, if_neg h1, if_pos h2]
       refine ⟨n + 1, D2, S2, by go_num, by omega, ?_, HMOV.out.trans HM.out⟩
       rw [run_take HX.out, es]
       exact HH.out
      case measure => simp [intOf]; omega
     ·have d2 : (x.d == 2) = false := by rw [beq_eq_false_iff_ne]; exact h2
      have d2' : decide (x.d = 2) = false := decide_eq_false h2
      by_cases h3 : x.d = 3
      ·have d3 : (x.d == 3) = true := by rw [h3]; rfl
       have d3' : decide (x.d = 3) = true := decide_eq_true h3
       go_wp2_with fail
       clear u0 u1 u2 u3 u4 u5 u6 u7 u8 u9 u10 u11 u12 u13 u14 u15 u16 u17 u18 u19 u20 u21 t0 t1 t2 t3 t4 t5 t6 t7 t8 t9
       refine (lunhint_any HOL.out x.node x.key x.f x.a x.cap x.l HROW.out).mono ?_
       rintro e v6 ⟨rfl, D2, S2, hol, mv⟩
       have HH : Hid _ := hol
       have HM : Hid _ := mv
       clear hol mv
       go_wp2_with fail
       go_roundw
       case rel =>
        have es : stepP most (runP most (rs, s) (cs.take n)) x = ((unhA most (runP most (rs, s) (cs.take n)).1 (runP most (rs, s) (cs.take n)).2 x.node x.key x.f (cont x.l)).rs, (unhA most (runP most (rs, s) (cs.take n)).1 (runP most (rs, s) (cs.take n)).2 x.node x.key x.f (cont x.l)).s) := by
         unfold stepP stepA
         rw [if_neg h0, if_neg h1, if_neg h2, if_pos h3]
        refine ⟨n + 1, D2, S2, by go_num, by omega, ?_, HMOV.out.trans HM.out⟩
        rw [run_take HX.out, es]
        exact HH.out
       case measure => simp [intOf]; omega
      ·have d3 : (x.d == 3) = false := by rw [beq_eq_false_iff_ne]; exact h3
       have d3' : decide (x.d = 3) = false := decide_eq_false h3
       by_cases h4 : x.d = 4
       ·have d4 : (x.d == 4) = true := by rw [h4]; rfl
        have d4' : decide (x.d = 4) = true := decide_eq_true h4
        go_wp2_with fail
        clear u0 u1 u2 u3 u4 u5 u6 u7 u8 u9 u10 u11 u12 u13 u14 u15 u16 u17 u18 u19 u20 u21 t0 t1 t2 t3 t4 t5 t6 t7 t8 t9
        refine (lreap_any HOL.out x.key HOK.out.key).mono ?_
        rintro e v6 ⟨rfl, D2, S2, hol, mv⟩
        have HH : Hid _ := hol
        have HM : Hid _ := mv
        clear hol mv
        go_wp2_with fail
        go_roundw
        case rel =>
         have es : stepP most (runP most (rs, s) (cs.take n)) x = ((reaA most (runP most (rs, s) (cs.take n)).1 (runP most (rs, s) (cs.take n)).2 x.key).rs, (reaA most (runP most (rs, s) (cs.take n)).1 (runP most (rs, s) (cs.take n)).2 x.key).s) := by
          unfold stepP stepA
          rw [if_neg h0, if_neg h1, if_neg h2, if_neg h3, if_pos h4]
         refine ⟨n + 1, D2, S2, by go_num, by omega, ?_, HMOV.out.trans HM.out⟩
         rw [run_take HX.out, es]
         exact HH.out
        case measure => simp [intOf]; omega
       ·have d4 : (x.d == 4) = false := by rw [beq_eq_false_iff_ne]; exact h4
        have d4' : decide (x.d = 4) = false := decide_eq_false h4
        go_wp2_with fail
        go_roundw
        case rel =>
         have es : stepP most (runP most (rs, s) (cs.take n)) x = runP most (rs, s) (cs.take n) := by
          unfold stepP stepA
          rw [if_neg h0, if_neg h1, if_neg h2, if_neg h3, if_neg h4]
         refine ⟨n + 1, D1, S1, by go_num, by omega, ?_, HMOV.out⟩
         rw [run_take HX.out, es]
         exact HOL.out
        case measure => simp [intOf]; omega
  ·obtain rfl : n = cs.length := by omega
   have e1 : decide ((cs.length : Int) < (cs.length : Int)) = false := decide_eq_false (by omega)
   have e2 : decide (cs.length < cs.length) = false := decide_eq_false (by omega)
   go_wp2_with fail
   first | go_end0 | refine bodyPost_ret (results_none rfl _ _ _) rfl ?_
   refine ⟨rfl, D1, S1, ?_, HMV.out⟩
   have hh := HHOL.out
   rw [List.take_length] at hh
   exact hh
end Go.Proofs.YthjbnpaghiojlabGreat

namespace Go.Proofs.YthjbnpaghiojlabGreat
open Go.RowKit
theorem OkK.leq {k : K} (h : OkK k) : leqS k.f k.f k.l k.l = true := leq_iff.2 ⟨h.may, h.may, fun j _ => Int.le_refl _, by rw [merge_self]; exact take_may h.may⟩
theorem idle_join {s : PS} (h : OkP s) {k : K} (hk : k ∈ s.1) : joinC s k = -1 := by
 have ok := h.ok k hk
 have hf : fndG K.key k.key s.1 = some k := (fnd_some K.key h.sor).2 ⟨hk, rfl⟩
 have hg : getK s.1 k.key = k := by unfold getK; rw [hf]; rfl
 unfold joinC
 rw [hg, hf, ok.key, may_yes ok.may, ok.leq]
 simp
theorem idle_joinA {s : PS} (h : OkP s) {k : K} (hk : k ∈ s.1) (most : Nat) (rs : List (List Nat)) : joinA most rs s k = ⟨0, rs, s⟩ ∧ joinB most rs s k = false := by
 have e := idle_join h hk
 refine ⟨?_, ?_⟩
 ·unfold joinA
  rw [e]
  rfl
 ·unfold joinB
  rw [e]
  rfl
theorem idle_hint {s : PS} (h : OkP s) {y : HK} (hy : y ∈ s.2) : hintC s y.node y.k = -1 := by
 obtain ⟨hn, ok⟩ := h.hint hy
 have hf : fndGH HK.nk (y.node, y.k.key) s.2 = some y := (fnd_someH HK.nk h.set.sor).2 ⟨hy, rfl⟩
 have hg : getH s.2 y.node y.k.key = y.k := by unfold getH; rw [hf]; rfl
 unfold hintC
 rw [hg, hf, hn, ok.key, may_yes ok.may, ok.leq]
 simp
theorem idle_hintA {s : PS} (h : OkP s) {y : HK} (hy : y ∈ s.2) (most : Nat) (rs : List (List Nat)) : hintA most rs s y.node y.k = ⟨0, rs, s⟩ := by
 unfold hintA
 rw [idle_hint h hy]
 rfl
theorem idle_unh {s : PS} (h : OkP s) {key : ByteArray} (hk : 32 < key.size) (node : Int) (f : Nat → Int) (l : List A) (most : Nat) (rs : List (List Nat)) : unhA most rs s node key f l = ⟨0, rs, s⟩ ∧ unhC most rs s node key f l = false := by
 have hf : fndGH HK.nk (node, key) s.2 = none := (fnd_noneH HK.nk).2 (fun y hy e => by
  have h1 := key_size (h.hint hy).2.key
  have h2 : y.k.key = key := congrArg Prod.snd e
  rw [h2] at h1
  omega)
 have hb : unhB s node key f l = false := by unfold unhB; rw [hf]; rfl
 refine ⟨?_, ?_⟩
 ·unfold unhA
  rw [hb]
  rfl
 ·unfold unhC
  rw [hb]
  rfl
theorem get_long {s : PS} (h : OkP s) {key : ByteArray} (hk : 32 < key.size) : getK s.1 key = ⟨key, zer, []⟩ := by
 have hf : fndG K.key key s.1 = none := (fnd_none K.key).2 (fun y hy e => by
  have h1 := key_size (h.ok y hy).key
  rw [e] at h1
  omega)
 unfold getK
 rw [hf]
 rfl
theorem idle_reap {s : PS} (h : OkP s) {key : ByteArray} (hk : 32 < key.size) (most : Nat) (rs : List (List Nat)) : reaA most rs s key = ⟨0, rs, s⟩ ∧ reaC most rs s key = false := by
 have hv : reapV zer [] = zer := by unfold reapV; split <;> rfl
 have hl : reapL zer [] = [] := by unfold reapL; split <;> rfl
 have hb : reaB s key = false := by
  unfold reaB
  rw [get_long h hk]
  show (!sameS zer (reapV zer []) [] (reapL zer [])) = false
  rw [hv, hl, same_iff.2 ⟨fun _ _ => rfl, rfl⟩]
  rfl
 refine ⟨?_, ?_⟩
 ·unfold reaA
  rw [hb]
  rfl
 ·unfold reaC
  rw [hb]
  rfl
theorem Lw.few {w0 : World} {p b most : Nat} {rs : List (List Nat)} {s : PS} {w : World} (h : Lw w0 p b most rs s w) : s.1.length ≤ 256 ∧ s.2.length ≤ 64 := ⟨h.inv.ok.few, h.inv.ok.set.few⟩
theorem wplay_any {w0 : World} {p b most : Nat} {rs : List (List Nat)} {s : PS} {w : World} (h : Lw w0 p b most rs s w) (a : Option Addr) (cap : Nat) (cs : List C) (hE : Cas w0 a cap cs) :
  Calls Tryz.prog 11 #[.pointer (some ⟨p, 0, none⟩), .slice a cs.length cap] w fun e w' => e = .returned (.tuple #[]) ∧ Lw w0 p b most (runP most (rs, s) cs).1 (runP most (rs, s) cs).2 w' := by
 obtain ⟨lb, D, S, h1, h2⟩ := h.ex
 have hsz := h.off.size
 refine (play_any h1 a cap cs (fun v o => hE.off (((h.off.mono (fun _ _ h => h.elim)).trans o (fun _ _ h => h)).mono (fun i hi e => by have := h2 i e; omega))) (fun x hx => ?_)).mono ?_
 ·obtain ⟨i, hi⟩ := List.getElem?_of_mem hx
  obtain ⟨-, -, -, -, hr, -⟩ := hE.at_ i x hi
  exact hr.below.mono (fun c hc => ⟨⟨fun e => by have := h2 c (.inl e); omega, fun e => by have := h2 c (.inr e); omega⟩, by omega⟩)
 ·rintro e w' ⟨rfl, D', S', hol, mv⟩
  exact ⟨rfl, Lw.mov h2 h.off hol mv⟩
theorem wsize_any {w0 : World} {b most : Nat} {rs : List (List Nat)} {w : World} (h : Fil w0 b most rs w) :
  Calls Tryz.prog 18 #[.pointer (some ⟨b, 0, none⟩)] w fun e w' => e = .returned (.int .i64 (((frs rs).length : Nat) : Int)) ∧ w' = w := by
 obtain ⟨D, h1, h2⟩ := h.ex
 exact dsize_any h1
theorem allocE (w : World) : (Instr.alloc 47 true (.tuple #[])).run Tryz.prog w = .ok (.pointer (some ⟨w.heap.size, 0, none⟩)) (w.alloc (.cells #[.string ⟨#[]⟩, .int .i64 0, .int .i64 0, .int .i64 0, .int .i64 0, .int .i64 0, .int .i64 0, .int .i64 0, .int .i64 0, .slice none 0 0] 47)) := by
 go_simp
theorem storeE (w : World) (x : E) : (Instr.storeAt 47 (.pointer (some ⟨w.heap.size, 0, none⟩)) (.agg (ecs x).toArray)).run Tryz.prog (w.alloc (.cells #[.string ⟨#[]⟩, .int .i64 0, .int .i64 0, .int .i64 0, .int .i64 0, .int .i64 0, .int .i64 0, .int .i64 0, .int .i64 0, .slice none 0 0] 47)) = .ok () (w.alloc (.cells (ecs x).toArray 47)) :=
 run_storeAt_new w 47 _ _ (by kernel_rfl) rfl (by simp [ecs, Value.oneCell'])
theorem allocH (w : World) : (Instr.alloc 51 true (.tuple #[])).run Tryz.prog w = .ok (.pointer (some ⟨w.heap.size, 0, none⟩)) (w.alloc (.cells #[.int .i64 0, .string ⟨#[]⟩, .int .i64 0, .int .i64 0, .int .i64 0, .int .i64 0, .int .i64 0, .int .i64 0, .int .i64 0, .int .i64 0, .slice none 0 0] 51)) := by
 go_simp
theorem storeH (w : World) (x : H) : (Instr.storeAt 51 (.pointer (some ⟨w.heap.size, 0, none⟩)) (.agg (hcs x).toArray)).run Tryz.prog (w.alloc (.cells #[.int .i64 0, .string ⟨#[]⟩, .int .i64 0, .int .i64 0, .int .i64 0, .int .i64 0, .int .i64 0, .int .i64 0, .int .i64 0, .int .i64 0, .slice none 0 0] 51)) = .ok () (w.alloc (.cells (hcs x).toArray 51)) :=
 run_storeAt_new w 51 _ _ (by kernel_rfl) rfl (by simp [hcs, Value.oneCell'])
end Go.Proofs.YthjbnpaghiojlabGreat
