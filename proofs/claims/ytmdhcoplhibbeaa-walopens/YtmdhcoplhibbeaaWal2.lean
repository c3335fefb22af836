/- What Append of a log does, what a log tells. -/
import Derived.Test.YtmdhcoplhibbeaaWal1
namespace Go.Proofs.Ytmdhcoplhibbeaa
open Go.RowKit

theorem Inp.nil (w : World) : Inp w none 0 [] := ⟨Src.nil w, Nat.le_refl _, by simp⟩
theorem put1_any {w : World} {tr : Option Addr} {cr : Nat} {rs : List Nat} (hr : Inp w tr cr rs) (hl : rs.length ≤ 60000) :
    Calls Try.prog 34 #[.slice none 0 0, .slice tr rs.length cr] w fun e w' => ∃ t c, e = .returned (.tuple #[.slice t (frm rs).length c, .int .i64 0]) ∧ OwnR w' t c (frm rs) ∧ (∀ k, blk t = some k → w.heap.size ≤ k) ∧ Off (fun _ => False) w w' :=
  put_any (Inp.nil w) hr (by simp) hl

set_option maxRecDepth 100000 in
set_option maxHeartbeats 1000000 in
theorem wappend_ok {D : Nat → Prop} {lb b most : Nat} {ds : List Nat} {s k m : Nat} {v : World} (h : Lg D lb b most ds s k m v) {t : Option Addr} {c : Nat} {r : List Nat} (hi : Inp v t c r) (hl : r.length ≤ 60000) (hk : k ≤ 1000000) (hm : m ≤ 2000000) (hfit : ds.length + r.length + 8 ≤ most) :
    Calls Try.prog 23 #[.pointer (some ⟨lb, 0, none⟩), .slice t r.length c] v fun e v' => e = .returned (.int .i64 0) ∧ ∃ D', Lg D' lb b most (ds ++ frm r) (ds.length + r.length + 8) (k + 1) (m + r.length + 8) v' ∧ Chg D D' v v' := by
  have HL : Hid _ := h
  have HI : Hid _ := hi
  clear h hi
  go_enter Try.func23, Try.ntmps23
  go_wp2_with fail
  refine (put1_any HI.out hl).mono ?_
  rintro e w1 ⟨t1, c1, rfl, own1, fr1, o1⟩
  have HL1 : Hid _ := HL.out.free o1
  have hfl := frm_len r
  generalize hfx : frm r = fx at own1 hfl ⊢
  have HS1 : Hid _ := own1.src
  have O1 : Hid _ := o1
  obtain ⟨D0, K0, sub0, nlb⟩ := HL1.out.dsk
  have C0 : w1.cell? ⟨lb, 0, none⟩ = some (.pointer (some ⟨b, 0, none⟩)) := by rw [HL1.out.log.cell]; rfl
  have A1 : Hid _ := dappend_any K0 t1 c1 fx HS1.out (by omega)
  have e1 : appE most ds fx = 0 := by rw [appE, if_pos (by omega)]
  have e2 : appL most ds fx = ds ++ fx := by rw [appL, if_pos (by omega)]
  rw [e1, e2] at A1
  have HSub : Hid _ := sub0
  have HNlb : Hid _ := nlb
  have HFL : Hid _ := hfl
  have HFX : Hid _ := hfx
  have hfb : fx.length ≤ 60008 := by omega
  clear e1 e2 sub0 nlb K0 own1 fr1 o1 hfx hfl
  go_wp2_with fail
  refine Calls.mono A1.out ?_
  rintro e w2 ⟨rfl, D1, K1, o2, d1⟩
  have HG2 : Hid _ := HL1.out.log.off o2 HNlb.out
  have C2 : w2.cell? ⟨lb, 0, none⟩ = some (.pointer (some ⟨b, 0, none⟩)) := by rw [HG2.out.cell]; rfl
  have HK1 : Hid _ := K1
  have HD1 : Hid _ := d1
  have O2 : Hid _ := o2
  have N1 : Hid (¬ D1 lb) := fun hh => by
    rcases HD1.out lb hh with a | a
    · exact HNlb.out a
    · have := HL1.out.log.lt
      omega
  clear K1 d1 o2 A1 C0
  go_wp2_with fail
  refine (dsync_any HK1.out.toDsk0).mono ?_
  rintro e w3 ⟨rfl, K3, o3⟩
  have G3 := HG2.out.off o3 N1.out
  have HG3 : Hid _ := G3
  have C3 : w3.cell? ⟨lb, 1, none⟩ = some (.int .i64 (k : Int)) := by rw [G3.cell]; rfl
  have F3 := G3.free 1
  have F32 := G3.free 2
  have C32 : w3.cell? ⟨lb, 2, none⟩ = some (.int .i64 (m : Int)) := by rw [G3.cell]; rfl
  have HK3 : Hid _ := K3
  have O3 : Hid _ := o3
  clear K3 o3 G3 C2
  go_wp2_with fail
  go_ret
  have hfl := HFL.out
  rw [HFX.out]
  have G4 : Cel lb 63 #[.pointer (some ⟨b, 0, none⟩), .int .i64 ((k + 1 : Nat) : Int), .int .i64 ((m + r.length + 8 : Nat) : Int)] ((w3.setCell ⟨lb, 1, none⟩ (.int .i64 ((k : Int) + 1))).setCell ⟨lb, 2, none⟩ (.int .i64 ((m : Int) + (fx.length : Int)))) := by
    have := (HG3.out.set 1 (.int .i64 ((k : Int) + 1))).set 2 (.int .i64 ((m : Int) + (fx.length : Int)))
    rw [hfl] at this ⊢
    have e1 : (((k + 1 : Nat) : Int)) = (k : Int) + 1 := by omega
    have e2 : (((m + r.length + 8 : Nat) : Int)) = (m : Int) + ((r.length + 8 : Nat) : Int) := by omega
    rw [e1, e2]
    exact this
  have O4 : Off (fun c => c = lb) w3 ((w3.setCell ⟨lb, 1, none⟩ (.int .i64 ((k : Int) + 1))).setCell ⟨lb, 2, none⟩ (.int .i64 ((m : Int) + (fx.length : Int)))) := ((Off.refl (fun c => c = lb) w3).setCell (.inl rfl) _).setCell (.inl rfl) _
  generalize (w3.setCell ⟨lb, 1, none⟩ (.int .i64 ((k : Int) + 1))).setCell ⟨lb, 2, none⟩ (.int .i64 ((m : Int) + (fx.length : Int))) = w4 at G4 O4 ⊢
  have K4 := HK3.out.off O4 (fun c _ h e => N1.out (e ▸ h))
  have el : (ds ++ fx).length = ds.length + r.length + 8 := by rw [List.length_append]; omega
  rw [el] at K4
  refine ⟨rfl, fun c => D1 c ∨ c = lb, ⟨.inr rfl, ?_, ⟨D1, K4, fun c h => .inl h, N1.out⟩, G4⟩, ?_⟩
  · rintro c (hc | rfl)
    · exact K4.lt c hc
    · exact G4.lt
  · have hlb := HL.out.here
    refine Chg.after O1.out ⟨(((O2.out.mono (E := D) (fun i _ h => HSub.out i h)).trans O3.out (fun i hi h => ?_)).trans O4 (fun i _ h => h ▸ hlb)), ?_⟩
    · rcases HD1.out i h with a | a
      · exact HSub.out i a
      · omega
    · rintro c (hc | rfl)
      · rcases HD1.out c hc with a | a
        · exact .inl (HSub.out c a)
        · exact .inr a
      · exact .inl hlb

set_option maxRecDepth 100000 in
set_option maxHeartbeats 1000000 in
theorem wappend_no {D : Nat → Prop} {lb b most : Nat} {ds : List Nat} {s k m : Nat} {v : World} (h : Lg D lb b most ds s k m v) {t : Option Addr} {c : Nat} {r : List Nat} (hi : Inp v t c r) (hl : r.length ≤ 60000) (hfit : most < ds.length + r.length + 8) :
    Calls Try.prog 23 #[.pointer (some ⟨lb, 0, none⟩), .slice t r.length c] v fun e v' => e = .returned (.int .i64 5) ∧ ∃ D', Lg D' lb b most ds s k m v' ∧ Chg D D' v v' := by
  have HL : Hid _ := h
  have HI : Hid _ := hi
  clear h hi
  go_enter Try.func23, Try.ntmps23
  go_wp2_with fail
  refine (put1_any HI.out hl).mono ?_
  rintro e w1 ⟨t1, c1, rfl, own1, fr1, o1⟩
  have HL1 : Hid _ := HL.out.free o1
  have hfl := frm_len r
  generalize hfx : frm r = fx at own1 hfl ⊢
  have HS1 : Hid _ := own1.src
  have O1 : Hid _ := o1
  obtain ⟨D0, K0, sub0, nlb⟩ := HL1.out.dsk
  have C0 : w1.cell? ⟨lb, 0, none⟩ = some (.pointer (some ⟨b, 0, none⟩)) := by rw [HL1.out.log.cell]; rfl
  have A1 : Hid _ := dappend_any K0 t1 c1 fx HS1.out (by omega)
  have e1 : appE most ds fx = 5 := by rw [appE, if_neg (by omega)]
  have e2 : appL most ds fx = ds := by rw [appL, if_neg (by omega)]
  rw [e1, e2] at A1
  have HSub : Hid _ := sub0
  have HNlb : Hid _ := nlb
  have HFL : Hid _ := hfl
  have HFX : Hid _ := hfx
  have hfb : fx.length ≤ 60008 := by omega
  clear e1 e2 sub0 nlb K0 own1 fr1 o1 hfx hfl
  go_wp2_with fail
  refine Calls.mono A1.out ?_
  rintro e w2 ⟨rfl, D1, K1, o2, d1⟩
  have HG2 : Hid _ := HL1.out.log.off o2 HNlb.out
  have HK1 : Hid _ := K1
  have HD1 : Hid _ := d1
  have O2 : Hid _ := o2
  have N1 : Hid (¬ D1 lb) := fun hh => by
    rcases HD1.out lb hh with a | a
    · exact HNlb.out a
    · have := HL1.out.log.lt
      omega
  clear K1 d1 o2 A1 C0
  go_wp2_with fail
  go_ret
  refine ⟨rfl, fun c => D1 c ∨ c = lb, ⟨.inr rfl, ?_, ⟨D1, HK1.out, fun c h => .inl h, N1.out⟩, HG2.out⟩, ?_⟩
  · rintro c (hc | rfl)
    · exact HK1.out.lt c hc
    · exact HG2.out.lt
  · have hlb := HL.out.here
    refine Chg.after O1.out ⟨(O2.out.mono (E := D) (fun i _ h => HSub.out i h)), ?_⟩
    rintro c (hc | rfl)
    · rcases HD1.out c hc with a | a
      · exact .inl (HSub.out c a)
      · exact .inr a
    · exact .inl hlb

theorem wappend_long (lb : Nat) (t : Option Addr) (c : Nat) {r : List Nat} (v : World) (hl : 60000 < r.length) :
    Calls Try.prog 23 #[.pointer (some ⟨lb, 0, none⟩), .slice t r.length c] v fun e v' => e = .returned (.int .i64 4) ∧ v' = v := by
  go_enter Try.func23, Try.ntmps23
  go_wp2_with fail
  refine (putLong_any none 0 0 t c r hl).mono ?_
  rintro e w1 ⟨rfl, hw⟩
  rw [hw]
  go_wp2_with fail
  go_ret
  exact ⟨rfl, rfl⟩

theorem wlen_any {D : Nat → Prop} {lb b most : Nat} {ds : List Nat} {s k m : Nat} {v : World} (h : Lg D lb b most ds s k m v) :
    Calls Try.prog 19 #[.pointer (some ⟨lb, 0, none⟩)] v fun e v' => e = .returned (.int .i64 (k : Int)) ∧ v' = v := by
  have c1 : v.cell? ⟨lb, 1, none⟩ = some (.int .i64 (k : Int)) := by rw [h.log.cell]; rfl
  clear h
  go_enter Try.func19, Try.ntmps19
  go_wp2_with fail
  go_ret
  exact ⟨rfl, rfl⟩
theorem wsize_any {D : Nat → Prop} {lb b most : Nat} {ds : List Nat} {s k m : Nat} {v : World} (h : Lg D lb b most ds s k m v) :
    Calls Try.prog 20 #[.pointer (some ⟨lb, 0, none⟩)] v fun e v' => e = .returned (.int .i64 (m : Int)) ∧ v' = v := by
  have c1 : v.cell? ⟨lb, 2, none⟩ = some (.int .i64 (m : Int)) := by rw [h.log.cell]; rfl
  clear h
  go_enter Try.func20, Try.ntmps20
  go_wp2_with fail
  go_ret
  exact ⟨rfl, rfl⟩

theorem min_int (x y : Int) (ts : Array TypeId) (t : TypeId) (W : World) : (Builtin.min_ ts t #[.int .i64 x, .int .i64 y]).run Try.prog W = .ok (.int .i64 (min x y)) W := by
  rw [run_min_int2]
  congr 2
  split <;> omega
theorem max_int (x y : Int) (ts : Array TypeId) (t : TypeId) (W : World) : (Builtin.max_ ts t #[.int .i64 x, .int .i64 y]).run Try.prog W = .ok (.int .i64 (max x y)) W := by
  rw [run_max_int2]
  congr 2
  split <;> omega
/-- How many bytes the next record may have. -/
def roomL (most m : Nat) : Int := min (max ((most : Int) - (m : Int) - 8) (-1)) 60000
theorem roomL_no {most m : Nat} (h : most < m + 8) : roomL most m = -1 := by unfold roomL; omega
theorem roomL_yes {most m : Nat} (h : m + 8 ≤ most) (h2 : most ≤ 60000) : roomL most m = ((most - m - 8 : Nat) : Int) := by unfold roomL; omega
set_option maxRecDepth 100000 in
set_option maxHeartbeats 1000000 in
theorem wroom_any {D : Nat → Prop} {lb b most : Nat} {ds : List Nat} {s k m : Nat} {v : World} (h : Lg D lb b most ds s k m v) (hm : m ≤ 2000000) :
    Calls Try.prog 25 #[.pointer (some ⟨lb, 0, none⟩)] v fun e v' => e = .returned (.int .i64 (roomL most m)) ∧ Off (fun _ => False) v v' := by
  have hb := h.fit.2
  have HL : Hid _ := h
  have c0 : v.cell? ⟨lb, 0, none⟩ = some (.pointer (some ⟨b, 0, none⟩)) := by rw [h.log.cell]; rfl
  have c1 : v.cell? ⟨lb, 2, none⟩ = some (.int .i64 (m : Int)) := by rw [h.log.cell]; rfl
  have HQ : Hid (∀ n, Calls Try.prog 37 #[.pointer (some ⟨b, 0, none⟩)] (v.drewN n) fun e w' => e = .returned (.int .i64 (most : Int)) ∧ ∃ j, w' = (v.drewN n).drewN j) := fun n => by
    obtain ⟨D0, K, -⟩ := HL.out.disk
    refine (dmost_any (K.free ((Off.refl _ v).drewN n))).mono ?_
    rintro e w' ⟨rfl, rfl⟩
    exact ⟨rfl, 0, rfl⟩
  have hmx : ∀ ts t W, (Builtin.max_ ts t #[.int .i64 ((most : Int) - (m : Int) - 8), .int .i64 (-1)]).run Try.prog W = .ok (.int .i64 (max ((most : Int) - (m : Int) - 8) (-1))) W := fun ts t W => max_int _ _ ts t W
  have hmn : ∀ ts t W, (Builtin.min_ ts t #[.int .i64 (max ((most : Int) - (m : Int) - 8) (-1)), .int .i64 60000]).run Try.prog W = .ok (.int .i64 (roomL most m)) W := fun ts t W => min_int _ _ ts t W
  clear h
  go_enter Try.func25, Try.ntmps25
  go_wp2_with fail
  go_quiet (first | (go_at_call 37; refine Calls.quiet_of (HQ.out _)))
  go_wp2_with fail
  go_ret
  exact ⟨rfl, (Off.refl _ v).drewN _⟩
end Go.Proofs.Ytmdhcoplhibbeaa
