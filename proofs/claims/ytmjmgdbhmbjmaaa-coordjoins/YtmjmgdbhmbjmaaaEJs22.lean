/- Items of several texts. -/
import Derived.Test.YtmjmgdbhmbjmaaaEGSame
import Derived.Test.YtmjmgdbhmbjmaaaEGSm
import Derived.Test.YtmjmgdbhmbjmaaaEJt22
import Derived.Test.YtmjmgdbhmbjmaaaEGt22
import Derived.Test.YtmjmgdbhmbjmaaaEWc22
import Derived.Test.YtmjmgdbhmbjmaaaEGJoin
namespace Go.Proofs.Ytmjmgdbhmbjmaaa
set_option maxRecDepth 100000
open Go.RowKit
theorem sbs_at {n m : Nat} (h : n < m) (c b o : Nat) (W : World) : (Instr.indexAt 47 (.slice (some ⟨b, o, none⟩) m c) (.int .i64 (n : Int))).run Try.prog W = .ok (.pointer (some ⟨b, o + n * 9, none⟩)) W := by
 go_simp
theorem Sbs.cells {w wr : World} {a : Option Addr} {cap : Nat} {es : List SV} (h : Sbs w a cap es) (o : Off (fun _ => False) w wr) {i : Nat} (hi : i < es.length) : ∃ b off, a = some ⟨b, off, none⟩ ∧ (∀ j u, (sv9 (es.getD i SV.zero))[j]? = some u → wr.cell? ⟨b, off + i * 9 + j, none⟩ = some u) ∧ SvOk wr (es.getD i SV.zero) := by
 have e : es[i]? = some (es.getD i SV.zero) := by rw [List.getD_eq_getElem?_getD, List.getElem?_eq_getElem hi]; rfl
 exact (h.off o).at_ i _ e
theorem svc9 {b o : Nat} {s : SV} {w : World} (h : ∀ j u, (sv9 s)[j]? = some u → w.cell? ⟨b, o + j, none⟩ = some u) : w.cell? ⟨b, o, none⟩ = some (.int .i64 (s.f 0)) ∧ w.cell? ⟨b, o + 1, none⟩ = some (.int .i64 (s.f 1)) ∧ w.cell? ⟨b, o + 2, none⟩ = some (.int .i64 (s.f 2)) ∧ w.cell? ⟨b, o + 3, none⟩ = some (.int .i64 (s.f 3)) ∧ w.cell? ⟨b, o + 4, none⟩ = some (.int .i64 (s.f 4)) ∧ w.cell? ⟨b, o + 5, none⟩ = some (.int .i64 (s.f 5)) ∧ w.cell? ⟨b, o + 6, none⟩ = some (.int .i64 (s.f 6)) ∧ w.cell? ⟨b, o + 7, none⟩ = some (.int .i64 (s.f 7)) ∧ w.cell? ⟨b, o + 8, none⟩ = some (.slice s.a s.l.length s.cap) :=
 ⟨h 0 _ rfl, h 1 _ rfl, h 2 _ rfl, h 3 _ rfl, h 4 _ rfl, h 5 _ rfl, h 6 _ rfl, h 7 _ rfl, h 8 _ rfl⟩
theorem SvOk.sok {w wr : World} {s : SV} {Z : Nat → Prop} (h : SvOk w s) (o : Off (fun _ => False) w wr) (hZ : ∀ c, Z c → w.heap.size ≤ c) : SOk Z wr s := by
 have k : SOk (fun _ => False) w s := ⟨h.row, h.nrm, fun v hv => ⟨fun c _ z => z, fun _ c _ z => z⟩⟩
 exact ⟨(h.off o).row, h.nrm, fun v hv => ⟨fun c hc z => by have := (k.lt v hv).1 c hc; have := hZ c z; omega, fun hb c hc z => by have := (k.lt v hv).2 hb c hc; have := hZ c z; omega⟩⟩
theorem SOk.new {Z : Nat → Prop} {N : Nat} {w : World} {s : SV} (hr : Row w s.a s.cap s.l) (hn : Nrm s.f) (h1 : ∀ c, blk s.a = some c → N ≤ c) (h2 : ∀ v ∈ s.l, ∀ c, blk v.ad = some c → N ≤ c) (hZ : ∀ c, Z c → c < N) : SOk Z w s :=
 ⟨hr, hn, fun v hv => ⟨fun c hc z => by have := h1 c hc; have := hZ c z; omega, fun _ c hc z => by have := h2 v hv c hc; have := hZ c z; omega⟩⟩
theorem sgjoin (s r : SV) (w : World) (h1 : Row w s.a s.cap s.l) (h2 : Row w r.a r.cap r.l) :
  Calls Try.prog 29 #[(.agg #[.int .i64 (s.f 0), .int .i64 (s.f 1), .int .i64 (s.f 2), .int .i64 (s.f 3), .int .i64 (s.f 4), .int .i64 (s.f 5), .int .i64 (s.f 6), .int .i64 (s.f 7), .slice s.a s.l.length s.cap]), (.agg #[.int .i64 (r.f 0), .int .i64 (r.f 1), .int .i64 (r.f 2), .int .i64 (r.f 3), .int .i64 (r.f 4), .int .i64 (r.f 5), .int .i64 (r.f 6), .int .i64 (r.f 7), .slice r.a r.l.length r.cap])] w fun e w' => ∃ u : SV, e = .returned ((.agg #[.int .i64 (u.f 0), .int .i64 (u.f 1), .int .i64 (u.f 2), .int .i64 (u.f 3), .int .i64 (u.f 4), .int .i64 (u.f 5), .int .i64 (u.f 6), .int .i64 (u.f 7), .slice u.a u.l.length u.cap])) ∧ u.abs = joinS s.abs r.abs ∧ (Row w' u.a u.cap u.l ∧ (∀ c, blk u.a = some c → w.heap.size ≤ c) ∧ ∀ v ∈ u.l, ∀ c, blk v.ad = some c → w.heap.size ≤ c) ∧ Off (fun _ => False) w w' :=
 (gjoinN_any s.f r.f s.a r.a s.cap r.cap s.l r.l w h1 h2).mono fun e w' ⟨h, a', c', l', e1, e2, e3, rw_, o, n1, n2⟩ => ⟨⟨h, a', c', l'⟩, e1, by show SA.mk h (cont l') = _; rw [e2, e3]; rfl, ⟨rw_, n1, n2⟩, o⟩
theorem sgsame (s r : SV) (w : World) (h1 : Row w s.a s.cap s.l) (h2 : Row w r.a r.cap r.l) :
  Calls Try.prog 17 #[(.agg #[.int .i64 (s.f 0), .int .i64 (s.f 1), .int .i64 (s.f 2), .int .i64 (s.f 3), .int .i64 (s.f 4), .int .i64 (s.f 5), .int .i64 (s.f 6), .int .i64 (s.f 7), .slice s.a s.l.length s.cap]), (.agg #[.int .i64 (r.f 0), .int .i64 (r.f 1), .int .i64 (r.f 2), .int .i64 (r.f 3), .int .i64 (r.f 4), .int .i64 (r.f 5), .int .i64 (r.f 6), .int .i64 (r.f 7), .slice r.a r.l.length r.cap])] w fun e w' => e = .returned (.bool (sameSA s.abs r.abs)) ∧ Off (fun _ => False) w w' :=
 gsame_any s.f r.f s.a r.a s.cap r.cap s.l r.l w h1 h2
theorem an11 {g : Nat} {z : AnD} {w : World} (h : ∀ j u, (anC z)[j]? = some u → w.cell? ⟨g, j, none⟩ = some u) : w.cell? ⟨g, 1, none⟩ = some (.int .i64 z.err) ∧ w.cell? ⟨g, 2, none⟩ = some (.int .i64 (z.s.f 0)) ∧ w.cell? ⟨g, 3, none⟩ = some (.int .i64 (z.s.f 1)) ∧ w.cell? ⟨g, 4, none⟩ = some (.int .i64 (z.s.f 2)) ∧ w.cell? ⟨g, 5, none⟩ = some (.int .i64 (z.s.f 3)) ∧ w.cell? ⟨g, 6, none⟩ = some (.int .i64 (z.s.f 4)) ∧ w.cell? ⟨g, 7, none⟩ = some (.int .i64 (z.s.f 5)) ∧ w.cell? ⟨g, 8, none⟩ = some (.int .i64 (z.s.f 6)) ∧ w.cell? ⟨g, 9, none⟩ = some (.int .i64 (z.s.f 7)) ∧ w.cell? ⟨g, 10, none⟩ = some (.slice z.s.a z.s.l.length z.s.cap) :=
 ⟨h 1 _ rfl, h 2 _ rfl, h 3 _ rfl, h 4 _ rfl, h 5 _ rfl, h 6 _ rfl, h 7 _ rfl, h 8 _ rfl, h 9 _ rfl, h 10 _ rfl⟩
theorem an_off {w w' : World} {g : Nat} {us : List Value} (k : Off (fun _ => False) w w') (h : ∀ j u, us[j]? = some u → w.cell? ⟨g, j, none⟩ = some u) : ∀ j u, us[j]? = some u → w'.cell? ⟨g, j, none⟩ = some u := fun j u hj => by
 have h1 := h j u hj
 rw [← h1]
 exact World.cell?_of_block (a := ⟨g, j, none⟩) (k.block g (cell_lt h1) (fun h => h))
theorem cellsJ_off {w w' : World} {b o : Nat} {us : List Value} (k : Off (fun _ => False) w w') (h : ∀ j u, us[j]? = some u → w.cell? ⟨b, o + j, none⟩ = some u) : ∀ j u, us[j]? = some u → w'.cell? ⟨b, o + j, none⟩ = some u := fun j u hj => by
 have h1 := h j u hj
 rw [← h1]
 exact World.cell?_of_block (a := ⟨b, o + j, none⟩) (k.block b (cell_lt h1) (fun h => h))
theorem anss_at0 (n c g : Nat) (h : 0 < n) (W : World) : (Instr.indexAt 39 (.slice (some ⟨g, 0, none⟩) n c) (.int .i64 0)).run Try.prog W = .ok (.pointer (some ⟨g, 0, none⟩)) W := by
 have := anss_at (n := 0) (m := n) h c g W
 rw [show 0 * 11 = 0 from rfl] at this
 exact this
set_option maxHeartbeats 8000000 in
theorem joins_walk (key : ByteArray) (x : SV) (a : Option Addr) (cap : Nat) (es : List SV) (q0 : Int) (w : World) (_ : key.size ≤ maxLen) (hx : SvOk w x) (hs : Sbs w a cap es) (_ : -9223372036854775808 ≤ q0 ∧ q0 ≤ 9223372036854775807) :
  Calls Try.prog 7 #[.string key, .agg (sv9 x).toArray, .slice a es.length cap, .int .i64 q0] w fun e w' => e = .returned (.bool true) ∧ Off (fun _ => False) w w' := by
 obtain ⟨r, er, hr⟩ := rem_any q0 7 (by omega)
 obtain ⟨m, hm⟩ : ∃ m : Nat, m = r + 2 := ⟨_, rfl⟩
 have HM : Hid (2 ≤ m ∧ m ≤ 8) := ⟨by omega, by omega⟩
 have HS : Hid _ := hs
 have HX : Hid _ := hx
 have hlen : es.length ≤ 9223372036854775807 := Nat.le_trans hs.len hs.bound
 have w1 : IntKind.i64.wrap (r : Int) = (r : Int) := by rw [IntKind.wrap_i64]; omega
 have w2 : IntKind.i64.wrap ((r : Int) + 2) = (r : Int) + 2 := by rw [IntKind.wrap_i64]; omega
 have HRM : Hid ((r : Int) + 2 = (m : Int)) := by show (r : Int) + 2 = (m : Int); omega
 clear hm
 have C0 := Cel.new w 33 #[.int .i64 (x.f 0), .int .i64 (x.f 1), .int .i64 (x.f 2), .int .i64 (x.f 3), .int .i64 (x.f 4), .int .i64 (x.f 5), .int .i64 (x.f 6), .int .i64 (x.f 7), .slice x.a x.l.length x.cap]
 have O0 : Off (fun _ => False) w (w.alloc (.cells #[.int .i64 (x.f 0), .int .i64 (x.f 1), .int .i64 (x.f 2), .int .i64 (x.f 3), .int .i64 (x.f 4), .int .i64 (x.f 5), .int .i64 (x.f 6), .int .i64 (x.f 7), .slice x.a x.l.length x.cap] 33)) := (Off.refl _ w).alloc _
 obtain ⟨b5, hb5⟩ : ∃ b, b = w.heap.size := ⟨_, rfl⟩
 have HB5 : Hid (b5 = w.heap.size) := hb5
 have HW5 : Hid (w.heap.size = b5) := hb5.symm
 have hxx : (#[.int .i64 (x.f 0), .int .i64 (x.f 1), .int .i64 (x.f 2), .int .i64 (x.f 3), .int .i64 (x.f 4), .int .i64 (x.f 5), .int .i64 (x.f 6), .int .i64 (x.f 7), .slice x.a x.l.length x.cap] : Array Value) = #[.int .i64 (x.f 0), .int .i64 (x.f 1), .int .i64 (x.f 2), .int .i64 (x.f 3), .int .i64 (x.f 4), .int .i64 (x.f 5), .int .i64 (x.f 6), .int .i64 (x.f 7), .slice x.a x.l.length x.cap] := rfl
 rw [← hb5] at C0
 generalize hV : w.alloc (.cells #[.int .i64 (x.f 0), .int .i64 (x.f 1), .int .i64 (x.f 2), .int .i64 (x.f 3), .int .i64 (x.f 4), .int .i64 (x.f 5), .int .i64 (x.f 6), .int .i64 (x.f 7), .slice x.a x.l.length x.cap] 33) = V at C0 O0
 have HV : Hid (w.alloc (.cells #[.int .i64 (x.f 0), .int .i64 (x.f 1), .int .i64 (x.f 2), .int .i64 (x.f 3), .int .i64 (x.f 4), .int .i64 (x.f 5), .int .i64 (x.f 6), .int .i64 (x.f 7), .slice x.a x.l.length x.cap] 33) = V) := hV
 have HC5 : Hid (Cel b5 33 #[.int .i64 (x.f 0), .int .i64 (x.f 1), .int .i64 (x.f 2), .int .i64 (x.f 3), .int .i64 (x.f 4), .int .i64 (x.f 5), .int .i64 (x.f 6), .int .i64 (x.f 7), .slice x.a x.l.length x.cap] V) := C0
 have HO5 : Hid _ := O0
 have HME : Hid _ := gmayentry_any key x.f x.a x.cap x.l V (hx.off O0).row
 clear hV C0 O0 hs hx hb5 hxx
 show Calls Try.prog 7 #[.string key, (.agg #[.int .i64 (x.f 0), .int .i64 (x.f 1), .int .i64 (x.f 2), .int .i64 (x.f 3), .int .i64 (x.f 4), .int .i64 (x.f 5), .int .i64 (x.f 6), .int .i64 (x.f 7), .slice x.a x.l.length x.cap]), .slice a es.length cap, .int .i64 q0] w _
 go_enter Try.func7, Try.ntmps7
 go_upto_region 1 with fail
 rw [HV.out, HW5.out]
 go_upto_region 2 with fail
 rw [HRM.out]
 obtain ⟨x0, x1, x2, x3, x4, x5, x6, x7, x8⟩ := cel9 HC5.out
 go_wp2_with fail
 clear er w1 w2 hr
 refine Calls.mono HME.out ?_
 rintro e v1 ⟨rfl, o1⟩
 have HO1 : Hid _ := HO5.out.trans o1 (fun _ _ h => h)
 have HC1 : Hid _ := HC5.out.off o1 (fun h => h)
 clear o1 x0 x1 x2 x3 x4 x5 x6 x7 x8 HME
 cases hme : (keyB key && mayS x.f (cont x.l))
 ·have HAW : Hid _ := awake_any v1
  go_wp2_with fail
  refine Calls.mono HAW.out ?_
  rintro e v7 ⟨rfl, o7⟩
  have HO7 : Hid _ := HO1.out.trans o7 (fun _ _ h => h)
  clear o7
  go_wp2_with fail
  go_ret
  exact ⟨rfl, HO7.out⟩
 have HMY : Hid (keyB key = true ∧ mayA x.abs = true) := by
  show keyB key = true ∧ mayS x.f (cont x.l) = true
  exact Bool.and_eq_true_iff.1 hme
 by_cases h7 : es.length ≤ 7
 rotate_left
 ·have d7 : decide ((7 : Int) < (es.length : Int)) = true := decide_eq_true (by omega)
  have HAW : Hid _ := awake_any v1
  go_wp2_with fail
  refine Calls.mono HAW.out ?_
  rintro e v7 ⟨rfl, o7⟩
  have HO7 : Hid _ := HO1.out.trans o7 (fun _ _ h => h)
  clear o7
  go_wp2_with fail
  go_ret
  exact ⟨rfl, HO7.out⟩
 have d7 : decide ((7 : Int) < (es.length : Int)) = false := decide_eq_false (by omega)
 clear hme
 go_wp2_with fail
 clear d7
 go_loopw [40] (fun s40 wr => ∃ i : Nat, s40 = .int .i64 (i : Int) ∧ i ≤ es.length ∧ Hid (Off (fun _ => False) w wr) ∧ Hid (Cel b5 33 #[.int .i64 (x.f 0), .int .i64 (x.f 1), .int .i64 (x.f 2), .int .i64 (x.f 3), .int .i64 (x.f 4), .int .i64 (x.f 5), .int .i64 (x.f 6), .int .i64 (x.f 7), .slice x.a x.l.length x.cap] wr) ∧ Hid (∀ j, j < i → mayA (jsE es j) = true)) (fun s40 _ => ((es.length : Int) - vInt s40).toNat)
 case atStart => exact ⟨0, rfl, by omega, HO1, HC1, fun j hj => absurd hj (Nat.not_lt_zero j)⟩
 case round =>
  obtain ⟨i, rfl, hi, HO, HC, HJ⟩ := hrel
  clear HO1 HC1
  by_cases hlt : i < es.length
  ·obtain ⟨ba, off, ha, hc, hok⟩ := HS.out.cells HO.out hlt
   obtain ⟨s, hsv⟩ : ∃ s, s = es.getD i SV.zero := ⟨_, rfl⟩
   rw [← hsv] at hc hok
   subst ha
   have hix := sbs_at hlt cap ba off
   obtain ⟨o, ho⟩ : ∃ o, o = off + i * 9 := ⟨_, rfl⟩
   rw [← ho] at hc hix
   obtain ⟨y0, y1, y2, y3, y4, y5, y6, y7, y8⟩ := svc9 hc
   have d1 : decide ((i : Int) < (es.length : Int)) = true := decide_eq_true (by omega)
   have HSV : Hid (s = es.getD i SV.zero) := hsv
   have HOK : Hid (SvOk wr s) := hok
   have wi : IntKind.i64.wrap ((i : Int) + 1) = (i : Int) + 1 := by rw [IntKind.wrap_i64]; omega
   clear hc hok hsv ho
   go_upto_region 7 with fail
   have O2 : Off (fun _ => False) wr (wr.alloc (.cells #[.int .i64 (s.f 0), .int .i64 (s.f 1), .int .i64 (s.f 2), .int .i64 (s.f 3), .int .i64 (s.f 4), .int .i64 (s.f 5), .int .i64 (s.f 6), .int .i64 (s.f 7), .slice s.a s.l.length s.cap] 33)) := (Off.refl _ wr).alloc _
   have C2 := Cel.new wr 33 #[.int .i64 (s.f 0), .int .i64 (s.f 1), .int .i64 (s.f 2), .int .i64 (s.f 3), .int .i64 (s.f 4), .int .i64 (s.f 5), .int .i64 (s.f 6), .int .i64 (s.f 7), .slice s.a s.l.length s.cap]
   generalize wr.alloc (.cells #[.int .i64 (s.f 0), .int .i64 (s.f 1), .int .i64 (s.f 2), .int .i64 (s.f 3), .int .i64 (s.f 4), .int .i64 (s.f 5), .int .i64 (s.f 6), .int .i64 (s.f 7), .slice s.a s.l.length s.cap] 33) = v2 at O2 C2 ⊢
   have HGM : Hid _ := gmay_any s.f s.a s.cap s.l v2 (HOK.out.off O2).row
   have HO2 : Hid _ := HO.out.trans O2 (fun _ _ h => h)
   have HC2 : Hid _ := HC.out.off O2 (fun h => h)
   clear y0 y1 y2 y3 y4 y5 y6 y7 y8 O2 HC HO hix
   obtain ⟨z0, z1, z2, z3, z4, z5, z6, z7, z8⟩ := cel9 C2
   clear C2
   go_wp2_with fail
   refine Calls.mono HGM.out ?_
   rintro e v3 ⟨rfl, o3⟩
   have HO3 : Hid _ := HO2.out.trans o3 (fun _ _ h => h)
   have HC3 : Hid _ := HC2.out.off o3 (fun h => h)
   clear z0 z1 z2 z3 z4 z5 z6 z7 z8 o3 HC2 HO2 HGM
   cases hms : mayS s.f (cont s.l)
   ·have HAW : Hid _ := awake_any v3
    go_wp2_with fail
    refine Calls.mono HAW.out ?_
    rintro e v7 ⟨rfl, o7⟩
    have HO7 : Hid _ := HO3.out.trans o7 (fun _ _ h => h)
    clear o7
    go_wp2_with fail
    go_ret
    exact ⟨rfl, HO7.out⟩
   ·have HJ2 : Hid (∀ j, j < i + 1 → mayA (jsE es j) = true) := fun j hj => by
     by_cases e : j = i
     ·subst e
      show mayA (es.getD j SV.zero).abs = true
      rw [← HSV.out]
      exact hms
     ·exact HJ.out j (by omega)
    clear hms
    go_wp2_with fail
    go_roundw
    case rel => exact ⟨i + 1, by go_num, by omega, HO3, HC3, HJ2⟩
    case measure => simp [vInt]; omega
  ·have d1 : decide ((i : Int) < (es.length : Int)) = false := decide_eq_false (by omega)
   have HMA : Hid (∀ j, j < es.length → mayA (jsE es j) = true) := fun j hj => HJ.out j (by omega)
   have HN : Hid _ := cnew_any (Z := fun _ => False) 5 wr (by omega) (fun _ h => h.elim)
   clear HJ
   go_wp2_with fail
   clear d1
   refine Calls.mono HN.out ?_
   rintro e v1 ⟨p, rfl, hp, c1, g1⟩
   have HO1 : Hid _ := HO.out.trans g1.off (fun _ _ h => h)
   have HC1 : Hid _ := HC.out.off g1.off (fun h => h)
   have HP1 : Hid (∀ c, (False ∨ c = p) → w.heap.size < c) := fun c h => h.elim (fun h => h.elim) (fun e => by have := HC.out.lt; have := HB5.out; omega)
   have HR1 : Hid _ := read_any c1 0 (m : Int) key x (HX.out.sok HO1.out (fun c h => Nat.le_of_lt (HP1.out c h))) (by show (0 : Int) < _; omega)
   clear c1 g1 hp HN HO HC
   obtain ⟨x0, x1, x2, x3, x4, x5, x6, x7, x8⟩ := cel9 HC1.out
   go_wp2_with fail
   refine Calls.mono HR1.out ?_
   rintro e v2 ⟨y2, D2, Z2, c2, g2, e2, hr2⟩
   have hb2 : beginA (newM 5).abs 0 (m : Int) true key x.abs = (jsA key x.abs es m 0, 1, 0) := by
    rw [show (newM 5).abs = ⟨5, 0, [], []⟩ from rfl]
    exact js_begin es (by rw [HMY.out.1, HMY.out.2]; rfl) (by have := HM.out.1; omega)
   rw [hb2] at e2 hr2
   obtain rfl := hr2
   have HE2 : Hid (y2.abs = jsA key x.abs es m 0) := e2
   have HO2 : Hid _ := HO1.out.trans g2.off (fun c hc e => by have := HP1.out c (.inr e); omega)
   have HC2 : Hid _ := HC1.out.off g2.off (fun e => by have := HP1.out b5 (.inr e); have := HB5.out; omega)
   have HZ2 : Hid (∀ c, Z2 c → w.heap.size < c) := fun c z => (g2.zd c z).elim (HP1.out c) (fun h => by have := HC1.out.lt; have := HB5.out; omega)
   have HCS2 : Hid _ := c2
   clear c2 g2 e2 hb2 HR1 HO1 HC1 HP1 x0 x1 x2 x3 x4 x5 x6 x7 x8
   obtain ⟨x0, x1, x2, x3, x4, x5, x6, x7, x8⟩ := cel9 HC2.out
   go_upto_region 15 with fail
   clear x0 x1 x2 x3 x4 x5 x6 x7 x8
   obtain ⟨bw, hbw⟩ : ∃ b, b = v2.heap.size := ⟨_, rfl⟩
   have C4 := Cel.new v2 33 #[.int .i64 (x.f 0), .int .i64 (x.f 1), .int .i64 (x.f 2), .int .i64 (x.f 3), .int .i64 (x.f 4), .int .i64 (x.f 5), .int .i64 (x.f 6), .int .i64 (x.f 7), .slice x.a x.l.length x.cap]
   have O4 : Off (fun _ => False) v2 (v2.alloc (.cells #[.int .i64 (x.f 0), .int .i64 (x.f 1), .int .i64 (x.f 2), .int .i64 (x.f 3), .int .i64 (x.f 4), .int .i64 (x.f 5), .int .i64 (x.f 6), .int .i64 (x.f 7), .slice x.a x.l.length x.cap] 33)) := (Off.refl _ v2).alloc _
   rw [← hbw] at C4 ⊢
   generalize v2.alloc (.cells #[.int .i64 (x.f 0), .int .i64 (x.f 1), .int .i64 (x.f 2), .int .i64 (x.f 3), .int .i64 (x.f 4), .int .i64 (x.f 5), .int .i64 (x.f 6), .int .i64 (x.f 7), .slice x.a x.l.length x.cap] 33) = v4 at C4 O4 ⊢
   have HCS4 : Hid (CST D2 (fun c => Z2 c ∨ c = bw) p y2 v4) := HCS2.out.beside (Gro.mk (D := fun _ => False) (D' := fun _ => False) O4 (fun _ e => e.elim) (fun c z => z.imp (fun h => h) (fun e => by omega)) (fun c z => .inl z)) (fun c e => e.elim) (fun c e => e.elim) (fun c z => z.elim (fun z => Nat.lt_of_lt_of_le (HCS2.out.lt c z) O4.size) (fun e => by have := C4.lt; rw [e]; exact this))
   have HO4 : Hid _ := HO2.out.trans O4 (fun _ _ h => h)
   have HC4 : Hid _ := HC2.out.off O4 (fun h => h)
   have HCW4 : Hid _ := C4
   have HZ4 : Hid (∀ c, (Z2 c ∨ c = bw) → w.heap.size < c) := fun c z => z.elim (HZ2.out c) (fun e => by have := HC2.out.lt; have := HB5.out; omega)
   have HD4 : Hid ((Z2 bw ∨ bw = bw) ∧ ¬ D2 bw) := ⟨.inr rfl, fun d => by have := HCS2.out.lt bw (HCS2.out.sub bw d); omega⟩
   have HS4 : Hid _ := HX.out.sok HO4.out (fun c h => Nat.le_of_lt (HZ4.out c h))
   clear C4 O4 HO2 HC2 HZ2 HCS2 hbw
   go_wp2_with fail
   go_loopw [63] (fun s63 wr => ∃ (i : Nat) (y : CM) (D Z : Nat → Prop) (u : SV), s63 = .int .i64 (i : Int) ∧ i ≤ es.length ∧ i + 1 < m ∧ Hid (CST D Z p y wr) ∧ Hid (y.abs = jsA key x.abs es m i) ∧ Hid (Off (fun _ => False) w wr) ∧ Hid (Cel b5 33 #[.int .i64 (x.f 0), .int .i64 (x.f 1), .int .i64 (x.f 2), .int .i64 (x.f 3), .int .i64 (x.f 4), .int .i64 (x.f 5), .int .i64 (x.f 6), .int .i64 (x.f 7), .slice x.a x.l.length x.cap] wr) ∧ Hid (Cel bw 33 #[.int .i64 (u.f 0), .int .i64 (u.f 1), .int .i64 (u.f 2), .int .i64 (u.f 3), .int .i64 (u.f 4), .int .i64 (u.f 5), .int .i64 (u.f 6), .int .i64 (u.f 7), .slice u.a u.l.length u.cap] wr) ∧ Hid (SOk Z wr u) ∧ Hid (u.abs = jsJ x.abs es i) ∧ Hid (∀ c, Z c → w.heap.size < c) ∧ Hid (Z bw ∧ ¬ D bw)) (fun s63 _ => ((es.length : Int) - vInt s63).toNat)
   case atStart => exact ⟨0, _, _, _, x, rfl, by omega, by have := HM.out.1; omega, HCS4, HE2, HO4, HC4, HCW4, HS4, rfl, HZ4, ⟨.inr rfl, HD4.out.2⟩⟩
   case round =>
    obtain ⟨i, y, D, Z, u, rfl, hi, him, HCS, HE, HO, HC, HCW, HSU, HU, HZ, HD⟩ := hrel
    clear HCS4 HE2 HO4 HC4 HCW4 HS4 HZ4 HD4
    by_cases hlt : i < es.length
    ·obtain ⟨ba, off, ha, hc, hok⟩ := HS.out.cells HO.out hlt
     obtain ⟨s, hsv⟩ : ∃ s, s = es.getD i SV.zero := ⟨_, rfl⟩
     rw [← hsv] at hc hok
     subst ha
     have hix := sbs_at hlt cap ba off
     obtain ⟨o, ho⟩ : ∃ o, o = off + i * 9 := ⟨_, rfl⟩
     rw [← ho] at hc hix
     obtain ⟨y0, y1, y2, y3, y4, y5, y6, y7, y8⟩ := svc9 hc
     have d1 : decide ((i : Int) < (es.length : Int)) = true := decide_eq_true (by omega)
     have HSV : Hid (s = es.getD i SV.zero) := hsv
     have HOK : Hid (SvOk wr s) := hok
     clear hc hok hsv ho
     go_upto_region 18 with fail
     have O2 : Off (fun _ => False) wr (wr.alloc (.cells #[.int .i64 (s.f 0), .int .i64 (s.f 1), .int .i64 (s.f 2), .int .i64 (s.f 3), .int .i64 (s.f 4), .int .i64 (s.f 5), .int .i64 (s.f 6), .int .i64 (s.f 7), .slice s.a s.l.length s.cap] 33)) := (Off.refl _ wr).alloc _
     have C2 := Cel.new wr 33 #[.int .i64 (s.f 0), .int .i64 (s.f 1), .int .i64 (s.f 2), .int .i64 (s.f 3), .int .i64 (s.f 4), .int .i64 (s.f 5), .int .i64 (s.f 6), .int .i64 (s.f 7), .slice s.a s.l.length s.cap]
     obtain ⟨bs, hbs⟩ : ∃ b, b = wr.heap.size := ⟨_, rfl⟩
     have HBN : Hid (bs ≠ bw) := fun e => by have := HCW.out.lt; omega
     have HOKW : Hid (SvOk w s) := by
      obtain ⟨_, _, _, _, k⟩ := HS.out.cells (Off.refl (fun _ => False) w) hlt
      show SvOk w s
      rw [HSV.out]
      exact k
     rw [← hbs] at C2
     simp only [← hbs]
     generalize wr.alloc (.cells #[.int .i64 (s.f 0), .int .i64 (s.f 1), .int .i64 (s.f 2), .int .i64 (s.f 3), .int .i64 (s.f 4), .int .i64 (s.f 5), .int .i64 (s.f 6), .int .i64 (s.f 7), .slice s.a s.l.length s.cap] 33) = v2 at O2 C2 ⊢
     clear hbs
     have HGJ : Hid _ := sgjoin u s v2 (HSU.out.free O2).row (HOK.out.off O2).row
     have HOK2 : Hid _ := HOK.out.off O2
     have HO2 : Hid _ := HO.out.trans O2 (fun _ _ h => h)
     have HC2 : Hid _ := HC.out.off O2 (fun h => h)
     have HCW2 : Hid _ := HCW.out.off O2 (fun h => h)
     have HCS2 : Hid _ := HCS.out.free O2
     have HB2 : Hid _ := C2
     have d2 : decide ((m : Int) < (i : Int) + 2) = false := decide_eq_false (by omega)
     have wi2 : IntKind.i64.wrap ((i : Int) + 2) = (i : Int) + 2 := by rw [IntKind.wrap_i64]; omega
     have wi1 : IntKind.i64.wrap ((i : Int) + 1) = (i : Int) + 1 := by rw [IntKind.wrap_i64]; omega
     clear y0 y1 y2 y3 y4 y5 y6 y7 y8 O2 hix C2 HO HC HCW HCS
     obtain ⟨z0, z1, z2, z3, z4, z5, z6, z7, z8⟩ := cel9 HB2.out
     obtain ⟨t0, t1, t2, t3, t4, t5, t6, t7, t8⟩ := cel9 HCW2.out
     go_wp2_with fail
     refine Calls.mono HGJ.out ?_
     rintro e v3 ⟨u2, rfl, hu2, ⟨r2, n2, l2⟩, o3⟩
     have HU2 : Hid (u2.abs = jsJ x.abs es (i + 1)) := by
      show u2.abs = joinS (jsJ x.abs es i) (jsE es i)
      rw [hu2, HU.out, HSV.out]
      rfl
     have HN2 : Hid (Nrm u2.f) := by
      have e : u2.f = (joinS u.abs s.abs).f := congrArg SA.f hu2
      show Nrm u2.f
      rw [e]
      exact nrm_join HSU.out.nrm HOK2.out.nrm
     have HS3 : Hid (SOk Z v3 u2) := SOk.new r2 HN2.out n2 l2 (fun c z => HCS2.out.lt c z)
     have HCW3 : Hid (Cel bw 33 ([] ++ (sv9 u ++ [])).toArray v3) := HCW2.out.off o3 (fun h => h)
     have HO3 : Hid _ := HO2.out.trans o3 (fun _ _ h => h)
     have HC3 : Hid _ := HC2.out.off o3 (fun h => h)
     have HCS3 : Hid _ := HCS2.out.free o3
     have HB3 : Hid (Cel bs 33 #[.int .i64 (s.f 0), .int .i64 (s.f 1), .int .i64 (s.f 2), .int .i64 (s.f 3), .int .i64 (s.f 4), .int .i64 (s.f 5), .int .i64 (s.f 6), .int .i64 (s.f 7), .slice s.a s.l.length s.cap] v3) := HB2.out.off o3 (fun h => h)
     have HWB : Hid (∀ c, c = bw → Z c) := fun c e => e ▸ HD.out.1
     have fr : ∀ k, v3.frozen? ⟨bw, k, none⟩ = false := HCW3.out.free
     obtain ⟨t0, t1, t2, t3, t4, t5, t6, t7, t8⟩ := cel9 HCW2.out
     clear z0 z1 z2 z3 z4 z5 z6 z7 z8 hu2 r2 n2 l2 HO2 HC2 HCS2 HB2 HGJ HSU HU
     obtain ⟨t0, t1, t2, t3, t4, t5, t6, t7, t8⟩ := cel9 (HCW2.out.off o3 (fun h => h))
     clear o3 HCW2
     go_upto_region 20 with fail
     have os : Off (fun c => c = bw) v3 (st9A v3 bw 0 u2) := (Off.refl (fun c => c = bw) v3).st9A (.inl rfl) 0 u2
     have HCW5 : Hid (Cel bw 33 #[.int .i64 (u2.f 0), .int .i64 (u2.f 1), .int .i64 (u2.f 2), .int .i64 (u2.f 3), .int .i64 (u2.f 4), .int .i64 (u2.f 5), .int .i64 (u2.f 6), .int .i64 (u2.f 7), .slice u2.a u2.l.length u2.cap] (st9A v3 bw 0 u2)) := HCW3.out.set9 (A := []) (B := sv9 u) (C := []) rfl rfl u2
     have HO5 : Hid (Off (fun _ => False) w (st9A v3 bw 0 u2)) := HO3.out.trans os (fun c hc e => by have := HZ.out bw HD.out.1; omega)
     have HC5 : Hid (Cel b5 33 #[.int .i64 (x.f 0), .int .i64 (x.f 1), .int .i64 (x.f 2), .int .i64 (x.f 3), .int .i64 (x.f 4), .int .i64 (x.f 5), .int .i64 (x.f 6), .int .i64 (x.f 7), .slice x.a x.l.length x.cap] (st9A v3 bw 0 u2)) := HC3.out.off os (fun e => by have := HZ.out bw HD.out.1; have := HB5.out; omega)
     have HB5b : Hid (Cel bs 33 #[.int .i64 (s.f 0), .int .i64 (s.f 1), .int .i64 (s.f 2), .int .i64 (s.f 3), .int .i64 (s.f 4), .int .i64 (s.f 5), .int .i64 (s.f 6), .int .i64 (s.f 7), .slice s.a s.l.length s.cap] (st9A v3 bw 0 u2)) := HB3.out.off os (fun e => HBN.out e)
     have HCS5 : Hid (CST D Z p y (st9A v3 bw 0 u2)) := HCS3.out.beside (Gro.of (D := fun c => c = bw) os) (fun c e d => HD.out.2 (e ▸ d)) (fun c e => HWB.out c e) (fun c z => Nat.lt_of_lt_of_le (HCS3.out.lt c z) os.size)
     have HS5 : Hid (SOk Z (st9A v3 bw 0 u2) u2) := HS3.out.off os (fun c _ e => HWB.out c e)
     have HL5 : Hid (bw < (st9A v3 bw 0 u2).heap.size) := HCW5.out.lt
     clear t0 t1 t2 t3 t4 t5 t6 t7 t8 os fr HCW3 HO3 HC3 HB3 HCS3 HS3
     obtain ⟨v5, hv5⟩ : ∃ v, v = st9A v3 bw 0 u2 := ⟨_, rfl⟩
     rw [← hv5] at HCW5 HO5 HC5 HB5b HCS5 HS5 HL5
     have hg5 : (((((((((v3.setCell ⟨bw, 0, none⟩ (.int .i64 (u2.f 0))).setCell ⟨bw, 1, none⟩ (.int .i64 (u2.f 1))).setCell ⟨bw, 2, none⟩ (.int .i64 (u2.f 2))).setCell ⟨bw, 3, none⟩ (.int .i64 (u2.f 3))).setCell ⟨bw, 4, none⟩ (.int .i64 (u2.f 4))).setCell ⟨bw, 5, none⟩ (.int .i64 (u2.f 5))).setCell ⟨bw, 6, none⟩ (.int .i64 (u2.f 6))).setCell ⟨bw, 7, none⟩ (.int .i64 (u2.f 7))).setCell ⟨bw, 8, none⟩ (.slice u2.a u2.l.length u2.cap)) = v5 := hv5.symm
     rw [hg5]
     clear hg5 hv5
     have HGT : Hid _ := got_any HCS5.out (n := 1) ⟨by omega, by omega⟩ ((i : Int) + 1) key s (HOKW.out.sok HO5.out (fun c h => Nat.le_of_lt (HZ.out c h)))
     obtain ⟨z0, z1, z2, z3, z4, z5, z6, z7, z8⟩ := cel9 HB5b.out
     go_wp2_with fail
     refine Calls.mono HGT.out ?_
     rintro e v6 ⟨y6, D6, Z6, c6, g6, e6, hr6⟩
     clear z0 z1 z2 z3 z4 z5 z6 z7 z8 HGT HB5b
     have HO6 : Hid (Off (fun _ => False) w v6) := HO5.out.trans g6.off (fun c hc d => by have := HZ.out c (HCS5.out.sub c d); omega)
     have HC6 : Hid _ := HC5.out.off g6.off (fun d => by have := HZ.out b5 (HCS5.out.sub b5 d); have := HB5.out; omega)
     have HCW6 : Hid _ := HCW5.out.off g6.off HD.out.2
     have HZ6 : Hid (∀ c, Z6 c → w.heap.size < c) := fun c z => (g6.zd c z).elim (HZ.out c) (fun h => by have := HC5.out.lt; have := HB5.out; omega)
     have HD6 : Hid (Z6 bw ∧ ¬ D6 bw) := ⟨g6.zz bw HD.out.1, fun d => (g6.new bw d).elim HD.out.2 (fun h => by have := HL5.out; omega)⟩
     have HS6 : Hid (SOk Z6 v6 u2) := HS5.out.gro g6 HCS5.out.sub
     have HPL : Hid (p < v5.heap.size) := HCS5.out.lt p (HCS5.out.sub p HCS5.out.inp)
     have hmk : (keyB key && mayA (jsE es i)) = true := by rw [HMY.out.1, HMA.out i hlt]; rfl
     have hse : s.abs = jsE es i := by rw [HSV.out]; rfl
     rw [HE.out, hse] at e6 hr6
     clear hse g6 HO5 HC5 HCW5 HCS5 HS5 HZ HD HE HWB
     by_cases hm2 : (i : Int) + 2 = (m : Int)
     ·rw [js_done x.abs (by omega) hmk hm2] at e6 hr6
      obtain ⟨al, cl, rfl, own6, new6⟩ := hr6
      have dm : ((i : Int) + 2 == (m : Int)) = true := beq_iff_eq.2 hm2
      obtain ⟨L, hL⟩ : ∃ L, L = behindA (jsO key x.abs es m (i + 1)) 8 := ⟨_, rfl⟩
      rw [← hL] at own6
      have HLL : Hid (L = behindA (jsO key x.abs es m (i + 1)) 8) := hL
      have HL8 : Hid (L.length ≤ 8) := by show L.length ≤ 8; rw [hL]; exact behind_len8 _ 8
      rw [← hL]
      have HI6 : Hid (OwnG 3 1 inC v6 al cl L) := own6
      have HAN : Hid _ := canswersP_any c6
      have HPB : Hid (∀ c, blk al = some c → c ≠ p) := fun c hc e => by have := new6 c hc; have := HL5.out; have := HPL.out; omega
      have HAE : Hid (y6.abs = ⟨5, 1, [], [⟨1, 0, jsJ x.abs es (i + 1)⟩]⟩) := e6
      have HLT6 : Hid _ := c6.lt
      have HSB6 : Hid _ := c6.sub
      clear own6 new6 hL c6 e6 hm2 HPL HL5
      go_wp2_with fail
      refine Calls.mono HAN.out ?_
      rintro e v7 ⟨rfl, own7, oks, c7, g7, op7⟩
      obtain ⟨z, hz, hza⟩ : ∃ z, y6.an = [z] ∧ z.abs = ⟨1, 0, jsJ x.abs es (i + 1)⟩ := by
       have h2 : y6.an.map AnD.abs = [⟨1, 0, jsJ x.abs es (i + 1)⟩] := congrArg CA.an HAE.out
       obtain ⟨y, hy, e⟩ := List.map_eq_singleton_iff.1 h2
       exact ⟨y, hy, e⟩
      obtain ⟨g, hg, hc⟩ := own7.get anC_len (i := 0) (x := z) (by rw [hz]; rfl)
      have hok := oks z (by rw [hz]; exact List.mem_singleton.2 rfl)
      rw [hz, hg]
      clear hz hg own7 oks
      obtain ⟨zo, ze, zs⟩ := z
      have hz0 : ze = 0 := congrArg AnA.err hza
      subst hz0
      have hzs : zs.abs = jsJ x.abs es (i + 1) := congrArg AnA.s hza
      have HSS : Hid (sameSA zs.abs u2.abs = true) := by
       show sameSA zs.abs u2.abs = true
       rw [hzs, HU2.out]
       exact sameSA_refl _
      have HCZ : Hid (∀ j u, (anC ⟨zo, 0, zs⟩)[j]? = some u → v7.cell? ⟨g, j, none⟩ = some u) := fun j u h => by
       have := hc j u h
       rw [show 0 * 11 + j = j by omega] at this
       exact this
      have HZR : Hid (Row v7 zs.a zs.cap zs.l) := hok.row
      have hND : ∀ c, D6 c → w.heap.size < c ∧ c ≠ bw := fun c d => ⟨HZ6.out c (HSB6.out c d), fun e => HD6.out.2 (e ▸ d)⟩
      have HO7 : Hid (Off (fun _ => False) w v7) := HO6.out.trans g7.off (fun c hc d => by have := (hND c d).1; omega)
      have HC7 : Hid _ := HC6.out.off g7.off (fun d => by have := (hND b5 d).1; have := HB5.out; omega)
      have HCW7 : Hid _ := HCW6.out.off g7.off HD6.out.2
      have HUR : Hid (Row v7 u2.a u2.cap u2.l) := (HS6.out.off g7.off (fun c _ d => HSB6.out c d)).row
      have HI7 : Hid (OwnG 3 1 inC v7 al cl L) := HI6.out.off op7 (fun c _ hc e => HPB.out c hc e)
      clear hza hc hok hzs c7 g7 op7 hND HO6 HC6 HCW6 HS6 HI6 HAN HAE HLT6 HSB6 HD6 HZ6 HPB dm
      simp only [List.length_singleton]
      go_wp2_with fail
      refine wp_region_held_drew (S := Off (fun _ => False) v7) (by kernel_rfl) ((Off.refl (fun _ => False) v7).drew) (fun hS => ?_)
      refine take_at (i := 0) 96 (v := .slice (some ⟨g, 0, none⟩) 1 y6.ac) rfl rfl (by kernel_rfl) (by kernel_rfl) (by kernel_rfl) (fun _ _ _ h => h) (Or.inl ⟨by rfl, fun w' hw' => by go_simp⟩) hS ?_
      simp only [Act.put, lsA, lsZ, lsS]
      refine take_at (i := 1) 97 (v := .int .i64 1) rfl rfl (by kernel_rfl) (by kernel_rfl) (by kernel_rfl) (fun _ _ _ h => h) (Or.inl ⟨by rfl, fun w' hw' => by go_simp⟩) hS ?_
      simp only [Act.put, lsA, lsZ, lsS]
      refine take_at (i := 2) 98 (v := .bool false) rfl rfl (by kernel_rfl) (by kernel_rfl) (by kernel_rfl) (fun _ _ _ h => h) (Or.inl ⟨by rfl, fun w' hw' => by go_simp⟩) hS ?_
      simp only [Act.put, lsA, lsZ, lsS]
      refine take_at (i := 3) 99 (v := .bool false) rfl rfl (by kernel_rfl) (by kernel_rfl) (by kernel_rfl) (fun _ _ _ h => h) (Or.inl ⟨by rfl, fun w' hw' => by go_simp⟩) hS ?_
      simp only [Act.put, lsA, lsZ, lsS]
      refine take_at (i := 4) 100 (v := .slice (some ⟨g, 0, none⟩) 1 y6.ac) rfl rfl (by kernel_rfl) (by kernel_rfl) (by kernel_rfl) (fun _ _ _ h => h) (Or.inl ⟨by rfl, fun w' hw' => by go_simp⟩) hS ?_
      simp only [Act.put, lsA, lsZ, lsS]
      refine take_at (i := 5) 101 (v := .pointer (some ⟨g, 0, none⟩)) rfl rfl (by kernel_rfl) (by kernel_rfl) (by kernel_rfl) (fun _ _ _ h => h) (Or.inl ⟨by rfl, fun w' hw' => by have hix := anss_at0 1 y6.ac g (by omega) w'; go_simp⟩) hS ?_
      simp only [Act.put, lsA, lsZ, lsS]
      refine take_at (i := 6) 102 (v := .pointer (some ⟨g, 1, none⟩)) rfl rfl (by kernel_rfl) (by kernel_rfl) (by kernel_rfl) (fun _ _ _ h => h) (Or.inl ⟨by rfl, fun w' hw' => by go_simp⟩) hS ?_
      simp only [Act.put, lsA, lsZ, lsS]
      refine take_at (i := 7) 103 (v := .int .i64 0) rfl rfl (by kernel_rfl) (by kernel_rfl) (by kernel_rfl) (fun _ _ _ h => h) (Or.inl ⟨by rfl, fun w' hw' => by obtain ⟨x0, x1, x2, x3, x4, x5, x6, x7, x8, x9⟩ := an11 (an_off hw' HCZ.out); go_simp⟩) hS ?_
      simp only [Act.put, lsA, lsZ, lsS]
      refine take_at (i := 8) 104 (v := .bool false) rfl rfl (by kernel_rfl) (by kernel_rfl) (by kernel_rfl) (fun _ _ _ h => h) (Or.inl ⟨by rfl, fun w' hw' => by go_simp⟩) hS ?_
      simp only [Act.put, lsA, lsZ, lsS]
      refine take_at (i := 9) 105 (v := .bool false) rfl rfl (by kernel_rfl) (by kernel_rfl) (by kernel_rfl) (fun _ _ _ h => h) (Or.inl ⟨by rfl, fun w' hw' => by go_simp⟩) hS ?_
      simp only [Act.put, lsA, lsZ, lsS]
      refine take_at (i := 10) 106 (v := .bool false) rfl rfl (by kernel_rfl) (by kernel_rfl) (by kernel_rfl) (fun _ _ _ h => h) (Or.inl ⟨by rfl, fun w' hw' => by go_simp⟩) hS ?_
      simp only [Act.put, lsA, lsZ, lsS]
      refine take_at (i := 11) 107 (v := .slice (some ⟨g, 0, none⟩) 1 y6.ac) rfl rfl (by kernel_rfl) (by kernel_rfl) (by kernel_rfl) (fun _ _ _ h => h) (Or.inl ⟨by rfl, fun w' hw' => by go_simp⟩) hS ?_
      simp only [Act.put, lsA, lsZ, lsS]
      refine take_at (i := 12) 108 (v := .pointer (some ⟨g, 0, none⟩)) rfl rfl (by kernel_rfl) (by kernel_rfl) (by kernel_rfl) (fun _ _ _ h => h) (Or.inl ⟨by rfl, fun w' hw' => by have hix := anss_at0 1 y6.ac g (by omega) w'; go_simp⟩) hS ?_
      simp only [Act.put, lsA, lsZ, lsS]
      refine take_at (i := 13) 109 (v := .pointer (some ⟨g, 2, none⟩)) rfl rfl (by kernel_rfl) (by kernel_rfl) (by kernel_rfl) (fun _ _ _ h => h) (Or.inl ⟨by rfl, fun w' hw' => by go_simp⟩) hS ?_
      simp only [Act.put, lsA, lsZ, lsS]
      refine take_at (i := 14) 110 (v := .agg #[.int .i64 (zs.f 0), .int .i64 (zs.f 1), .int .i64 (zs.f 2), .int .i64 (zs.f 3), .int .i64 (zs.f 4), .int .i64 (zs.f 5), .int .i64 (zs.f 6), .int .i64 (zs.f 7), .slice zs.a zs.l.length zs.cap]) rfl rfl (by kernel_rfl) (by kernel_rfl) (by kernel_rfl) (fun _ _ _ h => h) (Or.inl ⟨by rfl, fun w' hw' => by obtain ⟨x0, x1, x2, x3, x4, x5, x6, x7, x8, x9⟩ := an11 (an_off hw' HCZ.out); go_simp⟩) hS ?_
      simp only [Act.put, lsA, lsZ, lsS]
      refine take_at (i := 15) 111 (v := .agg #[.int .i64 (u2.f 0), .int .i64 (u2.f 1), .int .i64 (u2.f 2), .int .i64 (u2.f 3), .int .i64 (u2.f 4), .int .i64 (u2.f 5), .int .i64 (u2.f 6), .int .i64 (u2.f 7), .slice u2.a u2.l.length u2.cap]) rfl rfl (by kernel_rfl) (by kernel_rfl) (by kernel_rfl) (fun _ _ _ h => h) (Or.inl ⟨by rfl, fun w' hw' => by obtain ⟨x0, x1, x2, x3, x4, x5, x6, x7, x8⟩ := cel9 (HCW7.out.off hw' (fun h => h)); go_simp⟩) hS ?_
      simp only [Act.put, lsA, lsZ, lsS]
      refine wpAnyH_ready (rs := [16]) (by kernel_rfl) (by simp) ?_
      refine AllReadyH.cons rfl (fun K' hK' => ?_) AllReadyH.nil
      go_simp
      refine Calls.mono (sgsame zs u2 _ (HZR.out.off hS) (HUR.out.off hS)) ?_
      rintro e0 w3 ⟨rfl, o3⟩
      rw [HSS.out]
      refine hK'.out _ _ (hS.trans o3 (fun _ _ h => h)) (fun hS => ?_)
      clear hK' K' o3
      refine take_at (i := 17) 113 (v := .bool false) rfl rfl (by kernel_rfl) (by kernel_rfl) (by kernel_rfl) (fun _ _ _ h => h) (Or.inl ⟨by rfl, fun w' hw' => by go_simp⟩) hS ?_
      simp only [Act.put, lsA, lsZ, lsS]
      refine take_at (i := 18) 114 (v := .bool false) rfl rfl (by kernel_rfl) (by kernel_rfl) (by kernel_rfl) (fun _ _ _ h => h) (Or.inl ⟨by rfl, fun w' hw' => by go_simp⟩) hS ?_
      simp only [Act.put, lsA, lsZ, lsS]
      refine wpAnyH_done (by kernel_rfl) ?_ _
      have HW8 : Hid _ := hS
      clear hS
      go_wp2_with fail
      go_loopw [115] (fun s115 wr => ∃ k : Nat, s115 = .int .i64 (k : Int) ∧ k ≤ 8 ∧ Hid (Off (fun _ => False) v7 wr)) (fun s115 _ => ((8 : Int) - vInt s115).toNat)
      case atStart => exact ⟨0, rfl, by omega, HW8⟩
      case round =>
       obtain ⟨k, rfl, hk8, HW⟩ := hrel
       clear HW8
       by_cases hk : k < 8
       ·have d8 : decide ((k : Int) < 8) = true := decide_eq_true (by omega)
        have wk : IntKind.i64.wrap ((k : Int) + 1) = (k : Int) + 1 := by rw [IntKind.wrap_i64]; omega
        rename World => wq
        have HOr : Hid (Off (fun _ => False) w wq) := HO7.out.trans HW.out (fun _ _ h => h)
        have HCr : Hid _ := HC7.out.off HW.out (fun h => h)
        have HCWr : Hid _ := HCW7.out.off HW.out (fun h => h)
        have HURr : Hid (Row wq u2.a u2.cap u2.l) := HUR.out.off HW.out
        have HXRr : Hid (Row wq x.a x.cap x.l) := (HX.out.off HOr.out).row
        have HIr : Hid (OwnG 3 1 inC wq al cl L) := HI7.out.off HW.out (fun _ _ _ h => h)
        rcases Nat.eq_zero_or_pos k with hk0 | hk1
        ·have d0 : ((k : Int) == 0) = true := beq_iff_eq.2 (by omega)
         have hin : inB L (k : Int) = !sameSA x.abs u2.abs := by
          rw [HLL.out, hk0, HU2.out]
          exact js_in0 key x.abs es m i
         have HK0 : Hid ((k : Int) < 1) := by show (k : Int) < 1; omega
         clear hk0
         cases hb : sameSA x.abs u2.abs
         ·rw [hb] at hin
          have HSB : Hid (sameSA x.abs u2.abs = false) := hb
          have HIN : Hid (inB L (k : Int) = true) := hin
          clear hb hin
          go_wp2_with fail
          refine wp_region_held_drew (S := Off (fun _ => False) wq) (by kernel_rfl) ((Off.refl (fun _ => False) wq).drew) (fun hS => ?_)
          refine take_at (i := 0) 118 (v := .int .i64 (k : Int)) rfl rfl (by kernel_rfl) (by kernel_rfl) (by kernel_rfl) (fun _ _ _ h => h) (Or.inl ⟨by rfl, fun w' hw' => by go_simp⟩) hS ?_
          simp only [Act.put, lsA, lsZ, lsS]
          refine take_at (i := 1) 119 (v := .bool true) rfl rfl (by kernel_rfl) (by kernel_rfl) (by kernel_rfl) (fun _ _ _ h => h) (Or.inl ⟨by rfl, fun w' hw' => by go_simp⟩) hS ?_
          simp only [Act.put, lsA, lsZ, lsS]
          refine take_at (i := 2) 120 (v := .bool true) rfl rfl (by kernel_rfl) (by kernel_rfl) (by kernel_rfl) (fun _ _ _ h => h) (Or.inl ⟨by rfl, fun w' hw' => by go_simp⟩) hS ?_
          simp only [Act.put, lsA, lsZ, lsS]
          refine take_at (i := 3) 121 (v := .agg #[.int .i64 (x.f 0), .int .i64 (x.f 1), .int .i64 (x.f 2), .int .i64 (x.f 3), .int .i64 (x.f 4), .int .i64 (x.f 5), .int .i64 (x.f 6), .int .i64 (x.f 7), .slice x.a x.l.length x.cap]) rfl rfl (by kernel_rfl) (by kernel_rfl) (by kernel_rfl) (fun _ _ _ h => h) (Or.inl ⟨by rfl, fun w' hw' => by obtain ⟨x0, x1, x2, x3, x4, x5, x6, x7, x8⟩ := cel9 (HCr.out.off hw' (fun h => h)); go_simp⟩) hS ?_
          simp only [Act.put, lsA, lsZ, lsS]
          refine take_at (i := 4) 122 (v := .agg #[.int .i64 (u2.f 0), .int .i64 (u2.f 1), .int .i64 (u2.f 2), .int .i64 (u2.f 3), .int .i64 (u2.f 4), .int .i64 (u2.f 5), .int .i64 (u2.f 6), .int .i64 (u2.f 7), .slice u2.a u2.l.length u2.cap]) rfl rfl (by kernel_rfl) (by kernel_rfl) (by kernel_rfl) (fun _ _ _ h => h) (Or.inl ⟨by rfl, fun w' hw' => by obtain ⟨x0, x1, x2, x3, x4, x5, x6, x7, x8⟩ := cel9 (HCWr.out.off hw' (fun h => h)); go_simp⟩) hS ?_
          simp only [Act.put, lsA, lsZ, lsS]
          refine wpAnyH_ready (rs := [5]) (by kernel_rfl) (by simp) ?_
          refine AllReadyH.cons rfl (fun K' hK' => ?_) AllReadyH.nil
          go_simp
          refine Calls.mono (sgsame x u2 _ (HXRr.out.off hS) (HURr.out.off hS)) ?_
          rintro e0 w3 ⟨rfl, o3⟩
          rw [HSB.out]
          refine hK'.out _ _ (hS.trans o3 (fun _ _ h => h)) (fun hS => ?_)
          clear hK' K' o3
          refine take_at (i := 6) 124 (v := .bool true) rfl rfl (by kernel_rfl) (by kernel_rfl) (by kernel_rfl) (fun _ _ _ h => h) (Or.inl ⟨by rfl, fun w' hw' => by go_simp⟩) hS ?_
          simp only [Act.put, lsA, lsZ, lsS]
          refine take_at (i := 7) 125 (v := .bool true) rfl rfl (by kernel_rfl) (by kernel_rfl) (by kernel_rfl) (fun _ _ _ h => h) (Or.inl ⟨by rfl, fun w' hw' => by go_simp⟩) hS ?_
          simp only [Act.put, lsA, lsZ, lsS]
          refine take_at (i := 8) 126 (v := .bool true) rfl rfl (by kernel_rfl) (by kernel_rfl) (by kernel_rfl) (fun _ _ _ h => h) (Or.inl ⟨by rfl, fun w' hw' => by go_simp⟩) hS ?_
          simp only [Act.put, lsA, lsZ, lsS]
          refine take_at (i := 9) 127 (v := undef) rfl rfl (by kernel_rfl) (by kernel_rfl) (by kernel_rfl) (fun _ _ _ h => h) (Or.inr ⟨by rfl, rfl⟩) hS ?_
          simp only [Act.put, lsA, lsZ, lsS]
          refine take_at (i := 10) 128 (v := undef) rfl rfl (by kernel_rfl) (by kernel_rfl) (by kernel_rfl) (fun _ _ _ h => h) (Or.inr ⟨by rfl, rfl⟩) hS ?_
          simp only [Act.put, lsA, lsZ, lsS]
          refine take_at (i := 11) 129 (v := undef) rfl rfl (by kernel_rfl) (by kernel_rfl) (by kernel_rfl) (fun _ _ _ h => h) (Or.inr ⟨by rfl, rfl⟩) hS ?_
          simp only [Act.put, lsA, lsZ, lsS]
          refine take_at (i := 12) 130 (v := undef) rfl rfl (by kernel_rfl) (by kernel_rfl) (by kernel_rfl) (fun _ _ _ h => h) (Or.inr ⟨by rfl, rfl⟩) hS ?_
          simp only [Act.put, lsA, lsZ, lsS]
          refine take_at (i := 13) 131 (v := undef) rfl rfl (by kernel_rfl) (by kernel_rfl) (by kernel_rfl) (fun _ _ _ h => h) (Or.inr ⟨by rfl, rfl⟩) hS ?_
          simp only [Act.put, lsA, lsZ, lsS]
          refine take_at (i := 14) 132 (v := undef) rfl rfl (by kernel_rfl) (by kernel_rfl) (by kernel_rfl) (fun _ _ _ h => h) (Or.inr ⟨by rfl, rfl⟩) hS ?_
          simp only [Act.put, lsA, lsZ, lsS]
          refine take_at (i := 15) 133 (v := undef) rfl rfl (by kernel_rfl) (by kernel_rfl) (by kernel_rfl) (fun _ _ _ h => h) (Or.inr ⟨by rfl, rfl⟩) hS ?_
          simp only [Act.put, lsA, lsZ, lsS]
          refine take_at (i := 16) 134 (v := undef) rfl rfl (by kernel_rfl) (by kernel_rfl) (by kernel_rfl) (fun _ _ _ h => h) (Or.inr ⟨by rfl, rfl⟩) hS ?_
          simp only [Act.put, lsA, lsZ, lsS]
          refine take_at (i := 17) 135 (v := undef) rfl rfl (by kernel_rfl) (by kernel_rfl) (by kernel_rfl) (fun _ _ _ h => h) (Or.inr ⟨by rfl, rfl⟩) hS ?_
          simp only [Act.put, lsA, lsZ, lsS]
          refine take_at (i := 18) 136 (v := undef) rfl rfl (by kernel_rfl) (by kernel_rfl) (by kernel_rfl) (fun _ _ _ h => h) (Or.inr ⟨by rfl, rfl⟩) hS ?_
          simp only [Act.put, lsA, lsZ, lsS]
          refine take_at (i := 19) 137 (v := undef) rfl rfl (by kernel_rfl) (by kernel_rfl) (by kernel_rfl) (fun _ _ _ h => h) (Or.inr ⟨by rfl, rfl⟩) hS ?_
          simp only [Act.put, lsA, lsZ, lsS]
          refine take_at (i := 20) 138 (v := undef) rfl rfl (by kernel_rfl) (by kernel_rfl) (by kernel_rfl) (fun _ _ _ h => h) (Or.inr ⟨by rfl, rfl⟩) hS ?_
          simp only [Act.put, lsA, lsZ, lsS]
          refine take_at (i := 21) 139 (v := undef) rfl rfl (by kernel_rfl) (by kernel_rfl) (by kernel_rfl) (fun _ _ _ h => h) (Or.inr ⟨by rfl, rfl⟩) hS ?_
          simp only [Act.put, lsA, lsZ, lsS]
          refine take_at (i := 22) 140 (v := undef) rfl rfl (by kernel_rfl) (by kernel_rfl) (by kernel_rfl) (fun _ _ _ h => h) (Or.inr ⟨by rfl, rfl⟩) hS ?_
          simp only [Act.put, lsA, lsZ, lsS]
          refine take_at (i := 23) 141 (v := undef) rfl rfl (by kernel_rfl) (by kernel_rfl) (by kernel_rfl) (fun _ _ _ h => h) (Or.inr ⟨by rfl, rfl⟩) hS ?_
          simp only [Act.put, lsA, lsZ, lsS]
          refine take_at (i := 24) 142 (v := undef) rfl rfl (by kernel_rfl) (by kernel_rfl) (by kernel_rfl) (fun _ _ _ h => h) (Or.inr ⟨by rfl, rfl⟩) hS ?_
          simp only [Act.put, lsA, lsZ, lsS]
          refine take_at (i := 25) 143 (v := undef) rfl rfl (by kernel_rfl) (by kernel_rfl) (by kernel_rfl) (fun _ _ _ h => h) (Or.inr ⟨by rfl, rfl⟩) hS ?_
          simp only [Act.put, lsA, lsZ, lsS]
          refine take_at (i := 26) 144 (v := undef) rfl rfl (by kernel_rfl) (by kernel_rfl) (by kernel_rfl) (fun _ _ _ h => h) (Or.inr ⟨by rfl, rfl⟩) hS ?_
          simp only [Act.put, lsA, lsZ, lsS]
          refine take_at (i := 27) 145 (v := .bool true) rfl rfl (by kernel_rfl) (by kernel_rfl) (by kernel_rfl) (fun _ _ _ h => h) (Or.inl ⟨by rfl, fun w' hw' => by go_simp⟩) hS ?_
          simp only [Act.put, lsA, lsZ, lsS]
          refine take_at (i := 28) 21 (v := .bool true) rfl rfl (by kernel_rfl) (by kernel_rfl) (by kernel_rfl) (fun _ _ _ h => h) (Or.inl ⟨by rfl, fun w' hw' => by go_simp⟩) hS ?_
          simp only [Act.put, lsA, lsZ, lsS]
          refine wpAnyH_done (by kernel_rfl) ?_ _
          have HW9 : Hid _ := HW.out.trans hS (fun _ _ h => h)
          have HRI : Hid _ := rin_any (HIr.out.off hS (fun _ _ _ h => h)) (by have := HL8.out; omega) (k : Int)
          have hin := HIN.out
          clear hS
          go_wp2_with fail
          refine Calls.mono HRI.out ?_
          rintro e v9 ⟨rfl, hw⟩
          rw [hw, hin]
          clear hw v9 hin
          go_wp2_with fail
          go_roundw
          case rel => exact ⟨k + 1, by go_num, by omega, HW9⟩
          case measure => simp [vInt]; omega
         ·rw [hb] at hin
          have HSB : Hid (sameSA x.abs u2.abs = true) := hb
          have HIN : Hid (inB L (k : Int) = false) := hin
          clear hb hin
          go_wp2_with fail
          refine wp_region_held_drew (S := Off (fun _ => False) wq) (by kernel_rfl) ((Off.refl (fun _ => False) wq).drew) (fun hS => ?_)
          refine take_at (i := 0) 118 (v := .int .i64 (k : Int)) rfl rfl (by kernel_rfl) (by kernel_rfl) (by kernel_rfl) (fun _ _ _ h => h) (Or.inl ⟨by rfl, fun w' hw' => by go_simp⟩) hS ?_
          simp only [Act.put, lsA, lsZ, lsS]
          refine take_at (i := 1) 119 (v := .bool true) rfl rfl (by kernel_rfl) (by kernel_rfl) (by kernel_rfl) (fun _ _ _ h => h) (Or.inl ⟨by rfl, fun w' hw' => by go_simp⟩) hS ?_
          simp only [Act.put, lsA, lsZ, lsS]
          refine take_at (i := 2) 120 (v := .bool true) rfl rfl (by kernel_rfl) (by kernel_rfl) (by kernel_rfl) (fun _ _ _ h => h) (Or.inl ⟨by rfl, fun w' hw' => by go_simp⟩) hS ?_
          simp only [Act.put, lsA, lsZ, lsS]
          refine take_at (i := 3) 121 (v := .agg #[.int .i64 (x.f 0), .int .i64 (x.f 1), .int .i64 (x.f 2), .int .i64 (x.f 3), .int .i64 (x.f 4), .int .i64 (x.f 5), .int .i64 (x.f 6), .int .i64 (x.f 7), .slice x.a x.l.length x.cap]) rfl rfl (by kernel_rfl) (by kernel_rfl) (by kernel_rfl) (fun _ _ _ h => h) (Or.inl ⟨by rfl, fun w' hw' => by obtain ⟨x0, x1, x2, x3, x4, x5, x6, x7, x8⟩ := cel9 (HCr.out.off hw' (fun h => h)); go_simp⟩) hS ?_
          simp only [Act.put, lsA, lsZ, lsS]
          refine take_at (i := 4) 122 (v := .agg #[.int .i64 (u2.f 0), .int .i64 (u2.f 1), .int .i64 (u2.f 2), .int .i64 (u2.f 3), .int .i64 (u2.f 4), .int .i64 (u2.f 5), .int .i64 (u2.f 6), .int .i64 (u2.f 7), .slice u2.a u2.l.length u2.cap]) rfl rfl (by kernel_rfl) (by kernel_rfl) (by kernel_rfl) (fun _ _ _ h => h) (Or.inl ⟨by rfl, fun w' hw' => by obtain ⟨x0, x1, x2, x3, x4, x5, x6, x7, x8⟩ := cel9 (HCWr.out.off hw' (fun h => h)); go_simp⟩) hS ?_
          simp only [Act.put, lsA, lsZ, lsS]
          refine wpAnyH_ready (rs := [5]) (by kernel_rfl) (by simp) ?_
          refine AllReadyH.cons rfl (fun K' hK' => ?_) AllReadyH.nil
          go_simp
          refine Calls.mono (sgsame x u2 _ (HXRr.out.off hS) (HURr.out.off hS)) ?_
          rintro e0 w3 ⟨rfl, o3⟩
          rw [HSB.out]
          refine hK'.out _ _ (hS.trans o3 (fun _ _ h => h)) (fun hS => ?_)
          clear hK' K' o3
          refine take_at (i := 6) 124 (v := .bool false) rfl rfl (by kernel_rfl) (by kernel_rfl) (by kernel_rfl) (fun _ _ _ h => h) (Or.inl ⟨by rfl, fun w' hw' => by go_simp⟩) hS ?_
          simp only [Act.put, lsA, lsZ, lsS]
          refine take_at (i := 7) 125 (v := .bool false) rfl rfl (by kernel_rfl) (by kernel_rfl) (by kernel_rfl) (fun _ _ _ h => h) (Or.inl ⟨by rfl, fun w' hw' => by go_simp⟩) hS ?_
          simp only [Act.put, lsA, lsZ, lsS]
          refine take_at (i := 8) 126 (v := .bool false) rfl rfl (by kernel_rfl) (by kernel_rfl) (by kernel_rfl) (fun _ _ _ h => h) (Or.inl ⟨by rfl, fun w' hw' => by go_simp⟩) hS ?_
          simp only [Act.put, lsA, lsZ, lsS]
          refine take_at (i := 9) 127 (v := .int .i64 (k : Int)) rfl rfl (by kernel_rfl) (by kernel_rfl) (by kernel_rfl) (fun _ _ _ h => h) (Or.inl ⟨by rfl, fun w' hw' => by go_simp⟩) hS ?_
          simp only [Act.put, lsA, lsZ, lsS]
          refine take_at (i := 10) 128 (v := .bool false) rfl rfl (by kernel_rfl) (by kernel_rfl) (by kernel_rfl) (fun _ _ _ h => h) (Or.inl ⟨by rfl, fun w' hw' => by go_simp; exact HK0.out⟩) hS ?_
          simp only [Act.put, lsA, lsZ, lsS]
          refine take_at (i := 11) 129 (v := .bool false) rfl rfl (by kernel_rfl) (by kernel_rfl) (by kernel_rfl) (fun _ _ _ h => h) (Or.inl ⟨by rfl, fun w' hw' => by go_simp⟩) hS ?_
          simp only [Act.put, lsA, lsZ, lsS]
          refine take_at (i := 12) 130 (v := undef) rfl rfl (by kernel_rfl) (by kernel_rfl) (by kernel_rfl) (fun _ _ _ h => h) (Or.inr ⟨by rfl, rfl⟩) hS ?_
          simp only [Act.put, lsA, lsZ, lsS]
          refine take_at (i := 13) 131 (v := undef) rfl rfl (by kernel_rfl) (by kernel_rfl) (by kernel_rfl) (fun _ _ _ h => h) (Or.inr ⟨by rfl, rfl⟩) hS ?_
          simp only [Act.put, lsA, lsZ, lsS]
          refine take_at (i := 14) 132 (v := undef) rfl rfl (by kernel_rfl) (by kernel_rfl) (by kernel_rfl) (fun _ _ _ h => h) (Or.inr ⟨by rfl, rfl⟩) hS ?_
          simp only [Act.put, lsA, lsZ, lsS]
          refine take_at (i := 15) 133 (v := undef) rfl rfl (by kernel_rfl) (by kernel_rfl) (by kernel_rfl) (fun _ _ _ h => h) (Or.inr ⟨by rfl, rfl⟩) hS ?_
          simp only [Act.put, lsA, lsZ, lsS]
          refine take_at (i := 16) 134 (v := .bool false) rfl rfl (by kernel_rfl) (by kernel_rfl) (by kernel_rfl) (fun _ _ _ h => h) (Or.inl ⟨by rfl, fun w' hw' => by go_simp⟩) hS ?_
          simp only [Act.put, lsA, lsZ, lsS]
          refine take_at (i := 17) 135 (v := .bool false) rfl rfl (by kernel_rfl) (by kernel_rfl) (by kernel_rfl) (fun _ _ _ h => h) (Or.inl ⟨by rfl, fun w' hw' => by go_simp⟩) hS ?_
          simp only [Act.put, lsA, lsZ, lsS]
          refine take_at (i := 18) 136 (v := undef) rfl rfl (by kernel_rfl) (by kernel_rfl) (by kernel_rfl) (fun _ _ _ h => h) (Or.inr ⟨by rfl, rfl⟩) hS ?_
          simp only [Act.put, lsA, lsZ, lsS]
          refine take_at (i := 19) 137 (v := undef) rfl rfl (by kernel_rfl) (by kernel_rfl) (by kernel_rfl) (fun _ _ _ h => h) (Or.inr ⟨by rfl, rfl⟩) hS ?_
          simp only [Act.put, lsA, lsZ, lsS]
          refine take_at (i := 20) 138 (v := undef) rfl rfl (by kernel_rfl) (by kernel_rfl) (by kernel_rfl) (fun _ _ _ h => h) (Or.inr ⟨by rfl, rfl⟩) hS ?_
          simp only [Act.put, lsA, lsZ, lsS]
          refine take_at (i := 21) 139 (v := undef) rfl rfl (by kernel_rfl) (by kernel_rfl) (by kernel_rfl) (fun _ _ _ h => h) (Or.inr ⟨by rfl, rfl⟩) hS ?_
          simp only [Act.put, lsA, lsZ, lsS]
          refine take_at (i := 22) 140 (v := undef) rfl rfl (by kernel_rfl) (by kernel_rfl) (by kernel_rfl) (fun _ _ _ h => h) (Or.inr ⟨by rfl, rfl⟩) hS ?_
          simp only [Act.put, lsA, lsZ, lsS]
          refine take_at (i := 23) 141 (v := undef) rfl rfl (by kernel_rfl) (by kernel_rfl) (by kernel_rfl) (fun _ _ _ h => h) (Or.inr ⟨by rfl, rfl⟩) hS ?_
          simp only [Act.put, lsA, lsZ, lsS]
          refine take_at (i := 24) 142 (v := undef) rfl rfl (by kernel_rfl) (by kernel_rfl) (by kernel_rfl) (fun _ _ _ h => h) (Or.inr ⟨by rfl, rfl⟩) hS ?_
          simp only [Act.put, lsA, lsZ, lsS]
          refine take_at (i := 25) 143 (v := undef) rfl rfl (by kernel_rfl) (by kernel_rfl) (by kernel_rfl) (fun _ _ _ h => h) (Or.inr ⟨by rfl, rfl⟩) hS ?_
          simp only [Act.put, lsA, lsZ, lsS]
          refine take_at (i := 26) 144 (v := .bool false) rfl rfl (by kernel_rfl) (by kernel_rfl) (by kernel_rfl) (fun _ _ _ h => h) (Or.inl ⟨by rfl, fun w' hw' => by go_simp⟩) hS ?_
          simp only [Act.put, lsA, lsZ, lsS]
          refine take_at (i := 27) 145 (v := .bool false) rfl rfl (by kernel_rfl) (by kernel_rfl) (by kernel_rfl) (fun _ _ _ h => h) (Or.inl ⟨by rfl, fun w' hw' => by go_simp⟩) hS ?_
          simp only [Act.put, lsA, lsZ, lsS]
          refine take_at (i := 28) 21 (v := .bool false) rfl rfl (by kernel_rfl) (by kernel_rfl) (by kernel_rfl) (fun _ _ _ h => h) (Or.inl ⟨by rfl, fun w' hw' => by go_simp⟩) hS ?_
          simp only [Act.put, lsA, lsZ, lsS]
          refine wpAnyH_done (by kernel_rfl) ?_ _
          have HW9 : Hid _ := HW.out.trans hS (fun _ _ h => h)
          have HRI : Hid _ := rin_any (HIr.out.off hS (fun _ _ _ h => h)) (by have := HL8.out; omega) (k : Int)
          have hin := HIN.out
          clear hS
          go_wp2_with fail
          refine Calls.mono HRI.out ?_
          rintro e v9 ⟨rfl, hw⟩
          rw [hw, hin]
          clear hw v9 hin
          go_wp2_with fail
          go_roundw
          case rel => exact ⟨k + 1, by go_num, by omega, HW9⟩
          case measure => simp [vInt]; omega
        ·have d0 : ((k : Int) == 0) = false := beq_eq_false_iff_ne.2 (by omega)
         have d1 : decide ((1 : Int) ≤ (k : Int)) = true := decide_eq_true (by omega)
         by_cases hki : k ≤ i + 1
         ·have d2 : decide ((k : Int) ≤ (i : Int) + 1) = true := decide_eq_true (by omega)
          obtain ⟨n, hn⟩ : ∃ n, k = n + 1 := ⟨k - 1, by omega⟩
          have hni : n ≤ i := by omega
          have wn : IntKind.i64.wrap ((k : Int) - 1) = (n : Int) := by rw [IntKind.wrap_i64]; omega
          have hnl : n < es.length := by omega
          obtain ⟨b2, o2, e2, hc2, hok2⟩ := HS.out.cells HOr.out hnl
          obtain ⟨rfl, rfl⟩ : ba = b2 ∧ off = o2 := by simpa using e2
          obtain ⟨sn, hsn⟩ : ∃ s, s = es.getD n SV.zero := ⟨_, rfl⟩
          rw [← hsn] at hc2 hok2
          have hix2 := sbs_at hnl cap ba off
          obtain ⟨o2, ho2⟩ : ∃ o, o = off + n * 9 := ⟨_, rfl⟩
          rw [← ho2] at hc2 hix2
          have HC2n : Hid _ := hc2
          have HR2n : Hid (Row wq sn.a sn.cap sn.l) := hok2.row
          have hin : inB L (k : Int) = !sameSA sn.abs u2.abs := by
           rw [HLL.out, hn, HU2.out, hsn]
           exact js_inS key x.abs es m hni (by omega)
          clear hc2 hok2 ho2 hsn e2 hni hnl
          cases hb : sameSA sn.abs u2.abs
          ·rw [hb] at hin
           have HSB : Hid (sameSA sn.abs u2.abs = false) := hb
           have HIN : Hid (inB L (k : Int) = true) := hin
           have HKN : Hid (k = n + 1) := hn
           clear hb hin hn
           go_wp2_with fail
           refine wp_region_held_drew (S := Off (fun _ => False) wq) (by kernel_rfl) ((Off.refl (fun _ => False) wq).drew) (fun hS => ?_)
           refine take_at (i := 0) 118 (v := .int .i64 (k : Int)) rfl rfl (by kernel_rfl) (by kernel_rfl) (by kernel_rfl) (fun _ _ _ h => h) (Or.inl ⟨by rfl, fun w' hw' => by go_simp⟩) hS ?_
           simp only [Act.put, lsA, lsZ, lsS]
           refine take_at (i := 1) 119 (v := .bool false) rfl rfl (by kernel_rfl) (by kernel_rfl) (by kernel_rfl) (fun _ _ _ h => h) (Or.inl ⟨by rfl, fun w' hw' => by go_simp⟩) hS ?_
           simp only [Act.put, lsA, lsZ, lsS]
           refine take_at (i := 2) 120 (v := .bool false) rfl rfl (by kernel_rfl) (by kernel_rfl) (by kernel_rfl) (fun _ _ _ h => h) (Or.inl ⟨by rfl, fun w' hw' => by go_simp⟩) hS ?_
           simp only [Act.put, lsA, lsZ, lsS]
           refine take_at (i := 3) 121 (v := undef) rfl rfl (by kernel_rfl) (by kernel_rfl) (by kernel_rfl) (fun _ _ _ h => h) (Or.inr ⟨by rfl, rfl⟩) hS ?_
           simp only [Act.put, lsA, lsZ, lsS]
           refine take_at (i := 4) 122 (v := undef) rfl rfl (by kernel_rfl) (by kernel_rfl) (by kernel_rfl) (fun _ _ _ h => h) (Or.inr ⟨by rfl, rfl⟩) hS ?_
           simp only [Act.put, lsA, lsZ, lsS]
           refine take_at (i := 5) 123 (v := undef) rfl rfl (by kernel_rfl) (by kernel_rfl) (by kernel_rfl) (fun _ _ _ h => h) (Or.inr ⟨by rfl, rfl⟩) hS ?_
           simp only [Act.put, lsA, lsZ, lsS]
           refine take_at (i := 6) 124 (v := undef) rfl rfl (by kernel_rfl) (by kernel_rfl) (by kernel_rfl) (fun _ _ _ h => h) (Or.inr ⟨by rfl, rfl⟩) hS ?_
           simp only [Act.put, lsA, lsZ, lsS]
           refine take_at (i := 7) 125 (v := .bool false) rfl rfl (by kernel_rfl) (by kernel_rfl) (by kernel_rfl) (fun _ _ _ h => h) (Or.inl ⟨by rfl, fun w' hw' => by go_simp⟩) hS ?_
           simp only [Act.put, lsA, lsZ, lsS]
           refine take_at (i := 8) 126 (v := .bool false) rfl rfl (by kernel_rfl) (by kernel_rfl) (by kernel_rfl) (fun _ _ _ h => h) (Or.inl ⟨by rfl, fun w' hw' => by go_simp⟩) hS ?_
           simp only [Act.put, lsA, lsZ, lsS]
           refine take_at (i := 9) 127 (v := .int .i64 (k : Int)) rfl rfl (by kernel_rfl) (by kernel_rfl) (by kernel_rfl) (fun _ _ _ h => h) (Or.inl ⟨by rfl, fun w' hw' => by go_simp⟩) hS ?_
           simp only [Act.put, lsA, lsZ, lsS]
           refine take_at (i := 10) 128 (v := .bool true) rfl rfl (by kernel_rfl) (by kernel_rfl) (by kernel_rfl) (fun _ _ _ h => h) (Or.inl ⟨by rfl, fun w' hw' => by go_simp⟩) hS ?_
           simp only [Act.put, lsA, lsZ, lsS]
           refine take_at (i := 11) 129 (v := .bool true) rfl rfl (by kernel_rfl) (by kernel_rfl) (by kernel_rfl) (fun _ _ _ h => h) (Or.inl ⟨by rfl, fun w' hw' => by go_simp⟩) hS ?_
           simp only [Act.put, lsA, lsZ, lsS]
           refine take_at (i := 12) 130 (v := .int .i64 (k : Int)) rfl rfl (by kernel_rfl) (by kernel_rfl) (by kernel_rfl) (fun _ _ _ h => h) (Or.inl ⟨by rfl, fun w' hw' => by go_simp⟩) hS ?_
           simp only [Act.put, lsA, lsZ, lsS]
           refine take_at (i := 13) 131 (v := .int .i64 (i : Int)) rfl rfl (by kernel_rfl) (by kernel_rfl) (by kernel_rfl) (fun _ _ _ h => h) (Or.inl ⟨by rfl, fun w' hw' => by go_simp⟩) hS ?_
           simp only [Act.put, lsA, lsZ, lsS]
           refine take_at (i := 14) 132 (v := .int .i64 ((i : Int) + 1)) rfl rfl (by kernel_rfl) (by kernel_rfl) (by kernel_rfl) (fun _ _ _ h => h) (Or.inl ⟨by rfl, fun w' hw' => by go_simp⟩) hS ?_
           simp only [Act.put, lsA, lsZ, lsS]
           refine take_at (i := 15) 133 (v := .bool true) rfl rfl (by kernel_rfl) (by kernel_rfl) (by kernel_rfl) (fun _ _ _ h => h) (Or.inl ⟨by rfl, fun w' hw' => by go_simp⟩) hS ?_
           simp only [Act.put, lsA, lsZ, lsS]
           refine take_at (i := 16) 134 (v := .bool true) rfl rfl (by kernel_rfl) (by kernel_rfl) (by kernel_rfl) (fun _ _ _ h => h) (Or.inl ⟨by rfl, fun w' hw' => by go_simp⟩) hS ?_
           simp only [Act.put, lsA, lsZ, lsS]
           refine take_at (i := 17) 135 (v := .bool true) rfl rfl (by kernel_rfl) (by kernel_rfl) (by kernel_rfl) (fun _ _ _ h => h) (Or.inl ⟨by rfl, fun w' hw' => by go_simp⟩) hS ?_
           simp only [Act.put, lsA, lsZ, lsS]
           refine take_at (i := 18) 136 (v := .slice (some ⟨ba, off, none⟩) es.length cap) rfl rfl (by kernel_rfl) (by kernel_rfl) (by kernel_rfl) (fun _ _ _ h => h) (Or.inl ⟨by rfl, fun w' hw' => by go_simp⟩) hS ?_
           simp only [Act.put, lsA, lsZ, lsS]
           refine take_at (i := 19) 137 (v := .int .i64 (k : Int)) rfl rfl (by kernel_rfl) (by kernel_rfl) (by kernel_rfl) (fun _ _ _ h => h) (Or.inl ⟨by rfl, fun w' hw' => by go_simp⟩) hS ?_
           simp only [Act.put, lsA, lsZ, lsS]
           refine take_at (i := 20) 138 (v := .int .i64 (n : Int)) rfl rfl (by kernel_rfl) (by kernel_rfl) (by kernel_rfl) (fun _ _ _ h => h) (Or.inl ⟨by rfl, fun w' hw' => by go_simp⟩) hS ?_
           simp only [Act.put, lsA, lsZ, lsS]
           refine take_at (i := 21) 139 (v := .pointer (some ⟨ba, o2, none⟩)) rfl rfl (by kernel_rfl) (by kernel_rfl) (by kernel_rfl) (fun _ _ _ h => h) (Or.inl ⟨by rfl, fun w' hw' => by go_simp⟩) hS ?_
           simp only [Act.put, lsA, lsZ, lsS]
           refine take_at (i := 22) 140 (v := .agg #[.int .i64 (sn.f 0), .int .i64 (sn.f 1), .int .i64 (sn.f 2), .int .i64 (sn.f 3), .int .i64 (sn.f 4), .int .i64 (sn.f 5), .int .i64 (sn.f 6), .int .i64 (sn.f 7), .slice sn.a sn.l.length sn.cap]) rfl rfl (by kernel_rfl) (by kernel_rfl) (by kernel_rfl) (fun _ _ _ h => h) (Or.inl ⟨by rfl, fun w' hw' => by obtain ⟨x0, x1, x2, x3, x4, x5, x6, x7, x8⟩ := svc9 (cellsJ_off hw' HC2n.out); go_simp⟩) hS ?_
           simp only [Act.put, lsA, lsZ, lsS]
           refine take_at (i := 23) 141 (v := .agg #[.int .i64 (u2.f 0), .int .i64 (u2.f 1), .int .i64 (u2.f 2), .int .i64 (u2.f 3), .int .i64 (u2.f 4), .int .i64 (u2.f 5), .int .i64 (u2.f 6), .int .i64 (u2.f 7), .slice u2.a u2.l.length u2.cap]) rfl rfl (by kernel_rfl) (by kernel_rfl) (by kernel_rfl) (fun _ _ _ h => h) (Or.inl ⟨by rfl, fun w' hw' => by obtain ⟨x0, x1, x2, x3, x4, x5, x6, x7, x8⟩ := cel9 (HCWr.out.off hw' (fun h => h)); go_simp⟩) hS ?_
           simp only [Act.put, lsA, lsZ, lsS]
           refine wpAnyH_ready (rs := [24]) (by kernel_rfl) (by simp) ?_
           refine AllReadyH.cons rfl (fun K' hK' => ?_) AllReadyH.nil
           go_simp
           refine Calls.mono (sgsame sn u2 _ (HR2n.out.off hS) (HURr.out.off hS)) ?_
           rintro e0 w3 ⟨rfl, o3⟩
           rw [HSB.out]
           refine hK'.out _ _ (hS.trans o3 (fun _ _ h => h)) (fun hS => ?_)
           clear hK' K' o3
           refine take_at (i := 25) 143 (v := .bool true) rfl rfl (by kernel_rfl) (by kernel_rfl) (by kernel_rfl) (fun _ _ _ h => h) (Or.inl ⟨by rfl, fun w' hw' => by go_simp⟩) hS ?_
           simp only [Act.put, lsA, lsZ, lsS]
           refine take_at (i := 26) 144 (v := .bool true) rfl rfl (by kernel_rfl) (by kernel_rfl) (by kernel_rfl) (fun _ _ _ h => h) (Or.inl ⟨by rfl, fun w' hw' => by go_simp⟩) hS ?_
           simp only [Act.put, lsA, lsZ, lsS]
           refine take_at (i := 27) 145 (v := .bool true) rfl rfl (by kernel_rfl) (by kernel_rfl) (by kernel_rfl) (fun _ _ _ h => h) (Or.inl ⟨by rfl, fun w' hw' => by go_simp⟩) hS ?_
           simp only [Act.put, lsA, lsZ, lsS]
           refine take_at (i := 28) 21 (v := .bool true) rfl rfl (by kernel_rfl) (by kernel_rfl) (by kernel_rfl) (fun _ _ _ h => h) (Or.inl ⟨by rfl, fun w' hw' => by go_simp⟩) hS ?_
           simp only [Act.put, lsA, lsZ, lsS]
           refine wpAnyH_done (by kernel_rfl) ?_ _
           have HW9 : Hid _ := HW.out.trans hS (fun _ _ h => h)
           have HRI : Hid _ := rin_any (HIr.out.off hS (fun _ _ _ h => h)) (by have := HL8.out; omega) (k : Int)
           have hin := HIN.out
           clear hS
           go_wp2_with fail
           refine Calls.mono HRI.out ?_
           rintro e v9 ⟨rfl, hw⟩
           rw [hw, hin]
           clear hw v9 hin
           go_wp2_with fail
           go_roundw
           case rel => exact ⟨k + 1, by go_num, by omega, HW9⟩
           case measure => simp [vInt]; omega
          ·rw [hb] at hin
           have HSB : Hid (sameSA sn.abs u2.abs = true) := hb
           have HIN : Hid (inB L (k : Int) = false) := hin
           have HKN : Hid (k = n + 1) := hn
           clear hb hin hn
           go_wp2_with fail
           refine wp_region_held_drew (S := Off (fun _ => False) wq) (by kernel_rfl) ((Off.refl (fun _ => False) wq).drew) (fun hS => ?_)
           refine take_at (i := 0) 118 (v := .int .i64 (k : Int)) rfl rfl (by kernel_rfl) (by kernel_rfl) (by kernel_rfl) (fun _ _ _ h => h) (Or.inl ⟨by rfl, fun w' hw' => by go_simp⟩) hS ?_
           simp only [Act.put, lsA, lsZ, lsS]
           refine take_at (i := 1) 119 (v := .bool false) rfl rfl (by kernel_rfl) (by kernel_rfl) (by kernel_rfl) (fun _ _ _ h => h) (Or.inl ⟨by rfl, fun w' hw' => by go_simp⟩) hS ?_
           simp only [Act.put, lsA, lsZ, lsS]
           refine take_at (i := 2) 120 (v := .bool false) rfl rfl (by kernel_rfl) (by kernel_rfl) (by kernel_rfl) (fun _ _ _ h => h) (Or.inl ⟨by rfl, fun w' hw' => by go_simp⟩) hS ?_
           simp only [Act.put, lsA, lsZ, lsS]
           refine take_at (i := 3) 121 (v := undef) rfl rfl (by kernel_rfl) (by kernel_rfl) (by kernel_rfl) (fun _ _ _ h => h) (Or.inr ⟨by rfl, rfl⟩) hS ?_
           simp only [Act.put, lsA, lsZ, lsS]
           refine take_at (i := 4) 122 (v := undef) rfl rfl (by kernel_rfl) (by kernel_rfl) (by kernel_rfl) (fun _ _ _ h => h) (Or.inr ⟨by rfl, rfl⟩) hS ?_
           simp only [Act.put, lsA, lsZ, lsS]
           refine take_at (i := 5) 123 (v := undef) rfl rfl (by kernel_rfl) (by kernel_rfl) (by kernel_rfl) (fun _ _ _ h => h) (Or.inr ⟨by rfl, rfl⟩) hS ?_
           simp only [Act.put, lsA, lsZ, lsS]
           refine take_at (i := 6) 124 (v := undef) rfl rfl (by kernel_rfl) (by kernel_rfl) (by kernel_rfl) (fun _ _ _ h => h) (Or.inr ⟨by rfl, rfl⟩) hS ?_
           simp only [Act.put, lsA, lsZ, lsS]
           refine take_at (i := 7) 125 (v := .bool false) rfl rfl (by kernel_rfl) (by kernel_rfl) (by kernel_rfl) (fun _ _ _ h => h) (Or.inl ⟨by rfl, fun w' hw' => by go_simp⟩) hS ?_
           simp only [Act.put, lsA, lsZ, lsS]
           refine take_at (i := 8) 126 (v := .bool false) rfl rfl (by kernel_rfl) (by kernel_rfl) (by kernel_rfl) (fun _ _ _ h => h) (Or.inl ⟨by rfl, fun w' hw' => by go_simp⟩) hS ?_
           simp only [Act.put, lsA, lsZ, lsS]
           refine take_at (i := 9) 127 (v := .int .i64 (k : Int)) rfl rfl (by kernel_rfl) (by kernel_rfl) (by kernel_rfl) (fun _ _ _ h => h) (Or.inl ⟨by rfl, fun w' hw' => by go_simp⟩) hS ?_
           simp only [Act.put, lsA, lsZ, lsS]
           refine take_at (i := 10) 128 (v := .bool true) rfl rfl (by kernel_rfl) (by kernel_rfl) (by kernel_rfl) (fun _ _ _ h => h) (Or.inl ⟨by rfl, fun w' hw' => by go_simp⟩) hS ?_
           simp only [Act.put, lsA, lsZ, lsS]
           refine take_at (i := 11) 129 (v := .bool true) rfl rfl (by kernel_rfl) (by kernel_rfl) (by kernel_rfl) (fun _ _ _ h => h) (Or.inl ⟨by rfl, fun w' hw' => by go_simp⟩) hS ?_
           simp only [Act.put, lsA, lsZ, lsS]
           refine take_at (i := 12) 130 (v := .int .i64 (k : Int)) rfl rfl (by kernel_rfl) (by kernel_rfl) (by kernel_rfl) (fun _ _ _ h => h) (Or.inl ⟨by rfl, fun w' hw' => by go_simp⟩) hS ?_
           simp only [Act.put, lsA, lsZ, lsS]
           refine take_at (i := 13) 131 (v := .int .i64 (i : Int)) rfl rfl (by kernel_rfl) (by kernel_rfl) (by kernel_rfl) (fun _ _ _ h => h) (Or.inl ⟨by rfl, fun w' hw' => by go_simp⟩) hS ?_
           simp only [Act.put, lsA, lsZ, lsS]
           refine take_at (i := 14) 132 (v := .int .i64 ((i : Int) + 1)) rfl rfl (by kernel_rfl) (by kernel_rfl) (by kernel_rfl) (fun _ _ _ h => h) (Or.inl ⟨by rfl, fun w' hw' => by go_simp⟩) hS ?_
           simp only [Act.put, lsA, lsZ, lsS]
           refine take_at (i := 15) 133 (v := .bool true) rfl rfl (by kernel_rfl) (by kernel_rfl) (by kernel_rfl) (fun _ _ _ h => h) (Or.inl ⟨by rfl, fun w' hw' => by go_simp⟩) hS ?_
           simp only [Act.put, lsA, lsZ, lsS]
           refine take_at (i := 16) 134 (v := .bool true) rfl rfl (by kernel_rfl) (by kernel_rfl) (by kernel_rfl) (fun _ _ _ h => h) (Or.inl ⟨by rfl, fun w' hw' => by go_simp⟩) hS ?_
           simp only [Act.put, lsA, lsZ, lsS]
           refine take_at (i := 17) 135 (v := .bool true) rfl rfl (by kernel_rfl) (by kernel_rfl) (by kernel_rfl) (fun _ _ _ h => h) (Or.inl ⟨by rfl, fun w' hw' => by go_simp⟩) hS ?_
           simp only [Act.put, lsA, lsZ, lsS]
           refine take_at (i := 18) 136 (v := .slice (some ⟨ba, off, none⟩) es.length cap) rfl rfl (by kernel_rfl) (by kernel_rfl) (by kernel_rfl) (fun _ _ _ h => h) (Or.inl ⟨by rfl, fun w' hw' => by go_simp⟩) hS ?_
           simp only [Act.put, lsA, lsZ, lsS]
           refine take_at (i := 19) 137 (v := .int .i64 (k : Int)) rfl rfl (by kernel_rfl) (by kernel_rfl) (by kernel_rfl) (fun _ _ _ h => h) (Or.inl ⟨by rfl, fun w' hw' => by go_simp⟩) hS ?_
           simp only [Act.put, lsA, lsZ, lsS]
           refine take_at (i := 20) 138 (v := .int .i64 (n : Int)) rfl rfl (by kernel_rfl) (by kernel_rfl) (by kernel_rfl) (fun _ _ _ h => h) (Or.inl ⟨by rfl, fun w' hw' => by go_simp⟩) hS ?_
           simp only [Act.put, lsA, lsZ, lsS]
           refine take_at (i := 21) 139 (v := .pointer (some ⟨ba, o2, none⟩)) rfl rfl (by kernel_rfl) (by kernel_rfl) (by kernel_rfl) (fun _ _ _ h => h) (Or.inl ⟨by rfl, fun w' hw' => by go_simp⟩) hS ?_
           simp only [Act.put, lsA, lsZ, lsS]
           refine take_at (i := 22) 140 (v := .agg #[.int .i64 (sn.f 0), .int .i64 (sn.f 1), .int .i64 (sn.f 2), .int .i64 (sn.f 3), .int .i64 (sn.f 4), .int .i64 (sn.f 5), .int .i64 (sn.f 6), .int .i64 (sn.f 7), .slice sn.a sn.l.length sn.cap]) rfl rfl (by kernel_rfl) (by kernel_rfl) (by kernel_rfl) (fun _ _ _ h => h) (Or.inl ⟨by rfl, fun w' hw' => by obtain ⟨x0, x1, x2, x3, x4, x5, x6, x7, x8⟩ := svc9 (cellsJ_off hw' HC2n.out); go_simp⟩) hS ?_
           simp only [Act.put, lsA, lsZ, lsS]
           refine take_at (i := 23) 141 (v := .agg #[.int .i64 (u2.f 0), .int .i64 (u2.f 1), .int .i64 (u2.f 2), .int .i64 (u2.f 3), .int .i64 (u2.f 4), .int .i64 (u2.f 5), .int .i64 (u2.f 6), .int .i64 (u2.f 7), .slice u2.a u2.l.length u2.cap]) rfl rfl (by kernel_rfl) (by kernel_rfl) (by kernel_rfl) (fun _ _ _ h => h) (Or.inl ⟨by rfl, fun w' hw' => by obtain ⟨x0, x1, x2, x3, x4, x5, x6, x7, x8⟩ := cel9 (HCWr.out.off hw' (fun h => h)); go_simp⟩) hS ?_
           simp only [Act.put, lsA, lsZ, lsS]
           refine wpAnyH_ready (rs := [24]) (by kernel_rfl) (by simp) ?_
           refine AllReadyH.cons rfl (fun K' hK' => ?_) AllReadyH.nil
           go_simp
           refine Calls.mono (sgsame sn u2 _ (HR2n.out.off hS) (HURr.out.off hS)) ?_
           rintro e0 w3 ⟨rfl, o3⟩
           rw [HSB.out]
           refine hK'.out _ _ (hS.trans o3 (fun _ _ h => h)) (fun hS => ?_)
           clear hK' K' o3
           refine take_at (i := 25) 143 (v := .bool false) rfl rfl (by kernel_rfl) (by kernel_rfl) (by kernel_rfl) (fun _ _ _ h => h) (Or.inl ⟨by rfl, fun w' hw' => by go_simp⟩) hS ?_
           simp only [Act.put, lsA, lsZ, lsS]
           refine take_at (i := 26) 144 (v := .bool false) rfl rfl (by kernel_rfl) (by kernel_rfl) (by kernel_rfl) (fun _ _ _ h => h) (Or.inl ⟨by rfl, fun w' hw' => by go_simp⟩) hS ?_
           simp only [Act.put, lsA, lsZ, lsS]
           refine take_at (i := 27) 145 (v := .bool false) rfl rfl (by kernel_rfl) (by kernel_rfl) (by kernel_rfl) (fun _ _ _ h => h) (Or.inl ⟨by rfl, fun w' hw' => by go_simp⟩) hS ?_
           simp only [Act.put, lsA, lsZ, lsS]
           refine take_at (i := 28) 21 (v := .bool false) rfl rfl (by kernel_rfl) (by kernel_rfl) (by kernel_rfl) (fun _ _ _ h => h) (Or.inl ⟨by rfl, fun w' hw' => by go_simp⟩) hS ?_
           simp only [Act.put, lsA, lsZ, lsS]
           refine wpAnyH_done (by kernel_rfl) ?_ _
           have HW9 : Hid _ := HW.out.trans hS (fun _ _ h => h)
           have HRI : Hid _ := rin_any (HIr.out.off hS (fun _ _ _ h => h)) (by have := HL8.out; omega) (k : Int)
           have hin := HIN.out
           clear hS
           go_wp2_with fail
           refine Calls.mono HRI.out ?_
           rintro e v9 ⟨rfl, hw⟩
           rw [hw, hin]
           clear hw v9 hin
           go_wp2_with fail
           go_roundw
           case rel => exact ⟨k + 1, by go_num, by omega, HW9⟩
           case measure => simp [vInt]; omega
         ·have d2 : decide ((k : Int) ≤ (i : Int) + 1) = false := decide_eq_false (by omega)
          have HIN : Hid (inB L (k : Int) = false) := by
           show inB L (k : Int) = false
           rw [HLL.out]
           exact js_inN key x.abs es m (by omega)
          go_wp2_with fail
          refine wp_region_held_drew (S := Off (fun _ => False) wq) (by kernel_rfl) ((Off.refl (fun _ => False) wq).drew) (fun hS => ?_)
          refine take_at (i := 0) 118 (v := .int .i64 (k : Int)) rfl rfl (by kernel_rfl) (by kernel_rfl) (by kernel_rfl) (fun _ _ _ h => h) (Or.inl ⟨by rfl, fun w' hw' => by go_simp⟩) hS ?_
          simp only [Act.put, lsA, lsZ, lsS]
          refine take_at (i := 1) 119 (v := .bool false) rfl rfl (by kernel_rfl) (by kernel_rfl) (by kernel_rfl) (fun _ _ _ h => h) (Or.inl ⟨by rfl, fun w' hw' => by go_simp⟩) hS ?_
          simp only [Act.put, lsA, lsZ, lsS]
          refine take_at (i := 2) 120 (v := .bool false) rfl rfl (by kernel_rfl) (by kernel_rfl) (by kernel_rfl) (fun _ _ _ h => h) (Or.inl ⟨by rfl, fun w' hw' => by go_simp⟩) hS ?_
          simp only [Act.put, lsA, lsZ, lsS]
          refine take_at (i := 3) 121 (v := undef) rfl rfl (by kernel_rfl) (by kernel_rfl) (by kernel_rfl) (fun _ _ _ h => h) (Or.inr ⟨by rfl, rfl⟩) hS ?_
          simp only [Act.put, lsA, lsZ, lsS]
          refine take_at (i := 4) 122 (v := undef) rfl rfl (by kernel_rfl) (by kernel_rfl) (by kernel_rfl) (fun _ _ _ h => h) (Or.inr ⟨by rfl, rfl⟩) hS ?_
          simp only [Act.put, lsA, lsZ, lsS]
          refine take_at (i := 5) 123 (v := undef) rfl rfl (by kernel_rfl) (by kernel_rfl) (by kernel_rfl) (fun _ _ _ h => h) (Or.inr ⟨by rfl, rfl⟩) hS ?_
          simp only [Act.put, lsA, lsZ, lsS]
          refine take_at (i := 6) 124 (v := undef) rfl rfl (by kernel_rfl) (by kernel_rfl) (by kernel_rfl) (fun _ _ _ h => h) (Or.inr ⟨by rfl, rfl⟩) hS ?_
          simp only [Act.put, lsA, lsZ, lsS]
          refine take_at (i := 7) 125 (v := .bool false) rfl rfl (by kernel_rfl) (by kernel_rfl) (by kernel_rfl) (fun _ _ _ h => h) (Or.inl ⟨by rfl, fun w' hw' => by go_simp⟩) hS ?_
          simp only [Act.put, lsA, lsZ, lsS]
          refine take_at (i := 8) 126 (v := .bool false) rfl rfl (by kernel_rfl) (by kernel_rfl) (by kernel_rfl) (fun _ _ _ h => h) (Or.inl ⟨by rfl, fun w' hw' => by go_simp⟩) hS ?_
          simp only [Act.put, lsA, lsZ, lsS]
          refine take_at (i := 9) 127 (v := .int .i64 (k : Int)) rfl rfl (by kernel_rfl) (by kernel_rfl) (by kernel_rfl) (fun _ _ _ h => h) (Or.inl ⟨by rfl, fun w' hw' => by go_simp⟩) hS ?_
          simp only [Act.put, lsA, lsZ, lsS]
          refine take_at (i := 10) 128 (v := .bool true) rfl rfl (by kernel_rfl) (by kernel_rfl) (by kernel_rfl) (fun _ _ _ h => h) (Or.inl ⟨by rfl, fun w' hw' => by go_simp⟩) hS ?_
          simp only [Act.put, lsA, lsZ, lsS]
          refine take_at (i := 11) 129 (v := .bool true) rfl rfl (by kernel_rfl) (by kernel_rfl) (by kernel_rfl) (fun _ _ _ h => h) (Or.inl ⟨by rfl, fun w' hw' => by go_simp⟩) hS ?_
          simp only [Act.put, lsA, lsZ, lsS]
          refine take_at (i := 12) 130 (v := .int .i64 (k : Int)) rfl rfl (by kernel_rfl) (by kernel_rfl) (by kernel_rfl) (fun _ _ _ h => h) (Or.inl ⟨by rfl, fun w' hw' => by go_simp⟩) hS ?_
          simp only [Act.put, lsA, lsZ, lsS]
          refine take_at (i := 13) 131 (v := .int .i64 (i : Int)) rfl rfl (by kernel_rfl) (by kernel_rfl) (by kernel_rfl) (fun _ _ _ h => h) (Or.inl ⟨by rfl, fun w' hw' => by go_simp⟩) hS ?_
          simp only [Act.put, lsA, lsZ, lsS]
          refine take_at (i := 14) 132 (v := .int .i64 ((i : Int) + 1)) rfl rfl (by kernel_rfl) (by kernel_rfl) (by kernel_rfl) (fun _ _ _ h => h) (Or.inl ⟨by rfl, fun w' hw' => by go_simp⟩) hS ?_
          simp only [Act.put, lsA, lsZ, lsS]
          refine take_at (i := 15) 133 (v := .bool false) rfl rfl (by kernel_rfl) (by kernel_rfl) (by kernel_rfl) (fun _ _ _ h => h) (Or.inl ⟨by rfl, fun w' hw' => by go_simp⟩) hS ?_
          simp only [Act.put, lsA, lsZ, lsS]
          refine take_at (i := 16) 134 (v := .bool false) rfl rfl (by kernel_rfl) (by kernel_rfl) (by kernel_rfl) (fun _ _ _ h => h) (Or.inl ⟨by rfl, fun w' hw' => by go_simp⟩) hS ?_
          simp only [Act.put, lsA, lsZ, lsS]
          refine take_at (i := 17) 135 (v := .bool false) rfl rfl (by kernel_rfl) (by kernel_rfl) (by kernel_rfl) (fun _ _ _ h => h) (Or.inl ⟨by rfl, fun w' hw' => by go_simp⟩) hS ?_
          simp only [Act.put, lsA, lsZ, lsS]
          refine take_at (i := 18) 136 (v := undef) rfl rfl (by kernel_rfl) (by kernel_rfl) (by kernel_rfl) (fun _ _ _ h => h) (Or.inr ⟨by rfl, rfl⟩) hS ?_
          simp only [Act.put, lsA, lsZ, lsS]
          refine take_at (i := 19) 137 (v := undef) rfl rfl (by kernel_rfl) (by kernel_rfl) (by kernel_rfl) (fun _ _ _ h => h) (Or.inr ⟨by rfl, rfl⟩) hS ?_
          simp only [Act.put, lsA, lsZ, lsS]
          refine take_at (i := 20) 138 (v := undef) rfl rfl (by kernel_rfl) (by kernel_rfl) (by kernel_rfl) (fun _ _ _ h => h) (Or.inr ⟨by rfl, rfl⟩) hS ?_
          simp only [Act.put, lsA, lsZ, lsS]
          refine take_at (i := 21) 139 (v := undef) rfl rfl (by kernel_rfl) (by kernel_rfl) (by kernel_rfl) (fun _ _ _ h => h) (Or.inr ⟨by rfl, rfl⟩) hS ?_
          simp only [Act.put, lsA, lsZ, lsS]
          refine take_at (i := 22) 140 (v := undef) rfl rfl (by kernel_rfl) (by kernel_rfl) (by kernel_rfl) (fun _ _ _ h => h) (Or.inr ⟨by rfl, rfl⟩) hS ?_
          simp only [Act.put, lsA, lsZ, lsS]
          refine take_at (i := 23) 141 (v := undef) rfl rfl (by kernel_rfl) (by kernel_rfl) (by kernel_rfl) (fun _ _ _ h => h) (Or.inr ⟨by rfl, rfl⟩) hS ?_
          simp only [Act.put, lsA, lsZ, lsS]
          refine take_at (i := 24) 142 (v := undef) rfl rfl (by kernel_rfl) (by kernel_rfl) (by kernel_rfl) (fun _ _ _ h => h) (Or.inr ⟨by rfl, rfl⟩) hS ?_
          simp only [Act.put, lsA, lsZ, lsS]
          refine take_at (i := 25) 143 (v := undef) rfl rfl (by kernel_rfl) (by kernel_rfl) (by kernel_rfl) (fun _ _ _ h => h) (Or.inr ⟨by rfl, rfl⟩) hS ?_
          simp only [Act.put, lsA, lsZ, lsS]
          refine take_at (i := 26) 144 (v := .bool false) rfl rfl (by kernel_rfl) (by kernel_rfl) (by kernel_rfl) (fun _ _ _ h => h) (Or.inl ⟨by rfl, fun w' hw' => by go_simp⟩) hS ?_
          simp only [Act.put, lsA, lsZ, lsS]
          refine take_at (i := 27) 145 (v := .bool false) rfl rfl (by kernel_rfl) (by kernel_rfl) (by kernel_rfl) (fun _ _ _ h => h) (Or.inl ⟨by rfl, fun w' hw' => by go_simp⟩) hS ?_
          simp only [Act.put, lsA, lsZ, lsS]
          refine take_at (i := 28) 21 (v := .bool false) rfl rfl (by kernel_rfl) (by kernel_rfl) (by kernel_rfl) (fun _ _ _ h => h) (Or.inl ⟨by rfl, fun w' hw' => by go_simp⟩) hS ?_
          simp only [Act.put, lsA, lsZ, lsS]
          refine wpAnyH_done (by kernel_rfl) ?_ _
          have HW9 : Hid _ := HW.out.trans hS (fun _ _ h => h)
          have HRI : Hid _ := rin_any (HIr.out.off hS (fun _ _ _ h => h)) (by have := HL8.out; omega) (k : Int)
          have hin := HIN.out
          clear hS
          go_wp2_with fail
          refine Calls.mono HRI.out ?_
          rintro e v9 ⟨rfl, hw⟩
          rw [hw, hin]
          clear hw v9 hin
          go_wp2_with fail
          go_roundw
          case rel => exact ⟨k + 1, by go_num, by omega, HW9⟩
          case measure => simp [vInt]; omega
       ·have d8 : decide ((k : Int) < 8) = false := decide_eq_false (by omega)
        rename World => wq
        have HOr : Hid (Off (fun _ => False) w wq) := HO7.out.trans HW.out (fun _ _ h => h)
        have HAW : Hid _ := awake_any wq
        go_wp2_with fail
        refine Calls.mono HAW.out ?_
        rintro e v9 ⟨rfl, o9⟩
        have HO9 : Hid _ := HOr.out.trans o9 (fun _ _ h => h)
        clear o9
        go_wp2_with fail
        go_ret
        exact ⟨rfl, HO9.out⟩
     ·rw [js_more x.abs (by omega) hmk hm2] at e6 hr6
      obtain rfl := hr6
      have dm : ((i : Int) + 2 == (m : Int)) = false := beq_eq_false_iff_ne.2 hm2
      have HCS6 : Hid _ := c6
      have HE6 : Hid (y6.abs = jsA key x.abs es m (i + 1)) := e6
      clear c6 e6
      go_wp2_with fail
      go_roundw
      case rel => exact ⟨i + 1, y6, D6, Z6, u2, by go_num, by omega, by omega, HCS6, HE6, HO6, HC6, HCW6, HS6, HU2, HZ6, HD6⟩
      case measure => simp [vInt]; omega
    ·have d1 : decide ((i : Int) < (es.length : Int)) = false := decide_eq_false (by omega)
     have hL := clen_any HCS.out
     have hlen : y.t.length = 1 := by have := congrArg (fun c => c.t.length) HE.out; simpa [CM.abs, jsA] using this
     have hanl : y.an.length = 0 := by have := congrArg (fun c => c.an.length) HE.out; simpa [CM.abs, jsA] using this
     rw [hlen, show ((1 : Nat) : Int) = 1 from rfl] at hL
     have HL : Hid _ := hL
     have HAN : Hid _ := canswers_any HCS.out
     have HANL : Hid (y.an.length = 0) := hanl
     have HNO : Hid (∀ i, i < w.heap.size → D i → False) := fun c hc d => by have := HZ.out c (HCS.out.sub c d); omega
     clear hL hlen hanl HCS HE
     go_wp2_with fail
     refine Calls.mono HL.out ?_
     rintro e v5 ⟨rfl, hw⟩
     rw [hw]
     clear hw v5 HL
     go_wp2_with fail
     refine Calls.mono HAN.out ?_
     rintro e v6 ⟨rfl, own, oks, c6, g6⟩
     rw [HANL.out]
     have HO6 : Hid (Off (fun _ => False) w v6) := HO.out.trans g6.off (fun i hi d => HNO.out i hi d)
     clear own oks c6 g6 HAN HO
     go_wp2_with fail
     refine Calls.mono (awake_any v6) ?_
     rintro e v7 ⟨rfl, o7⟩
     have HO7 : Hid _ := HO6.out.trans o7 (fun _ _ h => h)
     clear o7 HO6
     go_wp2_with fail
     go_ret
     exact ⟨rfl, HO7.out⟩
end Go.Proofs.Ytmjmgdbhmbjmaaa
