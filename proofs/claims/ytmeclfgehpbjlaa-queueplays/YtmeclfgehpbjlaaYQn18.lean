/- Items of several texts. -/
import Derived.Test.YtmeclfgehpbjlaaYQc18
namespace Go.Proofs.Ytmeclfgehpbjlaa
set_option maxRecDepth 100000
open Go.RowKit
structure QuN (W : World) (p : Nat) (l : List (Int × Int)) (most r t : Int) (w : World) : Prop where
 is : ∃ D : Nat → Prop, QuI D p l most r t w ∧ ∀ c, D c → W.heap.size ≤ c
 off : Off (fun _ => False) W w
theorem QuN.keep {W : World} {p : Nat} {l : List (Int × Int)} {most r t : Int} {w w' : World} (h : QuN W p l most r t w) (o : Off (fun _ => False) w w') : QuN W p l most r t w' := by
 obtain ⟨D, hq, hd⟩ := h.is
 exact ⟨⟨D, ⟨hq.q.free o⟩, hd⟩, h.off.trans o (fun _ _ h => h)⟩
theorem own_off {D : Nat → Prop} {W w w' : World} (h : Off (fun _ => False) W w) (hd : ∀ c, D c → W.heap.size ≤ c) (o : Off (fun c => D c) w w') : Off (fun _ => False) W w' :=
 h.trans o (fun i hi e => by have := hd i e; omega)
theorem nnew_any (x : Int) (w : World) : Calls Try.prog 9 #[.int .i64 x] w fun e w' => ∃ p : Nat, e = .returned (.pointer (some ⟨p, 0, none⟩)) ∧ QuN w p [] (clq x) 0 0 w' := by
 refine (qnew_any x w).mono ?_
 rintro e w' ⟨p, D, rfl, hq, hd, o⟩
 exact ⟨p, rfl, ⟨D, ⟨hq⟩, hd⟩, o⟩
theorem nput_yes {W : World} {p : Nat} {l : List (Int × Int)} {most r t : Int} {w : World} (h : QuN W p l most r t w) (k u : Int) (hroom : (l.length : Int) < most) (ht : 0 ≤ t ∧ t ≤ 1000000000) :
  Calls Try.prog 12 #[.pointer (some ⟨p, 0, none⟩), (.agg #[.int .i64 (mm k).k, .int .i64 (mm k).fr, .int .i64 (mm k).tn, .int .i64 (mm k).op, .int .i64 (mm k).fo, .string (mm k).key, .int .i64 (mm k).bk, .slice (mm k).ea (mm k).el (mm k).ec, .slice (mm k).da (mm k).dl (mm k).dc, .slice (mm k).ma (mm k).ml (mm k).mc]), .int .i64 u] w fun e w' => e = .returned (.int .i64 0) ∧ QuN W p (insQ (wgt u - t) k l) most r t w' := by
 obtain ⟨D, hq, hd⟩ := h.is
 refine (iput_yes hq k u hroom ht).mono ?_
 rintro e w' ⟨D', rfl, hq', hd', o⟩
 have hs := h.off.size
 exact ⟨rfl, ⟨D', hq', fun c hc => by rcases hd' c hc with h | h; exact hd c h; omega⟩, own_off h.off hd o⟩
theorem ntake_some {W : World} {p : Nat} {l : List (Int × Int)} {k b : Int} {most r t : Int} {w : World} (h : QuN W p (l ++ [(k, b)]) most r t w) :
  Calls Try.prog 14 #[.pointer (some ⟨p, 0, none⟩)] w fun e w' => e = .returned (.tuple #[(.agg #[.int .i64 (mm k).k, .int .i64 (mm k).fr, .int .i64 (mm k).tn, .int .i64 (mm k).op, .int .i64 (mm k).fo, .string (mm k).key, .int .i64 (mm k).bk, .slice (mm k).ea (mm k).el (mm k).ec, .slice (mm k).da (mm k).dl (mm k).dc, .slice (mm k).ma (mm k).ml (mm k).mc]), .bool true]) ∧ QuN W p l most r t w' := by
 obtain ⟨D, hq, hd⟩ := h.is
 refine (itake_some hq).mono ?_
 rintro e w' ⟨rfl, hq', o⟩
 exact ⟨rfl, ⟨D, hq', hd⟩, own_off h.off hd o⟩
theorem ntick_any {W : World} {p : Nat} {l : List (Int × Int)} {most r t : Int} {w : World} (h : QuN W p l most r t w) (ht : 0 ≤ t ∧ t ≤ 1000000000) :
  Calls Try.prog 17 #[.pointer (some ⟨p, 0, none⟩)] w fun e w' => e = .returned (.tuple #[]) ∧ QuN W p l most r (t + 1) w' := by
 obtain ⟨D, hq, hd⟩ := h.is
 refine (qtick_any hq.q ht.1 ht.2).mono ?_
 rintro e w' ⟨rfl, hq', o⟩
 exact ⟨rfl, ⟨D, ⟨hq'⟩, hd⟩, own_off h.off hd o⟩
theorem nlen_any {W : World} {p : Nat} {l : List (Int × Int)} {most r t : Int} {w : World} (h : QuN W p l most r t w) :
  Calls Try.prog 19 #[.pointer (some ⟨p, 0, none⟩)] w fun e w' => e = .returned (.int .i64 (l.length : Int)) ∧ w' = w := by
 obtain ⟨D, hq, hd⟩ := h.is
 have := qlen_any hq.q
 rwa [its_len] at this
set_option maxHeartbeats 2000000 in
theorem awake_any (w : World) : Calls Try.prog 21 #[] w fun e w' => e = .returned (.bool true) ∧ Off (fun _ => False) w w' := by
 have HN : Hid _ := nnew_any 4 w
 rw [show clq 4 = 4 by decide] at HN
 go_enter Try.func21, Try.ntmps21
 go_wp2_with fail
 refine Calls.mono HN.out ?_
 rintro e w1 ⟨p, rfl, h1⟩
 have H1 : Hid _ := h1
 clear h1 HN
 go_wp2_with fail
 refine (msg_any 1 _).mono ?_
 rintro e w2 ⟨rfl, o2⟩
 have H2 : Hid _ := H1.out.keep o2
 clear o2 H1
 go_wp2_with fail
 refine (nput_yes H2.out 1 0 (by decide) (by decide)).mono ?_
 rintro e w3 ⟨rfl, h3⟩
 rw [show insQ (wgt 0 - 0) 1 [] = [(1, 0)] by decide] at h3
 have H3 : Hid _ := h3
 clear h3 H2
 go_wp2_with fail
 go_loopw [8] (fun s wr => ∃ i : Nat, s = .int .i64 (i : Int) ∧ i ≤ 5 ∧ QuN w p [(1, 0)] 4 0 (i : Int) wr) (fun s _ => (5 - intOf s).toNat)
 case atStart => exact ⟨0, rfl, by omega, H3.out⟩
 case round =>
  obtain ⟨i, rfl, hi, hq⟩ := hrel
  have HQ : Hid _ := hq
  clear hq H3
  by_cases h5 : i < 5
  ·go_wp2_with fail
   refine (ntick_any HQ.out (by omega)).mono ?_
   rintro e w4 ⟨rfl, h4⟩
   have H4 : Hid _ := h4
   clear h4 HQ
   go_wp2_with fail
   go_roundw
   case rel => exact ⟨i + 1, by go_num, by omega, H4.out⟩
   case measure => simp [intOf]; omega
  ·obtain rfl : i = 5 := by omega
   clear hi h5
   go_wp2_with fail
   refine (msg_any 2 _).mono ?_
   rintro e w4 ⟨rfl, o4⟩
   have H4 : Hid _ := HQ.out.keep o4
   clear o4 HQ
   go_wp2_with fail
   refine (nput_yes H4.out 2 1 (by decide) (by decide)).mono ?_
   rintro e w5 ⟨rfl, h5⟩
   rw [show insQ (wgt 1 - ((5 : Nat) : Int)) 2 [(1, 0)] = [(2, -1)] ++ [(1, 0)] by decide] at h5
   have H5 : Hid _ := h5
   clear h5 H4
   go_wp2_with fail
   refine (ntake_some H5.out).mono ?_
   rintro e w6 ⟨rfl, h6⟩
   have H6 : Hid (QuN w p [(2, -1)] 4 0 ((5 : Nat) : Int) w6) := h6
   clear h6 H5
   go_upto_region 9 with fail
   have O7 : Off (fun _ => False) w6 (w6.alloc (.cells #[.int .i64 (mm 1).k, .int .i64 (mm 1).fr, .int .i64 (mm 1).tn, .int .i64 (mm 1).op, .int .i64 (mm 1).fo, .string (mm 1).key, .int .i64 (mm 1).bk, .slice (mm 1).ea (mm 1).el (mm 1).ec, .slice (mm 1).da (mm 1).dl (mm 1).dc, .slice (mm 1).ma (mm 1).ml (mm 1).mc] 31)) := (Off.refl _ w6).alloc _
   have C7 : Cel w6.heap.size 31 #[.int .i64 (mm 1).k, .int .i64 (mm 1).fr, .int .i64 (mm 1).tn, .int .i64 (mm 1).op, .int .i64 (mm 1).fo, .string (mm 1).key, .int .i64 (mm 1).bk, .slice (mm 1).ea (mm 1).el (mm 1).ec, .slice (mm 1).da (mm 1).dl (mm 1).dc, .slice (mm 1).ma (mm 1).ml (mm 1).mc] (w6.alloc (.cells #[.int .i64 (mm 1).k, .int .i64 (mm 1).fr, .int .i64 (mm 1).tn, .int .i64 (mm 1).op, .int .i64 (mm 1).fo, .string (mm 1).key, .int .i64 (mm 1).bk, .slice (mm 1).ea (mm 1).el (mm 1).ec, .slice (mm 1).da (mm 1).dl (mm 1).dc, .slice (mm 1).ma (mm 1).ml (mm 1).mc] 31)) := Cel.new w6 _ _
   generalize hv : w6.alloc (.cells #[.int .i64 (mm 1).k, .int .i64 (mm 1).fr, .int .i64 (mm 1).tn, .int .i64 (mm 1).op, .int .i64 (mm 1).fo, .string (mm 1).key, .int .i64 (mm 1).bk, .slice (mm 1).ea (mm 1).el (mm 1).ec, .slice (mm 1).da (mm 1).dl (mm 1).dc, .slice (mm 1).ma (mm 1).ml (mm 1).mc] 31) = w7 at O7 C7 ⊢
   have c3 : w7.cell? ⟨w6.heap.size, 3, none⟩ = some (.int .i64 1) := C7.cell 3
   have H7 : Hid _ := H6.out.keep O7
   clear hv O7 C7 H6
   go_wp2_with fail
   refine (nlen_any H7.out).mono ?_
   rintro e w8 ⟨rfl, hw⟩
   rw [hw]
   clear hw w8
   have dl : ((([(2, -1)] : List (Int × Int)).length : Int) == 1) = true := by decide
   go_wp2_with fail
   go_ret
   exact ⟨rfl, H7.out.off⟩
end Go.Proofs.Ytmeclfgehpbjlaa
