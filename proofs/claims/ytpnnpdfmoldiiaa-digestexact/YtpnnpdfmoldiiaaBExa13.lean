/- Items of several texts. -/
import Derived.Deep.Cut
import Derived.Deep.RegionHeld
import Derived.Test.YtpnnpdfmoldiiaaBJoi
import Derived.Test.YtpnnpdfmoldiiaaBSam
import Derived.Test.YtpnnpdfmoldiiaaBLaw10
import Derived.Test.YtpnnpdfmoldiiaaBArg5
import Derived.Test.YtpnnpdfmoldiiaaBDg0
import Derived.Test.YtpnnpdfmoldiiaaBAgr
import Derived.Test.YtpnnpdfmoldiiaaBLaw13
import Derived.Test.YtpnnpdfmoldiiaaBRefS
import Derived.Test.YtpnnpdfmoldiiaaBSmd
import Derived.Test.YtpnnpdfmoldiiaaBSRe
namespace Go.Proofs.Ytpnnpdfmoldiiaa
open Go.RowKit
structure Ex1 (key : ByteArray) (fa fb : Nat → Int) (aa ab : Option Addr) (ca cb : Nat) (la lb : List V) (w0 w : World) (s7 s8 : Value) (q7 q8 : Nat) : Prop where
 e7 : s7 = .pointer (some ⟨q7, 0, none⟩)
 e8 : s8 = .pointer (some ⟨q8, 0, none⟩)
 c7 : Cel q7 40 #[.string key, .int .i64 (fa 0), .int .i64 (fa 1), .int .i64 (fa 2), .int .i64 (fa 3), .int .i64 (fa 4), .int .i64 (fa 5), .int .i64 (fa 6), .int .i64 (fa 7), .slice aa la.length ca] w
 c8 : Cel q8 40 #[.string key, .int .i64 (fb 0), .int .i64 (fb 1), .int .i64 (fb 2), .int .i64 (fb 3), .int .i64 (fb 4), .int .i64 (fb 5), .int .i64 (fb 6), .int .i64 (fb 7), .slice ab lb.length cb] w
 off : Off (fun _ => False) w0 w
structure Ex4 (x y : GK) (w0 w : World) (s9 s10 : Value) (t1 t2 : Option Addr) (c1 c2 : Nat) (g1 g2 : G) : Prop where
 e9 : s9 = .slice t1 1 c1
 e10 : s10 = .slice t2 1 c2
 d1 : Dgs w t1 c1 [g1]
 d2 : Dgs w t2 c2 [g2]
 a1 : g1.abs = x
 a2 : g2.abs = y
 off : Off (fun _ => False) w0 w
theorem dof1_any (x : E) (q : Nat) (w : World) (h : Ens w (some ⟨q, 0, none⟩) 1 [x]) : Calls Try.prog 16 #[.slice (some ⟨q, 0, none⟩) 1 1] w fun e w' => ∃ (t : Option Addr) (c : Nat) (g : G), e = .returned (.slice t 1 c) ∧ Dgs w' t c [g] ∧ g.abs = ofE x ∧ Off (fun _ => False) w w' := by
 refine (dof_any (some ⟨q, 0, none⟩) 1 [x] w h (by simp)).mono ?_
 rintro e w' ⟨t, c, gs, he, own, ds, dat, o⟩
 obtain ⟨g, rfl⟩ : ∃ g, gs = [g] := by
  rcases gs with _ | ⟨g, _ | ⟨g2, gs⟩⟩
  ·simp at dat
  ·exact ⟨g, rfl⟩
  ·simp at dat
 exact ⟨t, c, g, he, own.dgs (fun g' hg => (ds g' hg).rowD), by simpa using dat, o⟩
theorem dgs_at {w : World} {t : Option Addr} {c : Nat} {g : G} (h : Dgs w t c [g]) : ∃ b o, t = some ⟨b, o, none⟩ ∧ (∀ j u, (gcs g)[j]? = some u → w.cell? ⟨b, o + j, none⟩ = some u) ∧ RowD w g.a g.cap g.ds := by
 obtain ⟨b, o, e, k, r⟩ := h.at_ 0 g rfl
 exact ⟨b, o, e, fun j u hj => by have := k j u hj; rwa [Nat.zero_mul, Nat.add_zero] at this, r⟩
theorem idx_dgs0 (c g o : Nat) (W : World) : (Instr.indexAt 30 (.slice (some ⟨g, o, none⟩) 1 c) (.int .i64 0)).run Try.prog W = .ok (.pointer (some ⟨g, o, none⟩)) W := by
 have := idx_dgs (m := 1) (n := 0) (by omega) c g o W
 simpa using this
theorem lacks_at (key : ByteArray) (f : Nat → Int) (a : Option Addr) (ca : Nat) (l : List V) (g : G) (w : World) (hr : Row w a ca l) (hl : l.length ≤ 1000) (hd : RowD w g.a g.cap g.ds) {r : Bool} (h : lacksB key f (cont l) g.abs = r) :
  Calls Try.prog 20 #[.agg #[.string key, .int .i64 (f 0), .int .i64 (f 1), .int .i64 (f 2), .int .i64 (f 3), .int .i64 (f 4), .int .i64 (f 5), .int .i64 (f 6), .int .i64 (f 7), .slice a l.length ca], .agg #[.string g.key, .int .i64 (g.f 0), .int .i64 (g.f 1), .int .i64 (g.f 2), .int .i64 (g.f 3), .int .i64 (g.f 4), .int .i64 (g.f 5), .int .i64 (g.f 6), .int .i64 (g.f 7), .slice g.a g.ds.length g.cap]] w fun e w' => e = .returned (.bool r) ∧ Off (fun _ => False) w w' := by
 rw [← h]
 exact lacks_any ⟨key, f, a, ca, l⟩ g w hr hl hd
set_option maxRecDepth 100000 in
set_option maxHeartbeats 8000000 in
theorem exact_walk (key : ByteArray) (fa : Nat → Int) (aa : Option Addr) (ca : Nat) (la : List V) (fb : Nat → Int) (ab : Option Addr) (cb : Nat) (lb : List V) (w : World) (_ : key.size ≤ 140737488351232) (_ : ∀ j, j < 8 → -9223372036854775808 ≤ fa j ∧ fa j ≤ 9223372036854775807) (hra : Row w aa ca la) (_ : ∀ j, j < 8 → -9223372036854775808 ≤ fb j ∧ fb j ≤ 9223372036854775807) (hrb : Row w ab cb lb) :
  Calls Try.prog 6 #[.string key, .agg #[.int .i64 (fa 0), .int .i64 (fa 1), .int .i64 (fa 2), .int .i64 (fa 3), .int .i64 (fa 4), .int .i64 (fa 5), .int .i64 (fa 6), .int .i64 (fa 7), .slice aa la.length ca], .agg #[.int .i64 (fb 0), .int .i64 (fb 1), .int .i64 (fb 2), .int .i64 (fb 3), .int .i64 (fb 4), .int .i64 (fb 5), .int .i64 (fb 6), .int .i64 (fb 7), .slice ab lb.length cb]] w fun e w' => e = .returned (.bool true) ∧ Off (fun _ => False) w w' := by
 have hnot := not_any
 have C4 := (Cel.new w 38 #[.int .i64 (fa 0), .int .i64 (fa 1), .int .i64 (fa 2), .int .i64 (fa 3), .int .i64 (fa 4), .int .i64 (fa 5), .int .i64 (fa 6), .int .i64 (fa 7), .slice aa la.length ca]).alloc (.cells #[.int .i64 (fb 0), .int .i64 (fb 1), .int .i64 (fb 2), .int .i64 (fb 3), .int .i64 (fb 4), .int .i64 (fb 5), .int .i64 (fb 6), .int .i64 (fb 7), .slice ab lb.length cb] 38)
 have C5 := Cel.new1 w (.cells #[.int .i64 (fa 0), .int .i64 (fa 1), .int .i64 (fa 2), .int .i64 (fa 3), .int .i64 (fa 4), .int .i64 (fa 5), .int .i64 (fa 6), .int .i64 (fa 7), .slice aa la.length ca] 38) 38 #[.int .i64 (fb 0), .int .i64 (fb 1), .int .i64 (fb 2), .int .i64 (fb 3), .int .i64 (fb 4), .int .i64 (fb 5), .int .i64 (fb 6), .int .i64 (fb 7), .slice ab lb.length cb]
 have O0 : Off (fun _ => False) w ((w.alloc (.cells #[.int .i64 (fa 0), .int .i64 (fa 1), .int .i64 (fa 2), .int .i64 (fa 3), .int .i64 (fa 4), .int .i64 (fa 5), .int .i64 (fa 6), .int .i64 (fa 7), .slice aa la.length ca] 38)).alloc (.cells #[.int .i64 (fb 0), .int .i64 (fb 1), .int .i64 (fb 2), .int .i64 (fb 3), .int .i64 (fb 4), .int .i64 (fb 5), .int .i64 (fb 6), .int .i64 (fb 7), .slice ab lb.length cb] 38)) := ((Off.refl _ w).alloc _).alloc _
 go_enter Try.func6, Try.ntmps6
 go_upto_region 1 with fail
 generalize hv : (w.alloc (.cells #[.int .i64 (fa 0), .int .i64 (fa 1), .int .i64 (fa 2), .int .i64 (fa 3), .int .i64 (fa 4), .int .i64 (fa 5), .int .i64 (fa 6), .int .i64 (fa 7), .slice aa la.length ca] 38)).alloc (.cells #[.int .i64 (fb 0), .int .i64 (fb 1), .int .i64 (fb 2), .int .i64 (fb 3), .int .i64 (fb 4), .int .i64 (fb 5), .int .i64 (fb 6), .int .i64 (fb 7), .slice ab lb.length cb] 38) = w0 at C4 C5 O0 ⊢
 generalize hq5 : w.heap.size + 1 = q5 at C5 ⊢
 generalize hq4 : w.heap.size = q4 at C4 ⊢
 clear hv hq4 hq5
 have H4 : Hid _ := C4
 have H5 : Hid _ := C5
 have HO0 : Hid _ := O0
 have HRA : Hid _ := hra.off O0
 have HRB : Hid _ := hrb.off O0
 clear C4 C5 O0 hra hrb
 go_cut [7, 8] from 13 (fun s7 s8 wc => ∃ q7 q8, Ex1 key fa fb aa ab ca cb la lb w0 wc s7 s8 q7 q8)
 case first =>
  obtain ⟨N, hN⟩ : ∃ N, N = w0.heap.size := ⟨_, rfl⟩
  have HN : Hid _ := hN
  clear hN
  refine wp_region_held_drew (S := Off (fun c => N ≤ c) w0) (by kernel_rfl) ((Off.refl _ w0).drew) (fun hS => ?_)
  refine take_at (i := 0) 13 (v := .string key) rfl rfl (by kernel_rfl) (by kernel_rfl) (by kernel_rfl) (fun _ _ _ h => h) (Or.inl ⟨by rfl, fun w' hw' => by go_simp⟩) hS ?_
  simp only [Act.put, lsA, lsZ, lsS]
  refine take_at (i := 1) 14 (v := .agg #[.int .i64 (fa 0), .int .i64 (fa 1), .int .i64 (fa 2), .int .i64 (fa 3), .int .i64 (fa 4), .int .i64 (fa 5), .int .i64 (fa 6), .int .i64 (fa 7), .slice aa la.length ca]) rfl rfl (by kernel_rfl) (by kernel_rfl) (by kernel_rfl) (fun _ _ _ h => h) (Or.inl ⟨by rfl, fun w' hw' => by obtain ⟨x0, x1, x2, x3, x4, x5, x6, x7, x8⟩ := cel9 (H4.out.off hw' (fun h => by have h1 := H4.out.lt; have h2 := HN.out; omega)); go_simp⟩) hS ?_
  simp only [Act.put, lsA, lsZ, lsS]
  refine take_at (i := 2) 15 (v := .agg #[.string key, .int .i64 (fa 0), .int .i64 (fa 1), .int .i64 (fa 2), .int .i64 (fa 3), .int .i64 (fa 4), .int .i64 (fa 5), .int .i64 (fa 6), .int .i64 (fa 7), .slice aa la.length ca]) rfl rfl (by kernel_rfl) (by kernel_rfl) (by kernel_rfl) (fun _ _ _ h => h) (Or.inl ⟨by rfl, fun w' hw' => by go_simp⟩) hS ?_
  simp only [Act.put, lsA, lsZ, lsS]
  refine take_at (i := 3) 16 (v := .string key) rfl rfl (by kernel_rfl) (by kernel_rfl) (by kernel_rfl) (fun _ _ _ h => h) (Or.inl ⟨by rfl, fun w' hw' => by go_simp⟩) hS ?_
  simp only [Act.put, lsA, lsZ, lsS]
  refine take_at (i := 4) 17 (v := .agg #[.int .i64 (fb 0), .int .i64 (fb 1), .int .i64 (fb 2), .int .i64 (fb 3), .int .i64 (fb 4), .int .i64 (fb 5), .int .i64 (fb 6), .int .i64 (fb 7), .slice ab lb.length cb]) rfl rfl (by kernel_rfl) (by kernel_rfl) (by kernel_rfl) (fun _ _ _ h => h) (Or.inl ⟨by rfl, fun w' hw' => by obtain ⟨x0, x1, x2, x3, x4, x5, x6, x7, x8⟩ := cel9 (H5.out.off hw' (fun h => by have h1 := H5.out.lt; have h2 := HN.out; omega)); go_simp⟩) hS ?_
  simp only [Act.put, lsA, lsZ, lsS]
  refine take_at (i := 5) 18 (v := .agg #[.string key, .int .i64 (fb 0), .int .i64 (fb 1), .int .i64 (fb 2), .int .i64 (fb 3), .int .i64 (fb 4), .int .i64 (fb 5), .int .i64 (fb 6), .int .i64 (fb 7), .slice ab lb.length cb]) rfl rfl (by kernel_rfl) (by kernel_rfl) (by kernel_rfl) (fun _ _ _ h => h) (Or.inl ⟨by rfl, fun w' hw' => by go_simp⟩) hS ?_
  simp only [Act.put, lsA, lsZ, lsS]
  refine wpAnyH_ready (rs := [6, 7]) (by kernel_rfl) (by simp) ?_
  refine AllReadyH.cons rfl (fun K' hK' => ?_) (AllReadyH.cons rfl (fun K' hK' => ?_) AllReadyH.nil)
  ·go_simp
   refine hK'.out _ _ (hS.alloc _) (fun hS => ?_)
   clear hK' K'
   refine wpAnyH_ready (rs := [7]) (by kernel_rfl) (by simp) ?_
   refine AllReadyH.cons rfl (fun K' hK' => ?_) AllReadyH.nil
   go_simp
   have hS2 : Off (fun c => N ≤ c) w0 (((w0.alloc (.cells #[.string ⟨#[]⟩, .int .i64 0, .int .i64 0, .int .i64 0, .int .i64 0, .int .i64 0, .int .i64 0, .int .i64 0, .int .i64 0, .slice none 0 0] 40)).alloc (.cells #[.string ⟨#[]⟩, .int .i64 0, .int .i64 0, .int .i64 0, .int .i64 0, .int .i64 0, .int .i64 0, .int .i64 0, .int .i64 0, .slice none 0 0] 40)).drew) := (((Off.refl _ w0).alloc _).alloc _).drew
   refine hK'.out _ _ hS2 (fun hS => ?_)
   clear hK' K' hS2
   have CA : Cel w0.heap.size 40 #[.string ⟨#[]⟩, .int .i64 0, .int .i64 0, .int .i64 0, .int .i64 0, .int .i64 0, .int .i64 0, .int .i64 0, .int .i64 0, .slice none 0 0] (((w0.alloc (.cells #[.string ⟨#[]⟩, .int .i64 0, .int .i64 0, .int .i64 0, .int .i64 0, .int .i64 0, .int .i64 0, .int .i64 0, .int .i64 0, .slice none 0 0] 40)).alloc (.cells #[.string ⟨#[]⟩, .int .i64 0, .int .i64 0, .int .i64 0, .int .i64 0, .int .i64 0, .int .i64 0, .int .i64 0, .int .i64 0, .slice none 0 0] 40)).drew) := ((Cel.new w0 40 #[.string ⟨#[]⟩, .int .i64 0, .int .i64 0, .int .i64 0, .int .i64 0, .int .i64 0, .int .i64 0, .int .i64 0, .int .i64 0, .slice none 0 0]).alloc _).drew
   have CB : Cel (w0.heap.size + 1) 40 #[.string ⟨#[]⟩, .int .i64 0, .int .i64 0, .int .i64 0, .int .i64 0, .int .i64 0, .int .i64 0, .int .i64 0, .int .i64 0, .slice none 0 0] (((w0.alloc (.cells #[.string ⟨#[]⟩, .int .i64 0, .int .i64 0, .int .i64 0, .int .i64 0, .int .i64 0, .int .i64 0, .int .i64 0, .int .i64 0, .slice none 0 0] 40)).alloc (.cells #[.string ⟨#[]⟩, .int .i64 0, .int .i64 0, .int .i64 0, .int .i64 0, .int .i64 0, .int .i64 0, .int .i64 0, .int .i64 0, .slice none 0 0] 40)).drew) := (Cel.new1 w0 (.cells #[.string ⟨#[]⟩, .int .i64 0, .int .i64 0, .int .i64 0, .int .i64 0, .int .i64 0, .int .i64 0, .int .i64 0, .int .i64 0, .slice none 0 0] 40) 40 #[.string ⟨#[]⟩, .int .i64 0, .int .i64 0, .int .i64 0, .int .i64 0, .int .i64 0, .int .i64 0, .int .i64 0, .int .i64 0, .slice none 0 0]).drew
   have HQA : Hid (N ≤ w0.heap.size) := by show _ ≤ _; have := HN.out; omega
   have HQB : Hid (N ≤ w0.heap.size + 1) := by show _ ≤ _; have := HN.out; omega
   have HNE : Hid (w0.heap.size ≠ w0.heap.size + 1) := by show _ ≠ _; omega
   generalize hv : ((w0.alloc (.cells #[.string ⟨#[]⟩, .int .i64 0, .int .i64 0, .int .i64 0, .int .i64 0, .int .i64 0, .int .i64 0, .int .i64 0, .int .i64 0, .slice none 0 0] 40)).alloc (.cells #[.string ⟨#[]⟩, .int .i64 0, .int .i64 0, .int .i64 0, .int .i64 0, .int .i64 0, .int .i64 0, .int .i64 0, .int .i64 0, .slice none 0 0] 40)).drew = V at CA CB hS ⊢
   generalize hqb : w0.heap.size + 1 = q8 at CB HQB HNE ⊢
   generalize hqa : w0.heap.size = q7 at CA HQA HNE ⊢
   clear hv hqa hqb
   have Cq7 := CA
   have Cq8 := CB
   have HQq7 : Hid _ := HQA.out
   have HQq8 : Hid _ := HQB.out
   clear CA CB HQA HQB
   obtain ⟨y0, y1, y2, y3, y4, y5, y6, y7, y8, y9⟩ := cel10 Cq7
   have fr := Cq7.free
   refine wpAnyH_ready (rs := [8]) (by kernel_rfl) (by simp) ?_
   refine AllReadyH.cons rfl (fun K' hK' => ?_) AllReadyH.nil
   go_simp
   have hS1 := hS.st10 (b := q7) (.inl HQq7.out) key fa (.slice aa la.length ca)
   refine hK'.out _ _ hS1 (fun hS => ?_)
   clear hK' K' hS1 y0 y1 y2 y3 y4 y5 y6 y7 y8 y9 fr
   have Dq7 := Cq7.st10 key fa (.slice aa la.length ca)
   have OS := (Off.refl (fun c => c = q7) V).st10 (b := q7) (.inl rfl) key fa (.slice aa la.length ca)
   replace Cq8 := Cq8.off OS HNE.out.symm
   generalize hv : ((((((((((V.setCell ⟨q7, 0, none⟩ (.string key)).setCell ⟨q7, 1, none⟩ (.int .i64 (fa 0))).setCell ⟨q7, 2, none⟩ (.int .i64 (fa 1))).setCell ⟨q7, 3, none⟩ (.int .i64 (fa 2))).setCell ⟨q7, 4, none⟩ (.int .i64 (fa 3))).setCell ⟨q7, 5, none⟩ (.int .i64 (fa 4))).setCell ⟨q7, 6, none⟩ (.int .i64 (fa 5))).setCell ⟨q7, 7, none⟩ (.int .i64 (fa 6))).setCell ⟨q7, 8, none⟩ (.int .i64 (fa 7))).setCell ⟨q7, 9, none⟩ (.slice aa la.length ca)) = V2 at Dq7 Cq8 OS hS ⊢
   clear hv OS Cq7
   have Cq7 := Dq7
   clear Dq7
   obtain ⟨y0, y1, y2, y3, y4, y5, y6, y7, y8, y9⟩ := cel10 Cq8
   have fr := Cq8.free
   refine wpAnyH_ready (rs := [9]) (by kernel_rfl) (by simp) ?_
   refine AllReadyH.cons rfl (fun K' hK' => ?_) AllReadyH.nil
   go_simp
   have hS1 := hS.st10 (b := q8) (.inl HQq8.out) key fb (.slice ab lb.length cb)
   refine hK'.out _ _ hS1 (fun hS => ?_)
   clear hK' K' hS1 y0 y1 y2 y3 y4 y5 y6 y7 y8 y9 fr
   have Dq8 := Cq8.st10 key fb (.slice ab lb.length cb)
   have OS := (Off.refl (fun c => c = q8) V2).st10 (b := q8) (.inl rfl) key fb (.slice ab lb.length cb)
   replace Cq7 := Cq7.off OS HNE.out
   generalize hv : ((((((((((V2.setCell ⟨q8, 0, none⟩ (.string key)).setCell ⟨q8, 1, none⟩ (.int .i64 (fb 0))).setCell ⟨q8, 2, none⟩ (.int .i64 (fb 1))).setCell ⟨q8, 3, none⟩ (.int .i64 (fb 2))).setCell ⟨q8, 4, none⟩ (.int .i64 (fb 3))).setCell ⟨q8, 5, none⟩ (.int .i64 (fb 4))).setCell ⟨q8, 6, none⟩ (.int .i64 (fb 5))).setCell ⟨q8, 7, none⟩ (.int .i64 (fb 6))).setCell ⟨q8, 8, none⟩ (.int .i64 (fb 7))).setCell ⟨q8, 9, none⟩ (.slice ab lb.length cb)) = V3 at Dq8 Cq7 OS hS ⊢
   clear hv OS Cq8
   have Cq8 := Dq8
   clear Dq8
   refine wpAnyH_done (by kernel_rfl) ?_ _
   go_wp2_with fail
   go_meet
   case rel => exact ⟨q7, q8, ⟨rfl, rfl, Cq7, Cq8, hS.mono (fun i hi h => by have := HN.out; omega)⟩⟩
  ·go_simp
   refine hK'.out _ _ (hS.alloc _) (fun hS => ?_)
   clear hK' K'
   refine wpAnyH_ready (rs := [6]) (by kernel_rfl) (by simp) ?_
   refine AllReadyH.cons rfl (fun K' hK' => ?_) AllReadyH.nil
   go_simp
   have hS2 : Off (fun c => N ≤ c) w0 (((w0.alloc (.cells #[.string ⟨#[]⟩, .int .i64 0, .int .i64 0, .int .i64 0, .int .i64 0, .int .i64 0, .int .i64 0, .int .i64 0, .int .i64 0, .slice none 0 0] 40)).alloc (.cells #[.string ⟨#[]⟩, .int .i64 0, .int .i64 0, .int .i64 0, .int .i64 0, .int .i64 0, .int .i64 0, .int .i64 0, .int .i64 0, .slice none 0 0] 40)).drew) := (((Off.refl _ w0).alloc _).alloc _).drew
   refine hK'.out _ _ hS2 (fun hS => ?_)
   clear hK' K' hS2
   have CA : Cel w0.heap.size 40 #[.string ⟨#[]⟩, .int .i64 0, .int .i64 0, .int .i64 0, .int .i64 0, .int .i64 0, .int .i64 0, .int .i64 0, .int .i64 0, .slice none 0 0] (((w0.alloc (.cells #[.string ⟨#[]⟩, .int .i64 0, .int .i64 0, .int .i64 0, .int .i64 0, .int .i64 0, .int .i64 0, .int .i64 0, .int .i64 0, .slice none 0 0] 40)).alloc (.cells #[.string ⟨#[]⟩, .int .i64 0, .int .i64 0, .int .i64 0, .int .i64 0, .int .i64 0, .int .i64 0, .int .i64 0, .int .i64 0, .slice none 0 0] 40)).drew) := ((Cel.new w0 40 #[.string ⟨#[]⟩, .int .i64 0, .int .i64 0, .int .i64 0, .int .i64 0, .int .i64 0, .int .i64 0, .int .i64 0, .int .i64 0, .slice none 0 0]).alloc _).drew
   have CB : Cel (w0.heap.size + 1) 40 #[.string ⟨#[]⟩, .int .i64 0, .int .i64 0, .int .i64 0, .int .i64 0, .int .i64 0, .int .i64 0, .int .i64 0, .int .i64 0, .slice none 0 0] (((w0.alloc (.cells #[.string ⟨#[]⟩, .int .i64 0, .int .i64 0, .int .i64 0, .int .i64 0, .int .i64 0, .int .i64 0, .int .i64 0, .int .i64 0, .slice none 0 0] 40)).alloc (.cells #[.string ⟨#[]⟩, .int .i64 0, .int .i64 0, .int .i64 0, .int .i64 0, .int .i64 0, .int .i64 0, .int .i64 0, .int .i64 0, .slice none 0 0] 40)).drew) := (Cel.new1 w0 (.cells #[.string ⟨#[]⟩, .int .i64 0, .int .i64 0, .int .i64 0, .int .i64 0, .int .i64 0, .int .i64 0, .int .i64 0, .int .i64 0, .slice none 0 0] 40) 40 #[.string ⟨#[]⟩, .int .i64 0, .int .i64 0, .int .i64 0, .int .i64 0, .int .i64 0, .int .i64 0, .int .i64 0, .int .i64 0, .slice none 0 0]).drew
   have HQA : Hid (N ≤ w0.heap.size) := by show _ ≤ _; have := HN.out; omega
   have HQB : Hid (N ≤ w0.heap.size + 1) := by show _ ≤ _; have := HN.out; omega
   have HNE : Hid (w0.heap.size + 1 ≠ w0.heap.size) := by show _ ≠ _; omega
   generalize hv : ((w0.alloc (.cells #[.string ⟨#[]⟩, .int .i64 0, .int .i64 0, .int .i64 0, .int .i64 0, .int .i64 0, .int .i64 0, .int .i64 0, .int .i64 0, .slice none 0 0] 40)).alloc (.cells #[.string ⟨#[]⟩, .int .i64 0, .int .i64 0, .int .i64 0, .int .i64 0, .int .i64 0, .int .i64 0, .int .i64 0, .int .i64 0, .slice none 0 0] 40)).drew = V at CA CB hS ⊢
   generalize hqb : w0.heap.size + 1 = q7 at CB HQB HNE ⊢
   generalize hqa : w0.heap.size = q8 at CA HQA HNE ⊢
   clear hv hqa hqb
   have Cq8 := CA
   have Cq7 := CB
   have HQq8 : Hid _ := HQA.out
   have HQq7 : Hid _ := HQB.out
   clear CA CB HQA HQB
   obtain ⟨y0, y1, y2, y3, y4, y5, y6, y7, y8, y9⟩ := cel10 Cq7
   have fr := Cq7.free
   refine wpAnyH_ready (rs := [8]) (by kernel_rfl) (by simp) ?_
   refine AllReadyH.cons rfl (fun K' hK' => ?_) AllReadyH.nil
   go_simp
   have hS1 := hS.st10 (b := q7) (.inl HQq7.out) key fa (.slice aa la.length ca)
   refine hK'.out _ _ hS1 (fun hS => ?_)
   clear hK' K' hS1 y0 y1 y2 y3 y4 y5 y6 y7 y8 y9 fr
   have Dq7 := Cq7.st10 key fa (.slice aa la.length ca)
   have OS := (Off.refl (fun c => c = q7) V).st10 (b := q7) (.inl rfl) key fa (.slice aa la.length ca)
   replace Cq8 := Cq8.off OS HNE.out.symm
   generalize hv : ((((((((((V.setCell ⟨q7, 0, none⟩ (.string key)).setCell ⟨q7, 1, none⟩ (.int .i64 (fa 0))).setCell ⟨q7, 2, none⟩ (.int .i64 (fa 1))).setCell ⟨q7, 3, none⟩ (.int .i64 (fa 2))).setCell ⟨q7, 4, none⟩ (.int .i64 (fa 3))).setCell ⟨q7, 5, none⟩ (.int .i64 (fa 4))).setCell ⟨q7, 6, none⟩ (.int .i64 (fa 5))).setCell ⟨q7, 7, none⟩ (.int .i64 (fa 6))).setCell ⟨q7, 8, none⟩ (.int .i64 (fa 7))).setCell ⟨q7, 9, none⟩ (.slice aa la.length ca)) = V2 at Dq7 Cq8 OS hS ⊢
   clear hv OS Cq7
   have Cq7 := Dq7
   clear Dq7
   obtain ⟨y0, y1, y2, y3, y4, y5, y6, y7, y8, y9⟩ := cel10 Cq8
   have fr := Cq8.free
   refine wpAnyH_ready (rs := [9]) (by kernel_rfl) (by simp) ?_
   refine AllReadyH.cons rfl (fun K' hK' => ?_) AllReadyH.nil
   go_simp
   have hS1 := hS.st10 (b := q8) (.inl HQq8.out) key fb (.slice ab lb.length cb)
   refine hK'.out _ _ hS1 (fun hS => ?_)
   clear hK' K' hS1 y0 y1 y2 y3 y4 y5 y6 y7 y8 y9 fr
   have Dq8 := Cq8.st10 key fb (.slice ab lb.length cb)
   have OS := (Off.refl (fun c => c = q8) V2).st10 (b := q8) (.inl rfl) key fb (.slice ab lb.length cb)
   replace Cq7 := Cq7.off OS HNE.out
   generalize hv : ((((((((((V2.setCell ⟨q8, 0, none⟩ (.string key)).setCell ⟨q8, 1, none⟩ (.int .i64 (fb 0))).setCell ⟨q8, 2, none⟩ (.int .i64 (fb 1))).setCell ⟨q8, 3, none⟩ (.int .i64 (fb 2))).setCell ⟨q8, 4, none⟩ (.int .i64 (fb 3))).setCell ⟨q8, 5, none⟩ (.int .i64 (fb 4))).setCell ⟨q8, 6, none⟩ (.int .i64 (fb 5))).setCell ⟨q8, 7, none⟩ (.int .i64 (fb 6))).setCell ⟨q8, 8, none⟩ (.int .i64 (fb 7))).setCell ⟨q8, 9, none⟩ (.slice ab lb.length cb)) = V3 at Dq8 Cq7 OS hS ⊢
   clear hv OS Cq8
   have Cq8 := Dq8
   clear Dq8
   refine wpAnyH_done (by kernel_rfl) ?_ _
   go_wp2_with fail
   go_meet
   case rel => exact ⟨q7, q8, ⟨rfl, rfl, Cq7, Cq8, hS.mono (fun i hi h => by have := HN.out; omega)⟩⟩
 case rest =>
  obtain ⟨q7, q8, hx⟩ := hcut
  have e7 := hx.e7
  have e8 := hx.e8
  subst e7 e8
  have H7 : Hid _ := hx.c7
  have H8 : Hid _ := hx.c8
  have HO1 : Hid _ := HO0.out.trans hx.off (fun _ _ h => h)
  have HRA1 : Hid _ := HRA.out.off hx.off
  have HRB1 : Hid _ := HRB.out.off hx.off
  have H41 : Hid _ := H4.out.off hx.off (fun h => h)
  have H51 : Hid _ := H5.out.off hx.off (fun h => h)
  clear hx H4 H5 HO0 HRA HRB
  obtain ⟨y0, y1, y2, y3, y4, y5, y6, y7, y8, y9⟩ := cel10 H7.out
  go_wp2_with fail
  refine (gmayentry_any key fa aa ca la _ HRA1.out).mono ?_
  rintro e v1 ⟨rfl, o1⟩
  clear y0 y1 y2 y3 y4 y5 y6 y7 y8 y9
  have HO2 : Hid _ := HO1.out.trans o1 (fun _ _ h => h)
  cases hm1 : (keyB key && mayS fa (cont la))
  ·go_wp2_with fail
   refine (awake_any _).mono ?_
   rintro e ua ⟨rfl, oa⟩
   go_wp2_with fail
   go_ret
   exact ⟨rfl, HO2.out.trans oa (fun _ _ h => h)⟩
  obtain ⟨y0, y1, y2, y3, y4, y5, y6, y7, y8, y9⟩ := cel10 (H8.out.off o1 (fun h => h))
  have HP1 : Hid _ := o1
  clear o1
  go_wp2_with fail
  refine (gmayentry_any key fb ab cb lb _ (HRB1.out.off HP1.out)).mono ?_
  rintro e v2 ⟨rfl, o2⟩
  clear y0 y1 y2 y3 y4 y5 y6 y7 y8 y9
  have HO3 : Hid _ := HO2.out.trans o2 (fun _ _ h => h)
  have HP2 : Hid _ := HP1.out.trans o2 (fun _ _ h => h)
  clear o2
  cases hm2 : (keyB key && mayS fb (cont lb))
  ·go_wp2_with fail
   refine (awake_any _).mono ?_
   rintro e ua ⟨rfl, oa⟩
   go_wp2_with fail
   go_ret
   exact ⟨rfl, HO3.out.trans oa (fun _ _ h => h)⟩
  obtain ⟨x0, x1, x2, x3, x4, x5, x6, x7, x8⟩ := cel9 (H41.out.off HP2.out (fun h => h))
  obtain ⟨z0, z1, z2, z3, z4, z5, z6, z7, z8⟩ := cel9 (H51.out.off HP2.out (fun h => h))
  go_wp2_with fail
  refine (agree_any fa fb aa ab ca cb la lb _ (HRA1.out.off HP2.out) (HRB1.out.off HP2.out)).mono ?_
  rintro e v3 ⟨r, rfl, hag, o3⟩
  clear x0 x1 x2 x3 x4 x5 x6 x7 x8 z0 z1 z2 z3 z4 z5 z6 z7 z8
  have HO4 : Hid _ := HO3.out.trans o3 (fun _ _ h => h)
  have HP3 : Hid _ := HP2.out.trans o3 (fun _ _ h => h)
  have HAG : Hid _ := hag
  clear o3 hag
  cases r
  ·go_wp2_with fail
   refine (awake_any _).mono ?_
   rintro e ua ⟨rfl, oa⟩
   go_wp2_with fail
   go_ret
   exact ⟨rfl, HO4.out.trans oa (fun _ _ h => h)⟩
  obtain ⟨x0, x1, x2, x3, x4, x5, x6, x7, x8⟩ := cel9 (H41.out.off HP3.out (fun h => h))
  obtain ⟨z0, z1, z2, z3, z4, z5, z6, z7, z8⟩ := cel9 (H51.out.off HP3.out (fun h => h))
  have MA : Hid (MayP fa (cont la)) := may_iff.1 (by rw [Bool.and_eq_true] at hm1; exact hm1.2)
  have MB : Hid (MayP fb (cont lb)) := may_iff.1 (by rw [Bool.and_eq_true] at hm2; exact hm2.2)
  have hla : la.length ≤ 16 := by have := MA.out.few; rwa [cont_len] at this
  have hlb : lb.length ≤ 16 := by have := MB.out.few; rwa [cont_len] at this
  have HA0 : Hid (Agr (cont la) (cont lb)) := HAG.out rfl
  clear hm1 hm2 HAG
  by_cases hn : la.length + lb.length ≤ 16
  case neg =>
   have n1 : decide ((16 : Int) < (la.length : Int) + (lb.length : Int)) = true := decide_eq_true (by omega)
   have n2 : decide (16 < la.length + lb.length) = true := decide_eq_true (by omega)
   go_wp2_with fail
   refine (awake_any _).mono ?_
   rintro e ua ⟨rfl, oa⟩
   go_wp2_with fail
   go_ret
   exact ⟨rfl, HO4.out.trans oa (fun _ _ h => h)⟩
  have n1 : decide ((16 : Int) < (la.length : Int) + (lb.length : Int)) = false := decide_eq_false (by omega)
  have n2 : decide (16 < la.length + lb.length) = false := decide_eq_false (by omega)
  have HN : Hid ((cont la).length + (cont lb).length ≤ 16) := by show _ ≤ _; rw [cont_len, cont_len]; exact hn
  clear hn
  go_upto_region 4 with fail
  clear x0 x1 x2 x3 x4 x5 x6 x7 x8 z0 z1 z2 z3 z4 z5 z6 z7 z8 n1 n2
  have H42 : Hid _ := H41.out.off HP3.out (fun h => h)
  have H52 : Hid _ := H51.out.off HP3.out (fun h => h)
  have H72 : Hid _ := H7.out.off HP3.out (fun h => h)
  have H82 : Hid _ := H8.out.off HP3.out (fun h => h)
  have HRA2 : Hid _ := HRA1.out.off HP3.out
  have HRB2 : Hid _ := HRB1.out.off HP3.out
  clear H41 H51 H7 H8 HRA1 HRB1 HP1 HP2 HP3 HO1 HO2 HO3
  go_cut [9, 10] from 13 (fun s9 s10 wc => ∃ t1 c1 g1 t2 c2 g2, Ex4 (digO key fa (cont la)) (digO key fb (cont lb)) v3 wc s9 s10 t1 t2 c1 c2 g1 g2)
  case first =>
   refine wp_region_held_drew (S := Off (fun _ => False) v3) (by kernel_rfl) ((Off.refl _ v3).drew) (fun hS => ?_)
   generalize hvd : v3.drew = vd at hS ⊢
   clear hvd
   refine take_at (i := 0) 44 (v := .agg #[.string key, .int .i64 (fa 0), .int .i64 (fa 1), .int .i64 (fa 2), .int .i64 (fa 3), .int .i64 (fa 4), .int .i64 (fa 5), .int .i64 (fa 6), .int .i64 (fa 7), .slice aa la.length ca]) rfl rfl (by kernel_rfl) (by kernel_rfl) (by kernel_rfl) (fun _ _ _ h => h) (Or.inl ⟨by rfl, fun w' hw' => by obtain ⟨y0, y1, y2, y3, y4, y5, y6, y7, y8, y9⟩ := cel10 (H72.out.off hw' (fun h => h)); go_simp⟩) hS ?_
   simp only [Act.put, lsA, lsZ, lsS]
   refine take_at (i := 3) 47 (v := .agg #[.string key, .int .i64 (fb 0), .int .i64 (fb 1), .int .i64 (fb 2), .int .i64 (fb 3), .int .i64 (fb 4), .int .i64 (fb 5), .int .i64 (fb 6), .int .i64 (fb 7), .slice ab lb.length cb]) rfl rfl (by kernel_rfl) (by kernel_rfl) (by kernel_rfl) (fun _ _ _ h => h) (Or.inl ⟨by rfl, fun w' hw' => by obtain ⟨y0, y1, y2, y3, y4, y5, y6, y7, y8, y9⟩ := cel10 (H82.out.off hw' (fun h => h)); go_simp⟩) hS ?_
   simp only [Act.put, lsA, lsZ, lsS]
   refine wpAnyH_ready (rs := [1, 4]) (by kernel_rfl) (by simp) ?_
   refine AllReadyH.cons rfl (fun K' hK' => ?_) (AllReadyH.cons rfl (fun K' hK' => ?_) AllReadyH.nil)
   ·go_simp
    have Cq45 := Cel.new vd 40 #[.string key, .int .i64 (fa 0), .int .i64 (fa 1), .int .i64 (fa 2), .int .i64 (fa 3), .int .i64 (fa 4), .int .i64 (fa 5), .int .i64 (fa 6), .int .i64 (fa 7), .slice aa la.length ca]
    have OB : Off (fun _ => False) vd (vd.alloc (.cells #[.string key, .int .i64 (fa 0), .int .i64 (fa 1), .int .i64 (fa 2), .int .i64 (fa 3), .int .i64 (fa 4), .int .i64 (fa 5), .int .i64 (fa 6), .int .i64 (fa 7), .slice aa la.length ca] 40)) := (Off.refl _ vd).alloc _
    have hS1 := hS.trans OB (fun _ _ h => h)
    refine hK'.out _ _ hS1 (fun hS => ?_)
    clear hK' K' hS1
    generalize hq : vd.heap.size = q45 at Cq45 ⊢
    generalize hv : vd.alloc (.cells #[.string key, .int .i64 (fa 0), .int .i64 (fa 1), .int .i64 (fa 2), .int .i64 (fa 3), .int .i64 (fa 4), .int .i64 (fa 5), .int .i64 (fa 6), .int .i64 (fa 7), .slice aa la.length ca] 40) = V5 at Cq45 OB hS ⊢
    clear hq hv
    have HEq45 : Hid (Ens V5 (some ⟨q45, 0, none⟩) 1 [(⟨key, fa, aa, ca, la⟩ : E)]) := cel_ens Cq45 (HRA2.out.off hS)
    clear Cq45
    refine wpAnyH_ready (rs := [2, 4]) (by kernel_rfl) (by simp) ?_
    refine AllReadyH.cons rfl (fun K' hK' => ?_) (AllReadyH.cons rfl (fun K' hK' => ?_) AllReadyH.nil)
    ·go_simp
     refine (dof1_any (⟨key, fa, aa, ca, la⟩ : E) q45 _ HEq45.out).mono ?_
     rintro e V6 ⟨t1, c1, g1, rfl, dg1, ab1, o1⟩
     have hS1 := hS.trans o1 (fun _ _ h => h)
     refine hK'.out _ _ hS1 (fun hS => ?_)
     clear hK' K' hS1
     have HG1 : Hid _ := dg1
     have HB1 : Hid _ := ab1
     have HW1 : Hid _ := o1
     clear dg1 ab1 o1
     refine wpAnyH_ready (rs := [4]) (by kernel_rfl) (by simp) ?_
     refine AllReadyH.cons rfl (fun K' hK' => ?_) AllReadyH.nil
     go_simp
     have Cq48 := Cel.new V6 40 #[.string key, .int .i64 (fb 0), .int .i64 (fb 1), .int .i64 (fb 2), .int .i64 (fb 3), .int .i64 (fb 4), .int .i64 (fb 5), .int .i64 (fb 6), .int .i64 (fb 7), .slice ab lb.length cb]
     have OB : Off (fun _ => False) V6 (V6.alloc (.cells #[.string key, .int .i64 (fb 0), .int .i64 (fb 1), .int .i64 (fb 2), .int .i64 (fb 3), .int .i64 (fb 4), .int .i64 (fb 5), .int .i64 (fb 6), .int .i64 (fb 7), .slice ab lb.length cb] 40)) := (Off.refl _ V6).alloc _
     have hS1 := hS.trans OB (fun _ _ h => h)
     refine hK'.out _ _ hS1 (fun hS => ?_)
     clear hK' K' hS1
     generalize hq : V6.heap.size = q48 at Cq48 ⊢
     generalize hv : V6.alloc (.cells #[.string key, .int .i64 (fb 0), .int .i64 (fb 1), .int .i64 (fb 2), .int .i64 (fb 3), .int .i64 (fb 4), .int .i64 (fb 5), .int .i64 (fb 6), .int .i64 (fb 7), .slice ab lb.length cb] 40) = V7 at Cq48 OB hS ⊢
     clear hq hv
     have HEq48 : Hid (Ens V7 (some ⟨q48, 0, none⟩) 1 [(⟨key, fb, ab, cb, lb⟩ : E)]) := cel_ens Cq48 (HRB2.out.off hS)
     clear Cq48
     have HP7 : Hid _ := OB
     clear OB
     refine wpAnyH_ready (rs := [5]) (by kernel_rfl) (by simp) ?_
     refine AllReadyH.cons rfl (fun K' hK' => ?_) AllReadyH.nil
     go_simp
     refine (dof1_any (⟨key, fb, ab, cb, lb⟩ : E) q48 _ HEq48.out).mono ?_
     rintro e V8 ⟨t2, c2, g2, rfl, dg2, ab2, o1⟩
     have hS1 := hS.trans o1 (fun _ _ h => h)
     refine hK'.out _ _ hS1 (fun hS => ?_)
     clear hK' K' hS1
     have HG2 : Hid _ := dg2
     have HB2 : Hid _ := ab2
     have HW2 : Hid _ := o1
     clear dg2 ab2 o1
     refine take_at (i := 6) 9 (v := .slice t1 1 c1) rfl rfl (by kernel_rfl) (by kernel_rfl) (by kernel_rfl) (fun _ _ _ h => h) (Or.inl ⟨by rfl, fun w' hw' => by go_simp⟩) hS ?_
     simp only [Act.put, lsA, lsZ, lsS]
     refine take_at (i := 7) 10 (v := .slice t2 1 c2) rfl rfl (by kernel_rfl) (by kernel_rfl) (by kernel_rfl) (fun _ _ _ h => h) (Or.inl ⟨by rfl, fun w' hw' => by go_simp⟩) hS ?_
     simp only [Act.put, lsA, lsZ, lsS]
     refine wpAnyH_done (by kernel_rfl) ?_ _
     go_wp2_with fail
     go_meet
     case rel => exact ⟨t1, c1, g1, t2, c2, g2, ⟨rfl, rfl, (HG1.out.off HP7.out).off HW2.out, HG2.out, HB1.out, HB2.out, hS⟩⟩
    ·go_simp
     have Cq48 := Cel.new V5 40 #[.string key, .int .i64 (fb 0), .int .i64 (fb 1), .int .i64 (fb 2), .int .i64 (fb 3), .int .i64 (fb 4), .int .i64 (fb 5), .int .i64 (fb 6), .int .i64 (fb 7), .slice ab lb.length cb]
     have OB : Off (fun _ => False) V5 (V5.alloc (.cells #[.string key, .int .i64 (fb 0), .int .i64 (fb 1), .int .i64 (fb 2), .int .i64 (fb 3), .int .i64 (fb 4), .int .i64 (fb 5), .int .i64 (fb 6), .int .i64 (fb 7), .slice ab lb.length cb] 40)) := (Off.refl _ V5).alloc _
     have hS1 := hS.trans OB (fun _ _ h => h)
     refine hK'.out _ _ hS1 (fun hS => ?_)
     clear hK' K' hS1
     generalize hq : V5.heap.size = q48 at Cq48 ⊢
     generalize hv : V5.alloc (.cells #[.string key, .int .i64 (fb 0), .int .i64 (fb 1), .int .i64 (fb 2), .int .i64 (fb 3), .int .i64 (fb 4), .int .i64 (fb 5), .int .i64 (fb 6), .int .i64 (fb 7), .slice ab lb.length cb] 40) = V6 at Cq48 OB hS ⊢
     clear hq hv
     have HEq48 : Hid (Ens V6 (some ⟨q48, 0, none⟩) 1 [(⟨key, fb, ab, cb, lb⟩ : E)]) := cel_ens Cq48 (HRB2.out.off hS)
     clear Cq48
     have HP6 : Hid _ := OB
     clear OB
     refine wpAnyH_ready (rs := [2]) (by kernel_rfl) (by simp) ?_
     refine AllReadyH.cons rfl (fun K' hK' => ?_) AllReadyH.nil
     go_simp
     refine (dof1_any (⟨key, fa, aa, ca, la⟩ : E) q45 _ (HEq45.out.off HP6.out)).mono ?_
     rintro e V7 ⟨t1, c1, g1, rfl, dg1, ab1, o1⟩
     have hS1 := hS.trans o1 (fun _ _ h => h)
     refine hK'.out _ _ hS1 (fun hS => ?_)
     clear hK' K' hS1
     have HG1 : Hid _ := dg1
     have HB1 : Hid _ := ab1
     have HW1 : Hid _ := o1
     clear dg1 ab1 o1
     refine wpAnyH_ready (rs := [5]) (by kernel_rfl) (by simp) ?_
     refine AllReadyH.cons rfl (fun K' hK' => ?_) AllReadyH.nil
     go_simp
     refine (dof1_any (⟨key, fb, ab, cb, lb⟩ : E) q48 _ (HEq48.out.off HW1.out)).mono ?_
     rintro e V8 ⟨t2, c2, g2, rfl, dg2, ab2, o1⟩
     have hS1 := hS.trans o1 (fun _ _ h => h)
     refine hK'.out _ _ hS1 (fun hS => ?_)
     clear hK' K' hS1
     have HG2 : Hid _ := dg2
     have HB2 : Hid _ := ab2
     have HW2 : Hid _ := o1
     clear dg2 ab2 o1
     refine take_at (i := 6) 9 (v := .slice t1 1 c1) rfl rfl (by kernel_rfl) (by kernel_rfl) (by kernel_rfl) (fun _ _ _ h => h) (Or.inl ⟨by rfl, fun w' hw' => by go_simp⟩) hS ?_
     simp only [Act.put, lsA, lsZ, lsS]
     refine take_at (i := 7) 10 (v := .slice t2 1 c2) rfl rfl (by kernel_rfl) (by kernel_rfl) (by kernel_rfl) (fun _ _ _ h => h) (Or.inl ⟨by rfl, fun w' hw' => by go_simp⟩) hS ?_
     simp only [Act.put, lsA, lsZ, lsS]
     refine wpAnyH_done (by kernel_rfl) ?_ _
     go_wp2_with fail
     go_meet
     case rel => exact ⟨t1, c1, g1, t2, c2, g2, ⟨rfl, rfl, HG1.out.off HW2.out, HG2.out, HB1.out, HB2.out, hS⟩⟩
   ·go_simp
    have Cq48 := Cel.new vd 40 #[.string key, .int .i64 (fb 0), .int .i64 (fb 1), .int .i64 (fb 2), .int .i64 (fb 3), .int .i64 (fb 4), .int .i64 (fb 5), .int .i64 (fb 6), .int .i64 (fb 7), .slice ab lb.length cb]
    have OB : Off (fun _ => False) vd (vd.alloc (.cells #[.string key, .int .i64 (fb 0), .int .i64 (fb 1), .int .i64 (fb 2), .int .i64 (fb 3), .int .i64 (fb 4), .int .i64 (fb 5), .int .i64 (fb 6), .int .i64 (fb 7), .slice ab lb.length cb] 40)) := (Off.refl _ vd).alloc _
    have hS1 := hS.trans OB (fun _ _ h => h)
    refine hK'.out _ _ hS1 (fun hS => ?_)
    clear hK' K' hS1
    generalize hq : vd.heap.size = q48 at Cq48 ⊢
    generalize hv : vd.alloc (.cells #[.string key, .int .i64 (fb 0), .int .i64 (fb 1), .int .i64 (fb 2), .int .i64 (fb 3), .int .i64 (fb 4), .int .i64 (fb 5), .int .i64 (fb 6), .int .i64 (fb 7), .slice ab lb.length cb] 40) = V5 at Cq48 OB hS ⊢
    clear hq hv
    have HEq48 : Hid (Ens V5 (some ⟨q48, 0, none⟩) 1 [(⟨key, fb, ab, cb, lb⟩ : E)]) := cel_ens Cq48 (HRB2.out.off hS)
    clear Cq48
    clear OB
    refine wpAnyH_ready (rs := [1]) (by kernel_rfl) (by simp) ?_
    refine AllReadyH.cons rfl (fun K' hK' => ?_) AllReadyH.nil
    go_simp
    have Cq45 := Cel.new V5 40 #[.string key, .int .i64 (fa 0), .int .i64 (fa 1), .int .i64 (fa 2), .int .i64 (fa 3), .int .i64 (fa 4), .int .i64 (fa 5), .int .i64 (fa 6), .int .i64 (fa 7), .slice aa la.length ca]
    have OB : Off (fun _ => False) V5 (V5.alloc (.cells #[.string key, .int .i64 (fa 0), .int .i64 (fa 1), .int .i64 (fa 2), .int .i64 (fa 3), .int .i64 (fa 4), .int .i64 (fa 5), .int .i64 (fa 6), .int .i64 (fa 7), .slice aa la.length ca] 40)) := (Off.refl _ V5).alloc _
    have hS1 := hS.trans OB (fun _ _ h => h)
    refine hK'.out _ _ hS1 (fun hS => ?_)
    clear hK' K' hS1
    generalize hq : V5.heap.size = q45 at Cq45 ⊢
    generalize hv : V5.alloc (.cells #[.string key, .int .i64 (fa 0), .int .i64 (fa 1), .int .i64 (fa 2), .int .i64 (fa 3), .int .i64 (fa 4), .int .i64 (fa 5), .int .i64 (fa 6), .int .i64 (fa 7), .slice aa la.length ca] 40) = V6 at Cq45 OB hS ⊢
    clear hq hv
    have HEq45 : Hid (Ens V6 (some ⟨q45, 0, none⟩) 1 [(⟨key, fa, aa, ca, la⟩ : E)]) := cel_ens Cq45 (HRA2.out.off hS)
    clear Cq45
    have HP6 : Hid _ := OB
    clear OB
    refine wpAnyH_ready (rs := [2]) (by kernel_rfl) (by simp) ?_
    refine AllReadyH.cons rfl (fun K' hK' => ?_) AllReadyH.nil
    go_simp
    refine (dof1_any (⟨key, fa, aa, ca, la⟩ : E) q45 _ HEq45.out).mono ?_
    rintro e V7 ⟨t1, c1, g1, rfl, dg1, ab1, o1⟩
    have hS1 := hS.trans o1 (fun _ _ h => h)
    refine hK'.out _ _ hS1 (fun hS => ?_)
    clear hK' K' hS1
    have HG1 : Hid _ := dg1
    have HB1 : Hid _ := ab1
    have HW1 : Hid _ := o1
    clear dg1 ab1 o1
    refine wpAnyH_ready (rs := [5]) (by kernel_rfl) (by simp) ?_
    refine AllReadyH.cons rfl (fun K' hK' => ?_) AllReadyH.nil
    go_simp
    refine (dof1_any (⟨key, fb, ab, cb, lb⟩ : E) q48 _ ((HEq48.out.off HP6.out).off HW1.out)).mono ?_
    rintro e V8 ⟨t2, c2, g2, rfl, dg2, ab2, o1⟩
    have hS1 := hS.trans o1 (fun _ _ h => h)
    refine hK'.out _ _ hS1 (fun hS => ?_)
    clear hK' K' hS1
    have HG2 : Hid _ := dg2
    have HB2 : Hid _ := ab2
    have HW2 : Hid _ := o1
    clear dg2 ab2 o1
    refine take_at (i := 6) 9 (v := .slice t1 1 c1) rfl rfl (by kernel_rfl) (by kernel_rfl) (by kernel_rfl) (fun _ _ _ h => h) (Or.inl ⟨by rfl, fun w' hw' => by go_simp⟩) hS ?_
    simp only [Act.put, lsA, lsZ, lsS]
    refine take_at (i := 7) 10 (v := .slice t2 1 c2) rfl rfl (by kernel_rfl) (by kernel_rfl) (by kernel_rfl) (fun _ _ _ h => h) (Or.inl ⟨by rfl, fun w' hw' => by go_simp⟩) hS ?_
    simp only [Act.put, lsA, lsZ, lsS]
    refine wpAnyH_done (by kernel_rfl) ?_ _
    go_wp2_with fail
    go_meet
    case rel => exact ⟨t1, c1, g1, t2, c2, g2, ⟨rfl, rfl, HG1.out.off HW2.out, HG2.out, HB1.out, HB2.out, hS⟩⟩
  case rest =>
   obtain ⟨t1, c1, g1, t2, c2, g2, hx⟩ := hcut
   have e9 := hx.e9
   have e10 := hx.e10
   subst e9 e10
   have HB1 : Hid _ := hx.a1
   have HB2 : Hid _ := hx.a2
   have HO5 : Hid _ := HO4.out.trans hx.off (fun _ _ h => h)
   have HRA3 : Hid _ := HRA2.out.off hx.off
   have HRB3 : Hid _ := HRB2.out.off hx.off
   have H43 : Hid _ := H42.out.off hx.off (fun h => h)
   have H53 : Hid _ := H52.out.off hx.off (fun h => h)
   have H73 : Hid _ := H72.out.off hx.off (fun h => h)
   have H83 : Hid _ := H82.out.off hx.off (fun h => h)
   obtain ⟨b1, o1, rfl, k1, hd1⟩ := dgs_at hx.d1
   obtain ⟨b2, o2, rfl, k2, hd2⟩ := dgs_at hx.d2
   have HK1 : Hid (∀ w', Off (fun _ => False) wc w' → ∀ j u, (gcs g1)[j]? = some u → w'.cell? ⟨b1, o1 + j, none⟩ = some u) := fun w' hw' => gcells_off hw' k1
   have HK2 : Hid (∀ w', Off (fun _ => False) wc w' → ∀ j u, (gcs g2)[j]? = some u → w'.cell? ⟨b2, o2 + j, none⟩ = some u) := fun w' hw' => gcells_off hw' k2
   have HD1 : Hid _ := hd1
   have HD2 : Hid _ := hd2
   clear hx k1 k2 hd1 hd2 H42 H52 H72 H82 HRA2 HRB2 HO4
   cases hP : lacksB key fa (cont la) (digO key fb (cont lb))
   ·cases hQ : lacksB key fb (cont lb) (digO key fa (cont la))
    ·have HP : Hid (lacksB key fa (cont la) g2.abs = false) := by show _ = _; rw [HB2.out]; exact hP
     have HQ : Hid (lacksB key fb (cont lb) g1.abs = false) := by show _ = _; rw [HB1.out]; exact hQ
     have HSP : Hid (sameS (joinV fa fb (cont la) (cont lb)) fb (joinL fa fb (cont la) (cont lb)) (cont lb) = true) := by show _ = _; have e := exact_p (key := key) MA.out MB.out HA0.out HN.out; rw [hP] at e; simpa using e.symm
     have HSQ : Hid (sameS (joinV fa fb (cont la) (cont lb)) fa (joinL fa fb (cont la) (cont lb)) (cont la) = true) := by show _ = _; have e := exact_q (key := key) MA.out MB.out HA0.out HN.out; rw [hQ] at e; simpa using e.symm
     have HSS : Hid (sameS fa fb (cont la) (cont lb) = true) := exact_both MA.out MB.out HA0.out hP hQ
     clear hP hQ
     go_upto_region 7 with fail
     refine wp_region_held_drew (S := Off (fun _ => False) wc) (by kernel_rfl) ((Off.refl _ wc).drew) (fun hS => ?_)
     refine take_at (i := 0) 58 (v := .agg #[.string key, .int .i64 (fa 0), .int .i64 (fa 1), .int .i64 (fa 2), .int .i64 (fa 3), .int .i64 (fa 4), .int .i64 (fa 5), .int .i64 (fa 6), .int .i64 (fa 7), .slice aa la.length ca]) rfl rfl (by kernel_rfl) (by kernel_rfl) (by kernel_rfl) (fun _ _ _ h => h) (Or.inl ⟨by rfl, fun w' hw' => by obtain ⟨y0, y1, y2, y3, y4, y5, y6, y7, y8, y9⟩ := cel10 (H73.out.off hw' (fun h => h)); go_simp⟩) hS ?_
     simp only [Act.put, lsA, lsZ, lsS]
     refine take_at (i := 1) 59 (v := .slice (some ⟨b2, o2, none⟩) 1 c2) rfl rfl (by kernel_rfl) (by kernel_rfl) (by kernel_rfl) (fun _ _ _ h => h) (Or.inl ⟨by rfl, fun w' hw' => by go_simp⟩) hS ?_
     simp only [Act.put, lsA, lsZ, lsS]
     refine take_at (i := 2) 60 (v := .pointer (some ⟨b2, o2, none⟩)) rfl rfl (by kernel_rfl) (by kernel_rfl) (by kernel_rfl) (fun _ _ _ h => h) (Or.inl ⟨by rfl, fun w' hw' => exec_idx10 rfl (idx_dgs0 c2 b2 o2 w')⟩) hS ?_
     simp only [Act.put, lsA, lsZ, lsS]
     refine take_at (i := 3) 61 (v := .agg #[.string g2.key, .int .i64 (g2.f 0), .int .i64 (g2.f 1), .int .i64 (g2.f 2), .int .i64 (g2.f 3), .int .i64 (g2.f 4), .int .i64 (g2.f 5), .int .i64 (g2.f 6), .int .i64 (g2.f 7), .slice g2.a g2.ds.length g2.cap]) rfl rfl (by kernel_rfl) (by kernel_rfl) (by kernel_rfl) (fun _ _ _ h => h) (Or.inl ⟨by rfl, fun w' hw' => by obtain ⟨y0, y1, y2, y3, y4, y5, y6, y7, y8, y9⟩ := dg10 (HK2.out w' hw'); go_simp⟩) hS ?_
     simp only [Act.put, lsA, lsZ, lsS]
     refine take_at (i := 5) 63 (v := .agg #[.string key, .int .i64 (fb 0), .int .i64 (fb 1), .int .i64 (fb 2), .int .i64 (fb 3), .int .i64 (fb 4), .int .i64 (fb 5), .int .i64 (fb 6), .int .i64 (fb 7), .slice ab lb.length cb]) rfl rfl (by kernel_rfl) (by kernel_rfl) (by kernel_rfl) (fun _ _ _ h => h) (Or.inl ⟨by rfl, fun w' hw' => by obtain ⟨y0, y1, y2, y3, y4, y5, y6, y7, y8, y9⟩ := cel10 (H83.out.off hw' (fun h => h)); go_simp⟩) hS ?_
     simp only [Act.put, lsA, lsZ, lsS]
     refine take_at (i := 6) 64 (v := .slice (some ⟨b1, o1, none⟩) 1 c1) rfl rfl (by kernel_rfl) (by kernel_rfl) (by kernel_rfl) (fun _ _ _ h => h) (Or.inl ⟨by rfl, fun w' hw' => by go_simp⟩) hS ?_
     simp only [Act.put, lsA, lsZ, lsS]
     refine take_at (i := 7) 65 (v := .pointer (some ⟨b1, o1, none⟩)) rfl rfl (by kernel_rfl) (by kernel_rfl) (by kernel_rfl) (fun _ _ _ h => h) (Or.inl ⟨by rfl, fun w' hw' => exec_idx10 rfl (idx_dgs0 c1 b1 o1 w')⟩) hS ?_
     simp only [Act.put, lsA, lsZ, lsS]
     refine take_at (i := 8) 66 (v := .agg #[.string g1.key, .int .i64 (g1.f 0), .int .i64 (g1.f 1), .int .i64 (g1.f 2), .int .i64 (g1.f 3), .int .i64 (g1.f 4), .int .i64 (g1.f 5), .int .i64 (g1.f 6), .int .i64 (g1.f 7), .slice g1.a g1.ds.length g1.cap]) rfl rfl (by kernel_rfl) (by kernel_rfl) (by kernel_rfl) (fun _ _ _ h => h) (Or.inl ⟨by rfl, fun w' hw' => by obtain ⟨y0, y1, y2, y3, y4, y5, y6, y7, y8, y9⟩ := dg10 (HK1.out w' hw'); go_simp⟩) hS ?_
     simp only [Act.put, lsA, lsZ, lsS]
     refine wpAnyH_ready (rs := [4]) (by kernel_rfl) (by simp) ?_
     refine AllReadyH.cons rfl (fun K' hK' => ?_) AllReadyH.nil
     go_simp
     refine (lacks_at key fa aa ca la g2 _ (HRA3.out.off hS) (by omega) (HD2.out.off hS) HP.out).mono ?_
     rintro e v ⟨rfl, p1⟩
     have hS1 := hS.trans p1 (fun _ _ h => h)
     refine hK'.out _ _ hS1 (fun hS => ?_)
     clear hK' K' hS1
     refine wpAnyH_ready (rs := [9]) (by kernel_rfl) (by simp) ?_
     refine AllReadyH.cons rfl (fun K' hK' => ?_) AllReadyH.nil
     go_simp
     refine (lacks_at key fb ab cb lb g1 _ (HRB3.out.off hS) (by omega) (HD1.out.off hS) HQ.out).mono ?_
     rintro e v ⟨rfl, p1⟩
     have hS1 := hS.trans p1 (fun _ _ h => h)
     refine hK'.out _ _ hS1 (fun hS => ?_)
     clear hK' K' hS1
     refine take_at (i := 10) 11 (v := .bool false) rfl rfl (by kernel_rfl) (by kernel_rfl) (by kernel_rfl) (fun _ _ _ h => h) (Or.inl ⟨by rfl, fun w' hw' => by go_simp⟩) hS ?_
     simp only [Act.put, lsA, lsZ, lsS]
     refine take_at (i := 11) 12 (v := .bool false) rfl rfl (by kernel_rfl) (by kernel_rfl) (by kernel_rfl) (fun _ _ _ h => h) (Or.inl ⟨by rfl, fun w' hw' => by go_simp⟩) hS ?_
     simp only [Act.put, lsA, lsZ, lsS]
     refine wpAnyH_done (by kernel_rfl) ?_ _
     have HRA4 : Hid _ := HRA3.out.off hS
     have HRB4 : Hid _ := HRB3.out.off hS
     have H44 : Hid _ := H43.out.off hS (fun h => h)
     have H54 : Hid _ := H53.out.off hS (fun h => h)
     have HO6 : Hid _ := HO5.out.trans hS (fun _ _ h => h)
     clear hS
     go_upto_region 8 with fail
     refine wp_region_held_drew (S := Off (fun _ => False) _) (by kernel_rfl) ((Off.refl _ _).drew) (fun hS => ?_)
     refine take_at (i := 0) 68 (v := .bool false) rfl rfl (by kernel_rfl) (by kernel_rfl) (by kernel_rfl) (fun _ _ _ h => h) (Or.inl ⟨by rfl, fun w' hw' => by go_simp⟩) hS ?_
     simp only [Act.put, lsA, lsZ, lsS]
     refine take_at (i := 1) 69 (v := .agg #[.int .i64 (fa 0), .int .i64 (fa 1), .int .i64 (fa 2), .int .i64 (fa 3), .int .i64 (fa 4), .int .i64 (fa 5), .int .i64 (fa 6), .int .i64 (fa 7), .slice aa la.length ca]) rfl rfl (by kernel_rfl) (by kernel_rfl) (by kernel_rfl) (fun _ _ _ h => h) (Or.inl ⟨by rfl, fun w' hw' => by obtain ⟨x0, x1, x2, x3, x4, x5, x6, x7, x8⟩ := cel9 (H44.out.off hw' (fun h => h)); go_simp⟩) hS ?_
     simp only [Act.put, lsA, lsZ, lsS]
     refine take_at (i := 2) 70 (v := .agg #[.int .i64 (fb 0), .int .i64 (fb 1), .int .i64 (fb 2), .int .i64 (fb 3), .int .i64 (fb 4), .int .i64 (fb 5), .int .i64 (fb 6), .int .i64 (fb 7), .slice ab lb.length cb]) rfl rfl (by kernel_rfl) (by kernel_rfl) (by kernel_rfl) (fun _ _ _ h => h) (Or.inl ⟨by rfl, fun w' hw' => by obtain ⟨x0, x1, x2, x3, x4, x5, x6, x7, x8⟩ := cel9 (H54.out.off hw' (fun h => h)); go_simp⟩) hS ?_
     simp only [Act.put, lsA, lsZ, lsS]
     refine take_at (i := 4) 72 (v := .agg #[.int .i64 (fb 0), .int .i64 (fb 1), .int .i64 (fb 2), .int .i64 (fb 3), .int .i64 (fb 4), .int .i64 (fb 5), .int .i64 (fb 6), .int .i64 (fb 7), .slice ab lb.length cb]) rfl rfl (by kernel_rfl) (by kernel_rfl) (by kernel_rfl) (fun _ _ _ h => h) (Or.inl ⟨by rfl, fun w' hw' => by obtain ⟨x0, x1, x2, x3, x4, x5, x6, x7, x8⟩ := cel9 (H54.out.off hw' (fun h => h)); go_simp⟩) hS ?_
     simp only [Act.put, lsA, lsZ, lsS]
     refine wpAnyH_ready (rs := [3]) (by kernel_rfl) (by simp) ?_
     refine AllReadyH.cons rfl (fun K' hK' => ?_) AllReadyH.nil
     go_simp
     refine (sjoin_any fa fb aa ab ca cb la lb _ (HRA4.out.off hS) (HRB4.out.off hS)).mono ?_
     rintro e u1 ⟨h1, aj1, cj1, lj1, rfl, hh1, hl1, mk1, p1⟩
     have HJ1 : Hid _ := mk1.row
     have HH1 : Hid _ := hh1
     have HL1 : Hid _ := hl1
     have hS1 := hS.trans p1 (fun _ _ h => h)
     refine hK'.out _ _ hS1 (fun hS => ?_)
     clear hK' K' hS1 mk1 hh1 hl1 p1
     refine wpAnyH_ready (rs := [5]) (by kernel_rfl) (by simp) ?_
     refine AllReadyH.cons rfl (fun K' hK' => ?_) AllReadyH.nil
     go_simp
     have hs9 := ssame_any h1 fb aj1 ab cj1 cb lj1 lb _ HJ1.out (HRB4.out.off hS)
     have e9 : sameS h1 fb (cont lj1) (cont lb) = true := by rw [HH1.out, HL1.out]; exact HSP.out
     rw [e9] at hs9
     clear e9
     refine hs9.mono ?_
     rintro e ux ⟨rfl, p1⟩
     have hS1 := hS.trans p1 (fun _ _ h => h)
     refine hK'.out _ _ hS1 (fun hS => ?_)
     clear hK' K' hS1 p1 hs9
     refine take_at (i := 6) 74 (v := .bool false) rfl rfl (by kernel_rfl) (by kernel_rfl) (by kernel_rfl) (fun _ _ _ h => h) (Or.inl ⟨by rfl, fun w' hw' => by go_simp⟩) hS ?_
     simp only [Act.put, lsA, lsZ, lsS]
     refine take_at (i := 7) 75 (v := .bool true) rfl rfl (by kernel_rfl) (by kernel_rfl) (by kernel_rfl) (fun _ _ _ h => h) (Or.inl ⟨by rfl, fun w' hw' => by go_simp⟩) hS ?_
     simp only [Act.put, lsA, lsZ, lsS]
     refine take_at (i := 8) 76 (v := .bool true) rfl rfl (by kernel_rfl) (by kernel_rfl) (by kernel_rfl) (fun _ _ _ h => h) (Or.inl ⟨by rfl, fun w' hw' => by go_simp⟩) hS ?_
     simp only [Act.put, lsA, lsZ, lsS]
     refine take_at (i := 9) 77 (v := .bool false) rfl rfl (by kernel_rfl) (by kernel_rfl) (by kernel_rfl) (fun _ _ _ h => h) (Or.inl ⟨by rfl, fun w' hw' => by go_simp⟩) hS ?_
     simp only [Act.put, lsA, lsZ, lsS]
     refine take_at (i := 10) 78 (v := .agg #[.int .i64 (fa 0), .int .i64 (fa 1), .int .i64 (fa 2), .int .i64 (fa 3), .int .i64 (fa 4), .int .i64 (fa 5), .int .i64 (fa 6), .int .i64 (fa 7), .slice aa la.length ca]) rfl rfl (by kernel_rfl) (by kernel_rfl) (by kernel_rfl) (fun _ _ _ h => h) (Or.inl ⟨by rfl, fun w' hw' => by obtain ⟨x0, x1, x2, x3, x4, x5, x6, x7, x8⟩ := cel9 (H44.out.off hw' (fun h => h)); go_simp⟩) hS ?_
     simp only [Act.put, lsA, lsZ, lsS]
     refine take_at (i := 11) 79 (v := .agg #[.int .i64 (fb 0), .int .i64 (fb 1), .int .i64 (fb 2), .int .i64 (fb 3), .int .i64 (fb 4), .int .i64 (fb 5), .int .i64 (fb 6), .int .i64 (fb 7), .slice ab lb.length cb]) rfl rfl (by kernel_rfl) (by kernel_rfl) (by kernel_rfl) (fun _ _ _ h => h) (Or.inl ⟨by rfl, fun w' hw' => by obtain ⟨x0, x1, x2, x3, x4, x5, x6, x7, x8⟩ := cel9 (H54.out.off hw' (fun h => h)); go_simp⟩) hS ?_
     simp only [Act.put, lsA, lsZ, lsS]
     refine take_at (i := 13) 81 (v := .agg #[.int .i64 (fa 0), .int .i64 (fa 1), .int .i64 (fa 2), .int .i64 (fa 3), .int .i64 (fa 4), .int .i64 (fa 5), .int .i64 (fa 6), .int .i64 (fa 7), .slice aa la.length ca]) rfl rfl (by kernel_rfl) (by kernel_rfl) (by kernel_rfl) (fun _ _ _ h => h) (Or.inl ⟨by rfl, fun w' hw' => by obtain ⟨x0, x1, x2, x3, x4, x5, x6, x7, x8⟩ := cel9 (H44.out.off hw' (fun h => h)); go_simp⟩) hS ?_
     simp only [Act.put, lsA, lsZ, lsS]
     refine wpAnyH_ready (rs := [12]) (by kernel_rfl) (by simp) ?_
     refine AllReadyH.cons rfl (fun K' hK' => ?_) AllReadyH.nil
     go_simp
     refine (sjoin_any fa fb aa ab ca cb la lb _ (HRA4.out.off hS) (HRB4.out.off hS)).mono ?_
     rintro e u2 ⟨h2, aj2, cj2, lj2, rfl, hh2, hl2, mk2, p1⟩
     have HJ2 : Hid _ := mk2.row
     have HH2 : Hid _ := hh2
     have HL2 : Hid _ := hl2
     have hS1 := hS.trans p1 (fun _ _ h => h)
     refine hK'.out _ _ hS1 (fun hS => ?_)
     clear hK' K' hS1 mk2 hh2 hl2 p1
     refine wpAnyH_ready (rs := [14]) (by kernel_rfl) (by simp) ?_
     refine AllReadyH.cons rfl (fun K' hK' => ?_) AllReadyH.nil
     go_simp
     have hs9 := ssame_any h2 fa aj2 aa cj2 ca lj2 la _ HJ2.out (HRA4.out.off hS)
     have e9 : sameS h2 fa (cont lj2) (cont la) = true := by rw [HH2.out, HL2.out]; exact HSQ.out
     rw [e9] at hs9
     clear e9
     refine hs9.mono ?_
     rintro e ux ⟨rfl, p1⟩
     have hS1 := hS.trans p1 (fun _ _ h => h)
     refine hK'.out _ _ hS1 (fun hS => ?_)
     clear hK' K' hS1 p1 hs9
     refine take_at (i := 15) 83 (v := .bool false) rfl rfl (by kernel_rfl) (by kernel_rfl) (by kernel_rfl) (fun _ _ _ h => h) (Or.inl ⟨by rfl, fun w' hw' => by go_simp⟩) hS ?_
     simp only [Act.put, lsA, lsZ, lsS]
     refine take_at (i := 16) 84 (v := .bool true) rfl rfl (by kernel_rfl) (by kernel_rfl) (by kernel_rfl) (fun _ _ _ h => h) (Or.inl ⟨by rfl, fun w' hw' => by go_simp⟩) hS ?_
     simp only [Act.put, lsA, lsZ, lsS]
     refine take_at (i := 17) 85 (v := .bool true) rfl rfl (by kernel_rfl) (by kernel_rfl) (by kernel_rfl) (fun _ _ _ h => h) (Or.inl ⟨by rfl, fun w' hw' => by go_simp⟩) hS ?_
     simp only [Act.put, lsA, lsZ, lsS]
     refine take_at (i := 18) 86 (v := .bool true) rfl rfl (by kernel_rfl) (by kernel_rfl) (by kernel_rfl) (fun _ _ _ h => h) (Or.inl ⟨by rfl, fun w' hw' => by go_simp⟩) hS ?_
     simp only [Act.put, lsA, lsZ, lsS]
     refine take_at (i := 19) 87 (v := .bool false) rfl rfl (by kernel_rfl) (by kernel_rfl) (by kernel_rfl) (fun _ _ _ h => h) (Or.inl ⟨by rfl, fun w' hw' => by go_simp⟩) hS ?_
     simp only [Act.put, lsA, lsZ, lsS]
     refine take_at (i := 20) 88 (v := .bool false) rfl rfl (by kernel_rfl) (by kernel_rfl) (by kernel_rfl) (fun _ _ _ h => h) (Or.inl ⟨by rfl, fun w' hw' => by go_simp⟩) hS ?_
     simp only [Act.put, lsA, lsZ, lsS]
     refine take_at (i := 21) 89 (v := .bool false) rfl rfl (by kernel_rfl) (by kernel_rfl) (by kernel_rfl) (fun _ _ _ h => h) (Or.inl ⟨by rfl, fun w' hw' => by go_simp⟩) hS ?_
     simp only [Act.put, lsA, lsZ, lsS]
     refine take_at (i := 22) 90 (v := .bool false) rfl rfl (by kernel_rfl) (by kernel_rfl) (by kernel_rfl) (fun _ _ _ h => h) (Or.inl ⟨by rfl, fun w' hw' => by go_simp⟩) hS ?_
     simp only [Act.put, lsA, lsZ, lsS]
     refine take_at (i := 23) 91 (v := .bool false) rfl rfl (by kernel_rfl) (by kernel_rfl) (by kernel_rfl) (fun _ _ _ h => h) (Or.inl ⟨by rfl, fun w' hw' => by go_simp⟩) hS ?_
     simp only [Act.put, lsA, lsZ, lsS]
     refine take_at (i := 24) 92 (v := .agg #[.int .i64 (fa 0), .int .i64 (fa 1), .int .i64 (fa 2), .int .i64 (fa 3), .int .i64 (fa 4), .int .i64 (fa 5), .int .i64 (fa 6), .int .i64 (fa 7), .slice aa la.length ca]) rfl rfl (by kernel_rfl) (by kernel_rfl) (by kernel_rfl) (fun _ _ _ h => h) (Or.inl ⟨by rfl, fun w' hw' => by obtain ⟨x0, x1, x2, x3, x4, x5, x6, x7, x8⟩ := cel9 (H44.out.off hw' (fun h => h)); go_simp⟩) hS ?_
     simp only [Act.put, lsA, lsZ, lsS]
     refine take_at (i := 25) 93 (v := .agg #[.int .i64 (fb 0), .int .i64 (fb 1), .int .i64 (fb 2), .int .i64 (fb 3), .int .i64 (fb 4), .int .i64 (fb 5), .int .i64 (fb 6), .int .i64 (fb 7), .slice ab lb.length cb]) rfl rfl (by kernel_rfl) (by kernel_rfl) (by kernel_rfl) (fun _ _ _ h => h) (Or.inl ⟨by rfl, fun w' hw' => by obtain ⟨x0, x1, x2, x3, x4, x5, x6, x7, x8⟩ := cel9 (H54.out.off hw' (fun h => h)); go_simp⟩) hS ?_
     simp only [Act.put, lsA, lsZ, lsS]
     refine wpAnyH_ready (rs := [26]) (by kernel_rfl) (by simp) ?_
     refine AllReadyH.cons rfl (fun K' hK' => ?_) AllReadyH.nil
     go_simp
     have hs9 := ssame_any fa fb aa ab ca cb la lb _ (HRA4.out.off hS) (HRB4.out.off hS)
     rw [HSS.out] at hs9
     refine hs9.mono ?_
     rintro e ux ⟨rfl, p1⟩
     have hS1 := hS.trans p1 (fun _ _ h => h)
     refine hK'.out _ _ hS1 (fun hS => ?_)
     clear hK' K' hS1 p1 hs9
     refine take_at (i := 27) 95 (v := .bool true) rfl rfl (by kernel_rfl) (by kernel_rfl) (by kernel_rfl) (fun _ _ _ h => h) (Or.inl ⟨by rfl, fun w' hw' => by go_simp⟩) hS ?_
     simp only [Act.put, lsA, lsZ, lsS]
     refine take_at (i := 28) 96 (v := .bool true) rfl rfl (by kernel_rfl) (by kernel_rfl) (by kernel_rfl) (fun _ _ _ h => h) (Or.inl ⟨by rfl, fun w' hw' => by go_simp⟩) hS ?_
     simp only [Act.put, lsA, lsZ, lsS]
     refine take_at (i := 29) 97 (v := .bool true) rfl rfl (by kernel_rfl) (by kernel_rfl) (by kernel_rfl) (fun _ _ _ h => h) (Or.inl ⟨by rfl, fun w' hw' => by go_simp⟩) hS ?_
     simp only [Act.put, lsA, lsZ, lsS]
     refine wpAnyH_ready (rs := [30]) (by kernel_rfl) (by simp) ?_
     refine AllReadyH.cons rfl (fun K' hK' => ?_) AllReadyH.nil
     go_simp
     refine (awake_any _).mono ?_
     rintro e ux ⟨rfl, p1⟩
     have hS1 := hS.trans p1 (fun _ _ h => h)
     refine hK'.out _ _ hS1 (fun hS => ?_)
     clear hK' K' hS1 p1
     refine take_at (i := 31) 99 (v := .bool true) rfl rfl (by kernel_rfl) (by kernel_rfl) (by kernel_rfl) (fun _ _ _ h => h) (Or.inl ⟨by rfl, fun w' hw' => by go_simp⟩) hS ?_
     simp only [Act.put, lsA, lsZ, lsS]
     refine take_at (i := 32) 6 (v := .bool true) rfl rfl (by kernel_rfl) (by kernel_rfl) (by kernel_rfl) (fun _ _ _ h => h) (Or.inl ⟨by rfl, fun w' hw' => by go_simp⟩) hS ?_
     simp only [Act.put, lsA, lsZ, lsS]
     refine wpAnyH_done (by kernel_rfl) ?_ _
     go_wp2_with fail
     go_ret
     exact ⟨rfl, HO6.out.trans hS (fun _ _ h => h)⟩
    ·have HP : Hid (lacksB key fa (cont la) g2.abs = false) := by show _ = _; rw [HB2.out]; exact hP
     have HQ : Hid (lacksB key fb (cont lb) g1.abs = true) := by show _ = _; rw [HB1.out]; exact hQ
     have HSP : Hid (sameS (joinV fa fb (cont la) (cont lb)) fb (joinL fa fb (cont la) (cont lb)) (cont lb) = true) := by show _ = _; have e := exact_p (key := key) MA.out MB.out HA0.out HN.out; rw [hP] at e; simpa using e.symm
     have HSQ : Hid (sameS (joinV fa fb (cont la) (cont lb)) fa (joinL fa fb (cont la) (cont lb)) (cont la) = false) := by show _ = _; have e := exact_q (key := key) MA.out MB.out HA0.out HN.out; rw [hQ] at e; simpa using e.symm
     clear hP hQ
     go_upto_region 7 with fail
     refine wp_region_held_drew (S := Off (fun _ => False) wc) (by kernel_rfl) ((Off.refl _ wc).drew) (fun hS => ?_)
     refine take_at (i := 0) 58 (v := .agg #[.string key, .int .i64 (fa 0), .int .i64 (fa 1), .int .i64 (fa 2), .int .i64 (fa 3), .int .i64 (fa 4), .int .i64 (fa 5), .int .i64 (fa 6), .int .i64 (fa 7), .slice aa la.length ca]) rfl rfl (by kernel_rfl) (by kernel_rfl) (by kernel_rfl) (fun _ _ _ h => h) (Or.inl ⟨by rfl, fun w' hw' => by obtain ⟨y0, y1, y2, y3, y4, y5, y6, y7, y8, y9⟩ := cel10 (H73.out.off hw' (fun h => h)); go_simp⟩) hS ?_
     simp only [Act.put, lsA, lsZ, lsS]
     refine take_at (i := 1) 59 (v := .slice (some ⟨b2, o2, none⟩) 1 c2) rfl rfl (by kernel_rfl) (by kernel_rfl) (by kernel_rfl) (fun _ _ _ h => h) (Or.inl ⟨by rfl, fun w' hw' => by go_simp⟩) hS ?_
     simp only [Act.put, lsA, lsZ, lsS]
     refine take_at (i := 2) 60 (v := .pointer (some ⟨b2, o2, none⟩)) rfl rfl (by kernel_rfl) (by kernel_rfl) (by kernel_rfl) (fun _ _ _ h => h) (Or.inl ⟨by rfl, fun w' hw' => exec_idx10 rfl (idx_dgs0 c2 b2 o2 w')⟩) hS ?_
     simp only [Act.put, lsA, lsZ, lsS]
     refine take_at (i := 3) 61 (v := .agg #[.string g2.key, .int .i64 (g2.f 0), .int .i64 (g2.f 1), .int .i64 (g2.f 2), .int .i64 (g2.f 3), .int .i64 (g2.f 4), .int .i64 (g2.f 5), .int .i64 (g2.f 6), .int .i64 (g2.f 7), .slice g2.a g2.ds.length g2.cap]) rfl rfl (by kernel_rfl) (by kernel_rfl) (by kernel_rfl) (fun _ _ _ h => h) (Or.inl ⟨by rfl, fun w' hw' => by obtain ⟨y0, y1, y2, y3, y4, y5, y6, y7, y8, y9⟩ := dg10 (HK2.out w' hw'); go_simp⟩) hS ?_
     simp only [Act.put, lsA, lsZ, lsS]
     refine take_at (i := 5) 63 (v := .agg #[.string key, .int .i64 (fb 0), .int .i64 (fb 1), .int .i64 (fb 2), .int .i64 (fb 3), .int .i64 (fb 4), .int .i64 (fb 5), .int .i64 (fb 6), .int .i64 (fb 7), .slice ab lb.length cb]) rfl rfl (by kernel_rfl) (by kernel_rfl) (by kernel_rfl) (fun _ _ _ h => h) (Or.inl ⟨by rfl, fun w' hw' => by obtain ⟨y0, y1, y2, y3, y4, y5, y6, y7, y8, y9⟩ := cel10 (H83.out.off hw' (fun h => h)); go_simp⟩) hS ?_
     simp only [Act.put, lsA, lsZ, lsS]
     refine take_at (i := 6) 64 (v := .slice (some ⟨b1, o1, none⟩) 1 c1) rfl rfl (by kernel_rfl) (by kernel_rfl) (by kernel_rfl) (fun _ _ _ h => h) (Or.inl ⟨by rfl, fun w' hw' => by go_simp⟩) hS ?_
     simp only [Act.put, lsA, lsZ, lsS]
     refine take_at (i := 7) 65 (v := .pointer (some ⟨b1, o1, none⟩)) rfl rfl (by kernel_rfl) (by kernel_rfl) (by kernel_rfl) (fun _ _ _ h => h) (Or.inl ⟨by rfl, fun w' hw' => exec_idx10 rfl (idx_dgs0 c1 b1 o1 w')⟩) hS ?_
     simp only [Act.put, lsA, lsZ, lsS]
     refine take_at (i := 8) 66 (v := .agg #[.string g1.key, .int .i64 (g1.f 0), .int .i64 (g1.f 1), .int .i64 (g1.f 2), .int .i64 (g1.f 3), .int .i64 (g1.f 4), .int .i64 (g1.f 5), .int .i64 (g1.f 6), .int .i64 (g1.f 7), .slice g1.a g1.ds.length g1.cap]) rfl rfl (by kernel_rfl) (by kernel_rfl) (by kernel_rfl) (fun _ _ _ h => h) (Or.inl ⟨by rfl, fun w' hw' => by obtain ⟨y0, y1, y2, y3, y4, y5, y6, y7, y8, y9⟩ := dg10 (HK1.out w' hw'); go_simp⟩) hS ?_
     simp only [Act.put, lsA, lsZ, lsS]
     refine wpAnyH_ready (rs := [4]) (by kernel_rfl) (by simp) ?_
     refine AllReadyH.cons rfl (fun K' hK' => ?_) AllReadyH.nil
     go_simp
     refine (lacks_at key fa aa ca la g2 _ (HRA3.out.off hS) (by omega) (HD2.out.off hS) HP.out).mono ?_
     rintro e v ⟨rfl, p1⟩
     have hS1 := hS.trans p1 (fun _ _ h => h)
     refine hK'.out _ _ hS1 (fun hS => ?_)
     clear hK' K' hS1
     refine wpAnyH_ready (rs := [9]) (by kernel_rfl) (by simp) ?_
     refine AllReadyH.cons rfl (fun K' hK' => ?_) AllReadyH.nil
     go_simp
     refine (lacks_at key fb ab cb lb g1 _ (HRB3.out.off hS) (by omega) (HD1.out.off hS) HQ.out).mono ?_
     rintro e v ⟨rfl, p1⟩
     have hS1 := hS.trans p1 (fun _ _ h => h)
     refine hK'.out _ _ hS1 (fun hS => ?_)
     clear hK' K' hS1
     refine take_at (i := 10) 11 (v := .bool false) rfl rfl (by kernel_rfl) (by kernel_rfl) (by kernel_rfl) (fun _ _ _ h => h) (Or.inl ⟨by rfl, fun w' hw' => by go_simp⟩) hS ?_
     simp only [Act.put, lsA, lsZ, lsS]
     refine take_at (i := 11) 12 (v := .bool true) rfl rfl (by kernel_rfl) (by kernel_rfl) (by kernel_rfl) (fun _ _ _ h => h) (Or.inl ⟨by rfl, fun w' hw' => by go_simp⟩) hS ?_
     simp only [Act.put, lsA, lsZ, lsS]
     refine wpAnyH_done (by kernel_rfl) ?_ _
     have HRA4 : Hid _ := HRA3.out.off hS
     have HRB4 : Hid _ := HRB3.out.off hS
     have H44 : Hid _ := H43.out.off hS (fun h => h)
     have H54 : Hid _ := H53.out.off hS (fun h => h)
     have HO6 : Hid _ := HO5.out.trans hS (fun _ _ h => h)
     clear hS
     go_upto_region 8 with fail
     refine wp_region_held_drew (S := Off (fun _ => False) _) (by kernel_rfl) ((Off.refl _ _).drew) (fun hS => ?_)
     refine take_at (i := 0) 68 (v := .bool false) rfl rfl (by kernel_rfl) (by kernel_rfl) (by kernel_rfl) (fun _ _ _ h => h) (Or.inl ⟨by rfl, fun w' hw' => by go_simp⟩) hS ?_
     simp only [Act.put, lsA, lsZ, lsS]
     refine take_at (i := 1) 69 (v := .agg #[.int .i64 (fa 0), .int .i64 (fa 1), .int .i64 (fa 2), .int .i64 (fa 3), .int .i64 (fa 4), .int .i64 (fa 5), .int .i64 (fa 6), .int .i64 (fa 7), .slice aa la.length ca]) rfl rfl (by kernel_rfl) (by kernel_rfl) (by kernel_rfl) (fun _ _ _ h => h) (Or.inl ⟨by rfl, fun w' hw' => by obtain ⟨x0, x1, x2, x3, x4, x5, x6, x7, x8⟩ := cel9 (H44.out.off hw' (fun h => h)); go_simp⟩) hS ?_
     simp only [Act.put, lsA, lsZ, lsS]
     refine take_at (i := 2) 70 (v := .agg #[.int .i64 (fb 0), .int .i64 (fb 1), .int .i64 (fb 2), .int .i64 (fb 3), .int .i64 (fb 4), .int .i64 (fb 5), .int .i64 (fb 6), .int .i64 (fb 7), .slice ab lb.length cb]) rfl rfl (by kernel_rfl) (by kernel_rfl) (by kernel_rfl) (fun _ _ _ h => h) (Or.inl ⟨by rfl, fun w' hw' => by obtain ⟨x0, x1, x2, x3, x4, x5, x6, x7, x8⟩ := cel9 (H54.out.off hw' (fun h => h)); go_simp⟩) hS ?_
     simp only [Act.put, lsA, lsZ, lsS]
     refine take_at (i := 4) 72 (v := .agg #[.int .i64 (fb 0), .int .i64 (fb 1), .int .i64 (fb 2), .int .i64 (fb 3), .int .i64 (fb 4), .int .i64 (fb 5), .int .i64 (fb 6), .int .i64 (fb 7), .slice ab lb.length cb]) rfl rfl (by kernel_rfl) (by kernel_rfl) (by kernel_rfl) (fun _ _ _ h => h) (Or.inl ⟨by rfl, fun w' hw' => by obtain ⟨x0, x1, x2, x3, x4, x5, x6, x7, x8⟩ := cel9 (H54.out.off hw' (fun h => h)); go_simp⟩) hS ?_
     simp only [Act.put, lsA, lsZ, lsS]
     refine wpAnyH_ready (rs := [3]) (by kernel_rfl) (by simp) ?_
     refine AllReadyH.cons rfl (fun K' hK' => ?_) AllReadyH.nil
     go_simp
     refine (sjoin_any fa fb aa ab ca cb la lb _ (HRA4.out.off hS) (HRB4.out.off hS)).mono ?_
     rintro e u1 ⟨h1, aj1, cj1, lj1, rfl, hh1, hl1, mk1, p1⟩
     have HJ1 : Hid _ := mk1.row
     have HH1 : Hid _ := hh1
     have HL1 : Hid _ := hl1
     have hS1 := hS.trans p1 (fun _ _ h => h)
     refine hK'.out _ _ hS1 (fun hS => ?_)
     clear hK' K' hS1 mk1 hh1 hl1 p1
     refine wpAnyH_ready (rs := [5]) (by kernel_rfl) (by simp) ?_
     refine AllReadyH.cons rfl (fun K' hK' => ?_) AllReadyH.nil
     go_simp
     have hs9 := ssame_any h1 fb aj1 ab cj1 cb lj1 lb _ HJ1.out (HRB4.out.off hS)
     have e9 : sameS h1 fb (cont lj1) (cont lb) = true := by rw [HH1.out, HL1.out]; exact HSP.out
     rw [e9] at hs9
     clear e9
     refine hs9.mono ?_
     rintro e ux ⟨rfl, p1⟩
     have hS1 := hS.trans p1 (fun _ _ h => h)
     refine hK'.out _ _ hS1 (fun hS => ?_)
     clear hK' K' hS1 p1 hs9
     refine take_at (i := 6) 74 (v := .bool false) rfl rfl (by kernel_rfl) (by kernel_rfl) (by kernel_rfl) (fun _ _ _ h => h) (Or.inl ⟨by rfl, fun w' hw' => by go_simp⟩) hS ?_
     simp only [Act.put, lsA, lsZ, lsS]
     refine take_at (i := 7) 75 (v := .bool true) rfl rfl (by kernel_rfl) (by kernel_rfl) (by kernel_rfl) (fun _ _ _ h => h) (Or.inl ⟨by rfl, fun w' hw' => by go_simp⟩) hS ?_
     simp only [Act.put, lsA, lsZ, lsS]
     refine take_at (i := 8) 76 (v := .bool true) rfl rfl (by kernel_rfl) (by kernel_rfl) (by kernel_rfl) (fun _ _ _ h => h) (Or.inl ⟨by rfl, fun w' hw' => by go_simp⟩) hS ?_
     simp only [Act.put, lsA, lsZ, lsS]
     refine take_at (i := 9) 77 (v := .bool true) rfl rfl (by kernel_rfl) (by kernel_rfl) (by kernel_rfl) (fun _ _ _ h => h) (Or.inl ⟨by rfl, fun w' hw' => by go_simp⟩) hS ?_
     simp only [Act.put, lsA, lsZ, lsS]
     refine take_at (i := 10) 78 (v := .agg #[.int .i64 (fa 0), .int .i64 (fa 1), .int .i64 (fa 2), .int .i64 (fa 3), .int .i64 (fa 4), .int .i64 (fa 5), .int .i64 (fa 6), .int .i64 (fa 7), .slice aa la.length ca]) rfl rfl (by kernel_rfl) (by kernel_rfl) (by kernel_rfl) (fun _ _ _ h => h) (Or.inl ⟨by rfl, fun w' hw' => by obtain ⟨x0, x1, x2, x3, x4, x5, x6, x7, x8⟩ := cel9 (H44.out.off hw' (fun h => h)); go_simp⟩) hS ?_
     simp only [Act.put, lsA, lsZ, lsS]
     refine take_at (i := 11) 79 (v := .agg #[.int .i64 (fb 0), .int .i64 (fb 1), .int .i64 (fb 2), .int .i64 (fb 3), .int .i64 (fb 4), .int .i64 (fb 5), .int .i64 (fb 6), .int .i64 (fb 7), .slice ab lb.length cb]) rfl rfl (by kernel_rfl) (by kernel_rfl) (by kernel_rfl) (fun _ _ _ h => h) (Or.inl ⟨by rfl, fun w' hw' => by obtain ⟨x0, x1, x2, x3, x4, x5, x6, x7, x8⟩ := cel9 (H54.out.off hw' (fun h => h)); go_simp⟩) hS ?_
     simp only [Act.put, lsA, lsZ, lsS]
     refine take_at (i := 13) 81 (v := .agg #[.int .i64 (fa 0), .int .i64 (fa 1), .int .i64 (fa 2), .int .i64 (fa 3), .int .i64 (fa 4), .int .i64 (fa 5), .int .i64 (fa 6), .int .i64 (fa 7), .slice aa la.length ca]) rfl rfl (by kernel_rfl) (by kernel_rfl) (by kernel_rfl) (fun _ _ _ h => h) (Or.inl ⟨by rfl, fun w' hw' => by obtain ⟨x0, x1, x2, x3, x4, x5, x6, x7, x8⟩ := cel9 (H44.out.off hw' (fun h => h)); go_simp⟩) hS ?_
     simp only [Act.put, lsA, lsZ, lsS]
     refine wpAnyH_ready (rs := [12]) (by kernel_rfl) (by simp) ?_
     refine AllReadyH.cons rfl (fun K' hK' => ?_) AllReadyH.nil
     go_simp
     refine (sjoin_any fa fb aa ab ca cb la lb _ (HRA4.out.off hS) (HRB4.out.off hS)).mono ?_
     rintro e u2 ⟨h2, aj2, cj2, lj2, rfl, hh2, hl2, mk2, p1⟩
     have HJ2 : Hid _ := mk2.row
     have HH2 : Hid _ := hh2
     have HL2 : Hid _ := hl2
     have hS1 := hS.trans p1 (fun _ _ h => h)
     refine hK'.out _ _ hS1 (fun hS => ?_)
     clear hK' K' hS1 mk2 hh2 hl2 p1
     refine wpAnyH_ready (rs := [14]) (by kernel_rfl) (by simp) ?_
     refine AllReadyH.cons rfl (fun K' hK' => ?_) AllReadyH.nil
     go_simp
     have hs9 := ssame_any h2 fa aj2 aa cj2 ca lj2 la _ HJ2.out (HRA4.out.off hS)
     have e9 : sameS h2 fa (cont lj2) (cont la) = false := by rw [HH2.out, HL2.out]; exact HSQ.out
     rw [e9] at hs9
     clear e9
     refine hs9.mono ?_
     rintro e ux ⟨rfl, p1⟩
     have hS1 := hS.trans p1 (fun _ _ h => h)
     refine hK'.out _ _ hS1 (fun hS => ?_)
     clear hK' K' hS1 p1 hs9
     refine take_at (i := 15) 83 (v := .bool true) rfl rfl (by kernel_rfl) (by kernel_rfl) (by kernel_rfl) (fun _ _ _ h => h) (Or.inl ⟨by rfl, fun w' hw' => by go_simp⟩) hS ?_
     simp only [Act.put, lsA, lsZ, lsS]
     refine take_at (i := 16) 84 (v := .bool true) rfl rfl (by kernel_rfl) (by kernel_rfl) (by kernel_rfl) (fun _ _ _ h => h) (Or.inl ⟨by rfl, fun w' hw' => by go_simp⟩) hS ?_
     simp only [Act.put, lsA, lsZ, lsS]
     refine take_at (i := 17) 85 (v := .bool true) rfl rfl (by kernel_rfl) (by kernel_rfl) (by kernel_rfl) (fun _ _ _ h => h) (Or.inl ⟨by rfl, fun w' hw' => by go_simp⟩) hS ?_
     simp only [Act.put, lsA, lsZ, lsS]
     refine take_at (i := 18) 86 (v := .bool true) rfl rfl (by kernel_rfl) (by kernel_rfl) (by kernel_rfl) (fun _ _ _ h => h) (Or.inl ⟨by rfl, fun w' hw' => by go_simp⟩) hS ?_
     simp only [Act.put, lsA, lsZ, lsS]
     refine take_at (i := 19) 87 (v := .bool false) rfl rfl (by kernel_rfl) (by kernel_rfl) (by kernel_rfl) (fun _ _ _ h => h) (Or.inl ⟨by rfl, fun w' hw' => by go_simp⟩) hS ?_
     simp only [Act.put, lsA, lsZ, lsS]
     refine take_at (i := 20) 88 (v := .bool false) rfl rfl (by kernel_rfl) (by kernel_rfl) (by kernel_rfl) (fun _ _ _ h => h) (Or.inl ⟨by rfl, fun w' hw' => by go_simp⟩) hS ?_
     simp only [Act.put, lsA, lsZ, lsS]
     refine take_at (i := 21) 89 (v := .bool true) rfl rfl (by kernel_rfl) (by kernel_rfl) (by kernel_rfl) (fun _ _ _ h => h) (Or.inl ⟨by rfl, fun w' hw' => by go_simp⟩) hS ?_
     simp only [Act.put, lsA, lsZ, lsS]
     refine take_at (i := 22) 90 (v := .bool true) rfl rfl (by kernel_rfl) (by kernel_rfl) (by kernel_rfl) (fun _ _ _ h => h) (Or.inl ⟨by rfl, fun w' hw' => by go_simp⟩) hS ?_
     simp only [Act.put, lsA, lsZ, lsS]
     refine take_at (i := 23) 91 (v := .bool true) rfl rfl (by kernel_rfl) (by kernel_rfl) (by kernel_rfl) (fun _ _ _ h => h) (Or.inl ⟨by rfl, fun w' hw' => by go_simp⟩) hS ?_
     simp only [Act.put, lsA, lsZ, lsS]
     refine take_at (i := 24) 92 (v := undef) rfl rfl (by kernel_rfl) (by kernel_rfl) (by kernel_rfl) (fun _ _ _ h => h) (Or.inr ⟨by rfl, rfl⟩) hS ?_
     simp only [Act.put, lsA, lsZ, lsS]
     refine take_at (i := 25) 93 (v := undef) rfl rfl (by kernel_rfl) (by kernel_rfl) (by kernel_rfl) (fun _ _ _ h => h) (Or.inr ⟨by rfl, rfl⟩) hS ?_
     simp only [Act.put, lsA, lsZ, lsS]
     refine take_at (i := 26) 94 (v := undef) rfl rfl (by kernel_rfl) (by kernel_rfl) (by kernel_rfl) (fun _ _ _ h => h) (Or.inr ⟨by rfl, rfl⟩) hS ?_
     simp only [Act.put, lsA, lsZ, lsS]
     refine take_at (i := 27) 95 (v := .bool true) rfl rfl (by kernel_rfl) (by kernel_rfl) (by kernel_rfl) (fun _ _ _ h => h) (Or.inl ⟨by rfl, fun w' hw' => by go_simp⟩) hS ?_
     simp only [Act.put, lsA, lsZ, lsS]
     refine take_at (i := 28) 96 (v := .bool true) rfl rfl (by kernel_rfl) (by kernel_rfl) (by kernel_rfl) (fun _ _ _ h => h) (Or.inl ⟨by rfl, fun w' hw' => by go_simp⟩) hS ?_
     simp only [Act.put, lsA, lsZ, lsS]
     refine take_at (i := 29) 97 (v := .bool true) rfl rfl (by kernel_rfl) (by kernel_rfl) (by kernel_rfl) (fun _ _ _ h => h) (Or.inl ⟨by rfl, fun w' hw' => by go_simp⟩) hS ?_
     simp only [Act.put, lsA, lsZ, lsS]
     refine wpAnyH_ready (rs := [30]) (by kernel_rfl) (by simp) ?_
     refine AllReadyH.cons rfl (fun K' hK' => ?_) AllReadyH.nil
     go_simp
     refine (awake_any _).mono ?_
     rintro e ux ⟨rfl, p1⟩
     have hS1 := hS.trans p1 (fun _ _ h => h)
     refine hK'.out _ _ hS1 (fun hS => ?_)
     clear hK' K' hS1 p1
     refine take_at (i := 31) 99 (v := .bool true) rfl rfl (by kernel_rfl) (by kernel_rfl) (by kernel_rfl) (fun _ _ _ h => h) (Or.inl ⟨by rfl, fun w' hw' => by go_simp⟩) hS ?_
     simp only [Act.put, lsA, lsZ, lsS]
     refine take_at (i := 32) 6 (v := .bool true) rfl rfl (by kernel_rfl) (by kernel_rfl) (by kernel_rfl) (fun _ _ _ h => h) (Or.inl ⟨by rfl, fun w' hw' => by go_simp⟩) hS ?_
     simp only [Act.put, lsA, lsZ, lsS]
     refine wpAnyH_done (by kernel_rfl) ?_ _
     go_wp2_with fail
     go_ret
     exact ⟨rfl, HO6.out.trans hS (fun _ _ h => h)⟩
   ·cases hQ : lacksB key fb (cont lb) (digO key fa (cont la))
    ·have HP : Hid (lacksB key fa (cont la) g2.abs = true) := by show _ = _; rw [HB2.out]; exact hP
     have HQ : Hid (lacksB key fb (cont lb) g1.abs = false) := by show _ = _; rw [HB1.out]; exact hQ
     have HSP : Hid (sameS (joinV fa fb (cont la) (cont lb)) fb (joinL fa fb (cont la) (cont lb)) (cont lb) = false) := by show _ = _; have e := exact_p (key := key) MA.out MB.out HA0.out HN.out; rw [hP] at e; simpa using e.symm
     have HSQ : Hid (sameS (joinV fa fb (cont la) (cont lb)) fa (joinL fa fb (cont la) (cont lb)) (cont la) = true) := by show _ = _; have e := exact_q (key := key) MA.out MB.out HA0.out HN.out; rw [hQ] at e; simpa using e.symm
     clear hP hQ
     go_upto_region 7 with fail
     refine wp_region_held_drew (S := Off (fun _ => False) wc) (by kernel_rfl) ((Off.refl _ wc).drew) (fun hS => ?_)
     refine take_at (i := 0) 58 (v := .agg #[.string key, .int .i64 (fa 0), .int .i64 (fa 1), .int .i64 (fa 2), .int .i64 (fa 3), .int .i64 (fa 4), .int .i64 (fa 5), .int .i64 (fa 6), .int .i64 (fa 7), .slice aa la.length ca]) rfl rfl (by kernel_rfl) (by kernel_rfl) (by kernel_rfl) (fun _ _ _ h => h) (Or.inl ⟨by rfl, fun w' hw' => by obtain ⟨y0, y1, y2, y3, y4, y5, y6, y7, y8, y9⟩ := cel10 (H73.out.off hw' (fun h => h)); go_simp⟩) hS ?_
     simp only [Act.put, lsA, lsZ, lsS]
     refine take_at (i := 1) 59 (v := .slice (some ⟨b2, o2, none⟩) 1 c2) rfl rfl (by kernel_rfl) (by kernel_rfl) (by kernel_rfl) (fun _ _ _ h => h) (Or.inl ⟨by rfl, fun w' hw' => by go_simp⟩) hS ?_
     simp only [Act.put, lsA, lsZ, lsS]
     refine take_at (i := 2) 60 (v := .pointer (some ⟨b2, o2, none⟩)) rfl rfl (by kernel_rfl) (by kernel_rfl) (by kernel_rfl) (fun _ _ _ h => h) (Or.inl ⟨by rfl, fun w' hw' => exec_idx10 rfl (idx_dgs0 c2 b2 o2 w')⟩) hS ?_
     simp only [Act.put, lsA, lsZ, lsS]
     refine take_at (i := 3) 61 (v := .agg #[.string g2.key, .int .i64 (g2.f 0), .int .i64 (g2.f 1), .int .i64 (g2.f 2), .int .i64 (g2.f 3), .int .i64 (g2.f 4), .int .i64 (g2.f 5), .int .i64 (g2.f 6), .int .i64 (g2.f 7), .slice g2.a g2.ds.length g2.cap]) rfl rfl (by kernel_rfl) (by kernel_rfl) (by kernel_rfl) (fun _ _ _ h => h) (Or.inl ⟨by rfl, fun w' hw' => by obtain ⟨y0, y1, y2, y3, y4, y5, y6, y7, y8, y9⟩ := dg10 (HK2.out w' hw'); go_simp⟩) hS ?_
     simp only [Act.put, lsA, lsZ, lsS]
     refine take_at (i := 5) 63 (v := .agg #[.string key, .int .i64 (fb 0), .int .i64 (fb 1), .int .i64 (fb 2), .int .i64 (fb 3), .int .i64 (fb 4), .int .i64 (fb 5), .int .i64 (fb 6), .int .i64 (fb 7), .slice ab lb.length cb]) rfl rfl (by kernel_rfl) (by kernel_rfl) (by kernel_rfl) (fun _ _ _ h => h) (Or.inl ⟨by rfl, fun w' hw' => by obtain ⟨y0, y1, y2, y3, y4, y5, y6, y7, y8, y9⟩ := cel10 (H83.out.off hw' (fun h => h)); go_simp⟩) hS ?_
     simp only [Act.put, lsA, lsZ, lsS]
     refine take_at (i := 6) 64 (v := .slice (some ⟨b1, o1, none⟩) 1 c1) rfl rfl (by kernel_rfl) (by kernel_rfl) (by kernel_rfl) (fun _ _ _ h => h) (Or.inl ⟨by rfl, fun w' hw' => by go_simp⟩) hS ?_
     simp only [Act.put, lsA, lsZ, lsS]
     refine take_at (i := 7) 65 (v := .pointer (some ⟨b1, o1, none⟩)) rfl rfl (by kernel_rfl) (by kernel_rfl) (by kernel_rfl) (fun _ _ _ h => h) (Or.inl ⟨by rfl, fun w' hw' => exec_idx10 rfl (idx_dgs0 c1 b1 o1 w')⟩) hS ?_
     simp only [Act.put, lsA, lsZ, lsS]
     refine take_at (i := 8) 66 (v := .agg #[.string g1.key, .int .i64 (g1.f 0), .int .i64 (g1.f 1), .int .i64 (g1.f 2), .int .i64 (g1.f 3), .int .i64 (g1.f 4), .int .i64 (g1.f 5), .int .i64 (g1.f 6), .int .i64 (g1.f 7), .slice g1.a g1.ds.length g1.cap]) rfl rfl (by kernel_rfl) (by kernel_rfl) (by kernel_rfl) (fun _ _ _ h => h) (Or.inl ⟨by rfl, fun w' hw' => by obtain ⟨y0, y1, y2, y3, y4, y5, y6, y7, y8, y9⟩ := dg10 (HK1.out w' hw'); go_simp⟩) hS ?_
     simp only [Act.put, lsA, lsZ, lsS]
     refine wpAnyH_ready (rs := [4]) (by kernel_rfl) (by simp) ?_
     refine AllReadyH.cons rfl (fun K' hK' => ?_) AllReadyH.nil
     go_simp
     refine (lacks_at key fa aa ca la g2 _ (HRA3.out.off hS) (by omega) (HD2.out.off hS) HP.out).mono ?_
     rintro e v ⟨rfl, p1⟩
     have hS1 := hS.trans p1 (fun _ _ h => h)
     refine hK'.out _ _ hS1 (fun hS => ?_)
     clear hK' K' hS1
     refine wpAnyH_ready (rs := [9]) (by kernel_rfl) (by simp) ?_
     refine AllReadyH.cons rfl (fun K' hK' => ?_) AllReadyH.nil
     go_simp
     refine (lacks_at key fb ab cb lb g1 _ (HRB3.out.off hS) (by omega) (HD1.out.off hS) HQ.out).mono ?_
     rintro e v ⟨rfl, p1⟩
     have hS1 := hS.trans p1 (fun _ _ h => h)
     refine hK'.out _ _ hS1 (fun hS => ?_)
     clear hK' K' hS1
     refine take_at (i := 10) 11 (v := .bool true) rfl rfl (by kernel_rfl) (by kernel_rfl) (by kernel_rfl) (fun _ _ _ h => h) (Or.inl ⟨by rfl, fun w' hw' => by go_simp⟩) hS ?_
     simp only [Act.put, lsA, lsZ, lsS]
     refine take_at (i := 11) 12 (v := .bool false) rfl rfl (by kernel_rfl) (by kernel_rfl) (by kernel_rfl) (fun _ _ _ h => h) (Or.inl ⟨by rfl, fun w' hw' => by go_simp⟩) hS ?_
     simp only [Act.put, lsA, lsZ, lsS]
     refine wpAnyH_done (by kernel_rfl) ?_ _
     have HRA4 : Hid _ := HRA3.out.off hS
     have HRB4 : Hid _ := HRB3.out.off hS
     have H44 : Hid _ := H43.out.off hS (fun h => h)
     have H54 : Hid _ := H53.out.off hS (fun h => h)
     have HO6 : Hid _ := HO5.out.trans hS (fun _ _ h => h)
     clear hS
     go_upto_region 8 with fail
     refine wp_region_held_drew (S := Off (fun _ => False) _) (by kernel_rfl) ((Off.refl _ _).drew) (fun hS => ?_)
     refine take_at (i := 0) 68 (v := .bool true) rfl rfl (by kernel_rfl) (by kernel_rfl) (by kernel_rfl) (fun _ _ _ h => h) (Or.inl ⟨by rfl, fun w' hw' => by go_simp⟩) hS ?_
     simp only [Act.put, lsA, lsZ, lsS]
     refine take_at (i := 1) 69 (v := .agg #[.int .i64 (fa 0), .int .i64 (fa 1), .int .i64 (fa 2), .int .i64 (fa 3), .int .i64 (fa 4), .int .i64 (fa 5), .int .i64 (fa 6), .int .i64 (fa 7), .slice aa la.length ca]) rfl rfl (by kernel_rfl) (by kernel_rfl) (by kernel_rfl) (fun _ _ _ h => h) (Or.inl ⟨by rfl, fun w' hw' => by obtain ⟨x0, x1, x2, x3, x4, x5, x6, x7, x8⟩ := cel9 (H44.out.off hw' (fun h => h)); go_simp⟩) hS ?_
     simp only [Act.put, lsA, lsZ, lsS]
     refine take_at (i := 2) 70 (v := .agg #[.int .i64 (fb 0), .int .i64 (fb 1), .int .i64 (fb 2), .int .i64 (fb 3), .int .i64 (fb 4), .int .i64 (fb 5), .int .i64 (fb 6), .int .i64 (fb 7), .slice ab lb.length cb]) rfl rfl (by kernel_rfl) (by kernel_rfl) (by kernel_rfl) (fun _ _ _ h => h) (Or.inl ⟨by rfl, fun w' hw' => by obtain ⟨x0, x1, x2, x3, x4, x5, x6, x7, x8⟩ := cel9 (H54.out.off hw' (fun h => h)); go_simp⟩) hS ?_
     simp only [Act.put, lsA, lsZ, lsS]
     refine take_at (i := 4) 72 (v := .agg #[.int .i64 (fb 0), .int .i64 (fb 1), .int .i64 (fb 2), .int .i64 (fb 3), .int .i64 (fb 4), .int .i64 (fb 5), .int .i64 (fb 6), .int .i64 (fb 7), .slice ab lb.length cb]) rfl rfl (by kernel_rfl) (by kernel_rfl) (by kernel_rfl) (fun _ _ _ h => h) (Or.inl ⟨by rfl, fun w' hw' => by obtain ⟨x0, x1, x2, x3, x4, x5, x6, x7, x8⟩ := cel9 (H54.out.off hw' (fun h => h)); go_simp⟩) hS ?_
     simp only [Act.put, lsA, lsZ, lsS]
     refine wpAnyH_ready (rs := [3]) (by kernel_rfl) (by simp) ?_
     refine AllReadyH.cons rfl (fun K' hK' => ?_) AllReadyH.nil
     go_simp
     refine (sjoin_any fa fb aa ab ca cb la lb _ (HRA4.out.off hS) (HRB4.out.off hS)).mono ?_
     rintro e u1 ⟨h1, aj1, cj1, lj1, rfl, hh1, hl1, mk1, p1⟩
     have HJ1 : Hid _ := mk1.row
     have HH1 : Hid _ := hh1
     have HL1 : Hid _ := hl1
     have hS1 := hS.trans p1 (fun _ _ h => h)
     refine hK'.out _ _ hS1 (fun hS => ?_)
     clear hK' K' hS1 mk1 hh1 hl1 p1
     refine wpAnyH_ready (rs := [5]) (by kernel_rfl) (by simp) ?_
     refine AllReadyH.cons rfl (fun K' hK' => ?_) AllReadyH.nil
     go_simp
     have hs9 := ssame_any h1 fb aj1 ab cj1 cb lj1 lb _ HJ1.out (HRB4.out.off hS)
     have e9 : sameS h1 fb (cont lj1) (cont lb) = false := by rw [HH1.out, HL1.out]; exact HSP.out
     rw [e9] at hs9
     clear e9
     refine hs9.mono ?_
     rintro e ux ⟨rfl, p1⟩
     have hS1 := hS.trans p1 (fun _ _ h => h)
     refine hK'.out _ _ hS1 (fun hS => ?_)
     clear hK' K' hS1 p1 hs9
     refine take_at (i := 6) 74 (v := .bool true) rfl rfl (by kernel_rfl) (by kernel_rfl) (by kernel_rfl) (fun _ _ _ h => h) (Or.inl ⟨by rfl, fun w' hw' => by go_simp⟩) hS ?_
     simp only [Act.put, lsA, lsZ, lsS]
     refine take_at (i := 7) 75 (v := .bool true) rfl rfl (by kernel_rfl) (by kernel_rfl) (by kernel_rfl) (fun _ _ _ h => h) (Or.inl ⟨by rfl, fun w' hw' => by go_simp⟩) hS ?_
     simp only [Act.put, lsA, lsZ, lsS]
     refine take_at (i := 8) 76 (v := .bool true) rfl rfl (by kernel_rfl) (by kernel_rfl) (by kernel_rfl) (fun _ _ _ h => h) (Or.inl ⟨by rfl, fun w' hw' => by go_simp⟩) hS ?_
     simp only [Act.put, lsA, lsZ, lsS]
     refine take_at (i := 9) 77 (v := .bool false) rfl rfl (by kernel_rfl) (by kernel_rfl) (by kernel_rfl) (fun _ _ _ h => h) (Or.inl ⟨by rfl, fun w' hw' => by go_simp⟩) hS ?_
     simp only [Act.put, lsA, lsZ, lsS]
     refine take_at (i := 10) 78 (v := .agg #[.int .i64 (fa 0), .int .i64 (fa 1), .int .i64 (fa 2), .int .i64 (fa 3), .int .i64 (fa 4), .int .i64 (fa 5), .int .i64 (fa 6), .int .i64 (fa 7), .slice aa la.length ca]) rfl rfl (by kernel_rfl) (by kernel_rfl) (by kernel_rfl) (fun _ _ _ h => h) (Or.inl ⟨by rfl, fun w' hw' => by obtain ⟨x0, x1, x2, x3, x4, x5, x6, x7, x8⟩ := cel9 (H44.out.off hw' (fun h => h)); go_simp⟩) hS ?_
     simp only [Act.put, lsA, lsZ, lsS]
     refine take_at (i := 11) 79 (v := .agg #[.int .i64 (fb 0), .int .i64 (fb 1), .int .i64 (fb 2), .int .i64 (fb 3), .int .i64 (fb 4), .int .i64 (fb 5), .int .i64 (fb 6), .int .i64 (fb 7), .slice ab lb.length cb]) rfl rfl (by kernel_rfl) (by kernel_rfl) (by kernel_rfl) (fun _ _ _ h => h) (Or.inl ⟨by rfl, fun w' hw' => by obtain ⟨x0, x1, x2, x3, x4, x5, x6, x7, x8⟩ := cel9 (H54.out.off hw' (fun h => h)); go_simp⟩) hS ?_
     simp only [Act.put, lsA, lsZ, lsS]
     refine take_at (i := 13) 81 (v := .agg #[.int .i64 (fa 0), .int .i64 (fa 1), .int .i64 (fa 2), .int .i64 (fa 3), .int .i64 (fa 4), .int .i64 (fa 5), .int .i64 (fa 6), .int .i64 (fa 7), .slice aa la.length ca]) rfl rfl (by kernel_rfl) (by kernel_rfl) (by kernel_rfl) (fun _ _ _ h => h) (Or.inl ⟨by rfl, fun w' hw' => by obtain ⟨x0, x1, x2, x3, x4, x5, x6, x7, x8⟩ := cel9 (H44.out.off hw' (fun h => h)); go_simp⟩) hS ?_
     simp only [Act.put, lsA, lsZ, lsS]
     refine wpAnyH_ready (rs := [12]) (by kernel_rfl) (by simp) ?_
     refine AllReadyH.cons rfl (fun K' hK' => ?_) AllReadyH.nil
     go_simp
     refine (sjoin_any fa fb aa ab ca cb la lb _ (HRA4.out.off hS) (HRB4.out.off hS)).mono ?_
     rintro e u2 ⟨h2, aj2, cj2, lj2, rfl, hh2, hl2, mk2, p1⟩
     have HJ2 : Hid _ := mk2.row
     have HH2 : Hid _ := hh2
     have HL2 : Hid _ := hl2
     have hS1 := hS.trans p1 (fun _ _ h => h)
     refine hK'.out _ _ hS1 (fun hS => ?_)
     clear hK' K' hS1 mk2 hh2 hl2 p1
     refine wpAnyH_ready (rs := [14]) (by kernel_rfl) (by simp) ?_
     refine AllReadyH.cons rfl (fun K' hK' => ?_) AllReadyH.nil
     go_simp
     have hs9 := ssame_any h2 fa aj2 aa cj2 ca lj2 la _ HJ2.out (HRA4.out.off hS)
     have e9 : sameS h2 fa (cont lj2) (cont la) = true := by rw [HH2.out, HL2.out]; exact HSQ.out
     rw [e9] at hs9
     clear e9
     refine hs9.mono ?_
     rintro e ux ⟨rfl, p1⟩
     have hS1 := hS.trans p1 (fun _ _ h => h)
     refine hK'.out _ _ hS1 (fun hS => ?_)
     clear hK' K' hS1 p1 hs9
     refine take_at (i := 15) 83 (v := .bool false) rfl rfl (by kernel_rfl) (by kernel_rfl) (by kernel_rfl) (fun _ _ _ h => h) (Or.inl ⟨by rfl, fun w' hw' => by go_simp⟩) hS ?_
     simp only [Act.put, lsA, lsZ, lsS]
     refine take_at (i := 16) 84 (v := .bool true) rfl rfl (by kernel_rfl) (by kernel_rfl) (by kernel_rfl) (fun _ _ _ h => h) (Or.inl ⟨by rfl, fun w' hw' => by go_simp⟩) hS ?_
     simp only [Act.put, lsA, lsZ, lsS]
     refine take_at (i := 17) 85 (v := .bool true) rfl rfl (by kernel_rfl) (by kernel_rfl) (by kernel_rfl) (fun _ _ _ h => h) (Or.inl ⟨by rfl, fun w' hw' => by go_simp⟩) hS ?_
     simp only [Act.put, lsA, lsZ, lsS]
     refine take_at (i := 18) 86 (v := .bool true) rfl rfl (by kernel_rfl) (by kernel_rfl) (by kernel_rfl) (fun _ _ _ h => h) (Or.inl ⟨by rfl, fun w' hw' => by go_simp⟩) hS ?_
     simp only [Act.put, lsA, lsZ, lsS]
     refine take_at (i := 19) 87 (v := .bool true) rfl rfl (by kernel_rfl) (by kernel_rfl) (by kernel_rfl) (fun _ _ _ h => h) (Or.inl ⟨by rfl, fun w' hw' => by go_simp⟩) hS ?_
     simp only [Act.put, lsA, lsZ, lsS]
     refine take_at (i := 20) 88 (v := .bool true) rfl rfl (by kernel_rfl) (by kernel_rfl) (by kernel_rfl) (fun _ _ _ h => h) (Or.inl ⟨by rfl, fun w' hw' => by go_simp⟩) hS ?_
     simp only [Act.put, lsA, lsZ, lsS]
     refine take_at (i := 21) 89 (v := undef) rfl rfl (by kernel_rfl) (by kernel_rfl) (by kernel_rfl) (fun _ _ _ h => h) (Or.inr ⟨by rfl, rfl⟩) hS ?_
     simp only [Act.put, lsA, lsZ, lsS]
     refine take_at (i := 22) 90 (v := .bool true) rfl rfl (by kernel_rfl) (by kernel_rfl) (by kernel_rfl) (fun _ _ _ h => h) (Or.inl ⟨by rfl, fun w' hw' => by go_simp⟩) hS ?_
     simp only [Act.put, lsA, lsZ, lsS]
     refine take_at (i := 23) 91 (v := .bool true) rfl rfl (by kernel_rfl) (by kernel_rfl) (by kernel_rfl) (fun _ _ _ h => h) (Or.inl ⟨by rfl, fun w' hw' => by go_simp⟩) hS ?_
     simp only [Act.put, lsA, lsZ, lsS]
     refine take_at (i := 24) 92 (v := undef) rfl rfl (by kernel_rfl) (by kernel_rfl) (by kernel_rfl) (fun _ _ _ h => h) (Or.inr ⟨by rfl, rfl⟩) hS ?_
     simp only [Act.put, lsA, lsZ, lsS]
     refine take_at (i := 25) 93 (v := undef) rfl rfl (by kernel_rfl) (by kernel_rfl) (by kernel_rfl) (fun _ _ _ h => h) (Or.inr ⟨by rfl, rfl⟩) hS ?_
     simp only [Act.put, lsA, lsZ, lsS]
     refine take_at (i := 26) 94 (v := undef) rfl rfl (by kernel_rfl) (by kernel_rfl) (by kernel_rfl) (fun _ _ _ h => h) (Or.inr ⟨by rfl, rfl⟩) hS ?_
     simp only [Act.put, lsA, lsZ, lsS]
     refine take_at (i := 27) 95 (v := .bool true) rfl rfl (by kernel_rfl) (by kernel_rfl) (by kernel_rfl) (fun _ _ _ h => h) (Or.inl ⟨by rfl, fun w' hw' => by go_simp⟩) hS ?_
     simp only [Act.put, lsA, lsZ, lsS]
     refine take_at (i := 28) 96 (v := .bool true) rfl rfl (by kernel_rfl) (by kernel_rfl) (by kernel_rfl) (fun _ _ _ h => h) (Or.inl ⟨by rfl, fun w' hw' => by go_simp⟩) hS ?_
     simp only [Act.put, lsA, lsZ, lsS]
     refine take_at (i := 29) 97 (v := .bool true) rfl rfl (by kernel_rfl) (by kernel_rfl) (by kernel_rfl) (fun _ _ _ h => h) (Or.inl ⟨by rfl, fun w' hw' => by go_simp⟩) hS ?_
     simp only [Act.put, lsA, lsZ, lsS]
     refine wpAnyH_ready (rs := [30]) (by kernel_rfl) (by simp) ?_
     refine AllReadyH.cons rfl (fun K' hK' => ?_) AllReadyH.nil
     go_simp
     refine (awake_any _).mono ?_
     rintro e ux ⟨rfl, p1⟩
     have hS1 := hS.trans p1 (fun _ _ h => h)
     refine hK'.out _ _ hS1 (fun hS => ?_)
     clear hK' K' hS1 p1
     refine take_at (i := 31) 99 (v := .bool true) rfl rfl (by kernel_rfl) (by kernel_rfl) (by kernel_rfl) (fun _ _ _ h => h) (Or.inl ⟨by rfl, fun w' hw' => by go_simp⟩) hS ?_
     simp only [Act.put, lsA, lsZ, lsS]
     refine take_at (i := 32) 6 (v := .bool true) rfl rfl (by kernel_rfl) (by kernel_rfl) (by kernel_rfl) (fun _ _ _ h => h) (Or.inl ⟨by rfl, fun w' hw' => by go_simp⟩) hS ?_
     simp only [Act.put, lsA, lsZ, lsS]
     refine wpAnyH_done (by kernel_rfl) ?_ _
     go_wp2_with fail
     go_ret
     exact ⟨rfl, HO6.out.trans hS (fun _ _ h => h)⟩
    ·have HP : Hid (lacksB key fa (cont la) g2.abs = true) := by show _ = _; rw [HB2.out]; exact hP
     have HQ : Hid (lacksB key fb (cont lb) g1.abs = true) := by show _ = _; rw [HB1.out]; exact hQ
     have HSP : Hid (sameS (joinV fa fb (cont la) (cont lb)) fb (joinL fa fb (cont la) (cont lb)) (cont lb) = false) := by show _ = _; have e := exact_p (key := key) MA.out MB.out HA0.out HN.out; rw [hP] at e; simpa using e.symm
     have HSQ : Hid (sameS (joinV fa fb (cont la) (cont lb)) fa (joinL fa fb (cont la) (cont lb)) (cont la) = false) := by show _ = _; have e := exact_q (key := key) MA.out MB.out HA0.out HN.out; rw [hQ] at e; simpa using e.symm
     clear hP hQ
     go_upto_region 7 with fail
     refine wp_region_held_drew (S := Off (fun _ => False) wc) (by kernel_rfl) ((Off.refl _ wc).drew) (fun hS => ?_)
     refine take_at (i := 0) 58 (v := .agg #[.string key, .int .i64 (fa 0), .int .i64 (fa 1), .int .i64 (fa 2), .int .i64 (fa 3), .int .i64 (fa 4), .int .i64 (fa 5), .int .i64 (fa 6), .int .i64 (fa 7), .slice aa la.length ca]) rfl rfl (by kernel_rfl) (by kernel_rfl) (by kernel_rfl) (fun _ _ _ h => h) (Or.inl ⟨by rfl, fun w' hw' => by obtain ⟨y0, y1, y2, y3, y4, y5, y6, y7, y8, y9⟩ := cel10 (H73.out.off hw' (fun h => h)); go_simp⟩) hS ?_
     simp only [Act.put, lsA, lsZ, lsS]
     refine take_at (i := 1) 59 (v := .slice (some ⟨b2, o2, none⟩) 1 c2) rfl rfl (by kernel_rfl) (by kernel_rfl) (by kernel_rfl) (fun _ _ _ h => h) (Or.inl ⟨by rfl, fun w' hw' => by go_simp⟩) hS ?_
     simp only [Act.put, lsA, lsZ, lsS]
     refine take_at (i := 2) 60 (v := .pointer (some ⟨b2, o2, none⟩)) rfl rfl (by kernel_rfl) (by kernel_rfl) (by kernel_rfl) (fun _ _ _ h => h) (Or.inl ⟨by rfl, fun w' hw' => exec_idx10 rfl (idx_dgs0 c2 b2 o2 w')⟩) hS ?_
     simp only [Act.put, lsA, lsZ, lsS]
     refine take_at (i := 3) 61 (v := .agg #[.string g2.key, .int .i64 (g2.f 0), .int .i64 (g2.f 1), .int .i64 (g2.f 2), .int .i64 (g2.f 3), .int .i64 (g2.f 4), .int .i64 (g2.f 5), .int .i64 (g2.f 6), .int .i64 (g2.f 7), .slice g2.a g2.ds.length g2.cap]) rfl rfl (by kernel_rfl) (by kernel_rfl) (by kernel_rfl) (fun _ _ _ h => h) (Or.inl ⟨by rfl, fun w' hw' => by obtain ⟨y0, y1, y2, y3, y4, y5, y6, y7, y8, y9⟩ := dg10 (HK2.out w' hw'); go_simp⟩) hS ?_
     simp only [Act.put, lsA, lsZ, lsS]
     refine take_at (i := 5) 63 (v := .agg #[.string key, .int .i64 (fb 0), .int .i64 (fb 1), .int .i64 (fb 2), .int .i64 (fb 3), .int .i64 (fb 4), .int .i64 (fb 5), .int .i64 (fb 6), .int .i64 (fb 7), .slice ab lb.length cb]) rfl rfl (by kernel_rfl) (by kernel_rfl) (by kernel_rfl) (fun _ _ _ h => h) (Or.inl ⟨by rfl, fun w' hw' => by obtain ⟨y0, y1, y2, y3, y4, y5, y6, y7, y8, y9⟩ := cel10 (H83.out.off hw' (fun h => h)); go_simp⟩) hS ?_
     simp only [Act.put, lsA, lsZ, lsS]
     refine take_at (i := 6) 64 (v := .slice (some ⟨b1, o1, none⟩) 1 c1) rfl rfl (by kernel_rfl) (by kernel_rfl) (by kernel_rfl) (fun _ _ _ h => h) (Or.inl ⟨by rfl, fun w' hw' => by go_simp⟩) hS ?_
     simp only [Act.put, lsA, lsZ, lsS]
     refine take_at (i := 7) 65 (v := .pointer (some ⟨b1, o1, none⟩)) rfl rfl (by kernel_rfl) (by kernel_rfl) (by kernel_rfl) (fun _ _ _ h => h) (Or.inl ⟨by rfl, fun w' hw' => exec_idx10 rfl (idx_dgs0 c1 b1 o1 w')⟩) hS ?_
     simp only [Act.put, lsA, lsZ, lsS]
     refine take_at (i := 8) 66 (v := .agg #[.string g1.key, .int .i64 (g1.f 0), .int .i64 (g1.f 1), .int .i64 (g1.f 2), .int .i64 (g1.f 3), .int .i64 (g1.f 4), .int .i64 (g1.f 5), .int .i64 (g1.f 6), .int .i64 (g1.f 7), .slice g1.a g1.ds.length g1.cap]) rfl rfl (by kernel_rfl) (by kernel_rfl) (by kernel_rfl) (fun _ _ _ h => h) (Or.inl ⟨by rfl, fun w' hw' => by obtain ⟨y0, y1, y2, y3, y4, y5, y6, y7, y8, y9⟩ := dg10 (HK1.out w' hw'); go_simp⟩) hS ?_
     simp only [Act.put, lsA, lsZ, lsS]
     refine wpAnyH_ready (rs := [4]) (by kernel_rfl) (by simp) ?_
     refine AllReadyH.cons rfl (fun K' hK' => ?_) AllReadyH.nil
     go_simp
     refine (lacks_at key fa aa ca la g2 _ (HRA3.out.off hS) (by omega) (HD2.out.off hS) HP.out).mono ?_
     rintro e v ⟨rfl, p1⟩
     have hS1 := hS.trans p1 (fun _ _ h => h)
     refine hK'.out _ _ hS1 (fun hS => ?_)
     clear hK' K' hS1
     refine wpAnyH_ready (rs := [9]) (by kernel_rfl) (by simp) ?_
     refine AllReadyH.cons rfl (fun K' hK' => ?_) AllReadyH.nil
     go_simp
     refine (lacks_at key fb ab cb lb g1 _ (HRB3.out.off hS) (by omega) (HD1.out.off hS) HQ.out).mono ?_
     rintro e v ⟨rfl, p1⟩
     have hS1 := hS.trans p1 (fun _ _ h => h)
     refine hK'.out _ _ hS1 (fun hS => ?_)
     clear hK' K' hS1
     refine take_at (i := 10) 11 (v := .bool true) rfl rfl (by kernel_rfl) (by kernel_rfl) (by kernel_rfl) (fun _ _ _ h => h) (Or.inl ⟨by rfl, fun w' hw' => by go_simp⟩) hS ?_
     simp only [Act.put, lsA, lsZ, lsS]
     refine take_at (i := 11) 12 (v := .bool true) rfl rfl (by kernel_rfl) (by kernel_rfl) (by kernel_rfl) (fun _ _ _ h => h) (Or.inl ⟨by rfl, fun w' hw' => by go_simp⟩) hS ?_
     simp only [Act.put, lsA, lsZ, lsS]
     refine wpAnyH_done (by kernel_rfl) ?_ _
     have HRA4 : Hid _ := HRA3.out.off hS
     have HRB4 : Hid _ := HRB3.out.off hS
     have H44 : Hid _ := H43.out.off hS (fun h => h)
     have H54 : Hid _ := H53.out.off hS (fun h => h)
     have HO6 : Hid _ := HO5.out.trans hS (fun _ _ h => h)
     clear hS
     go_upto_region 8 with fail
     refine wp_region_held_drew (S := Off (fun _ => False) _) (by kernel_rfl) ((Off.refl _ _).drew) (fun hS => ?_)
     refine take_at (i := 0) 68 (v := .bool true) rfl rfl (by kernel_rfl) (by kernel_rfl) (by kernel_rfl) (fun _ _ _ h => h) (Or.inl ⟨by rfl, fun w' hw' => by go_simp⟩) hS ?_
     simp only [Act.put, lsA, lsZ, lsS]
     refine take_at (i := 1) 69 (v := .agg #[.int .i64 (fa 0), .int .i64 (fa 1), .int .i64 (fa 2), .int .i64 (fa 3), .int .i64 (fa 4), .int .i64 (fa 5), .int .i64 (fa 6), .int .i64 (fa 7), .slice aa la.length ca]) rfl rfl (by kernel_rfl) (by kernel_rfl) (by kernel_rfl) (fun _ _ _ h => h) (Or.inl ⟨by rfl, fun w' hw' => by obtain ⟨x0, x1, x2, x3, x4, x5, x6, x7, x8⟩ := cel9 (H44.out.off hw' (fun h => h)); go_simp⟩) hS ?_
     simp only [Act.put, lsA, lsZ, lsS]
     refine take_at (i := 2) 70 (v := .agg #[.int .i64 (fb 0), .int .i64 (fb 1), .int .i64 (fb 2), .int .i64 (fb 3), .int .i64 (fb 4), .int .i64 (fb 5), .int .i64 (fb 6), .int .i64 (fb 7), .slice ab lb.length cb]) rfl rfl (by kernel_rfl) (by kernel_rfl) (by kernel_rfl) (fun _ _ _ h => h) (Or.inl ⟨by rfl, fun w' hw' => by obtain ⟨x0, x1, x2, x3, x4, x5, x6, x7, x8⟩ := cel9 (H54.out.off hw' (fun h => h)); go_simp⟩) hS ?_
     simp only [Act.put, lsA, lsZ, lsS]
     refine take_at (i := 4) 72 (v := .agg #[.int .i64 (fb 0), .int .i64 (fb 1), .int .i64 (fb 2), .int .i64 (fb 3), .int .i64 (fb 4), .int .i64 (fb 5), .int .i64 (fb 6), .int .i64 (fb 7), .slice ab lb.length cb]) rfl rfl (by kernel_rfl) (by kernel_rfl) (by kernel_rfl) (fun _ _ _ h => h) (Or.inl ⟨by rfl, fun w' hw' => by obtain ⟨x0, x1, x2, x3, x4, x5, x6, x7, x8⟩ := cel9 (H54.out.off hw' (fun h => h)); go_simp⟩) hS ?_
     simp only [Act.put, lsA, lsZ, lsS]
     refine wpAnyH_ready (rs := [3]) (by kernel_rfl) (by simp) ?_
     refine AllReadyH.cons rfl (fun K' hK' => ?_) AllReadyH.nil
     go_simp
     refine (sjoin_any fa fb aa ab ca cb la lb _ (HRA4.out.off hS) (HRB4.out.off hS)).mono ?_
     rintro e u1 ⟨h1, aj1, cj1, lj1, rfl, hh1, hl1, mk1, p1⟩
     have HJ1 : Hid _ := mk1.row
     have HH1 : Hid _ := hh1
     have HL1 : Hid _ := hl1
     have hS1 := hS.trans p1 (fun _ _ h => h)
     refine hK'.out _ _ hS1 (fun hS => ?_)
     clear hK' K' hS1 mk1 hh1 hl1 p1
     refine wpAnyH_ready (rs := [5]) (by kernel_rfl) (by simp) ?_
     refine AllReadyH.cons rfl (fun K' hK' => ?_) AllReadyH.nil
     go_simp
     have hs9 := ssame_any h1 fb aj1 ab cj1 cb lj1 lb _ HJ1.out (HRB4.out.off hS)
     have e9 : sameS h1 fb (cont lj1) (cont lb) = false := by rw [HH1.out, HL1.out]; exact HSP.out
     rw [e9] at hs9
     clear e9
     refine hs9.mono ?_
     rintro e ux ⟨rfl, p1⟩
     have hS1 := hS.trans p1 (fun _ _ h => h)
     refine hK'.out _ _ hS1 (fun hS => ?_)
     clear hK' K' hS1 p1 hs9
     refine take_at (i := 6) 74 (v := .bool true) rfl rfl (by kernel_rfl) (by kernel_rfl) (by kernel_rfl) (fun _ _ _ h => h) (Or.inl ⟨by rfl, fun w' hw' => by go_simp⟩) hS ?_
     simp only [Act.put, lsA, lsZ, lsS]
     refine take_at (i := 7) 75 (v := .bool true) rfl rfl (by kernel_rfl) (by kernel_rfl) (by kernel_rfl) (fun _ _ _ h => h) (Or.inl ⟨by rfl, fun w' hw' => by go_simp⟩) hS ?_
     simp only [Act.put, lsA, lsZ, lsS]
     refine take_at (i := 8) 76 (v := .bool true) rfl rfl (by kernel_rfl) (by kernel_rfl) (by kernel_rfl) (fun _ _ _ h => h) (Or.inl ⟨by rfl, fun w' hw' => by go_simp⟩) hS ?_
     simp only [Act.put, lsA, lsZ, lsS]
     refine take_at (i := 9) 77 (v := .bool true) rfl rfl (by kernel_rfl) (by kernel_rfl) (by kernel_rfl) (fun _ _ _ h => h) (Or.inl ⟨by rfl, fun w' hw' => by go_simp⟩) hS ?_
     simp only [Act.put, lsA, lsZ, lsS]
     refine take_at (i := 10) 78 (v := .agg #[.int .i64 (fa 0), .int .i64 (fa 1), .int .i64 (fa 2), .int .i64 (fa 3), .int .i64 (fa 4), .int .i64 (fa 5), .int .i64 (fa 6), .int .i64 (fa 7), .slice aa la.length ca]) rfl rfl (by kernel_rfl) (by kernel_rfl) (by kernel_rfl) (fun _ _ _ h => h) (Or.inl ⟨by rfl, fun w' hw' => by obtain ⟨x0, x1, x2, x3, x4, x5, x6, x7, x8⟩ := cel9 (H44.out.off hw' (fun h => h)); go_simp⟩) hS ?_
     simp only [Act.put, lsA, lsZ, lsS]
     refine take_at (i := 11) 79 (v := .agg #[.int .i64 (fb 0), .int .i64 (fb 1), .int .i64 (fb 2), .int .i64 (fb 3), .int .i64 (fb 4), .int .i64 (fb 5), .int .i64 (fb 6), .int .i64 (fb 7), .slice ab lb.length cb]) rfl rfl (by kernel_rfl) (by kernel_rfl) (by kernel_rfl) (fun _ _ _ h => h) (Or.inl ⟨by rfl, fun w' hw' => by obtain ⟨x0, x1, x2, x3, x4, x5, x6, x7, x8⟩ := cel9 (H54.out.off hw' (fun h => h)); go_simp⟩) hS ?_
     simp only [Act.put, lsA, lsZ, lsS]
     refine take_at (i := 13) 81 (v := .agg #[.int .i64 (fa 0), .int .i64 (fa 1), .int .i64 (fa 2), .int .i64 (fa 3), .int .i64 (fa 4), .int .i64 (fa 5), .int .i64 (fa 6), .int .i64 (fa 7), .slice aa la.length ca]) rfl rfl (by kernel_rfl) (by kernel_rfl) (by kernel_rfl) (fun _ _ _ h => h) (Or.inl ⟨by rfl, fun w' hw' => by obtain ⟨x0, x1, x2, x3, x4, x5, x6, x7, x8⟩ := cel9 (H44.out.off hw' (fun h => h)); go_simp⟩) hS ?_
     simp only [Act.put, lsA, lsZ, lsS]
     refine wpAnyH_ready (rs := [12]) (by kernel_rfl) (by simp) ?_
     refine AllReadyH.cons rfl (fun K' hK' => ?_) AllReadyH.nil
     go_simp
     refine (sjoin_any fa fb aa ab ca cb la lb _ (HRA4.out.off hS) (HRB4.out.off hS)).mono ?_
     rintro e u2 ⟨h2, aj2, cj2, lj2, rfl, hh2, hl2, mk2, p1⟩
     have HJ2 : Hid _ := mk2.row
     have HH2 : Hid _ := hh2
     have HL2 : Hid _ := hl2
     have hS1 := hS.trans p1 (fun _ _ h => h)
     refine hK'.out _ _ hS1 (fun hS => ?_)
     clear hK' K' hS1 mk2 hh2 hl2 p1
     refine wpAnyH_ready (rs := [14]) (by kernel_rfl) (by simp) ?_
     refine AllReadyH.cons rfl (fun K' hK' => ?_) AllReadyH.nil
     go_simp
     have hs9 := ssame_any h2 fa aj2 aa cj2 ca lj2 la _ HJ2.out (HRA4.out.off hS)
     have e9 : sameS h2 fa (cont lj2) (cont la) = false := by rw [HH2.out, HL2.out]; exact HSQ.out
     rw [e9] at hs9
     clear e9
     refine hs9.mono ?_
     rintro e ux ⟨rfl, p1⟩
     have hS1 := hS.trans p1 (fun _ _ h => h)
     refine hK'.out _ _ hS1 (fun hS => ?_)
     clear hK' K' hS1 p1 hs9
     refine take_at (i := 15) 83 (v := .bool true) rfl rfl (by kernel_rfl) (by kernel_rfl) (by kernel_rfl) (fun _ _ _ h => h) (Or.inl ⟨by rfl, fun w' hw' => by go_simp⟩) hS ?_
     simp only [Act.put, lsA, lsZ, lsS]
     refine take_at (i := 16) 84 (v := .bool true) rfl rfl (by kernel_rfl) (by kernel_rfl) (by kernel_rfl) (fun _ _ _ h => h) (Or.inl ⟨by rfl, fun w' hw' => by go_simp⟩) hS ?_
     simp only [Act.put, lsA, lsZ, lsS]
     refine take_at (i := 17) 85 (v := .bool true) rfl rfl (by kernel_rfl) (by kernel_rfl) (by kernel_rfl) (fun _ _ _ h => h) (Or.inl ⟨by rfl, fun w' hw' => by go_simp⟩) hS ?_
     simp only [Act.put, lsA, lsZ, lsS]
     refine take_at (i := 18) 86 (v := .bool true) rfl rfl (by kernel_rfl) (by kernel_rfl) (by kernel_rfl) (fun _ _ _ h => h) (Or.inl ⟨by rfl, fun w' hw' => by go_simp⟩) hS ?_
     simp only [Act.put, lsA, lsZ, lsS]
     refine take_at (i := 19) 87 (v := .bool true) rfl rfl (by kernel_rfl) (by kernel_rfl) (by kernel_rfl) (fun _ _ _ h => h) (Or.inl ⟨by rfl, fun w' hw' => by go_simp⟩) hS ?_
     simp only [Act.put, lsA, lsZ, lsS]
     refine take_at (i := 20) 88 (v := .bool true) rfl rfl (by kernel_rfl) (by kernel_rfl) (by kernel_rfl) (fun _ _ _ h => h) (Or.inl ⟨by rfl, fun w' hw' => by go_simp⟩) hS ?_
     simp only [Act.put, lsA, lsZ, lsS]
     refine take_at (i := 21) 89 (v := undef) rfl rfl (by kernel_rfl) (by kernel_rfl) (by kernel_rfl) (fun _ _ _ h => h) (Or.inr ⟨by rfl, rfl⟩) hS ?_
     simp only [Act.put, lsA, lsZ, lsS]
     refine take_at (i := 22) 90 (v := .bool true) rfl rfl (by kernel_rfl) (by kernel_rfl) (by kernel_rfl) (fun _ _ _ h => h) (Or.inl ⟨by rfl, fun w' hw' => by go_simp⟩) hS ?_
     simp only [Act.put, lsA, lsZ, lsS]
     refine take_at (i := 23) 91 (v := .bool true) rfl rfl (by kernel_rfl) (by kernel_rfl) (by kernel_rfl) (fun _ _ _ h => h) (Or.inl ⟨by rfl, fun w' hw' => by go_simp⟩) hS ?_
     simp only [Act.put, lsA, lsZ, lsS]
     refine take_at (i := 24) 92 (v := undef) rfl rfl (by kernel_rfl) (by kernel_rfl) (by kernel_rfl) (fun _ _ _ h => h) (Or.inr ⟨by rfl, rfl⟩) hS ?_
     simp only [Act.put, lsA, lsZ, lsS]
     refine take_at (i := 25) 93 (v := undef) rfl rfl (by kernel_rfl) (by kernel_rfl) (by kernel_rfl) (fun _ _ _ h => h) (Or.inr ⟨by rfl, rfl⟩) hS ?_
     simp only [Act.put, lsA, lsZ, lsS]
     refine take_at (i := 26) 94 (v := undef) rfl rfl (by kernel_rfl) (by kernel_rfl) (by kernel_rfl) (fun _ _ _ h => h) (Or.inr ⟨by rfl, rfl⟩) hS ?_
     simp only [Act.put, lsA, lsZ, lsS]
     refine take_at (i := 27) 95 (v := .bool true) rfl rfl (by kernel_rfl) (by kernel_rfl) (by kernel_rfl) (fun _ _ _ h => h) (Or.inl ⟨by rfl, fun w' hw' => by go_simp⟩) hS ?_
     simp only [Act.put, lsA, lsZ, lsS]
     refine take_at (i := 28) 96 (v := .bool true) rfl rfl (by kernel_rfl) (by kernel_rfl) (by kernel_rfl) (fun _ _ _ h => h) (Or.inl ⟨by rfl, fun w' hw' => by go_simp⟩) hS ?_
     simp only [Act.put, lsA, lsZ, lsS]
     refine take_at (i := 29) 97 (v := .bool true) rfl rfl (by kernel_rfl) (by kernel_rfl) (by kernel_rfl) (fun _ _ _ h => h) (Or.inl ⟨by rfl, fun w' hw' => by go_simp⟩) hS ?_
     simp only [Act.put, lsA, lsZ, lsS]
     refine wpAnyH_ready (rs := [30]) (by kernel_rfl) (by simp) ?_
     refine AllReadyH.cons rfl (fun K' hK' => ?_) AllReadyH.nil
     go_simp
     refine (awake_any _).mono ?_
     rintro e ux ⟨rfl, p1⟩
     have hS1 := hS.trans p1 (fun _ _ h => h)
     refine hK'.out _ _ hS1 (fun hS => ?_)
     clear hK' K' hS1 p1
     refine take_at (i := 31) 99 (v := .bool true) rfl rfl (by kernel_rfl) (by kernel_rfl) (by kernel_rfl) (fun _ _ _ h => h) (Or.inl ⟨by rfl, fun w' hw' => by go_simp⟩) hS ?_
     simp only [Act.put, lsA, lsZ, lsS]
     refine take_at (i := 32) 6 (v := .bool true) rfl rfl (by kernel_rfl) (by kernel_rfl) (by kernel_rfl) (fun _ _ _ h => h) (Or.inl ⟨by rfl, fun w' hw' => by go_simp⟩) hS ?_
     simp only [Act.put, lsA, lsZ, lsS]
     refine wpAnyH_done (by kernel_rfl) ?_ _
     go_wp2_with fail
     go_ret
     exact ⟨rfl, HO6.out.trans hS (fun _ _ h => h)⟩
end Go.Proofs.Ytpnnpdfmoldiiaa
