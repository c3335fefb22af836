/- Items of several texts. -/
import Derived.Test.YtmeclfgehpbjlaaYQp18
namespace Go.Proofs.Ytmeclfgehpbjlaa
set_option maxRecDepth 100000
open Go.RowKit
def mcs (x : Mg) : List Value := [.int .i64 x.k, .int .i64 x.fr, .int .i64 x.tn, .int .i64 x.op, .int .i64 x.fo, .string x.key, .int .i64 x.bk, .slice x.ea x.el x.ec, .slice x.da x.dl x.dc, .slice x.ma x.ml x.mc]
theorem results_msg2 {fn : Func} {p u : Tmp} (h : fn.results = #[.cell p 31, .tmp u]) {tmps : Array Value} {w : World} {b : Nat} {x : Mg} (hp : tmps.getD p undef = .pointer (some ⟨b, 0, none⟩)) {v : Value} (hu : tmps.getD u undef = v) (hc : Cel b 31 #[.int .i64 x.k, .int .i64 x.fr, .int .i64 x.tn, .int .i64 x.op, .int .i64 x.fo, .string x.key, .int .i64 x.bk, .slice x.ea x.el x.ec, .slice x.da x.dl x.dc, .slice x.ma x.ml x.mc] w) :
  (results fn tmps).run Try.prog w = .ok (.tuple #[(.agg #[.int .i64 x.k, .int .i64 x.fr, .int .i64 x.tn, .int .i64 x.op, .int .i64 x.fo, .string x.key, .int .i64 x.bk, .slice x.ea x.el x.ec, .slice x.da x.dl x.dc, .slice x.ma x.ml x.mc]), v]) w := by
 rw [results_cell_tmp h]
 have ha : (asAddr (.pointer (some ⟨b, 0, none⟩))).run Try.prog w = .ok ⟨b, 0, none⟩ w := rfl
 rw [hp, hu, ha]
 obtain ⟨d, hd⟩ : ∃ d, Try.prog.underlying 31 = some (.struct d) := ⟨_, Try.underlying31⟩
 have hv := run_loadVar_row (P := Try.prog) w b 31 31 _ (0, 0) (.struct d) hc.is hd rfl (by kernel_rfl)
 simp only [Result.andThen, hv]
theorem results_msg {fn : Func} {p : Tmp} (h : fn.results = #[.cell p 31]) {tmps : Array Value} {w : World} {b : Nat} {x : Mg} (hp : tmps.getD p undef = .pointer (some ⟨b, 0, none⟩)) (hc : Cel b 31 #[.int .i64 x.k, .int .i64 x.fr, .int .i64 x.tn, .int .i64 x.op, .int .i64 x.fo, .string x.key, .int .i64 x.bk, .slice x.ea x.el x.ec, .slice x.da x.dl x.dc, .slice x.ma x.ml x.mc] w) :
  (results fn tmps).run Try.prog w = .ok ((.agg #[.int .i64 x.k, .int .i64 x.fr, .int .i64 x.tn, .int .i64 x.op, .int .i64 x.fo, .string x.key, .int .i64 x.bk, .slice x.ea x.el x.ec, .slice x.da x.dl x.dc, .slice x.ma x.ml x.mc])) w := by
 obtain ⟨d, hd⟩ : ∃ d, Try.prog.underlying 31 = some (.struct d) := ⟨_, Try.underlying31⟩
 exact results_cell_row h tmps w b 31 _ (0, 0) (.struct d) hp hc.is hd rfl (by kernel_rfl)
def mm (n : Int) : Mg := ⟨4, 0, 0, n, 0, ⟨#[107]⟩, 0, none, 0, 0, none, 0, 0, none, 0, 0⟩
theorem msg_any (n : Int) (w : World) : Calls Try.prog 22 #[.int .i64 n] w fun e w' => e = .returned ((.agg #[.int .i64 (mm n).k, .int .i64 (mm n).fr, .int .i64 (mm n).tn, .int .i64 (mm n).op, .int .i64 (mm n).fo, .string (mm n).key, .int .i64 (mm n).bk, .slice (mm n).ea (mm n).el (mm n).ec, .slice (mm n).da (mm n).dl (mm n).dc, .slice (mm n).ma (mm n).ml (mm n).mc])) ∧ Off (fun _ => False) w w' := by
 have C := Cel.new w 31 #[.int .i64 0, .int .i64 0, .int .i64 0, .int .i64 0, .int .i64 0, .string ⟨#[]⟩, .int .i64 0, .slice none 0 0, .slice none 0 0, .slice none 0 0]
 have O : Off (fun _ => False) w (w.alloc (.cells #[.int .i64 0, .int .i64 0, .int .i64 0, .int .i64 0, .int .i64 0, .string ⟨#[]⟩, .int .i64 0, .slice none 0 0, .slice none 0 0, .slice none 0 0] 31)) := (Off.refl _ w).alloc _
 have HW : Hid (w.heap.size ≤ w.heap.size) := Nat.le_refl _
 go_enter Try.func22, Try.ntmps22
 go_upto_region 1 with fail
 generalize hv : w.alloc (.cells #[.int .i64 0, .int .i64 0, .int .i64 0, .int .i64 0, .int .i64 0, .string ⟨#[]⟩, .int .i64 0, .slice none 0 0, .slice none 0 0, .slice none 0 0] 31) = V at C O ⊢
 have hle : w.heap.size ≤ w.heap.size := Nat.le_refl _
 have HC : Hid _ := C
 have HO : Hid _ := O
 have fz := C.free
 obtain ⟨x0, x1, x2, x3, x4, x5, x6, x7, x8, x9⟩ := celw10 C
 clear hv C O
 go_wp2_with fail
 refine bodyPost_ret (results_msg (x := mm n) rfl rfl (HC.out.wrwAll (vs := mcs (mm n)) rfl)) rfl ?_
 exact ⟨rfl, HO.out.trans (off_wrw (g := w.heap.size) (us := mcs (mm n)) (Off.refl (fun c => c = w.heap.size) V) (.inl rfl)) (fun i hi e => by have e : i = w.heap.size := e; omega)⟩
theorem taken_nil (w : World) : Calls Try.prog 14 #[.pointer none] w fun e w' => e = .returned (.tuple #[(.agg #[.int .i64 mz.k, .int .i64 mz.fr, .int .i64 mz.tn, .int .i64 mz.op, .int .i64 mz.fo, .string mz.key, .int .i64 mz.bk, .slice mz.ea mz.el mz.ec, .slice mz.da mz.dl mz.dc, .slice mz.ma mz.ml mz.mc]), .bool false]) ∧ Off (fun _ => False) w w' := by
 have C := Cel.new w 31 #[.int .i64 0, .int .i64 0, .int .i64 0, .int .i64 0, .int .i64 0, .string ⟨#[]⟩, .int .i64 0, .slice none 0 0, .slice none 0 0, .slice none 0 0]
 have O : Off (fun _ => False) w (w.alloc (.cells #[.int .i64 0, .int .i64 0, .int .i64 0, .int .i64 0, .int .i64 0, .string ⟨#[]⟩, .int .i64 0, .slice none 0 0, .slice none 0 0, .slice none 0 0] 31)) := (Off.refl _ w).alloc _
 have hq := eql_que
 go_enter Try.func14, Try.ntmps14
 go_upto_region 1 with fail
 generalize hv : w.alloc (.cells #[.int .i64 0, .int .i64 0, .int .i64 0, .int .i64 0, .int .i64 0, .string ⟨#[]⟩, .int .i64 0, .slice none 0 0, .slice none 0 0, .slice none 0 0] 31) = V at C O ⊢
 have HC : Hid _ := C
 have HO : Hid _ := O
 have fz := C.free
 obtain ⟨x0, x1, x2, x3, x4, x5, x6, x7, x8, x9⟩ := celw10 C
 clear hv C O
 go_wp2_with fail
 refine bodyPost_ret (results_msg2 (x := mz) rfl rfl rfl (HC.out.wrwAll (vs := mcs mz) rfl)) rfl ?_
 exact ⟨rfl, HO.out.trans (off_wrw (g := w.heap.size) (us := mcs mz) (Off.refl (fun c => c = w.heap.size) V) (.inl rfl)) (fun i hi e => by have e : i = w.heap.size := e; omega)⟩
set_option maxHeartbeats 1000000 in
theorem take_none {D : Nat → Prop} {p : Nat} {most r t : Int} {w : World} (h : Que D p [] most r t w) : Calls Try.prog 14 #[.pointer (some ⟨p, 0, none⟩)] w fun e w' => e = .returned (.tuple #[(.agg #[.int .i64 mz.k, .int .i64 mz.fr, .int .i64 mz.tn, .int .i64 mz.op, .int .i64 mz.fo, .string mz.key, .int .i64 mz.bk, .slice mz.ea mz.el mz.ec, .slice mz.da mz.dl mz.dc, .slice mz.ma mz.ml mz.mc]), .bool false]) ∧ Off (fun _ => False) w w' := by
 have C := Cel.new w 31 #[.int .i64 0, .int .i64 0, .int .i64 0, .int .i64 0, .int .i64 0, .string ⟨#[]⟩, .int .i64 0, .slice none 0 0, .slice none 0 0, .slice none 0 0]
 have O : Off (fun _ => False) w (w.alloc (.cells #[.int .i64 0, .int .i64 0, .int .i64 0, .int .i64 0, .int .i64 0, .string ⟨#[]⟩, .int .i64 0, .slice none 0 0, .slice none 0 0, .slice none 0 0] 31)) := (Off.refl _ w).alloc _
 have h' := h.free O
 have hq := eql_que
 go_enter Try.func14, Try.ntmps14
 go_upto_region 1 with fail
 generalize hv : w.alloc (.cells #[.int .i64 0, .int .i64 0, .int .i64 0, .int .i64 0, .int .i64 0, .string ⟨#[]⟩, .int .i64 0, .slice none 0 0, .slice none 0 0, .slice none 0 0] 31) = V at C O h' ⊢
 obtain ⟨a, cap, c, d, h1, -⟩ := h'.is
 have c0 : V.cell? ⟨p, 0, none⟩ = some (.slice a 0 cap) := h1.cell 0
 have HC : Hid _ := C
 have HO : Hid _ := O
 have fz := C.free
 obtain ⟨x0, x1, x2, x3, x4, x5, x6, x7, x8, x9⟩ := celw10 C
 clear hv C O h h' h1
 go_wp2_with fail
 refine bodyPost_ret (results_msg2 (x := mz) rfl rfl rfl (HC.out.wrwAll (vs := mcs mz) rfl)) rfl ?_
 exact ⟨rfl, HO.out.trans (off_wrw (g := w.heap.size) (us := mcs mz) (Off.refl (fun c => c = w.heap.size) V) (.inl rfl)) (fun i hi e => by have e : i = w.heap.size := e; omega)⟩
theorem take_end {D : Nat → Prop} {p c d n k b5 g : Nat} {cap : Nat} {ys : List Wt} {z : Wt} {most r t : Int} {V V1 W2 W3 W4 : World}
  (hdp : D p) (hdl : ∀ c, D c → c < V.heap.size) (hg : ∀ i, blk (some ⟨g, 0, none⟩) = some i → D i ∧ i ≠ p ∧ i ≠ c ∧ i ≠ d) (hd6 : D c ∧ D d) (hm1 : most ≤ 1000) (hs : Srd (ys ++ [z]))
  (o1 : Off (fun _ => False) V V1) (o2 : Off (fun c => blk (some ⟨g, 0, none⟩) = some c) V1 W2) (o3 : Off (fun c => c = p) W2 W3) (o4 : Off (fun i => i = c) W3 W4)
  (ow : OwnG 68 11 wcs W3 (some ⟨g, 0, none⟩) cap ys) (hp : Cel p 62 (#[.slice (some ⟨g, 0, none⟩) (n + 1) cap, .int .i64 t, .pointer (some ⟨c, 0, none⟩), .pointer (some ⟨d, 0, none⟩)].setIfInBounds 0 (.slice (some ⟨g, 0, none⟩) k cap)) W3)
  (t4 : Tal c (((n + 1 : Nat) : Int) - 1) most W4) (t5 : Tal d r 9223372036854775807 W3) (hb : Cel b5 31 #[.int .i64 z.m.k, .int .i64 z.m.fr, .int .i64 z.m.tn, .int .i64 z.m.op, .int .i64 z.m.fo, .string z.m.key, .int .i64 z.m.bk, .slice z.m.ea z.m.el z.m.ec, .slice z.m.da z.m.dl z.m.dc, .slice z.m.ma z.m.ml z.m.mc] W3) (hn : ys.length = n) (hk : k = n) (h5 : V.heap.size = b5) (h8 : p ≠ c) (h9 : p ≠ d) (h10 : c ≠ d) :
  Que D p ys most r t W4 ∧ Off (fun c => D c) V W4 ∧ Cel b5 31 #[.int .i64 z.m.k, .int .i64 z.m.fr, .int .i64 z.m.tn, .int .i64 z.m.op, .int .i64 z.m.fo, .string z.m.key, .int .i64 z.m.bk, .slice z.m.ea z.m.el z.m.ec, .slice z.m.da z.m.dl z.m.dc, .slice z.m.ma z.m.ml z.m.mc] W4 := by
 have o : Off (fun c => D c) V W4 := (((o1.mono (fun _ _ h => h.elim)).trans o2 (fun i _ e => (hg i e).1)).trans o3 (fun i _ e => by have e : i = p := e; rw [e]; exact hdp)).trans o4 (fun i _ e => by have e : i = c := e; rw [e]; exact hd6.1)
 refine ⟨⟨hdp, fun c hc => Nat.lt_of_lt_of_le (hdl c hc) o.size, ⟨some ⟨g, 0, none⟩, cap, c, d, ?_, ow.off o4 (fun i _ hi e => (hg i hi).2.2.1 e), hg, ?_, t5.off o4 (fun e => h10 e.symm), hd6.1, hd6.2, h8, h9, h10⟩, ?_, hm1⟩, o, hb.off o4 (fun e => by have e : b5 = c := e; have := hdl c hd6.1; omega)⟩
 ·rw [hk] at hp
  rw [hn]
  exact hp.off o4 h8
 ·rw [hn]
  have : (((n + 1 : Nat) : Int) - 1) = (n : Int) := by omega
  rw [this] at t4
  exact t4
 ·exact (List.pairwise_append.1 hs).1
set_option maxHeartbeats 4000000 in
theorem take_some {D : Nat → Prop} {p : Nat} {ys : List Wt} {z : Wt} {most r t : Int} {w : World} (h : Que D p (ys ++ [z]) most r t w) :
  Calls Try.prog 14 #[.pointer (some ⟨p, 0, none⟩)] w fun e w' => e = .returned (.tuple #[(.agg #[.int .i64 z.m.k, .int .i64 z.m.fr, .int .i64 z.m.tn, .int .i64 z.m.op, .int .i64 z.m.fo, .string z.m.key, .int .i64 z.m.bk, .slice z.m.ea z.m.el z.m.ec, .slice z.m.da z.m.dl z.m.dc, .slice z.m.ma z.m.ml z.m.mc]), .bool true]) ∧ Que D p ys most r t w' ∧ Off (fun c => D c) w w' := by
 have C := Cel.new w 31 #[.int .i64 0, .int .i64 0, .int .i64 0, .int .i64 0, .int .i64 0, .string ⟨#[]⟩, .int .i64 0, .slice none 0 0, .slice none 0 0, .slice none 0 0]
 have O : Off (fun _ => False) w (w.alloc (.cells #[.int .i64 0, .int .i64 0, .int .i64 0, .int .i64 0, .int .i64 0, .string ⟨#[]⟩, .int .i64 0, .slice none 0 0, .slice none 0 0, .slice none 0 0] 31)) := (Off.refl _ w).alloc _
 have h' := h.free O
 have hfew := h.few
 have hq := eql_que
 have HDW : Hid (∀ c, D c → c < w.heap.size) := h.dlt
 go_enter Try.func14, Try.ntmps14
 go_upto_region 1 with fail
 generalize hv : w.alloc (.cells #[.int .i64 0, .int .i64 0, .int .i64 0, .int .i64 0, .int .i64 0, .string ⟨#[]⟩, .int .i64 0, .slice none 0 0, .slice none 0 0, .slice none 0 0] 31) = V at C O h' ⊢
 obtain ⟨a, cap, c, d, h1, h2, h3, h4, h5, h6, h7, h8, h9, h10⟩ := h'.is
 obtain ⟨g, rfl, hat⟩ := h2.atW (i := ys.length) (x := z) (by rw [List.getElem?_append_right (Nat.le_refl _), Nat.sub_self]; rfl)
 obtain ⟨x0, x1, x2, x3, x4, x5, x6, x7, x8, x9, x10⟩ := hat.cells
 have hln : (ys ++ [z]).length = ys.length + 1 := by rw [List.length_append]; rfl
 rw [hln] at h1 h4 hfew
 have HLN : Hid _ := hln
 generalize hn : ys.length = n at *
 have HN : Hid (ys.length = n) := hn
 have c0 := h1.cell 0
 have c2 := h1.cell 2
 have HC : Hid _ := C
 have HO : Hid _ := O
 have HP : Hid _ := h1
 have HW : Hid _ := h2
 have HT4 : Hid _ := h4
 have HT5 : Hid _ := h5
 have HG : Hid _ := h3
 have HSR : Hid _ := h'.sor
 have HDP : Hid _ := h'.dp
 have HDL : Hid _ := h'.dlt
 have HM1 : Hid _ := h'.most1
 have HD6 : Hid (D c ∧ D d) := ⟨h6, h7⟩
 have hix := idx_win (m := n + 1) (n := n) (by omega) cap g
 have d1 : (((n : Int) + 1) == 0) = false := by rw [beq_eq_false_iff_ne]; omega
 clear hv C O h h' h1 h2 h3 h4 h5 h6 h7 hat hn hln
 go_upto_region 5 with fail
 have C5 := Cel.new V 31 #[.int .i64 z.m.k, .int .i64 z.m.fr, .int .i64 z.m.tn, .int .i64 z.m.op, .int .i64 z.m.fo, .string z.m.key, .int .i64 z.m.bk, .slice z.m.ea z.m.el z.m.ec, .slice z.m.da z.m.dl z.m.dc, .slice z.m.ma z.m.ml z.m.mc]
 have O5 : Off (fun _ => False) V (V.alloc (.cells #[.int .i64 z.m.k, .int .i64 z.m.fr, .int .i64 z.m.tn, .int .i64 z.m.op, .int .i64 z.m.fo, .string z.m.key, .int .i64 z.m.bk, .slice z.m.ea z.m.el z.m.ec, .slice z.m.da z.m.dl z.m.dc, .slice z.m.ma z.m.ml z.m.mc] 31)) := (Off.refl _ V).alloc _
 generalize hv : V.alloc (.cells #[.int .i64 z.m.k, .int .i64 z.m.fr, .int .i64 z.m.tn, .int .i64 z.m.op, .int .i64 z.m.fo, .string z.m.key, .int .i64 z.m.bk, .slice z.m.ea z.m.el z.m.ec, .slice z.m.da z.m.dl z.m.dc, .slice z.m.ma z.m.ml z.m.mc] 31) = V1 at C5 O5 ⊢
 generalize hb5 : V.heap.size = b5 at C5 ⊢
 have HB5 : Hid (V.heap.size = b5) := hb5
 have HC5 : Hid _ := C5
 have HO5 : Hid _ := O5
 replace c0 := (HP.out.off O5 (fun h => h)).cell 0
 clear x0 x1 x2 x3 x4 x5 x6 x7 x8 x9 x10 c2 hix C5 O5 hv hb5
 have HWX : Hid (OwnG 68 11 wcs V1 (some ⟨g, 0, none⟩) cap (ys ++ [z])) := HW.out.off HO5.out (fun _ _ _ h => h)
 go_wp2_with fail
 clear c0
 have hdel := wdel_any (some ⟨g, 0, none⟩) cap (ys ++ [z]) n V1 HWX.out (by rw [HLN.out]; omega) (by rw [HLN.out]; omega) ys (by rw [← HN.out, List.take_left, List.drop_of_length_le (by rw [List.length_append]; exact Nat.le_refl _), List.append_nil])
 rw [HLN.out] at hdel
 refine hdel.mono ?_
 rintro e W2 ⟨k, rfl, hk, own2, o2⟩
 rw [HN.out] at hk
 have HK : Hid (k = n) := hk
 have HP2 : Hid _ := (HP.out.off HO5.out (fun h => h)).off o2 (fun e => (HG.out p e).2.1 rfl)
 have HT42 : Hid _ := (HT4.out.off HO5.out (fun h => h)).off o2 (fun e => (HG.out _ e).2.2.1 rfl)
 have HT52 : Hid _ := (HT5.out.off HO5.out (fun h => h)).off o2 (fun e => (HG.out _ e).2.2.2 rfl)
 have HB52 : Hid _ := HC5.out.off o2 (fun e => by have e : blk (some ⟨g, 0, none⟩) = some b5 := e; have h1 := HDL.out b5 (HG.out b5 e).1; have h2 := HB5.out; omega)
 have HO2 : Hid _ := o2
 have HOW2 : Hid _ := own2
 have fz := HP2.out.free 0
 have c0 := HP2.out.cell 0
 clear hdel hk own2 o2 HWX
 go_upto_region 6 with fail
 have OS : Off (fun c => c = p) W2 (W2.setCell ⟨p, 0, none⟩ (.slice (some ⟨g, 0, none⟩) k cap)) := (Off.refl (fun c => c = p) W2).setCell (p := ⟨p, 0, none⟩) (.inl rfl) _
 have HP3 := HP2.out.set 0 (.slice (some ⟨g, 0, none⟩) k cap)
 have hbp : ¬ b5 = p := fun e => by have h1 := HDL.out p HDP.out; have h2 := HB5.out; omega
 generalize hv : W2.setCell ⟨p, 0, none⟩ (.slice (some ⟨g, 0, none⟩) k cap) = W3 at OS HP3 ⊢
 have HOS : Hid _ := OS
 have c2 := HP3.cell 2
 have HP3 : Hid _ := HP3
 have HT43 : Hid _ := HT42.out.off OS (fun e => h8 e.symm)
 have HT53 : Hid _ := HT52.out.off OS (fun e => h9 e.symm)
 have HB53 : Hid _ := HB52.out.off OS hbp
 have HOW3 : Hid _ := HOW2.out.off OS (fun i _ hi e => (HG.out i hi).2.1 e)
 clear fz c0 OS hv
 have H6 : Hid _ := take_yes HT43.out 1 (by omega) (by omega)
 go_wp2_with fail
 refine Calls.mono H6.out ?_
 rintro e W4 ⟨rfl, t4, o4⟩
 have HF : Hid (Que D p ys most r t W4 ∧ Off (fun c => D c) V W4 ∧ Cel b5 31 #[.int .i64 z.m.k, .int .i64 z.m.fr, .int .i64 z.m.tn, .int .i64 z.m.op, .int .i64 z.m.fo, .string z.m.key, .int .i64 z.m.bk, .slice z.m.ea z.m.el z.m.ec, .slice z.m.da z.m.dl z.m.dc, .slice z.m.ma z.m.ml z.m.mc] W4) :=
  take_end HDP.out HDL.out HG.out HD6.out HM1.out HSR.out HO5.out HO2.out HOS.out o4 HOW3.out HP3.out t4 HT53.out HB53.out HN.out HK.out HB5.out h8 h9 h10
 have HC4 : Hid (Cel w.heap.size 31 #[.int .i64 0, .int .i64 0, .int .i64 0, .int .i64 0, .int .i64 0, .string ⟨#[]⟩, .int .i64 0, .slice none 0 0, .slice none 0 0, .slice none 0 0] W4) := by
  refine HC.out.off HF.out.2.1 (fun e => ?_)
  have := HDW.out _ e
  omega
 obtain ⟨x0, x1, x2, x3, x4, x5, x6, x7, x8, x9⟩ := celw10 HF.out.2.2
 obtain ⟨y0, y1, y2, y3, y4, y5, y6, y7, y8, y9⟩ := celw10 HC4.out
 have fz := HC4.out.free
 clear t4 o4 H6 c2 HT43
 go_wp2_with fail
 refine bodyPost_ret (results_msg2 (x := z.m) rfl rfl rfl (HC4.out.wrwAll (vs := mcs z.m) rfl)) rfl ?_
 have ow : Off (fun c => c = w.heap.size) W4 (wrw w.heap.size 0 (mcs z.m) W4) := off_wrw (Off.refl (fun c => c = w.heap.size) W4) (.inl rfl)
 exact ⟨rfl, HF.out.1.off ow (fun c _ hc e => by have e : c = w.heap.size := e; have := HDW.out c hc; omega), ((HO.out.mono (fun _ _ h => h.elim)).trans HF.out.2.1 (fun _ _ h => h)).trans ow (fun i hi e => by have e : i = w.heap.size := e; omega)⟩
end Go.Proofs.Ytmeclfgehpbjlaa
