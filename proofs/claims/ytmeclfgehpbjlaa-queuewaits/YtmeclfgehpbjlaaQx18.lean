/- The walk of QueueWaits. -/
import Derived.Test.YtmeclfgehpbjlaaWth18
import Derived.Deep.OwnRows
namespace Go.Proofs.Ytmeclfgehpbjlaa
set_option maxRecDepth 100000
open Go.RowKit

/-- A row of bools that a call made. -/
structure Sen (g k : Nat) (S : Nat → Bool) (w : World) : Prop where
  is : ∃ cs, Cel g 4 cs w ∧ ∀ i, i < k → cs[i]? = some (.bool (S i))
theorem Sen.off {D : Nat → Prop} {g k : Nat} {S : Nat → Bool} {w w' : World} (h : Sen g k S w) (o : Off D w w') (hg : ¬ D g) : Sen g k S w' := by
  obtain ⟨cs, h1, h2⟩ := h.is
  exact ⟨cs, h1.off o hg, h2⟩
theorem Sen.cell {g k : Nat} {S : Nat → Bool} {w : World} (h : Sen g k S w) {i : Nat} (hi : i < k) : w.cell? ⟨g, i, none⟩ = some (.bool (S i)) := by
  obtain ⟨cs, h1, h2⟩ := h.is
  rw [h1.cell]
  exact h2 i hi
theorem Sen.free {g k : Nat} {S : Nat → Bool} {w : World} (h : Sen g k S w) (o : Nat) : w.frozen? ⟨g, o, none⟩ = false := by
  obtain ⟨cs, h1, h2⟩ := h.is
  exact h1.free o
theorem Sen.lt {g k : Nat} {S : Nat → Bool} {w : World} (h : Sen g k S w) : g < w.heap.size := by
  obtain ⟨cs, h1, h2⟩ := h.is
  exact h1.lt
theorem Sen.set {g k : Nat} {S : Nat → Bool} {w : World} (h : Sen g k S w) {j : Nat} (hj : j < k) : Sen g k (fun i => if i = j then true else S i) (w.setCell ⟨g, j, none⟩ (.bool true)) := by
  obtain ⟨cs, h1, h2⟩ := h.is
  refine ⟨_, h1.set j _, fun i hi => ?_⟩
  obtain ⟨hl, -⟩ := Array.getElem?_eq_some_iff.1 (h2 j hj)
  by_cases e : i = j
  · subst e
    rw [if_pos rfl, Array.getElem?_setIfInBounds_self_of_lt hl]
  · rw [if_neg e, Array.getElem?_setIfInBounds_ne (by omega), h2 i hi]
/-- The last of each urgency. -/
structure Lst (g : Nat) (V : Nat → Int) (w : World) : Prop where
  is : ∃ cs, Cel g 53 cs w ∧ ∀ i, i < 4 → cs[i]? = some (.int .i64 (V i))
theorem Lst.off {D : Nat → Prop} {g : Nat} {V : Nat → Int} {w w' : World} (h : Lst g V w) (o : Off D w w') (hg : ¬ D g) : Lst g V w' := by
  obtain ⟨cs, h1, h2⟩ := h.is
  exact ⟨cs, h1.off o hg, h2⟩
theorem Lst.cell {g : Nat} {V : Nat → Int} {w : World} (h : Lst g V w) {i : Nat} (hi : i < 4) : w.cell? ⟨g, i, none⟩ = some (.int .i64 (V i)) := by
  obtain ⟨cs, h1, h2⟩ := h.is
  rw [h1.cell]
  exact h2 i hi
theorem Lst.free {g : Nat} {V : Nat → Int} {w : World} (h : Lst g V w) (o : Nat) : w.frozen? ⟨g, o, none⟩ = false := by
  obtain ⟨cs, h1, h2⟩ := h.is
  exact h1.free o
theorem Lst.lt {g : Nat} {V : Nat → Int} {w : World} (h : Lst g V w) : g < w.heap.size := by
  obtain ⟨cs, h1, h2⟩ := h.is
  exact h1.lt
theorem Lst.set {g : Nat} {V : Nat → Int} {w : World} (h : Lst g V w) {u : Nat} (hu : u < 4) (x : Int) : Lst g (fun v => if v = u then x else V v) (w.setCell ⟨g, u, none⟩ (.int .i64 x)) := by
  obtain ⟨cs, h1, h2⟩ := h.is
  refine ⟨_, h1.set u _, fun i hi => ?_⟩
  obtain ⟨hl, -⟩ := Array.getElem?_eq_some_iff.1 (h2 u hu)
  by_cases e : i = u
  · subst e
    rw [if_pos rfl, Array.getElem?_setIfInBounds_self_of_lt hl]
  · rw [if_neg e, Array.getElem?_setIfInBounds_ne (by omega), h2 i hi]
theorem Off.drewN {D : Nat → Prop} {a w : World} (h : Off D a w) (n : Nat) : Off D a (w.drewN n) := ⟨h.os, h.tape, h.output, h.size, h.block⟩
theorem Lst.drewN {g : Nat} {V : Nat → Int} {w : World} (h : Lst g V w) (n : Nat) : Lst g V (w.drewN n) := by
  obtain ⟨cs, h1, h2⟩ := h.is
  exact ⟨cs, ⟨h1.is⟩, h2⟩
/-- A store into a block that is not the queue's, and was not there in W. -/
theorem QuN.store {W : World} {p : Nat} {l : List (Int × Int)} {most r t : Int} {w w' : World} (h : QuN W p l most r t w) {g : Nat} (hg : ∀ D : Nat → Prop, QuI D p l most r t w → ¬ D g) (hW : W.heap.size ≤ g) (o : Off (fun c => c = g) w w') : QuN W p l most r t w' := by
  obtain ⟨D, hq, hd⟩ := h.is
  refine ⟨⟨D, ⟨hq.q.off o (fun c _ hc e => ?_)⟩, hd⟩, h.off.trans o (fun i hi e => ?_)⟩
  · have e : c = g := e
    rw [e] at hc
    exact hg D hq hc
  · have e : i = g := e
    omega
/-- The queue with its blocks known. -/
structure QuD (W : World) (D : Nat → Prop) (p : Nat) (l : List (Int × Int)) (most r t : Int) (w : World) : Prop where
  q : QuI D p l most r t w
  d : ∀ c, D c → W.heap.size ≤ c
  off : Off (fun _ => False) W w
theorem QuN.qd {W : World} {p : Nat} {l : List (Int × Int)} {most r t : Int} {w : World} (h : QuN W p l most r t w) : ∃ D, QuD W D p l most r t w := by
  obtain ⟨D, hq, hd⟩ := h.is
  exact ⟨D, hq, hd, h.off⟩
theorem QuD.keep {W : World} {D : Nat → Prop} {p : Nat} {l : List (Int × Int)} {most r t : Int} {w w' : World} (h : QuD W D p l most r t w) (o : Off (fun _ => False) w w') : QuD W D p l most r t w' := ⟨⟨h.q.q.free o⟩, h.d, h.off.trans o (fun _ _ h => h)⟩
theorem QuD.lt {W : World} {D : Nat → Prop} {p : Nat} {l : List (Int × Int)} {most r t : Int} {w : World} (h : QuD W D p l most r t w) : ∀ c, D c → c < w.heap.size := h.q.q.dlt
theorem QuD.store {W : World} {D : Nat → Prop} {p : Nat} {l : List (Int × Int)} {most r t : Int} {w w' : World} (h : QuD W D p l most r t w) {g : Nat} (hg : ¬ D g) (hW : W.heap.size ≤ g) (o : Off (fun c => c = g) w w') : QuD W D p l most r t w' := by
  refine ⟨⟨h.q.q.off o (fun c _ hc e => ?_)⟩, h.d, h.off.trans o (fun i hi e => ?_)⟩
  · have e : c = g := e
    rw [e] at hc
    exact hg hc
  · have e : i = g := e
    omega
theorem Off.keepc {W w : World} (h : Off (fun _ => False) W w) {b o : Nat} {v : Value} (hc : W.cell? ⟨b, o, none⟩ = some v) : w.cell? ⟨b, o, none⟩ = some v := by
  rw [← hc]
  exact World.cell?_of_block (a := ⟨b, o, none⟩) (h.block b (cell_lt hc) (fun h => h))
theorem dtake_some {W : World} {D : Nat → Prop} {p : Nat} {l : List (Int × Int)} {k b : Int} {most r t : Int} {w : World} (h : QuD W D p (l ++ [(k, b)]) most r t w) :
    Calls Try.prog 14 #[.pointer (some ⟨p, 0, none⟩)] w fun e w' => e = .returned (.tuple #[(.agg #[.int .i64 (mm k).k, .int .i64 (mm k).fr, .int .i64 (mm k).tn, .int .i64 (mm k).op, .int .i64 (mm k).fo, .string (mm k).key, .int .i64 (mm k).bk, .slice (mm k).ea (mm k).el (mm k).ec, .slice (mm k).da (mm k).dl (mm k).dc, .slice (mm k).ma (mm k).ml (mm k).mc]), .bool true]) ∧ QuD W D p l most r t w' ∧ Off (fun c => D c) w w' := by
  refine (itake_some h.q).mono ?_
  rintro e w' ⟨rfl, hq', o⟩
  exact ⟨rfl, ⟨hq', h.d, own_off h.off h.d o⟩, o⟩
theorem dtake_none {W : World} {D : Nat → Prop} {p : Nat} {most r t : Int} {w : World} (h : QuD W D p [] most r t w) :
    Calls Try.prog 14 #[.pointer (some ⟨p, 0, none⟩)] w fun e w' => e = .returned (.tuple #[(.agg #[.int .i64 mz.k, .int .i64 mz.fr, .int .i64 mz.tn, .int .i64 mz.op, .int .i64 mz.fo, .string mz.key, .int .i64 mz.bk, .slice mz.ea mz.el mz.ec, .slice mz.da mz.dl mz.dc, .slice mz.ma mz.ml mz.mc]), .bool false]) ∧ Off (fun _ => False) W w' := by
  refine (take_none h.q.q).mono ?_
  rintro e w' ⟨rfl, o⟩
  exact ⟨rfl, h.off.trans o (fun _ _ h => h)⟩
theorem Try.infoBw : (Try.prog.info? 4).map (fun i => (i.zero, i.size, i.bytes)) = some (some (.bool false), 1, 1) := by kernel_rfl
theorem makeB (n : Nat) (h : n ≤ 1000) (w : World) : (Instr.makeSlice 52 (.int .i64 (n : Int)) (.int .i64 (n : Int))).run Try.prog w = .ok (.slice (some ⟨w.heap.size, 0, none⟩) n n) (w.alloc (.cells (madeCells #[.bool false] n) 4)) :=
  run_make_row' (P := Try.prog) 52 4 (.bool false) 1 Try.underlying52 Try.infoBw rfl .i64 .i64 n (by omega) (by omega) w
theorem sen_new (n : Nat) (w : World) : Sen w.heap.size n (fun _ => false) (w.alloc (.cells (madeCells #[.bool false] n) 4)) :=
  ⟨_, Cel.new w _ _, fun i hi => by simp [madeCells, hi, Nat.mod_one]⟩
set_option maxHeartbeats 8000000 in
theorem waits_walk (a : Option Addr) (len cap : Nat) (B : Nat → Int) (a2 : Option Addr) (len2 cap2 : Nat) (B2 : Nat → Int) (w : World) (hb : Inz w a len cap B) (hb2 : Inz w a2 len2 cap2 B2) :
    Calls Try.prog 6 #[.slice a len cap, .slice a2 len2 cap2] w fun e w' => e = .returned (.bool true) ∧ Off (fun _ => False) w w' := by
  have HB : Hid (∀ i, i < len → ∃ b off, a = some ⟨b, off, none⟩ ∧ w.cell? ⟨b, off + i, none⟩ = some (.int .i64 (B i))) := hb.at_
  have HB2 : Hid (∀ i, i < len2 → ∃ b off, a2 = some ⟨b, off, none⟩ ∧ w.cell? ⟨b, off + i, none⟩ = some (.int .i64 (B2 i))) := hb2.at_
  have hlen : len ≤ 9223372036854775807 := hb.hlen
  have hlen2 : len2 ≤ 9223372036854775807 := hb2.hlen
  clear hb hb2
  obtain ⟨N, hN⟩ : ∃ N, N = min len 80 := ⟨_, rfl⟩
  obtain ⟨M, hM⟩ : ∃ M, M = min len2 80 := ⟨_, rfl⟩
  obtain ⟨U, hU⟩ : ∃ U : Nat → Nat, U = fun j => if j < N then klm (B j) else klm (B2 (j - N)) := ⟨_, rfl⟩
  have HU1 : Hid (∀ j, j < N → U j = klm (B j)) := fun j hj => by rw [hU]; exact if_pos hj
  have HU2 : Hid (∀ j, U (N + j) = klm (B2 j)) := fun j => by rw [hU]; show (if N + j < N then _ else klm (B2 (N + j - N))) = _; rw [if_neg (by omega), Nat.add_sub_cancel_left]
  have HU3 : Hid (∀ j, U j ≤ 3) := fun j => by rw [hU]; show (if j < N then klm (B j) else klm (B2 (j - N))) ≤ 3; split <;> exact klm_le _
  have HN1 : Hid (N = min len 80) := hN
  have HM1 : Hid (M = min len2 80) := hM
  have hN80 : N ≤ 80 := by omega
  have hNl : N ≤ len := by omega
  have hM80 : M ≤ 80 := by omega
  have hMl : M ≤ len2 := by omega
  obtain ⟨K, hK⟩ : ∃ K, K = N + M := ⟨_, rfl⟩
  have HKK : Hid (K = N + M) := hK
  have hK160 : K ≤ 160 := by omega
  clear hU hN hM hK
  have HN : Hid _ := nnew_any 200 w
  rw [show clq 200 = 200 by decide] at HN
  go_enter Try.func6, Try.ntmps6
  go_wp2_with fail
  refine Calls.mono HN.out ?_
  rintro e w1 ⟨p, rfl, h1⟩
  have H1 : Hid _ := h1
  clear h1 HN
  go_upto_block 0 with fail
  go_cut [6, 7, 8] from 23 to 38 (fun s6 s7 s8 wx => ∃ l, s6 = .int .i64 (N : Int) ∧ Hid (l.length = N ∧ WI N N N U l) ∧ Hid (QuN w p l 200 0 0 wx))
  case first =>
    go_wp2_with fail
    go_loopw [6, 23] (fun s6 s23 wr => ∃ (i : Nat) (l : List (Int × Int)), s6 = .int .i64 (i : Int) ∧ s23 = .int .i64 (i : Int) ∧ i ≤ N ∧ Hid (l.length = i ∧ WI N i i U l) ∧ Hid (QuN w p l 200 0 0 wr)) (fun _ i _ => ((len : Int) - intOf i).toNat)
    case atStart => exact ⟨0, [], rfl, rfl, by omega, ⟨rfl, WI.nil N U⟩, H1.out⟩
    case round =>
      obtain ⟨i, l, rfl, rfl, hi, HL, HQ⟩ := hrel
      clear H1
      by_cases hlt : i < N
      · obtain ⟨g, off, rfl, c0⟩ := HB.out i (by omega)
        replace c0 := qn_cell HQ.out c0
        have hil : i < len := by omega
        have hi80 : i < 80 := by omega
        go_wp2_with fail
        refine (msg_any (i : Int) _).mono ?_
        rintro e w2 ⟨rfl, o2⟩
        have HQ2 : Hid _ := HQ.out.keep o2
        clear o2 HQ c0
        go_wp2_with fail
        refine (nput_yes HQ2.out (i : Int) (B i) (by have := HL.out.1; omega) (by decide)).mono ?_
        rintro e w3 ⟨rfl, h3⟩
        have H3 : Hid _ := h3
        clear h3 HQ2
        have HL2 : Hid ((insQ (wgt (B i) - 0) (i : Int) l).length = i + 1 ∧ WI N (i + 1) (i + 1) U (insQ (wgt (B i) - 0) (i : Int) l)) := by
          refine ⟨by rw [ins_len, HL.out.1], ?_⟩
          have := HL.out.2.put (b := wgt (B i) - 0) (by unfold bsW; rw [if_pos hlt, klm_wgt, HU1.out i hlt])
          rw [if_pos hlt] at this
          exact this
        go_wp2_with fail
        go_roundw
        case rel => exact ⟨i + 1, _, by go_num, by go_num, by omega, HL2.out, H3.out⟩
        case measure => simp [intOf]; omega
      · obtain rfl : i = N := by omega
        by_cases hil : i < len
        · have hi80 : ¬ i < 80 := by have := HN1.out; omega
          obtain ⟨g, off, rfl, c0⟩ := HB.out i hil
          replace c0 := qn_cell HQ.out c0
          go_wp2_with fail
          go_meet
          case rel => exact ⟨l, rfl, HL.out, HQ.out⟩
        · go_wp2_with fail
          go_meet
          case rel => exact ⟨l, rfl, HL.out, HQ.out⟩
  case rest =>
    obtain ⟨l, rfl, HL, HQ⟩ := hcut
    clear H1
    go_wp2_with fail
    go_loopw [39] (fun s wr => ∃ i : Nat, s = .int .i64 (i : Int) ∧ i ≤ 13 ∧ Hid (QuN w p l 200 0 (i : Int) wr)) (fun s _ => (13 - intOf s).toNat)
    case atStart => exact ⟨0, rfl, by omega, HQ.out⟩
    case round =>
      obtain ⟨i, rfl, hi, HT⟩ := hrel
      clear HQ
      by_cases h5 : i < 13
      · go_wp2_with fail
        refine (ntick_any HT.out (by omega)).mono ?_
        rintro e w4 ⟨rfl, h4⟩
        have H4 : Hid _ := h4
        clear h4 HT
        go_wp2_with fail
        go_roundw
        case rel => exact ⟨i + 1, by go_num, by omega, H4.out⟩
        case measure => simp [intOf]; omega
      · have hi13 : i = 13 := by omega
        have HT13 : Hid (QuN w p l 200 0 13 wr) := by
          have e : (i : Int) = 13 := by omega
          have := HT.out
          rw [e] at this
          exact this
        clear HT hi13 hi
        go_upto_block 4 with fail
        go_cut [9, 10, 11] from 47 to 62 (fun s9 s10 s11 wx => ∃ l, s9 = .int .i64 (K : Int) ∧ Hid (l.length = K ∧ WI N K N U l) ∧ Hid (QuN w p l 200 0 13 wx))
        case first =>
          go_wp2_with fail
          go_loopw [9, 47] (fun s9 s47 wr => ∃ (i k : Nat) (l : List (Int × Int)), s9 = .int .i64 (k : Int) ∧ s47 = .int .i64 (i : Int) ∧ i ≤ M ∧ Hid (k = N + i) ∧ Hid (l.length = k ∧ WI N k N U l) ∧ Hid (QuN w p l 200 0 13 wr)) (fun _ i _ => ((len2 : Int) - intOf i).toNat)
          case atStart => exact ⟨0, N, l, rfl, rfl, by omega, rfl, HL.out, HT13.out⟩
          case round =>
            obtain ⟨i, k, l, rfl, rfl, hi, HK, HL, HQ⟩ := hrel
            have hk160 : k < 1000 := by have := HK.out; omega
            clear HT13
            by_cases hlt : i < M
            · obtain ⟨g, off, rfl, c0⟩ := HB2.out i (by omega)
              replace c0 := qn_cell HQ.out c0
              have hil : i < len2 := by omega
              have hi80 : i < 80 := by omega
              go_wp2_with fail
              refine (msg_any (k : Int) _).mono ?_
              rintro e w2 ⟨rfl, o2⟩
              have HQ2 : Hid _ := HQ.out.keep o2
              clear o2 HQ c0
              go_wp2_with fail
              refine (nput_yes HQ2.out (k : Int) (B2 i) (by have := HL.out.1; have := HK.out; omega) (by decide)).mono ?_
              rintro e w3 ⟨rfl, h3⟩
              have H3 : Hid _ := h3
              clear h3 HQ2
              have HL2 : Hid ((insQ (wgt (B2 i) - 13) (k : Int) l).length = k + 1 ∧ WI N (k + 1) N U (insQ (wgt (B2 i) - 13) (k : Int) l)) := by
                refine ⟨by rw [ins_len, HL.out.1], ?_⟩
                have hk := HK.out
                have := HL.out.2.put (b := wgt (B2 i) - 13) (by unfold bsW; rw [if_neg (by omega), klm_wgt, hk, HU2.out i])
                rw [if_neg (by omega)] at this
                exact this
              go_wp2_with fail
              go_roundw
              case rel => exact ⟨i + 1, k + 1, _, by go_num, by go_num, by omega, (by show _ = _; have := HK.out; omega), HL2.out, H3.out⟩
              case measure => simp [intOf]; omega
            · obtain rfl : i = M := by omega
              obtain rfl : k = K := by have h1 := HK.out; have h2 := HKK.out; omega
              by_cases hil : i < len2
              · have hi80 : ¬ i < 80 := by have := HM1.out; omega
                obtain ⟨g, off, rfl, c0⟩ := HB2.out i hil
                replace c0 := qn_cell HQ.out c0
                go_wp2_with fail
                go_meet
                case rel => exact ⟨l, rfl, HL.out, HQ.out⟩
              · go_wp2_with fail
                go_meet
                case rel => exact ⟨l, rfl, HL.out, HQ.out⟩
        case rest =>
          obtain ⟨l, rfl, HL, HQ⟩ := hcut
          clear HT13
          obtain ⟨D, hqd⟩ := HQ.out.qd
          have HQD : Hid _ := hqd
          have HDL : Hid _ := hqd.lt
          clear hqd HQ
          have hmk := makeB K (by omega)
          go_upto_region 26 with fail
          have O0 : Off (fun _ => False) wc (wc.alloc (.cells (madeCells #[.bool false] K) 4)) := (Off.refl _ wc).alloc _
          have S0 := sen_new K wc
          have hsz : (wc.alloc (.cells (madeCells #[.bool false] K) 4)).heap.size = wc.heap.size + 1 := World.size_alloc _ _
          generalize hv0 : wc.alloc (.cells (madeCells #[.bool false] K) 4) = W0 at O0 S0 hsz ⊢
          have O1 : Off (fun _ => False) W0 (W0.alloc (.cells #[.int .i64 (-1), .int .i64 (-1), .int .i64 (-1), .int .i64 (-1)] 53)) := (Off.refl _ W0).alloc _
          have L0 : Lst W0.heap.size (fun _ => -1) (W0.alloc (.cells #[.int .i64 (-1), .int .i64 (-1), .int .i64 (-1), .int .i64 (-1)] 53)) := ⟨_, Cel.new W0 _ _, fun i hi => by match i, hi with | 0, _ => rfl | 1, _ => rfl | 2, _ => rfl | 3, _ => rfl⟩
          generalize hv1 : W0.alloc (.cells #[.int .i64 (-1), .int .i64 (-1), .int .i64 (-1), .int .i64 (-1)] 53) = W1 at O1 L0 ⊢
          have h0lt := S0.lt
          have hws := HQD.out.off.size
          obtain ⟨g0, hg0⟩ : ∃ g0, g0 = wc.heap.size := ⟨_, rfl⟩
          obtain ⟨g1, hg1⟩ : ∃ g1, g1 = wc.heap.size + 1 := ⟨_, rfl⟩
          rw [hsz] at L0
          rw [← hg1] at L0 ⊢
          rw [← hg0] at S0 ⊢
          have HG : Hid (¬ D g0 ∧ ¬ D g1 ∧ w.heap.size ≤ g0 ∧ w.heap.size ≤ g1 ∧ g0 ≠ g1) := ⟨fun e => by have := HDL.out _ e; omega, fun e => by have := HDL.out _ e; have := O0.size; omega, by omega, by have := O0.size; omega, by omega⟩
          have HS1 : Hid (Sen g0 K (fun _ => false) W1) := S0.off O1 (fun h => h)
          have HL1 : Hid (Lst g1 (fun _ => -1) W1) := L0
          have HD1 : Hid (QuD w D p l 200 0 13 W1) := (HQD.out.keep O0).keep O1
          have hwi : WL N K (N - 0) U l (fun _ => false) (fun _ => -1) := ⟨HL.out.2, fun x hx j hj => ⟨rfl, by show (-1 : Int) ≤ (j : Int); omega⟩⟩
          have HW1 : Hid (WL N K (N - 0) U l (fun _ => false) (fun _ => -1)) := hwi
          clear O0 S0 O1 L0 hv0 hv1 h0lt hws hsz hg0 hg1 HQD HDL hmk hwi
          go_wp2_with fail
          go_loopw [67] (fun s wr => ∃ (i : Nat) (l : List (Int × Int)) (S : Nat → Bool) (V : Nat → Int), s = .int .i64 (i : Int) ∧ i ≤ K ∧ Hid (i + l.length = K) ∧ Hid (WL N K (N - i) U l S V) ∧ Hid (QuD w D p l 200 0 13 wr) ∧ Hid (Sen g0 K S wr) ∧ Hid (Lst g1 V wr)) (fun s _ => ((K : Int) - intOf s).toNat)
          case atStart => exact ⟨0, l, _, _, rfl, by omega, (by show _ = _; have := HL.out.1; omega), HW1.out, HD1.out, HS1.out, HL1.out⟩
          case round =>
            obtain ⟨i, l, S, V, rfl, hi, HLL, HWL, HD, HS, HV⟩ := hrel
            clear HW1 HD1 HS1 HL1 HL
            by_cases hik : i < K
            · obtain ⟨l', m, b, rfl, hl'⟩ := snoc_of (l := l) (by have := HLL.out; omega)
              obtain ⟨j, hmj, hjk, hSj, hVj, hcj, hwl'⟩ := HWL.out.last HU3.out
              obtain rfl : m = (j : Int) := hmj
              have HLL' : Hid (i + 1 + l'.length = K) := by have := HLL.out; show _ = _; omega
              clear HLL HWL hl'
              have HLL : Hid _ := HLL'.out
              have HWL : Hid _ := hwl'
              clear hwl' HLL'
              go_wp2_with fail
              refine (dtake_some HD.out).mono ?_
              rintro e w4 ⟨rfl, h4, o4⟩
              have HD4 : Hid (QuD w D p l' 200 0 13 w4) := h4
              have HS4 : Hid _ := HS.out.off o4 HG.out.1
              have HL4 : Hid _ := HV.out.off o4 HG.out.2.1
              clear h4 o4 HD HS HV
              go_upto_region 30 with fail
              have O7 : Off (fun _ => False) w4 (w4.alloc (.cells #[.int .i64 (mm (j : Int)).k, .int .i64 (mm (j : Int)).fr, .int .i64 (mm (j : Int)).tn, .int .i64 (mm (j : Int)).op, .int .i64 (mm (j : Int)).fo, .string (mm (j : Int)).key, .int .i64 (mm (j : Int)).bk, .slice (mm (j : Int)).ea (mm (j : Int)).el (mm (j : Int)).ec, .slice (mm (j : Int)).da (mm (j : Int)).dl (mm (j : Int)).dc, .slice (mm (j : Int)).ma (mm (j : Int)).ml (mm (j : Int)).mc] 31)) := (Off.refl _ w4).alloc _
              have C7 : Cel w4.heap.size 31 #[.int .i64 (mm (j : Int)).k, .int .i64 (mm (j : Int)).fr, .int .i64 (mm (j : Int)).tn, .int .i64 (mm (j : Int)).op, .int .i64 (mm (j : Int)).fo, .string (mm (j : Int)).key, .int .i64 (mm (j : Int)).bk, .slice (mm (j : Int)).ea (mm (j : Int)).el (mm (j : Int)).ec, .slice (mm (j : Int)).da (mm (j : Int)).dl (mm (j : Int)).dc, .slice (mm (j : Int)).ma (mm (j : Int)).ml (mm (j : Int)).mc] (w4.alloc (.cells #[.int .i64 (mm (j : Int)).k, .int .i64 (mm (j : Int)).fr, .int .i64 (mm (j : Int)).tn, .int .i64 (mm (j : Int)).op, .int .i64 (mm (j : Int)).fo, .string (mm (j : Int)).key, .int .i64 (mm (j : Int)).bk, .slice (mm (j : Int)).ea (mm (j : Int)).el (mm (j : Int)).ec, .slice (mm (j : Int)).da (mm (j : Int)).dl (mm (j : Int)).dc, .slice (mm (j : Int)).ma (mm (j : Int)).ml (mm (j : Int)).mc] 31)) := Cel.new w4 _ _
              generalize hv : w4.alloc (.cells #[.int .i64 (mm (j : Int)).k, .int .i64 (mm (j : Int)).fr, .int .i64 (mm (j : Int)).tn, .int .i64 (mm (j : Int)).op, .int .i64 (mm (j : Int)).fo, .string (mm (j : Int)).key, .int .i64 (mm (j : Int)).bk, .slice (mm (j : Int)).ea (mm (j : Int)).el (mm (j : Int)).ec, .slice (mm (j : Int)).da (mm (j : Int)).dl (mm (j : Int)).dc, .slice (mm (j : Int)).ma (mm (j : Int)).ml (mm (j : Int)).mc] 31) = w7 at O7 C7 ⊢
              have h0 := HS4.out.lt
              have h1 := HL4.out.lt
              obtain ⟨q, hq⟩ : ∃ q, q = w4.heap.size := ⟨_, rfl⟩
              rw [← hq] at C7 ⊢
              have HQG : Hid (q ≠ g0 ∧ q ≠ g1) := ⟨by omega, by omega⟩
              have HC7 : Hid _ := C7
              have HD7 : Hid _ := HD4.out.keep O7
              have HS7 : Hid _ := HS4.out.off O7 (fun h => h)
              have HL7 : Hid _ := HL4.out.off O7 (fun h => h)
              clear hv O7 C7 HD4 HS4 HL4 h0 h1 hq
              have c3 : w7.cell? ⟨q, 3, none⟩ = some (.int .i64 (j : Int)) := HC7.out.cell 3
              have cS : w7.cell? ⟨g0, j, none⟩ = some (.bool false) := by rw [HS7.out.cell hjk, hSj]
              have fz := HS7.out.free j
              clear hSj
              by_cases hin : i < N
              · have hjn : j < N := hcj.2 (by omega)
                have hin2 : (i : Int) < (N : Int) := by omega
                have hjn2 : (j : Int) < (N : Int) := by omega
                go_upto_region 33 with fail
                have OS : Off (fun c => c = g0) w7 (w7.setCell ⟨g0, j, none⟩ (.bool true)) := (Off.refl (fun c => c = g0) w7).setCell (p := ⟨g0, j, none⟩) (.inl rfl) _
                have HS8 : Hid (Sen g0 K (fun i => if i = j then true else S i) (w7.setCell ⟨g0, j, none⟩ (.bool true))) := HS7.out.set hjk
                generalize hv8 : w7.setCell ⟨g0, j, none⟩ (.bool true) = w8 at OS HS8 ⊢
                clear hv8 cS fz c3
                have HD8 : Hid _ := HD7.out.store HG.out.1 HG.out.2.2.1 OS
                have HL8 : Hid _ := HL7.out.off OS (fun e => HG.out.2.2.2.2 e.symm)
                have HC8 : Hid _ := HC7.out.off OS (fun e => HQG.out.1 e)
                clear OS HS7 HD7 HL7 HC7
                have c3 : w8.cell? ⟨q, 3, none⟩ = some (.int .i64 (j : Int)) := HC8.out.cell 3
                have hjl : j < len := by have := HKK.out; omega
                obtain ⟨g, off, rfl, c0⟩ := HB.out j hjl
                replace c0 := (Off.keepc HD8.out.off c0)
                have hmn := min_int (B j) 3
                have hmx := max_int 0 (min (B j) 3)
                have hu : max 0 (min (B j) 3) = ((U j : Nat) : Int) := by rw [klm_is]; rw [HU1.out j hjn]
                rw [hu] at hmx
                generalize min (B j) 3 = mn at hmn hmx
                clear hu
                have cV := HL8.out.cell (i := U j) (by have := HU3.out j; omega)
                have hu4 : U j < 4 := by have := HU3.out j; omega
                have HUJ : Hid (U j = U j) := rfl
                obtain ⟨u, hu⟩ : ∃ u, u = U j := ⟨_, rfl⟩
                rw [← hu] at cV hmx hu4 hVj
                have HUE : Hid (u = U j) := hu
                clear hu HUJ
                have HVJ : Hid _ := hVj
                have hVn : ¬ (j : Int) < V u := by omega
                generalize hvu : V u = vu at cV hVn
                clear hvu hVj
                go_upto_region 37 with fail
                go_quiet (fail)
                have fl := HL8.out.free u
                go_wp2_with fail
                go_roundw
                case rel =>
                  have HR := HWL.out
                  refine ⟨i + 1, l', _, _, by go_num, by omega, (by show _ = _; have := HLL.out; omega), (by show WL N K (N - (i + 1)) U l' _ _; rw [show N - (i + 1) = N - i - 1 by omega]; exact HR), ?_, ?_, ?_⟩
                  · exact HD8.out.store HG.out.2.1 HG.out.2.2.2.1 (((Off.refl (fun c => c = g1) w8).drewN _).setCell (p := ⟨g1, u, none⟩) (.inl rfl) _)
                  · exact HS8.out.off (((Off.refl (fun c => c = g1) w8).drewN _).setCell (p := ⟨g1, u, none⟩) (.inl rfl) _) HG.out.2.2.2.2
                  · rw [← HUE.out]
                    exact (HL8.out.drewN _).set hu4 (j : Int)
                case measure => simp [intOf]; omega
              · have hjn : ¬ j < N := fun e => by have := hcj.1 e; omega
                have hin2 : ¬ (i : Int) < (N : Int) := by omega
                have hjn2 : ¬ (j : Int) < (N : Int) := by omega
                go_upto_region 33 with fail
                have OS : Off (fun c => c = g0) w7 (w7.setCell ⟨g0, j, none⟩ (.bool true)) := (Off.refl (fun c => c = g0) w7).setCell (p := ⟨g0, j, none⟩) (.inl rfl) _
                have HS8 : Hid (Sen g0 K (fun i => if i = j then true else S i) (w7.setCell ⟨g0, j, none⟩ (.bool true))) := HS7.out.set hjk
                generalize hv8 : w7.setCell ⟨g0, j, none⟩ (.bool true) = w8 at OS HS8 ⊢
                clear hv8 cS fz c3
                have HD8 : Hid _ := HD7.out.store HG.out.1 HG.out.2.2.1 OS
                have HL8 : Hid _ := HL7.out.off OS (fun e => HG.out.2.2.2.2 e.symm)
                have HC8 : Hid _ := HC7.out.off OS (fun e => HQG.out.1 e)
                clear OS HS7 HD7 HL7 HC7
                have c3 : w8.cell? ⟨q, 3, none⟩ = some (.int .i64 (j : Int)) := HC8.out.cell 3
                have hjl : (j - N) < len2 := by have := HKK.out; omega
                obtain ⟨g, off, rfl, c0⟩ := HB2.out (j - N) hjl
                replace c0 := (Off.keepc HD8.out.off c0)
                have hmn := min_int (B2 (j - N)) 3
                have hmx := max_int 0 (min (B2 (j - N)) 3)
                have hu : max 0 (min (B2 (j - N)) 3) = ((U j : Nat) : Int) := by rw [klm_is]; have e := HU2.out (j - N); rw [show N + (j - N) = j by omega] at e; rw [e]
                rw [hu] at hmx
                generalize min (B2 (j - N)) 3 = mn at hmn hmx
                clear hu
                have hsub : (j : Int) - (N : Int) = ((j - N : Nat) : Int) := by omega
                have hsubw : IntKind.i64.wrap (((j - N : Nat) : Int)) = ((j - N : Nat) : Int) := by rw [IntKind.wrap_i64]; omega
                have cV := HL8.out.cell (i := U j) (by have := HU3.out j; omega)
                have hu4 : U j < 4 := by have := HU3.out j; omega
                have HUJ : Hid (U j = U j) := rfl
                obtain ⟨u, hu⟩ : ∃ u, u = U j := ⟨_, rfl⟩
                rw [← hu] at cV hmx hu4 hVj
                have HUE : Hid (u = U j) := hu
                clear hu HUJ
                have HVJ : Hid _ := hVj
                have hVn : ¬ (j : Int) < V u := by omega
                generalize hvu : V u = vu at cV hVn
                clear hvu hVj
                go_upto_region 37 with fail
                go_quiet (fail)
                have fl := HL8.out.free u
                go_wp2_with fail
                go_roundw
                case rel =>
                  have HR := HWL.out
                  refine ⟨i + 1, l', _, _, by go_num, by omega, (by show _ = _; have := HLL.out; omega), (by show WL N K (N - (i + 1)) U l' _ _; rw [show N - (i + 1) = N - i - 1 by omega]; exact HR), ?_, ?_, ?_⟩
                  · exact HD8.out.store HG.out.2.1 HG.out.2.2.2.1 (((Off.refl (fun c => c = g1) w8).drewN _).setCell (p := ⟨g1, u, none⟩) (.inl rfl) _)
                  · exact HS8.out.off (((Off.refl (fun c => c = g1) w8).drewN _).setCell (p := ⟨g1, u, none⟩) (.inl rfl) _) HG.out.2.2.2.2
                  · rw [← HUE.out]
                    exact (HL8.out.drewN _).set hu4 (j : Int)
                case measure => simp [intOf]; omega
            · obtain rfl : l = [] := List.eq_nil_of_length_eq_zero (by have := HLL.out; omega)
              go_wp2_with fail
              refine (dtake_none HD.out).mono ?_
              rintro e w4 ⟨rfl, o4⟩
              have HO4 : Hid _ := o4
              clear o4
              go_wp2_with fail
              refine (awake_any _).mono ?_
              rintro e w5 ⟨rfl, o5⟩
              have HO5 : Hid _ := HO4.out.trans (((Off.refl (fun _ => False) w4).alloc _).trans o5 (fun _ _ h => h)) (fun _ _ h => h)
              clear o5
              go_wp2_with fail
              go_ret
              exact ⟨rfl, HO5.out⟩
end Go.Proofs.Ytmeclfgehpbjlaa
