/- Items of several texts. -/
import Derived.Test.YtmeclfgehpbjlaaZQg18
import Derived.Test.YtmeclfgehpbjlaaZQu18
namespace Go.Proofs.Ytmeclfgehpbjlaa
set_option maxRecDepth 100000
open Go.RowKit
theorem ins_perm (b k : Int) : ∀ l : List (Int × Int), (insQ b k l).Perm ((k, b) :: l)
 | [] => List.Perm.refl _
 | y :: l => by
  unfold insQ
  split
  ·exact ((ins_perm b k l).cons y).trans (List.Perm.swap _ _ _)
  ·exact List.Perm.refl _
def Fnd (ys : List (Mg × NF)) (f : NF) (q : Nat) (x : Int) : Prop := (x = -1 ∧ ∀ z ∈ ys.take q, z.2 ≠ f) ∨ ∃ (i : Nat) (z : Mg × NF), x = (i : Int) ∧ ys[i]? = some z ∧ z.2 = f
theorem Fnd.no {ys : List (Mg × NF)} {f : NF} {q : Nat} {x : Int} {z : Mg × NF} (h : Fnd ys f q x) (hz : ys[q]? = some z) (hf : z.2 ≠ f) : Fnd ys f (q + 1) x := by
 rcases h with ⟨h1, h2⟩ | h
 ·refine .inl ⟨h1, fun y hy => ?_⟩
  rw [List.take_add_one, hz, List.mem_append] at hy
  rcases hy with hy | hy
  ·exact h2 y hy
  ·simp at hy
   rw [hy]
   exact hf
 ·exact .inr h
theorem perm_cut {ys : List (Mg × NF)} {l : List (Int × Int)} {k b : Int} {N : Int → NF} {i : Nat} {z : Mg × NF} (h : (ys.map Prod.snd).Perm ((l ++ [(k, b)]).map (fun x => N x.1))) (hz : ys[i]? = some z) (hf : z.2 = N k) : ((ys.take i ++ ys.drop (i + 1)).map Prod.snd).Perm (l.map (fun x => N x.1)) := by
 obtain ⟨hlt, he⟩ := List.getElem?_eq_some_iff.1 hz
 have e : ys = ys.take i ++ z :: ys.drop (i + 1) := by
  conv => lhs; rw [← List.take_append_drop i ys]
  rw [List.drop_eq_getElem_cons hlt, he]
 rw [e] at h
 have h1 : (z :: (ys.take i ++ ys.drop (i + 1))).Perm (ys.take i ++ z :: ys.drop (i + 1)) := List.perm_middle.symm
 have h2 := (h1.map Prod.snd).trans h
 rw [List.map_append] at h2
 have h3 := h2.trans List.perm_append_comm
 rw [List.map_cons, hf] at h3
 exact List.Perm.cons_inv h3
set_option maxHeartbeats 8000000 in
theorem all_walk (a : Option Addr) (cap : Nat) (cs : List Cl) (w : World) (hb : Cls w a cap cs) (hr : ∀ c ∈ cs, MsgRc c.es c.gs) :
  Calls Try.prog 8 #[.slice a cs.length cap] w fun e w' => e = .returned (.bool true) ∧ Off (fun _ => False) w w' := by
 have HB : Hid (∀ i c, cs[i]? = some c → ∃ b off, a = some ⟨b, off, none⟩ ∧ ∀ w', Off (fun _ => False) w w' → w'.cell? ⟨b, off + i * 12, none⟩ = some (.int .i64 c.k) ∧ w'.cell? ⟨b, off + i * 12 + 1, none⟩ = some (.int .i64 c.u) ∧ w'.cell? ⟨b, off + i * 12 + 2, none⟩ = some (.int .i64 c.m.k) ∧ w'.cell? ⟨b, off + i * 12 + 3, none⟩ = some (.int .i64 c.m.fr) ∧ w'.cell? ⟨b, off + i * 12 + 4, none⟩ = some (.int .i64 c.m.tn) ∧ w'.cell? ⟨b, off + i * 12 + 5, none⟩ = some (.int .i64 c.m.op) ∧ w'.cell? ⟨b, off + i * 12 + 6, none⟩ = some (.int .i64 c.m.fo) ∧ w'.cell? ⟨b, off + i * 12 + 7, none⟩ = some (.string c.m.key) ∧ w'.cell? ⟨b, off + i * 12 + 8, none⟩ = some (.int .i64 c.m.bk) ∧ w'.cell? ⟨b, off + i * 12 + 9, none⟩ = some (.slice c.m.ea c.m.el c.m.ec) ∧ w'.cell? ⟨b, off + i * 12 + 10, none⟩ = some (.slice c.m.da c.m.dl c.m.dc) ∧ w'.cell? ⟨b, off + i * 12 + 11, none⟩ = some (.slice c.m.ma c.m.ml c.m.mc)) := fun i c hi => hb.cells hi
 have HM : Hid (∀ (i : Nat) (c : Cl), cs[i]? = some c → MsgAt w c.m c.es c.gs c.ms ∧ MsgRc c.es c.gs) := fun i c hi => ⟨by obtain ⟨b, off, -, -, h⟩ := hb.at_ i c hi; exact h, hr c (List.mem_of_getElem? hi)⟩
 obtain ⟨len, hl⟩ : ∃ len, len = cs.length := ⟨_, rfl⟩
 have hlen : len ≤ 9223372036854775807 := by rw [hl]; exact Nat.le_trans hb.len hb.bound
 have HLEN : Hid (len = cs.length) := hl
 rw [← hl]
 obtain ⟨N, hN⟩ : ∃ N : Int → NF, N = fun k => match cs[k.toNat]? with | some c => nfM c.m c.es c.gs c.ms | none => nfM mz [] [] [] := ⟨_, rfl⟩
 have HNN : Hid (∀ (i : Nat) (c : Cl), cs[i]? = some c → N (i : Int) = nfM c.m c.es c.gs c.ms) := fun i c hi => by rw [hN]; show (match cs[((i : Int)).toNat]? with | some c => nfM c.m c.es c.gs c.ms | none => nfM mz [] [] []) = _; rw [Int.toNat_natCast, hi]
 clear hb hr hN hl
 have HN : Hid _ := rnew_any N 50 w
 rw [show clq 50 = 50 by decide] at HN
 go_enter Try.func8, Try.ntmps8
 go_wp2_with fail
 refine Calls.mono HN.out ?_
 rintro e w1 ⟨p, rfl, h1⟩
 have H1 : Hid (QuR N w (fun c => blk none = some c) p [] 50 0 0 w1) := h1.keep (Off.refl _ w1) (fun c h => by cases h)
 clear h1 HN
 go_upto_block 0 with fail
 go_cut [4, 5, 6] from 16 to 49 (fun s4 s5 s6 wr => ∃ (ia : Option Addr) (ic : Nat) (zs : List (Mg × NF)) (l : List (Int × Int)) (r t : Int), s4 = .slice ia zs.length ic ∧ zs.length ≤ 50 ∧ Hid (OwnG 31 10 rcs wr ia ic zs) ∧ Hid (∀ z ∈ zs, Rn z.2 z.1 w) ∧ Hid ((zs.map Prod.snd).Perm (l.map (fun x => N x.1))) ∧ Hid (QuR N w (fun c => blk ia = some c) p l 50 r t wr))
 case first =>
  go_wp2_with fail
  go_loopw [5, 4] (fun s5 s4 wr => ∃ (i : Nat) (ia : Option Addr) (ic : Nat) (zs : List (Mg × NF)) (l : List (Int × Int)) (r t : Int), s5 = .int .i64 (i : Int) ∧ s4 = .slice ia zs.length ic ∧ i ≤ 60 ∧ i ≤ len ∧ zs.length ≤ 50 ∧ Hid (OwnG 31 10 rcs wr ia ic zs) ∧ Hid (∀ z ∈ zs, Rn z.2 z.1 w) ∧ Hid ((zs.map Prod.snd).Perm (l.map (fun x => N x.1))) ∧ Hid (0 ≤ r ∧ r ≤ i ∧ 0 ≤ t ∧ t ≤ i) ∧ Hid (QuR N w (fun c => blk ia = some c) p l 50 r t wr)) (fun s _ _ => ((len : Int) - intOf s).toNat)
  case atStart => exact ⟨0, none, 0, [], [], 0, 0, rfl, rfl, by omega, by omega, by decide, OwnG.nil _ _ _ _, (fun z hz => by cases hz), List.Perm.refl _, ⟨by decide, by decide, by decide, by decide⟩, H1.out⟩
  case round =>
   obtain ⟨i, ia, ic, zs, l, r, t, rfl, rfl, hi60, hil, hz50, HOWN, HRN, HPM, HRT, HQ⟩ := hrel
   clear H1
   by_cases hlt : i < len
   ·by_cases h60 : i < 60
    ·obtain ⟨c, hc⟩ : ∃ c, cs[i]? = some c := ⟨_, List.getElem?_eq_getElem (by have := HLEN.out; omega)⟩
     obtain ⟨b, off, rfl, hcell⟩ := HB.out i c hc
     obtain ⟨k0, k1, k2, k3, k4, k5, k6, k7, k8, k9, k10, k11⟩ := hcell _ HQ.out.off
     clear hcell
     obtain ⟨hma, hmr⟩ := HM.out i c hc
     have HMA : Hid _ := hma
     have HMR : Hid _ := hmr
     have HNI : Hid _ := HNN.out i c hc
     clear hma hmr
     go_upto_region 7 with fail
     have O6 : Off (fun _ => False) wr (wr.alloc (.cells #[.int .i64 c.k, .int .i64 c.u, .int .i64 c.m.k, .int .i64 c.m.fr, .int .i64 c.m.tn, .int .i64 c.m.op, .int .i64 c.m.fo, .string c.m.key, .int .i64 c.m.bk, .slice c.m.ea c.m.el c.m.ec, .slice c.m.da c.m.dl c.m.dc, .slice c.m.ma c.m.ml c.m.mc] 33)) := (Off.refl _ wr).alloc _
     have C6 : Cel wr.heap.size 33 #[.int .i64 c.k, .int .i64 c.u, .int .i64 c.m.k, .int .i64 c.m.fr, .int .i64 c.m.tn, .int .i64 c.m.op, .int .i64 c.m.fo, .string c.m.key, .int .i64 c.m.bk, .slice c.m.ea c.m.el c.m.ec, .slice c.m.da c.m.dl c.m.dc, .slice c.m.ma c.m.ml c.m.mc] (wr.alloc (.cells #[.int .i64 c.k, .int .i64 c.u, .int .i64 c.m.k, .int .i64 c.m.fr, .int .i64 c.m.tn, .int .i64 c.m.op, .int .i64 c.m.fo, .string c.m.key, .int .i64 c.m.bk, .slice c.m.ea c.m.el c.m.ec, .slice c.m.da c.m.dl c.m.dc, .slice c.m.ma c.m.ml c.m.mc] 33)) := Cel.new wr _ _
     generalize hv : wr.alloc (.cells #[.int .i64 c.k, .int .i64 c.u, .int .i64 c.m.k, .int .i64 c.m.fr, .int .i64 c.m.tn, .int .i64 c.m.op, .int .i64 c.m.fo, .string c.m.key, .int .i64 c.m.bk, .slice c.m.ea c.m.el c.m.ec, .slice c.m.da c.m.dl c.m.dc, .slice c.m.ma c.m.ml c.m.mc] 33) = w6 at O6 C6 ⊢
     have HQ6 : Hid (QuR N w (fun c => blk ia = some c ∨ c = wr.heap.size) p l 50 r t w6) := HQ.out.keep (O6.mono (fun _ _ h => h.elim)) (fun c h => h.elim .inl (fun e => .inr (by rw [e]; exact Nat.le_refl _)))
     have HOWN6 : Hid _ := HOWN.out.off O6 (fun _ _ _ h => h)
     have hq6 : wr.heap.size < w6.heap.size := C6.lt
     have hne6 : ∀ c, blk ia = some c → c < wr.heap.size := HOWN.out.lt
     have HNE : Hid (∀ c, blk ia = some c → c ≠ wr.heap.size) := fun c h e => by have := hne6 c h; omega
     clear hv HQ HOWN k0 k1 k2 k3 k4 k5 k6 k7 k8 k9 k10 k11 O6 hne6
     generalize wr.heap.size = q at C6 HQ6 HNE hq6 ⊢
     have HC6 : Hid _ := C6
     obtain ⟨x0, x1, x2, x3, x4, x5, x6, x7, x8, x9, x10, x11⟩ := celw12 C6
     clear C6
     have hel : c.m.el ≤ 9223372036854775807 := by have := HMA.out; rw [this.el]; exact Nat.le_trans this.ens.len this.ens.bound
     have hdl : c.m.dl ≤ 9223372036854775807 := by have := HMA.out; rw [this.dl]; exact Nat.le_trans this.dgs.len this.dgs.bound
     have hml : c.m.ml ≤ 9223372036854775807 := by have := HMA.out; rw [this.ml]; exact Nat.le_trans this.mbs.len this.mbs.bound
     go_wp2_with fail
     refine (light_any c.k c.u c.m _ hel hdl hml).mono ?_
     rintro e w7 ⟨lt, rfl, hlt3, o7⟩
     have HQ7 : Hid _ := HQ6.out.free o7
     have HOWN7 : Hid _ := HOWN6.out.off o7 (fun _ _ _ h => h)
     have HC7 : Hid _ := HC6.out.off o7 (fun h => h)
     have hq7 : q < w7.heap.size := HC7.out.lt
     have HL3 : Hid _ := hlt3
     clear x0 x1 x2 x3 x4 x5 x6 x7 x8 x9 x10 x11 hlt3 o7 HQ6 HOWN6 HC6 hel hdl hml hq6
     obtain ⟨x0, x1, x2, x3, x4, x5, x6, x7, x8, x9, x10, x11⟩ := celw12 HC7.out
     cases lt
     ·go_wp2_with fail
      go_roundw
      case rel =>
       refine ⟨i + 1, ia, ic, zs, l, r, t, by go_num, rfl, by omega, by omega, hz50, HOWN7.out, HRN.out, HPM.out, (by have := HRT.out; show _ ∧ _ ∧ _ ∧ _; omega), HQ7.out.keep (Off.refl _ _) (fun c h => .inl (.inl h))⟩
      case measure => simp [intOf]; omega
     ·have hb3 := HL3.out rfl
      have HSZ : Hid (MsgSz c.es c.gs c.ms) := by
       have h1 := HMA.out
       have h2 := HMR.out
       refine ⟨by have := h1.el; omega, by have := h1.dl; omega, by have := h1.ml; omega, h2.ev, h2.gd⟩
      clear hb3 HL3
      by_cases hk : c.k = 2
      ·have dk : (c.k == (2 : Int)) = true := by rw [hk]; rfl
       go_wp2_with fail
       refine (rtick_any HQ7.out (by have := HRT.out; omega)).mono ?_
       rintro e w8 ⟨rfl, h8, o8⟩
       have HQ8 : Hid _ := h8
       have HOWN8 : Hid _ := HOWN7.out.off o8 (fun _ _ h e => e (.inl h))
       clear h8 o8 x0 x1 x2 x3 x4 x5 x6 x7 x8 x9 x10 x11
       go_wp2_with fail
       go_roundw
       case rel =>
        refine ⟨i + 1, ia, ic, zs, l, r, t + 1, by go_num, rfl, by omega, by omega, hz50, HOWN8.out, HRN.out, HPM.out, (by have := HRT.out; show _ ∧ _ ∧ _ ∧ _; omega), HQ8.out.keep (Off.refl _ _) (fun c h => .inl (.inl h))⟩
       case measure => simp [intOf]; omega
      ·have dk : (c.k == (2 : Int)) = false := by rw [beq_eq_false_iff_ne]; exact hk
       have hlz : l.length = zs.length := by have := HPM.out.length_eq; simpa using this.symm
       by_cases hfull : l.length < 50
       ·go_wp2_with fail
        refine (rput_yes HQ7.out (fun c' h => h.elim (fun h => HOWN7.out.lt c' h) (fun e => by rw [e]; exact hq7)) (i : Int) c.u c.m c.es c.gs c.ms HMA.out HSZ.out HNI.out (by omega) (by have := HRT.out; omega)).mono ?_
        rintro e w8 ⟨rfl, h8, o8⟩
        have HQ8 : Hid _ := h8
        have HOWN8 : Hid _ := HOWN7.out.off o8 (fun _ _ h e => e (.inl h))
        have HC8 : Hid _ := HC7.out.off o8 (fun e => e (.inr rfl))
        clear h8 o8 x0 x1 x2 x3 x4 x5 x6 x7 x8 x9 x10 x11
        obtain ⟨x0, x1, x2, x3, x4, x5, x6, x7, x8, x9, x10, x11⟩ := celw12 HC8.out
        have G : Cel w8.heap.size 31 #[.int .i64 c.m.k, .int .i64 c.m.fr, .int .i64 c.m.tn, .int .i64 c.m.op, .int .i64 c.m.fo, .string c.m.key, .int .i64 c.m.bk, .slice c.m.ea c.m.el c.m.ec, .slice c.m.da c.m.dl c.m.dc, .slice c.m.ma c.m.ml c.m.mc] (w8.alloc (.cells #[.int .i64 c.m.k, .int .i64 c.m.fr, .int .i64 c.m.tn, .int .i64 c.m.op, .int .i64 c.m.fo, .string c.m.key, .int .i64 c.m.bk, .slice c.m.ea c.m.el c.m.ec, .slice c.m.da c.m.dl c.m.dc, .slice c.m.ma c.m.ml c.m.mc] 31)) := Cel.new w8 _ _
        have OA : Off (fun _ => False) w8 (w8.alloc (.cells #[.int .i64 c.m.k, .int .i64 c.m.fr, .int .i64 c.m.tn, .int .i64 c.m.op, .int .i64 c.m.fo, .string c.m.key, .int .i64 c.m.bk, .slice c.m.ea c.m.el c.m.ec, .slice c.m.da c.m.dl c.m.dc, .slice c.m.ma c.m.ml c.m.mc] 31)) := (Off.refl _ w8).alloc _
        have G2 : ∀ j u, (rcs (c.m, nfM c.m c.es c.gs c.ms))[j]? = some u → (w8.alloc (.cells #[.int .i64 c.m.k, .int .i64 c.m.fr, .int .i64 c.m.tn, .int .i64 c.m.op, .int .i64 c.m.fo, .string c.m.key, .int .i64 c.m.bk, .slice c.m.ea c.m.el c.m.ec, .slice c.m.da c.m.dl c.m.dc, .slice c.m.ma c.m.ml c.m.mc] 31)).cell? ⟨w8.heap.size, j, none⟩ = some u := fun j u hj => by
         rw [G.cell j, ← hj, List.getElem?_toArray]
         rfl
        have HG2 : Hid _ := G2
        have HOA : Hid _ := OA
        clear G G2 OA
        go_wp2_with (at_builtin; refine wpList_appG (cs := rcs) rfl (.tmp 45) (.tmp 48) Try.underlying56 Try.infoMr rfl (by decide) (by decide) rcs_len rcs_one rfl ia ic zs rfl (HOWN8.out.off HOA.out (fun _ _ _ h => h)) w8.heap.size 1 (c.m, nfM c.m c.es c.gs c.ms) rfl HG2.out (by omega) ?_; intro ia' ic' w9 ys hys own9 o9 at9; have HOWN9 : Hid _ := own9; have HO9 : Hid _ := o9; have HAT : Hid _ := at9; clear own9 o9 at9)
        go_roundw
        case rel =>
         have fo : Off (fun c => blk ia = some c) w8 w9 := (HOA.out.mono (fun _ _ h => h.elim)).trans HO9.out (fun _ _ h => h)
         have hat : blk ia' = blk ia ∨ blk ia' = some (w8.heap.size + 1) := by
          have e := HAT.out
          simpa [World.size_alloc] using e
         have hylen : ys.length = zs.length + 1 := by rw [hys.out]; simp
         refine ⟨i + 1, ia', ic', ys, insQ (wgt c.u - t) (i : Int) l, r, t, by go_num, rfl, by omega, by omega, by omega, HOWN9.out, ?_, ?_, (by have := HRT.out; show _ ∧ _ ∧ _ ∧ _; omega), HQ8.out.keep (fo.mono (fun _ _ h => .inl h)) (fun c' h => ?_)⟩
         ·intro z hz
          rw [hys.out, List.mem_append, List.mem_singleton] at hz
          rcases hz with hz | rfl
          ·exact HRN.out z hz
          ·exact ⟨_, _, _, HMA.out, rfl⟩
         ·show (ys.map Prod.snd).Perm _
          rw [hys.out, List.map_append]
          refine ((List.perm_append_comm).trans ?_).trans ((ins_perm (wgt c.u - t) (i : Int) l).map (fun x => N x.1)).symm
          show ([nfM c.m c.es c.gs c.ms] ++ zs.map Prod.snd).Perm (N (i : Int) :: l.map (fun x => N x.1))
          rw [HNI.out]
          exact HPM.out.cons _
         ·rcases hat with h' | h'
          ·exact .inl (.inl (h' ▸ h))
          ·have h2 : w8.heap.size + 1 = c' := by rw [h'] at h; exact Option.some.inj h
           exact .inr (by omega)
        case measure => simp [intOf]; omega
       ·go_wp2_with fail
        refine (rput_full HQ7.out c.u c.m (by omega) (by have := HRT.out; omega)).mono ?_
        rintro e w8 ⟨rfl, h8, o8⟩
        have HQ8 : Hid _ := h8
        have HOWN8 : Hid _ := HOWN7.out.off o8 (fun _ _ h e => e (.inl h))
        clear h8 o8 x0 x1 x2 x3 x4 x5 x6 x7 x8 x9 x10 x11
        go_wp2_with fail
        go_roundw
        case rel =>
         refine ⟨i + 1, ia, ic, zs, l, r + 1, t, by go_num, rfl, by omega, by omega, hz50, HOWN8.out, HRN.out, HPM.out, (by have := HRT.out; show _ ∧ _ ∧ _ ∧ _; omega), HQ8.out.keep (Off.refl _ _) (fun c h => .inl (.inl h))⟩
        case measure => simp [intOf]; omega
    ·go_wp2_with fail
     go_meet
     case rel => exact ⟨ia, ic, zs, l, r, t, rfl, hz50, HOWN.out, HRN.out, HPM.out, HQ.out⟩
   ·go_wp2_with fail
    go_meet
    case rel => exact ⟨ia, ic, zs, l, r, t, rfl, hz50, HOWN.out, HRN.out, HPM.out, HQ.out⟩
 case rest =>
  obtain ⟨ia, ic, zs, l, r, t, rfl, hz50, HOWN, HRN, HPM, HQ⟩ := hcut
  clear H1 HB HM HNN HLEN hlen
  have HLZ : Hid (l.length = zs.length) := by have := HPM.out.length_eq; show _ = _; simpa using this.symm
  go_wp2_with fail
  go_loopw [53, 4] (fun s53 s4 wr => ∃ (j : Nat) (ja : Option Addr) (jc : Nat) (ys : List (Mg × NF)) (l : List (Int × Int)), s53 = .int .i64 (j : Int) ∧ s4 = .slice ja ys.length jc ∧ j ≤ zs.length ∧ Hid (j + ys.length = zs.length) ∧ Hid (OwnG 31 10 rcs wr ja jc ys) ∧ Hid (∀ z ∈ ys, Rn z.2 z.1 w) ∧ Hid ((ys.map Prod.snd).Perm (l.map (fun x => N x.1))) ∧ Hid (QuR N w (fun c => blk ja = some c) p l 50 r t wr)) (fun s _ _ => ((zs.length : Int) - intOf s).toNat)
  case atStart => exact ⟨0, ia, ic, zs, l, rfl, rfl, by omega, Nat.zero_add _, HOWN.out, HRN.out, HPM.out, HQ.out⟩
  case round =>
   clear HOWN HRN HPM HQ HLZ
   obtain ⟨j, ja, jc, ys, l', rfl, rfl, hj, HJ, HOWN, HRN, HPM, HQ⟩ := hrel
   have hlz : l'.length = ys.length := by have := HPM.out.length_eq; simpa using this.symm
   by_cases hjn : j < zs.length
   ·obtain ⟨l2, k, b, rfl, hl2⟩ := snoc_of (l := l') (by have := HJ.out; omega)
    have hy0 : ys ≠ [] := fun e => by have := HJ.out; rw [e] at this; simp at this; omega
    obtain ⟨g, cur, rfl, -, -, -, -, -⟩ := HOWN.out.celw (fun e => hy0 (HOWN.out.nnw e))
    have HEX : Hid (∃ z ∈ ys, z.2 = N k) := by
     have h : N k ∈ ys.map Prod.snd := HPM.out.mem_iff.2 (by simp)
     obtain ⟨z, hz, e⟩ := List.mem_map.1 h
     exact ⟨z, hz, e⟩
    have hy50 : ys.length ≤ 50 := by have := HJ.out; omega
    clear hlz hl2 hy0
    go_wp2_with fail
    refine (rtake_some HQ.out).mono ?_
    rintro e w4 ⟨m, T, rfl, -, hrd, h4, o4⟩
    have HQ4 : Hid _ := h4
    have HOWN4 : Hid _ := HOWN.out.off o4 (fun _ _ h e => e h)
    have HRD : Hid _ := hrd
    clear h4 o4 hrd HQ HOWN
    go_upto_region 16 with fail
    have O7 : Off (fun _ => False) w4 (w4.alloc (.cells #[.int .i64 m.k, .int .i64 m.fr, .int .i64 m.tn, .int .i64 m.op, .int .i64 m.fo, .string m.key, .int .i64 m.bk, .slice m.ea m.el m.ec, .slice m.da m.dl m.dc, .slice m.ma m.ml m.mc] 31)) := (Off.refl _ w4).alloc _
    have C7 : Cel w4.heap.size 31 #[.int .i64 m.k, .int .i64 m.fr, .int .i64 m.tn, .int .i64 m.op, .int .i64 m.fo, .string m.key, .int .i64 m.bk, .slice m.ea m.el m.ec, .slice m.da m.dl m.dc, .slice m.ma m.ml m.mc] (w4.alloc (.cells #[.int .i64 m.k, .int .i64 m.fr, .int .i64 m.tn, .int .i64 m.op, .int .i64 m.fo, .string m.key, .int .i64 m.bk, .slice m.ea m.el m.ec, .slice m.da m.dl m.dc, .slice m.ma m.ml m.mc] 31)) := Cel.new w4 _ _
    generalize hv : w4.alloc (.cells #[.int .i64 m.k, .int .i64 m.fr, .int .i64 m.tn, .int .i64 m.op, .int .i64 m.fo, .string m.key, .int .i64 m.bk, .slice m.ea m.el m.ec, .slice m.da m.dl m.dc, .slice m.ma m.ml m.mc] 31) = w7 at O7 C7 ⊢
    have HQ7 : Hid _ := HQ4.out.free O7
    have HOWN7 : Hid _ := HOWN4.out.off O7 (fun _ _ _ h => h)
    have HM7 : Hid (∀ v, Off (fun _ => False) w7 v → Rd N k m v) := fun v hv => HRD.out v ((O7.trans hv (fun _ _ h => h)).mono (fun _ _ h => h.elim))
    have HX7 : Hid (∀ w', Off (fun _ => False) w7 w' → ∀ q (z : Mg × NF), ys[q]? = some z → w'.cell? ⟨g, q * 10, none⟩ = some (.int .i64 z.1.k) ∧ w'.cell? ⟨g, q * 10 + 1, none⟩ = some (.int .i64 z.1.fr) ∧ w'.cell? ⟨g, q * 10 + 2, none⟩ = some (.int .i64 z.1.tn) ∧ w'.cell? ⟨g, q * 10 + 3, none⟩ = some (.int .i64 z.1.op) ∧ w'.cell? ⟨g, q * 10 + 4, none⟩ = some (.int .i64 z.1.fo) ∧ w'.cell? ⟨g, q * 10 + 5, none⟩ = some (.string z.1.key) ∧ w'.cell? ⟨g, q * 10 + 6, none⟩ = some (.int .i64 z.1.bk) ∧ w'.cell? ⟨g, q * 10 + 7, none⟩ = some (.slice z.1.ea z.1.el z.1.ec) ∧ w'.cell? ⟨g, q * 10 + 8, none⟩ = some (.slice z.1.da z.1.dl z.1.dc) ∧ w'.cell? ⟨g, q * 10 + 9, none⟩ = some (.slice z.1.ma z.1.ml z.1.mc)) := fun w' hw q z hz => by
     obtain ⟨g', eg, h⟩ := HOWN7.out.at_ rcs_len hz
     simp only [Option.some.injEq, Addr.mk.injEq, and_true] at eg
     subst eg
     have f : ∀ j u, (rcs z)[j]? = some u → w'.cell? ⟨g, q * 10 + j, none⟩ = some u := fun j u hj => by
      have h2 := h j u hj
      rw [← h2]
      exact World.cell?_of_block (a := ⟨g, q * 10 + j, none⟩) (hw.block g (cell_lt h2) (fun h => h))
     exact ⟨f 0 _ rfl, f 1 _ rfl, f 2 _ rfl, f 3 _ rfl, f 4 _ rfl, f 5 _ rfl, f 6 _ rfl, f 7 _ rfl, f 8 _ rfl, f 9 _ rfl⟩
    have HC7 : Hid _ := C7
    clear hv O7 C7 HQ4 HOWN4 HRD
    generalize w4.heap.size = q8 at HC7 ⊢
    go_wp2_with fail
    go_loopw [64, 10] (fun s64 s10 wr => ∃ (q : Nat) (x : Int), s64 = .int .i64 (q : Int) ∧ s10 = .int .i64 x ∧ q ≤ ys.length ∧ Hid (Fnd ys (N k) q x) ∧ Hid (Off (fun _ => False) w7 wr)) (fun s _ _ => ((ys.length : Int) - intOf s).toNat)
    case atStart => exact ⟨0, -1, rfl, rfl, by omega, .inl ⟨rfl, fun z hz => by simp at hz⟩, Off.refl _ _⟩
    case round =>
     obtain ⟨q, x, rfl, rfl, hq, HF, HO⟩ := hrel
     by_cases hqy : q < ys.length
     ·obtain ⟨z, hz⟩ : ∃ z, ys[q]? = some z := ⟨_, List.getElem?_eq_getElem hqy⟩
      obtain ⟨y0, y1, y2, y3, y4, y5, y6, y7, y8, y9⟩ := HX7.out _ HO.out q z hz
      have HZ : Hid _ := hz
      clear hz
      go_upto_region 22 with fail
      have O9 : Off (fun _ => False) wr (wr.alloc (.cells #[.int .i64 z.1.k, .int .i64 z.1.fr, .int .i64 z.1.tn, .int .i64 z.1.op, .int .i64 z.1.fo, .string z.1.key, .int .i64 z.1.bk, .slice z.1.ea z.1.el z.1.ec, .slice z.1.da z.1.dl z.1.dc, .slice z.1.ma z.1.ml z.1.mc] 31)) := (Off.refl _ wr).alloc _
      have C9 : Cel wr.heap.size 31 #[.int .i64 z.1.k, .int .i64 z.1.fr, .int .i64 z.1.tn, .int .i64 z.1.op, .int .i64 z.1.fo, .string z.1.key, .int .i64 z.1.bk, .slice z.1.ea z.1.el z.1.ec, .slice z.1.da z.1.dl z.1.dc, .slice z.1.ma z.1.ml z.1.mc] (wr.alloc (.cells #[.int .i64 z.1.k, .int .i64 z.1.fr, .int .i64 z.1.tn, .int .i64 z.1.op, .int .i64 z.1.fo, .string z.1.key, .int .i64 z.1.bk, .slice z.1.ea z.1.el z.1.ec, .slice z.1.da z.1.dl z.1.dc, .slice z.1.ma z.1.ml z.1.mc] 31)) := Cel.new wr _ _
      generalize hv : wr.alloc (.cells #[.int .i64 z.1.k, .int .i64 z.1.fr, .int .i64 z.1.tn, .int .i64 z.1.op, .int .i64 z.1.fo, .string z.1.key, .int .i64 z.1.bk, .slice z.1.ea z.1.el z.1.ec, .slice z.1.da z.1.dl z.1.dc, .slice z.1.ma z.1.ml z.1.mc] 31) = w9 at O9 C9 ⊢
      have HO9 : Hid _ := HO.out.trans O9 (fun _ _ h => h)
      clear hv O9 y0 y1 y2 y3 y4 y5 y6 y7 y8 y9 HO
      generalize wr.heap.size = q9 at C9 ⊢
      have CM := HC7.out.off HO9.out (fun h => h)
      obtain ⟨x0, x1, x2, x3, x4, x5, x6, x7, x8, x9⟩ := celw10 C9
      obtain ⟨v0, v1, v2, v3, v4, v5, v6, v7, v8, v9⟩ := celw10 CM
      obtain ⟨es1, gs1, ms1, hma, hmf⟩ := (HRN.out z (List.mem_of_getElem? HZ.out)).off (HQ7.out.off.trans HO9.out (fun _ _ h => h))
      obtain ⟨es2, gs2, ms2, hmb, hmg⟩ := HM7.out _ HO9.out
      have HS : Hid _ := same_any z.1 m es1 es2 gs1 gs2 ms1 ms2 w9 hma hmb
      have HMF : Hid _ := hmf
      have HMG : Hid _ := hmg
      clear C9 CM hma hmb hmf hmg
      go_wp2_with fail
      refine Calls.mono HS.out ?_
      rintro e w10 ⟨bl, rfl, hbl, o10⟩
      have HBL : Hid _ := hbl
      have HO10 : Hid _ := HO9.out.trans o10 (fun _ _ h => h)
      clear hbl o10 HS HO9 x0 x1 x2 x3 x4 x5 x6 x7 x8 x9 v0 v1 v2 v3 v4 v5 v6 v7 v8 v9
      cases bl
      ·go_wp2_with fail
       go_roundw
       case rel =>
        refine ⟨q + 1, x, by go_num, rfl, by omega, ?_, HO10.out⟩
        refine HF.out.no HZ.out (fun e => ?_)
        have h := HBL.out.2 (by rw [HMF.out, HMG.out, e])
        cases h
       case measure => simp [intOf]; omega
      ·by_cases hx : x < 0
       ·have dx : decide (x < 0) = true := decide_eq_true hx
        go_wp2_with fail
        go_roundw
        case rel =>
         refine ⟨q + 1, (q : Int), by go_num, by go_num, by omega, .inr ⟨q, z, rfl, HZ.out, ?_⟩, HO10.out⟩
         rw [← HMF.out, ← HMG.out]
         first | exact HBL.out.1 trivial | exact HBL.out.1 rfl
        case measure => simp [intOf]; omega
       ·have dx : decide (x < 0) = false := decide_eq_false hx
        go_wp2_with fail
        go_roundw
        case rel =>
         refine ⟨q + 1, x, by go_num, rfl, by omega, ?_, HO10.out⟩
         rcases HF.out with ⟨e, -⟩ | h
         ·omega
         ·exact .inr h
        case measure => simp [intOf]; omega
     ·obtain rfl : q = ys.length := by omega
      obtain ⟨i, z, rfl, hz, hzf⟩ : ∃ (i : Nat) (z : Mg × NF), x = (i : Int) ∧ ys[i]? = some z ∧ z.2 = N k := by
       rcases HF.out with ⟨-, h⟩ | h
       ·obtain ⟨z, hz, e⟩ := HEX.out
        exact absurd e (h z (by rw [List.take_length]; exact hz))
       ·exact h
      have hi : i < ys.length := (List.getElem?_eq_some_iff.1 hz).1
      have HZ : Hid _ := hz
      have HZF : Hid _ := hzf
      have HOWNr : Hid _ := HOWN7.out.off HO.out (fun _ _ _ h => h)
      have HQr : Hid _ := HQ7.out.free HO.out
      obtain ⟨-, -, -, -, hyc, -⟩ := HOWNr.out.celw (by simp)
      clear hz hzf HF HC7 HX7 HM7 hqy hq HEX HOWN7 HQ7 HO
      have di : decide ((i : Int) < 0) = false := decide_eq_false (by omega)
      go_upto_region 27 with fail
      obtain ⟨o, hs2, ho⟩ := sllM g ys.length jc (i + 1) ((i : Int) + 1) (by simp) (by omega)
      have hs1 := slhM g ys.length jc i (by omega)
      have HOO : Hid _ := ho
      clear ho
      have b1 : (i : Int) + 1 ≤ (ys.length : Int) := by omega
      have hwi : IntKind.i64.wrap ((i : Int) + 1) = (i : Int) + 1 := by rw [IntKind.wrap_i64]; omega
      refine wp_region_held_drew (S := fun w' => Off (fun c => c = g) wr w') (by kernel_rfl) ((Off.refl _ wr).drew) (fun hS => ?_)
      refine take_at (i := 0) 80 (v := .slice (some ⟨g, 0, none⟩) ys.length jc) rfl rfl (by kernel_rfl) (by kernel_rfl) (by kernel_rfl) (fun _ _ _ h => h) (Or.inl ⟨by rfl, fun w' hw' => by go_simp⟩) hS ?_
      simp only [Act.put, lsA, lsZ, lsS]
      refine take_at (i := 1) 81 (v := .int .i64 (i : Int)) rfl rfl (by kernel_rfl) (by kernel_rfl) (by kernel_rfl) (fun _ _ _ h => h) (Or.inl ⟨by rfl, fun w' hw' => by go_simp⟩) hS ?_
      simp only [Act.put, lsA, lsZ, lsS]
      refine take_at (i := 2) 82 (v := .slice (some ⟨g, 0, none⟩) i jc) rfl rfl (by kernel_rfl) (by kernel_rfl) (by kernel_rfl) (fun _ _ _ h => h) (Or.inl ⟨by rfl, fun w' hw' => by have := hs1 w'; go_simp⟩) hS ?_
      simp only [Act.put, lsA, lsZ, lsS]
      refine take_at (i := 3) 83 (v := .slice (some ⟨g, 0, none⟩) ys.length jc) rfl rfl (by kernel_rfl) (by kernel_rfl) (by kernel_rfl) (fun _ _ _ h => h) (Or.inl ⟨by rfl, fun w' hw' => by go_simp⟩) hS ?_
      simp only [Act.put, lsA, lsZ, lsS]
      refine take_at (i := 4) 84 (v := .int .i64 (i : Int)) rfl rfl (by kernel_rfl) (by kernel_rfl) (by kernel_rfl) (fun _ _ _ h => h) (Or.inl ⟨by rfl, fun w' hw' => by go_simp⟩) hS ?_
      simp only [Act.put, lsA, lsZ, lsS]
      refine take_at (i := 5) 85 (v := .int .i64 ((i : Int) + 1)) rfl rfl (by kernel_rfl) (by kernel_rfl) (by kernel_rfl) (fun _ _ _ h => h) (Or.inl ⟨by rfl, fun w' hw' => by go_simp; try exact hwi⟩) hS ?_
      simp only [Act.put, lsA, lsZ, lsS]
      refine take_at (i := 6) 86 (v := .slice (some ⟨g, o, none⟩) (ys.length - (i + 1)) (jc - (i + 1))) rfl rfl (by kernel_rfl) (by kernel_rfl) (by kernel_rfl) (fun _ _ _ h => h) (Or.inl ⟨by rfl, fun w' hw' => by have := hs2 w'; go_simp⟩) hS ?_
      simp only [Act.put, lsA, lsZ, lsS]
      refine wpAnyH_ready (rs := [7]) (by kernel_rfl) (by simp) ?_
      refine AllReadyH.cons rfl (fun K' hK' => ?_) AllReadyH.nil
      obtain ⟨w12, hr, own12, o12⟩ := cut_run (w := wr.drew) (HOWNr.out.off ((Off.refl (fun _ => False) wr).drew) (fun _ _ _ h => h)) hi (fun h => HOO.out h) (jc - (i + 1)) 56
      refine wp_append_if rfl (.tmp 82) (.tmp 86) rfl rfl rfl hr 87 rfl ?_
      simp only [Act.put, lsA, lsZ, lsS]
      refine hK'.out _ _ (((Off.refl (fun c => c = g) wr).drew).trans o12 (fun _ _ h => h)) (fun hS => ?_)
      clear hK' K' hr
      have HOWN12 : Hid _ := own12
      clear own12 o12
      refine take_at (i := 8) 4 (v := .slice (some ⟨g, 0, none⟩) (ys.length - 1) jc) rfl rfl (by kernel_rfl) (by kernel_rfl) (by kernel_rfl) (fun _ _ _ h => h) (Or.inl ⟨by rfl, fun w' hw' => by go_simp⟩) hS ?_
      simp only [Act.put, lsA, lsZ, lsS]
      refine wpAnyH_done (by kernel_rfl) ?_ _
      have HO12 : Hid _ := hS
      clear hS
      go_wp2_with fail
      go_roundw
      case rel =>
       have hlen : (ys.take i ++ ys.drop (i + 1)).length = ys.length - 1 := by simp; omega
       refine ⟨j + 1, some ⟨g, 0, none⟩, jc, ys.take i ++ ys.drop (i + 1), l2, by go_num, by rw [hlen], by omega, (by have := HJ.out; show _ = _; rw [hlen]; omega), HOWN12.out, ?_, ?_, HQr.out.keep (HO12.out.mono (fun _ _ h => by rw [h]; rfl)) (fun _ h => .inl h)⟩
       ·intro y hy
        rcases List.mem_append.1 hy with h | h
        ·exact HRN.out y (List.mem_of_mem_take h)
        ·exact HRN.out y (List.mem_of_mem_drop h)
       ·exact perm_cut HPM.out HZ.out HZF.out
      case measure => simp [intOf]; omega
   ·obtain rfl : l' = [] := List.eq_nil_of_length_eq_zero (by have := HJ.out; omega)
    have dl : ((ys.length : Int) == 0) = true := by
     have : ys.length = 0 := by have := HJ.out; omega
     rw [this]
     rfl
    go_wp2_with fail
    refine (rtake_none HQ.out).mono ?_
    rintro e w8 ⟨rfl, h8⟩
    have H8 : Hid _ := h8
    clear h8 HQ
    go_wp2_with fail
    refine (awake_any _).mono ?_
    rintro e w3 ⟨rfl, o3⟩
    have HO : Hid _ := (H8.out.off.trans ((Off.refl (fun _ => False) w8).alloc _) (fun _ _ h => h)).trans o3 (fun _ _ h => h)
    clear o3
    go_wp2_with fail
    go_ret
    exact ⟨rfl, HO.out⟩
end Go.Proofs.Ytmeclfgehpbjlaa
