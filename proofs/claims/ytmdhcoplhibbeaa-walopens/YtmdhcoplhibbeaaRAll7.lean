/- The reference's All. -/
import Derived.Test.YtmdhcoplhibbeaaRTake7
import Derived.Test.YtmdhcoplhibbeaaGro
namespace Go.Proofs.Ytmdhcoplhibbeaa
open Go.RowKit

set_option maxRecDepth 100000 in
set_option maxHeartbeats 1000000 in
theorem rall_any {w : World} {tad : Option Addr} {cap : Nat} {bs : List Nat} (h : Inp w tad cap bs) (hl : bs.length ≤ 8000000) :
    Calls Try.prog 15 #[.slice tad bs.length cap] w fun e w' => ∃ (t : Option Addr) (c : Nat) (bl : List B) (n : Nat) (er : Int), e = .returned (.tuple #[.slice t bl.length c, .int .i64 (n : Int), .int .i64 er]) ∧ OwnG 23 1 bcs w' t c bl ∧ (∀ k, blk t = some k → w.heap.size ≤ k) ∧ (∀ b ∈ bl, OwnR w' b.ad b.cap b.data ∧ (∀ k, blk b.ad = some k → w.heap.size ≤ k) ∧ ∀ x ∈ b.data, x < 256) ∧ Al bs (bl.map B.data) n er ∧ Off (fun _ => False) w w' := by
  have HI : Hid _ := h
  clear h
  go_enter Try.func15, Try.ntmps15
  go_wp2_with fail
  go_loopw [5, 6] (fun x y wr => ∃ (n : Nat) (t : Option Addr) (c : Nat) (bl : List B), x = .slice t bl.length c ∧ y = .int .i64 (n : Int) ∧ Got bs (bl.map B.data) n ∧ OwnG 23 1 bcs wr t c bl ∧ (∀ k, blk t = some k → w.heap.size ≤ k) ∧ (∀ b ∈ bl, OwnR wr b.ad b.cap b.data ∧ (∀ k, blk b.ad = some k → w.heap.size ≤ k ∧ blk t ≠ some k) ∧ ∀ x ∈ b.data, x < 256) ∧ Off (fun _ => False) w wr) (fun _ y _ => (bs.length - intOf y).toNat)
  case atStart => exact ⟨0, none, 0, [], rfl, rfl, rfl, OwnG.nil _ _ _ _, fun k hk => by simp [blk] at hk, by simp, Off.refl _ _⟩
  case round =>
    obtain ⟨n, t, c, bl, rfl, rfl, hg, own, hlo, hbl, O⟩ := hrel
    have hnl := hg.le
    have hmany := hg.many
    rw [List.length_map] at hmany
    have HG : Hid _ := hg
    have HOWN : Hid _ := own
    have HLO : Hid _ := hlo
    have HBL : Hid _ := hbl
    have HO : Hid _ := O
    clear hg own hlo hbl O
    obtain ⟨td, sd, id, bd⟩ := (HI.out.free HO.out).drop (k := n) hnl
    have HID : Hid _ := id
    have HBD : Hid _ := bd
    have ldl : (bs.drop n).length ≤ 8000000 := by rw [List.length_drop]; omega
    clear id bd
    have HSN : Hid (tkE (bs.drop n) = 0 → Got bs (bl.map B.data ++ [tkR (bs.drop n)]) (n + tkN (bs.drop n))) := fun e => HG.out.snoc e
    have HAL : Hid (∀ er, ((tkE (bs.drop n) = 2 ∧ er = 0) ∨ (tkE (bs.drop n) ≠ 2 ∧ tkE (bs.drop n) ≠ 0 ∧ er = tkE (bs.drop n))) → Al bs (bl.map B.data) n er) := fun er h => ⟨HG.out, h⟩
    have hcs := tkE_cases (bs.drop n)
    have HTL : Hid (tkE (bs.drop n) = 0 → n + tkN (bs.drop n) ≤ bs.length ∧ (tkR (bs.drop n)).length + 8 = tkN (bs.drop n)) := fun e => ⟨(HG.out.snoc e).le, tkR_len e⟩
    have HLT : Hid (∀ x ∈ tkR (bs.drop n), x < 256) := tkR_lt (fun x hx => HI.out.lt x (List.mem_of_mem_drop hx))
    generalize bs.drop n = ds at *
    go_wp2_with fail
    refine (rtake_any HID.out (by omega)).mono ?_
    rintro e w1 ⟨td1, cd1, rfl, own1, fr1, O1⟩
    have HO1 : Hid _ := O1
    clear O1
    have F1 : Hid (Off (fun _ => False) w w1) := HO.out.trans HO1.out (fun _ _ h => h)
    have OW1 : Hid (OwnG 23 1 bcs w1 t c bl) := HOWN.out.off HO1.out (fun _ _ _ h => h)
    have BL1 : Hid (∀ b ∈ bl, OwnR w1 b.ad b.cap b.data ∧ (∀ k, blk b.ad = some k → w.heap.size ≤ k ∧ blk t ≠ some k) ∧ ∀ x ∈ b.data, x < 256) := fun b hb => ⟨(HBL.out b hb).1.off HO1.out (fun _ _ _ h => h), (HBL.out b hb).2⟩
    have HR1 : Hid _ := own1
    have HF1 : Hid (∀ k, blk td1 = some k → w.heap.size ≤ k ∧ blk t ≠ some k) := fun k hk => by
      have h1 := fr1 k hk
      have h2 := HO.out.size
      refine ⟨by omega, fun e => ?_⟩
      have := HOWN.out.lt k e
      omega
    clear own1 fr1
    rcases hcs with he | he | he | he
    · have HSN1 := HSN.out he
      have htl := HTL.out he
      have HTL2 : Hid _ := htl.2
      have htn : n + tkN ds ≤ bs.length := htl.1
      have htm : 8 ≤ tkN ds := by have := htl.2; omega
      have HSN2 : Hid _ := HSN1
      clear HSN1 htl HAL HTL HSN
      rw [he]
      clear he
      generalize tkN ds = tn at *
      generalize tkR ds = tr at *
      have OA : Off (fun _ => False) w1 (w1.alloc (.cells #[.slice td1 tr.length cd1] 23)) := (Off.refl _ w1).alloc _
      have own4 := OW1.out.off OA (fun _ _ _ h => h)
      have cn := Cel.new w1 23 #[.slice td1 tr.length cd1]
      have hcn : ∀ j u, (bcs ⟨td1, cd1, tr⟩)[j]? = some u → (w1.alloc (.cells #[.slice td1 tr.length cd1] 23)).cell? ⟨w1.heap.size, j, none⟩ = some u := fun j u hj => by
        rw [cn.cell j]
        simpa [bcs] using hj
      have HOA : Hid _ := OA
      clear OA cn
      go_wp2_with (at_builtin; refine wpList_appG rfl (.tmp 27) (.tmp 29) Try.underlying22 Try.infoBs rfl (by decide) (by decide) bcs_len bcs_one rfl t c bl rfl own4 w1.heap.size 1 ⟨td1, cd1, tr⟩ rfl hcn (by omega) ?_; intro t' c' w' ys hys own' off' at')
      have HYS : Hid _ := hys.out
      clear hys
      have HOW' : Hid _ := own'
      have HOF' : Hid _ := off'
      clear own' off' own4 hcn
      go_wp2_with fail
      go_roundw
      case rel =>
        have s1 := F1.out.size
        simp only [World.size_alloc] at at'
        have tf : ∀ k, blk t' = some k → w.heap.size ≤ k := fun k hk => by
          rcases at' with h9 | h9
          · exact HLO.out k (h9 ▸ hk)
          · rw [h9] at hk; simp at hk; omega
        have FA := F1.out.trans HOA.out (fun _ _ h => h)
        refine ⟨n + tn, t', c', ys, rfl, by go_num, by rw [HYS.out, List.map_append]; exact HSN2.out, HOW'.out, tf, fun b hb => ?_, ((FA.mono (fun _ _ h => h.elim)).trans HOF'.out (fun _ _ h => h)).mono (fun i hi e => by have := HLO.out i e; omega)⟩
        · have old : ∀ k, blk b.ad = some k → k < w1.heap.size → blk t ≠ some k → blk t' ≠ some k := fun k hk hlt hne e => by
            rcases at' with h9 | h9
            · exact hne (h9 ▸ e)
            · rw [h9] at e
              simp at e
              omega
          rw [HYS.out, List.mem_append, List.mem_singleton] at hb
          rcases hb with hb | rfl
          · have hb1 := BL1.out b hb
            exact ⟨(hb1.1.off HOA.out (fun _ _ _ h => h)).off HOF'.out (fun c _ hc e => (hb1.2.1 c hc).2 e), fun k hk => ⟨(hb1.2.1 k hk).1, old k hk (hb1.1.lt k hk) (hb1.2.1 k hk).2⟩, hb1.2.2⟩
          · exact ⟨(HR1.out.off HOA.out (fun _ _ _ h => h)).off HOF'.out (fun c _ hc e => (HF1.out c hc).2 e), fun k hk => ⟨(HF1.out k hk).1, old k hk (HR1.out.lt k hk) (HF1.out k hk).2⟩, HLT.out⟩
      case measure => simp [intOf]; omega
    · rw [he] at HAL
      rw [he]
      go_wp2_with fail
      go_ret3
      exact ⟨t, c, bl, n, 0, rfl, OW1.out, HLO.out, (fun b hb => ⟨(BL1.out b hb).1, fun k hk => ((BL1.out b hb).2.1 k hk).1, (BL1.out b hb).2.2⟩), HAL.out 0 (by simp), F1.out⟩
    · rw [he] at HAL
      rw [he]
      go_wp2_with fail
      go_ret3
      exact ⟨t, c, bl, n, 3, rfl, OW1.out, HLO.out, (fun b hb => ⟨(BL1.out b hb).1, fun k hk => ((BL1.out b hb).2.1 k hk).1, (BL1.out b hb).2.2⟩), HAL.out 3 (by simp), F1.out⟩
    · rw [he] at HAL
      rw [he]
      go_wp2_with fail
      go_ret3
      exact ⟨t, c, bl, n, 4, rfl, OW1.out, HLO.out, (fun b hb => ⟨(BL1.out b hb).1, fun k hk => ((BL1.out b hb).2.1 k hk).1, (BL1.out b hb).2.2⟩), HAL.out 4 (by simp), F1.out⟩
end Go.Proofs.Ytmdhcoplhibbeaa
