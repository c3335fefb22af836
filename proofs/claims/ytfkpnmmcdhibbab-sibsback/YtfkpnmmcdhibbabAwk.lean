/- awake. -/
import Derived.Test.YtfkpnmmcdhibbabLiv
import Derived.Lib.SlBytesConst
namespace Go.Proofs.Ytfkpnmmcdhibbab
open Go.RowKit

def dot1 (n : Int) (b : Nat) : A := ⟨n, 1, [b], false⟩
theorem maxz : maxV zer zer = zer := by funext j; simp [maxV, zer]
theorem next_one {n : Int} (h : nodeB n = true) : nextV zer n = (n, 1, 0) := by simp [nextV, h, zer]
theorem may_zer : MayP zer [] := ⟨fun j _ => by simp [zer], by simp, by simp, by simp⟩
theorem put_one {n : Int} (h : nodeB n = true) (b : Nat) : putE zer zer [] n [b] false = 0 ∧ putL zer zer [] n [b] false = [dot1 n b] ∧ putV zer zer [] n [b] false = withV zer n 1 := by
  have hb : mayB zer = true := by simp [mayB, zer]
  have hr : putR zer zer [] n [b] false = [dot1 n b] := by
    have hc : coversB zer n 1 = false := by simp [coversB, zer]
    simp only [putR, putN, maxz, next_one h]
    rw [mergeA_nil _ _ _ _ (.inl rfl)]
    simp [nc, hc, dot1]
  have he : putE zer zer [] n [b] false = 0 := by simp [putE, may_yes may_zer, hb, okData, maxz, next_one h, hr]
  refine ⟨he, by simp [putL, he, hr], ?_⟩
  simp only [putV, he, if_true, maxz, next_one h]
theorem with_one {n : Int} (h : nodeB n = true) (j : Nat) : withV zer n 1 j = if j = n.toNat then 1 else 0 := by
  simp only [withV, h, if_true, upd, zer]
  split
  · omega
  · rfl
theorem may_one {n : Int} (h : nodeB n = true) (b : Nat) : MayP (withV zer n 1) [dot1 n b] := by
  refine ⟨fun j _ => ?_, by simp, fun i x y hx hy => ?_, fun x hx => ?_⟩
  · rw [with_one h]
    split <;> simp
  · cases i <;> simp at hy
  · simp only [List.mem_singleton] at hx
    subst hx
    have hn : 0 ≤ n ∧ n < 8 := by simpa [nodeB] using h
    refine ⟨?_, by simp [okData, dot1]⟩
    simp only [coversB, dot1, with_one h, decide_eq_true_eq]
    simp
    exact hn
theorem aw_join (b c : Nat) : joinL (withV zer 1 1) (withV zer 2 1) [dot1 1 b] [dot1 2 c] = [dot1 1 b, dot1 2 c] ∧ joinV (withV zer 1 1) (withV zer 2 1) [dot1 1 b] [dot1 2 c] = maxV (withV zer 1 1) (withV zer 2 1) := by
  have h1 : nodeB 1 = true := by decide
  have h2 : nodeB 2 = true := by decide
  have m1 := may_yes (may_one h1 b)
  have m2 := may_yes (may_one h2 c)
  refine ⟨?_, by simp [joinV, m1, m2]⟩
  have hl : lessA (dot1 1 b) (dot1 2 c) = true := by simp [lessA, lessB, dot1]
  have c1 : nc (withV zer 2 1) (dot1 1 b) = true := by simp [nc, coversB, dot1, with_one h2]
  have c2 : nc (withV zer 1 1) (dot1 2 c) = true := by simp [nc, coversB, dot1, with_one h1]
  simp only [joinL, m1, m2, and_self, if_true]
  rw [mergeA_lt _ _ _ _ hl, mergeA_nil _ _ _ _ (.inl rfl)]
  simp [keep, c1, c2]
theorem aw_may (b c : Nat) : MayP (maxV (withV zer 1 1) (withV zer 2 1)) [dot1 1 b, dot1 2 c] := by
  have h1 : nodeB 1 = true := by decide
  have h2 : nodeB 2 = true := by decide
  refine ⟨fun j _ => ?_, by simp, fun i x y hx hy => ?_, fun x hx => ?_⟩
  · simp only [maxV, with_one h1, with_one h2]
    split <;> split <;> omega
  · match i, hx, hy with
    | 0, hx, hy => simp at hx hy; subst hx hy; simp [lessB, dot1]
    | i + 1, hx, hy => simp at hy
  · simp only [List.mem_cons, List.not_mem_nil, or_false] at hx
    rcases hx with rfl | rfl
    · simp [coversB, dot1, maxV, with_one h1, with_one h2, okData]
      omega
    · simp [coversB, dot1, maxV, with_one h1, with_one h2, okData]
      omega
theorem src_mark (w : World) (b : Nat) (x : Int) (hx : x = (b : Int)) (p : Nat × Nat) : Src (w.alloc (.cells #[.int .u8 x] 5 p)) (some ⟨w.heap.size, 0, none⟩) 1 [b] := by
  refine ⟨.inr ⟨_, rfl, fun j u hj => ?_⟩⟩
  match j, hj with
  | 0, hj =>
    simp [vl] at hj
    subst hj hx
    rw [add_lit]
    have h := heap_alloc_new w (.cells #[.int .u8 (b : Int)] 5 p)
    simp only [World.cell?]
    rw [h]
    rfl
theorem aw_put (n : Int) (h : nodeB n = true) (b : Nat) (hb : b < 256) (w : World) (da : Option Addr) (hs : Src w da 1 [b]) :
    Calls Try.prog 12 #[.agg #[.int .i64 0, .int .i64 0, .int .i64 0, .int .i64 0, .int .i64 0, .int .i64 0, .int .i64 0, .int .i64 0, .slice none 0 0], .agg #[.int .i64 0, .int .i64 0, .int .i64 0, .int .i64 0, .int .i64 0, .int .i64 0, .int .i64 0, .int .i64 0], .int .i64 n, .slice da 1 1, .bool false] w fun e w' =>
      ∃ (f : Nat → Int) (a' : Option Addr) (c' : Nat) (l' : List V), e = .returned (.tuple #[.agg #[.int .i64 (f 0), .int .i64 (f 1), .int .i64 (f 2), .int .i64 (f 3), .int .i64 (f 4), .int .i64 (f 5), .int .i64 (f 6), .int .i64 (f 7), .slice a' l'.length c'], .int .i64 0]) ∧ f = withV zer n 1 ∧ cont l' = [dot1 n b] ∧ Made w.heap.size w' a' c' l' ∧ Off (fun _ => False) w w' := by
  have hn : 0 ≤ n ∧ n < 8 := by simpa [nodeB] using h
  have := sput_any zer zer none 0 [] n (by omega) da 1 [b] false w (Row.nil w none 0 (by omega)) hs (by simpa using hb) (by simp)
  refine Calls.mono this ?_
  rintro e w' ⟨f, a', c', l', er, rfl, h1, h2, h3, h4, h5⟩
  obtain ⟨p1, p2, p3⟩ := put_one h b
  have ec : cont ([] : List V) = [] := rfl
  rw [ec] at h1 h2 h3
  rw [p1] at h1
  rw [p3] at h2
  rw [p2] at h3
  subst h1
  exact ⟨f, a', c', l', rfl, h2, h3, h4, h5⟩

set_option maxRecDepth 100000 in
set_option maxHeartbeats 2000000 in
theorem awake_any (w : World) : Calls Try.prog 10 #[] w fun e w' => e = .returned (.bool true) ∧ Off (fun _ => False) w w' := by
  have h1 : nodeB 1 = true := by decide
  have h2 : nodeB 2 = true := by decide
  have hcv := fun (w : World) (C : Array Value) (n c : Nat) => Lib.run_convert_bytes_const (P := Try.prog) w 32 5 C n c Try.underlying32 Try.underlying5
  have S1 := src_mark w 120 120 rfl (1, 2)
  have O1 : Off (fun _ => False) w (w.alloc (.cells #[.int .u8 120] 5 (1, 2))) := (Off.refl _ w).alloc _
  have HS1 : Hid _ := S1
  have HO1 : Hid _ := O1
  clear S1 O1
  go_enter Try.func10, Try.ntmps10
  go_wp2_with fail
  refine (aw_put 1 h1 120 (by decide) _ _ HS1.out).mono ?_
  rintro e w1 ⟨f, a1, c1, l1, rfl, hf, hl1, md1, o1⟩
  have O1 := HO1.out.trans o1 (fun _ _ h => h)
  have HF : Hid _ := hf
  have HL1 : Hid _ := hl1
  have e1 : f 1 = 1 := by rw [hf, with_one h1]; rfl
  have HE1 : Hid _ := e1
  clear hf hl1 o1 HS1 HO1 e1
  go_upto_region 2 with fail
  have C1 := Cel.new w1 26 #[.int .i64 (f 0), .int .i64 (f 1), .int .i64 (f 2), .int .i64 (f 3), .int .i64 (f 4), .int .i64 (f 5), .int .i64 (f 6), .int .i64 (f 7), .slice a1 l1.length c1]
  replace O1 := O1.alloc (.cells #[.int .i64 (f 0), .int .i64 (f 1), .int .i64 (f 2), .int .i64 (f 3), .int .i64 (f 4), .int .i64 (f 5), .int .i64 (f 6), .int .i64 (f 7), .slice a1 l1.length c1] 26)
  replace md1 := md1.off ((Off.refl (fun _ => False) w1).alloc (.cells #[.int .i64 (f 0), .int .i64 (f 1), .int .i64 (f 2), .int .i64 (f 3), .int .i64 (f 4), .int .i64 (f 5), .int .i64 (f 6), .int .i64 (f 7), .slice a1 l1.length c1] 26))
  generalize hq1 : w1.heap.size = q1 at C1 ⊢
  generalize hv1 : w1.alloc (.cells #[.int .i64 (f 0), .int .i64 (f 1), .int .i64 (f 2), .int .i64 (f 3), .int .i64 (f 4), .int .i64 (f 5), .int .i64 (f 6), .int .i64 (f 7), .slice a1 l1.length c1] 26) = v1 at C1 O1 md1 ⊢
  clear hq1 hv1
  have S2 := src_mark v1 121 121 rfl (1, 2)
  have O2 : Off (fun _ => False) v1 (v1.alloc (.cells #[.int .u8 121] 5 (1, 2))) := (Off.refl _ v1).alloc _
  have HC1 : Hid _ := C1
  have HO1 : Hid _ := O1
  have HM1 : Hid _ := md1
  have HS2 : Hid _ := S2
  have HO2 : Hid _ := O2
  clear C1 O1 md1 S2 O2
  go_wp2_with fail
  refine (aw_put 2 h2 121 (by decide) _ _ HS2.out).mono ?_
  rintro e w2 ⟨g, a2, c2, l2, rfl, hg, hl2, md2, o2⟩
  have O2 := HO2.out.trans o2 (fun _ _ h => h)
  have HG : Hid _ := hg
  have HL2 : Hid _ := hl2
  clear hg hl2 o2 HS2 HO2
  go_upto_region 3 with fail
  have C2 := Cel.new w2 26 #[.int .i64 (g 0), .int .i64 (g 1), .int .i64 (g 2), .int .i64 (g 3), .int .i64 (g 4), .int .i64 (g 5), .int .i64 (g 6), .int .i64 (g 7), .slice a2 l2.length c2]
  replace O2 := O2.alloc (.cells #[.int .i64 (g 0), .int .i64 (g 1), .int .i64 (g 2), .int .i64 (g 3), .int .i64 (g 4), .int .i64 (g 5), .int .i64 (g 6), .int .i64 (g 7), .slice a2 l2.length c2] 26)
  replace md2 := md2.off ((Off.refl (fun _ => False) w2).alloc (.cells #[.int .i64 (g 0), .int .i64 (g 1), .int .i64 (g 2), .int .i64 (g 3), .int .i64 (g 4), .int .i64 (g 5), .int .i64 (g 6), .int .i64 (g 7), .slice a2 l2.length c2] 26))
  generalize hq2 : w2.heap.size = q2 at C2 ⊢
  generalize hv2 : w2.alloc (.cells #[.int .i64 (g 0), .int .i64 (g 1), .int .i64 (g 2), .int .i64 (g 3), .int .i64 (g 4), .int .i64 (g 5), .int .i64 (g 6), .int .i64 (g 7), .slice a2 l2.length c2] 26) = v2 at C2 O2 md2 ⊢
  clear hq2 hv2
  have C1 := HC1.out.off O2 (fun h => h)
  have r1 := HM1.out.row.off O2
  obtain ⟨x0, x1, x2, x3, x4, x5, x6, x7, x8⟩ := cel9 C1
  obtain ⟨y0, y1, y2, y3, y4, y5, y6, y7, y8⟩ := cel9 C2
  have HO2 : Hid _ := HO1.out.trans O2 (fun _ _ h => h)
  have HR1 : Hid _ := r1
  have HR2 : Hid _ := md2.row
  have HD1 : Hid _ := C1
  clear O2 md2 r1 C1 C2 HC1 HO1 HM1
  go_wp2_with fail
  refine (sjoin_any f g a1 a2 c1 c2 l1 l2 _ HR1.out HR2.out).mono ?_
  rintro e w3 ⟨j, a3, c3, l3, rfl, hj, hl3, md3, o3⟩
  have O3 := HO2.out.trans o3 (fun _ _ h => h)
  have D1 := HD1.out.off o3 (fun h => h)
  have aj := aw_join 120 121
  rw [HF.out, HG.out, HL1.out, HL2.out, aj.2] at hj
  rw [HF.out, HG.out, HL1.out, HL2.out, aj.1] at hl3
  have hn3 : l3.length = 2 := by rw [← cont_len, hl3]; rfl
  have HN3 : Hid (((l3.length : Int) == 2) = true) := by show _ = true; rw [hn3]; rfl
  clear hn3
  have hmay : mayS j (cont l3) = true := by rw [hj, hl3]; exact may_yes (aw_may _ _)
  have hliv : (if mayS j (cont l3) = true then liveA (cont l3) else []) = [[120], [121]] := by rw [hmay, hl3]; rfl
  have HLV : Hid _ := hliv
  clear hj hl3 aj hmay hliv x0 x1 x2 x3 x4 x5 x6 x7 x8 y0 y1 y2 y3 y4 y5 y6 y7 y8 HR1 HR2 HD1 HO2
  go_upto_region 4 with fail
  have C3 := Cel.new w3 26 #[.int .i64 (j 0), .int .i64 (j 1), .int .i64 (j 2), .int .i64 (j 3), .int .i64 (j 4), .int .i64 (j 5), .int .i64 (j 6), .int .i64 (j 7), .slice a3 l3.length c3]
  have O4 : Off (fun _ => False) w3 (w3.alloc (.cells #[.int .i64 (j 0), .int .i64 (j 1), .int .i64 (j 2), .int .i64 (j 3), .int .i64 (j 4), .int .i64 (j 5), .int .i64 (j 6), .int .i64 (j 7), .slice a3 l3.length c3] 26)) := (Off.refl _ w3).alloc _
  have r3 := md3.row.off O4
  replace D1 := D1.off O4 (fun h => h)
  replace O3 := O3.trans O4 (fun _ _ h => h)
  generalize hq3 : w3.heap.size = q3 at C3 ⊢
  generalize hv3 : w3.alloc (.cells #[.int .i64 (j 0), .int .i64 (j 1), .int .i64 (j 2), .int .i64 (j 3), .int .i64 (j 4), .int .i64 (j 5), .int .i64 (j 6), .int .i64 (j 7), .slice a3 l3.length c3] 26) = v3 at C3 O3 D1 r3 ⊢
  clear hq3 hv3 O4 md3
  obtain ⟨y0, y1, y2, y3, y4, y5, y6, y7, y8⟩ := cel9 C3
  have x1 : v3.cell? ⟨q1, 1, none⟩ = some (.int .i64 1) := by
    rw [← HE1.out]
    exact D1.cell 1
  have t3 := HN3.out
  have HR3 : Hid _ := r3
  have HO3 : Hid _ := O3
  clear C3 O3 D1 r3
  go_wp2_with fail
  refine (slive_any j a3 c3 l3 _ HR3.out).mono ?_
  rw [HLV.out]
  rintro e w5 ⟨t, c, bl, rfl, -, -, hb, o5⟩
  have hbn : bl.length = 2 := by
    have := congrArg List.length hb
    simpa using this
  go_wp2_with fail
  go_ret
  exact ⟨rfl, HO3.out.trans o5 (fun _ _ h => h)⟩
end Go.Proofs.Ytfkpnmmcdhibbab
