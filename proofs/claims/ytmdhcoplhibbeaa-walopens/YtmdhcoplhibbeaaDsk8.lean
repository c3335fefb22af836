/- A file of package disk: what each call does. -/
import Derived.Test.YtmdhcoplhibbeaaInp
import Derived.RegionCalls
namespace Go.Proofs.Ytmdhcoplhibbeaa
open Go.RowKit

/-- A file at block b; its blocks are those of D. -/
structure Dsk0 (D : Nat → Prop) (b most : Nat) (bs : List Nat) (sure : Nat) (w : World) : Prop where
  here : D b
  lt : ∀ c, D c → c < w.heap.size
  bound : most ≤ 1048576
  fit : bs.length ≤ most
  is : ∃ tad cap, Cel b 58 #[.int .i64 (most : Int), .slice tad bs.length cap, .int .i64 (sure : Int)] w ∧ OwnR w tad cap bs ∧ ∀ k, blk tad = some k → D k ∧ k ≠ b
/-- .. and no more is sure than stands. -/
structure Dsk (D : Nat → Prop) (b most : Nat) (bs : List Nat) (sure : Nat) (w : World) : Prop extends Dsk0 D b most bs sure w where
  su : sure ≤ bs.length

theorem Dsk.off {D E : Nat → Prop} {b most : Nat} {bs : List Nat} {s : Nat} {w w' : World} (h : Dsk D b most bs s w) (o : Off E w w') (hD : ∀ c, c < w.heap.size → D c → ¬ E c) : Dsk D b most bs s w' := by
  obtain ⟨tad, cap, h1, h2, h3⟩ := h.is
  exact ⟨⟨h.here, fun c hc => Nat.lt_of_lt_of_le (h.lt c hc) o.size, h.bound, h.fit, tad, cap, h1.off o (hD b h1.lt h.here), h2.off o (fun c hc hb => hD c hc (h3 c hb).1), h3⟩, h.su⟩
theorem Dsk.free {D : Nat → Prop} {b most : Nat} {bs : List Nat} {s : Nat} {w w' : World} (h : Dsk D b most bs s w) (o : Off (fun _ => False) w w') : Dsk D b most bs s w' := h.off o (fun _ _ _ h => h)

/-- The room of a file that is asked for m. -/
def roomOf (m : Int) : Nat := min m.toNat 1048576

theorem dnew_any (m : Int) (w : World) :
    Calls Try.prog 12 #[.int .i64 m] w fun e w' => ∃ b, e = .returned (.pointer (some ⟨b, 0, none⟩)) ∧ w.heap.size ≤ b ∧ Dsk (fun c => c = b) b (roomOf m) [] 0 w' ∧ Off (fun _ => False) w w' := by
  go_enter Try.func12, Try.ntmps12
  go_wp2
  all_goals go_ret
  all_goals refine ⟨_, rfl, Nat.le_refl _, ⟨⟨rfl, fun c hc => by simp [hc], by rw [roomOf]; omega, Nat.zero_le _, none, 0, ?_, OwnR.nil _, fun k hk => by simp [blk] at hk⟩, Nat.zero_le _⟩, (Off.refl _ w).alloc _⟩
  all_goals (first | (rw [show ((roomOf m : Nat) : Int) = m by rw [roomOf]; omega]; exact Cel.new w _ _) | (rw [show ((roomOf m : Nat) : Int) = 0 by rw [roomOf]; omega]; exact Cel.new w _ _) | (rw [show ((roomOf m : Nat) : Int) = 1048576 by rw [roomOf]; omega]; exact Cel.new w _ _))

theorem dsync_any {D : Nat → Prop} {b most : Nat} {bs : List Nat} {s : Nat} {w : World} (h : Dsk0 D b most bs s w) :
    Calls Try.prog 14 #[.pointer (some ⟨b, 0, none⟩)] w fun e w' => e = .returned (.int .i64 0) ∧ Dsk D b most bs bs.length w' ∧ Off D w w' := by
  have H := h
  obtain ⟨tad, cap, h1, h2, h3⟩ := h.is
  have c1 : w.cell? ⟨b, 1, none⟩ = some (.slice tad bs.length cap) := by rw [h1.cell]; rfl
  have f2 := h1.free 2
  have c2 : w.cell? ⟨b, 2, none⟩ = some (.int .i64 (s : Int)) := by rw [h1.cell]; rfl
  have H1 : Hid _ := h1
  have H2 : Hid _ := h2
  clear h1 h2 h
  go_enter Try.func14, Try.ntmps14
  go_wp2_with fail
  go_ret
  refine ⟨rfl, ⟨⟨H.here, fun c hc => by simpa using H.lt c hc, H.bound, H.fit, tad, cap, H1.out.set 2 _, H2.out.off ((Off.refl (fun c => c = b) _).setCell (.inl rfl) _) (fun c _ e h => (h3 c e).2 h), h3⟩, Nat.le_refl _⟩, (Off.refl D w).setCell (.inl H.here) _⟩

theorem dbytes_any {D : Nat → Prop} {b most : Nat} {bs : List Nat} {s : Nat} {w : World} (h : Dsk D b most bs s w) :
    Calls Try.prog 17 #[.pointer (some ⟨b, 0, none⟩)] w fun e w' => ∃ t c, e = .returned (.slice t bs.length c) ∧ OwnR w' t c bs ∧ (∀ k, blk t = some k → w.heap.size ≤ k) ∧ Off (fun _ => False) w w' := by
  have hf := h.fit
  have hb := h.bound
  obtain ⟨tad, cap, h1, h2, h3⟩ := h.is
  have c1 : w.cell? ⟨b, 1, none⟩ = some (.slice tad bs.length cap) := by rw [h1.cell]; rfl
  clear h1 h3 h
  go_enter Try.func17, Try.ntmps17
  go_wp2_with fail
  refine (bclone_any tad cap bs (by omega) w h2.src).mono ?_
  rintro e w1 ⟨t, c, rfl, own, hblk, off⟩
  go_wp2_with fail
  go_ret
  exact ⟨t, c, rfl, own, hblk, off⟩

/-- What Append answers, and what stands then. -/
def appE (most : Nat) (bs xs : List Nat) : Int := if bs.length + xs.length ≤ most then 0 else 5
def appL (most : Nat) (bs xs : List Nat) : List Nat := if bs.length + xs.length ≤ most then bs ++ xs else bs

set_option maxRecDepth 100000 in
set_option maxHeartbeats 1000000 in
theorem dappend_any {D : Nat → Prop} {b most : Nat} {bs : List Nat} {s : Nat} {w : World} (h : Dsk D b most bs s w) (xt : Option Addr) (xc : Nat) (xs : List Nat) (hx : Src w xt xc xs) (hxl : xs.length ≤ 9223372036854775807) :
    Calls Try.prog 13 #[.pointer (some ⟨b, 0, none⟩), .slice xt xs.length xc] w fun e w' => e = .returned (.int .i64 (appE most bs xs)) ∧ ∃ D', Dsk D' b most (appL most bs xs) s w' ∧ Off D w w' ∧ ∀ c, D' c → D c ∨ w.heap.size ≤ c := by
  have H := h
  have hf := h.fit
  have hb := h.bound
  have hs := h.su
  obtain ⟨tad, cap, h1, h2, h3⟩ := h.is
  have c0 : w.cell? ⟨b, 0, none⟩ = some (.int .i64 (most : Int)) := by rw [h1.cell]; rfl
  have c1 : w.cell? ⟨b, 1, none⟩ = some (.slice tad bs.length cap) := by rw [h1.cell]; rfl
  have H1 : Hid _ := h1
  have H2 : Hid _ := h2
  have H3 : Hid _ := h3
  have HX : Hid _ := hx
  by_cases hfit : bs.length + xs.length ≤ most
  · have hd : decide ((most : Int) - (bs.length : Int) < (xs.length : Int)) = false := by simp; omega
    have e1 : appE most bs xs = 0 := by simp [appE, hfit]
    have e2 : appL most bs xs = bs ++ xs := by simp [appL, hfit]
    rw [e1, e2]
    clear h1 h2 h3 hx h e1 e2
    go_enter Try.func13, Try.ntmps13
    go_wp2_with fail
    go_region
    go_wp2_with (at_builtin; refine wpList_app rfl (.tmp 24) (.tmp 25) rfl tad cap bs rfl (H2.out.off ((Off.refl (fun _ => False) _).drew) (fun _ _ _ h => h)) xt xc xs rfl (HX.out.off ((Off.refl (fun _ => False) _).drew) (fun _ _ _ h => h)) (by omega) ?_; intro t1 cc1 w1 y1 hy1 own1 off1 at1; have P1 : Cel b 58 _ w1 := (H1.out.drew.off off1 (fun e => (H3.out b e).2 rfl)); have f1 := P1.free 1; have d1 : w1.cell? ⟨b, 1, none⟩ = some (.slice tad bs.length cap) := (by rw [P1.cell]; rfl))
    go_ret
    have hD : ∀ c, blk t1 = some c → (D c ∨ w.heap.size ≤ c) ∧ c ≠ b := by
      intro c e
      rcases at1 with a | a
      · have := H3.out c (a ▸ e)
        exact ⟨.inl this.1, this.2⟩
      · rw [a] at e
        have := H1.out.lt
        simp at e
        exact ⟨.inr (by omega), by omega⟩
    have O1 : Off D w w1 := (((Off.refl (fun _ => False) w).drew).mono (E := D) (fun _ _ h => h.elim)).trans off1 (fun i _ e => (H3.out i e).1)
    have hy : y1 = bs ++ xs := hy1.out
    refine ⟨rfl, fun c => c = b ∨ blk t1 = some c, ⟨⟨.inl rfl, ?_, hb, by rw [List.length_append]; omega, t1, cc1, ?_, ?_, fun k hk => ⟨.inr hk, (hD k hk).2⟩⟩, by rw [List.length_append]; omega⟩, O1.setCell (.inl H.here) _, ?_⟩
    · rintro c (rfl | hc)
      · have := P1.lt
        simpa using this
      · have := own1.lt c hc
        simpa using this
    · rw [← hy]
      exact P1.set 1 _
    · rw [← hy]
      exact own1.off ((Off.refl (fun c => c = b) _).setCell (.inl rfl) _) (fun c _ e h => (hD c e).2 h)
    · rintro c (rfl | hc)
      · exact .inl H.here
      · exact (hD c hc).1
  · have hd : decide ((most : Int) - (bs.length : Int) < (xs.length : Int)) = true := by simp; omega
    have e1 : appE most bs xs = 5 := by simp [appE, hfit]
    have e2 : appL most bs xs = bs := by simp [appL, hfit]
    rw [e1, e2]
    clear h1 h2 h3 hx h e1 e2
    go_enter Try.func13, Try.ntmps13
    go_wp2_with fail
    go_region
    go_wp2_with fail
    go_ret
    exact ⟨rfl, D, H.free ((Off.refl _ w).drew), (Off.refl D w).drew, fun c hc => .inl hc⟩

def repE (most : Nat) (xs : List Nat) : Int := if xs.length ≤ most then 0 else 5
def repL (most : Nat) (bs xs : List Nat) : List Nat := if xs.length ≤ most then xs else bs
def repS (most s : Nat) (xs : List Nat) : Nat := if xs.length ≤ most then xs.length else s

theorem dreplace_any {D : Nat → Prop} {b most : Nat} {bs : List Nat} {s : Nat} {w : World} (h : Dsk D b most bs s w) (xt : Option Addr) (xc : Nat) (xs : List Nat) (hx : Src w xt xc xs) (hxl : xs.length ≤ 9223372036854775807) :
    Calls Try.prog 36 #[.pointer (some ⟨b, 0, none⟩), .slice xt xs.length xc] w fun e w' => e = .returned (.int .i64 (repE most xs)) ∧ ∃ D', Dsk D' b most (repL most bs xs) (repS most s xs) w' ∧ Off D w w' ∧ ∀ c, D' c → D c ∨ w.heap.size ≤ c := by
  have H := h
  have hf := h.fit
  have hb := h.bound
  have hs := h.su
  obtain ⟨tad, cap, h1, h2, h3⟩ := h.is
  have c0 : w.cell? ⟨b, 0, none⟩ = some (.int .i64 (most : Int)) := by rw [h1.cell]; rfl
  have H1 : Hid _ := h1
  have HX : Hid _ := hx
  by_cases hfit : xs.length ≤ most
  · have hd : decide ((most : Int) < (xs.length : Int)) = false := by simp; omega
    have e1 : repE most xs = 0 := by simp [repE, hfit]
    have e2 : repL most bs xs = xs := by simp [repL, hfit]
    have e3 : repS most s xs = xs.length := by simp [repS, hfit]
    rw [e1, e2, e3]
    clear h1 h2 h3 hx h e1 e2 e3
    go_enter Try.func36, Try.ntmps36
    go_wp2_with fail
    refine (bclone_any xt xc xs (by omega) w HX.out).mono ?_
    rintro e w1 ⟨t1, cc1, rfl, own1, hblk, off1⟩
    have P1 := H1.out.off off1 (fun h => h)
    have f1 := P1.free 1
    have d1 : w1.cell? ⟨b, 1, none⟩ = some (.slice tad bs.length cap) := by rw [P1.cell]; rfl
    have HP1 : Hid _ := P1
    clear P1
    go_wp2_with fail
    have hlt := H1.out.lt
    have hsz := off1.size
    have K : Dsk0 (fun c => c = b ∨ blk t1 = some c) b most xs s (w1.setCell ⟨b, 1, none⟩ (.slice t1 xs.length cc1)) := by
      refine ⟨.inl rfl, ?_, hb, hfit, t1, cc1, HP1.out.set 1 _, own1.off ((Off.refl (fun c => c = b) _).setCell (.inl rfl) _) (fun c _ e h => ?_), fun k hk => ⟨.inr hk, ?_⟩⟩
      · rintro c (rfl | hc)
        · have := HP1.out.lt
          simpa using this
        · have := own1.lt c hc
          simpa using this
      · have := hblk c e
        omega
      · have := hblk k hk
        omega
    refine (dsync_any K).mono ?_
    rintro e w2 ⟨rfl, K2, off2⟩
    go_wp2_with fail
    go_ret
    refine ⟨rfl, _, K2, ((off1.mono (fun _ _ h => h.elim)).setCell (.inl H.here) _).trans off2 ?_, ?_⟩
    · rintro i hi (rfl | hc)
      · exact H.here
      · have := hblk i hc
        omega
    · rintro c (rfl | hc)
      · exact .inl H.here
      · exact .inr (hblk c hc)
  · have hd : decide ((most : Int) < (xs.length : Int)) = true := by simp; omega
    have e1 : repE most xs = 5 := by simp [repE, hfit]
    have e2 : repL most bs xs = bs := by simp [repL, hfit]
    have e3 : repS most s xs = s := by simp [repS, hfit]
    rw [e1, e2, e3]
    clear h1 h2 h3 hx h e1 e2 e3
    go_enter Try.func36, Try.ntmps36
    go_wp2_with fail
    go_ret
    exact ⟨rfl, D, H, Off.refl D w, fun c hc => .inl hc⟩

theorem dcut_any {D : Nat → Prop} {b most : Nat} {bs : List Nat} {s : Nat} {w : World} (h : Dsk D b most bs s w) (k : Nat) (hk : k ≤ bs.length) :
    Calls Try.prog 32 #[.pointer (some ⟨b, 0, none⟩), .int .i64 (k : Int)] w fun e w' => e = .returned (.int .i64 0) ∧ Dsk D b most (bs.take k) k w' ∧ Off D w w' := by
  have H := h
  have hf := h.fit
  have hb := h.bound
  have hs := h.su
  obtain ⟨tad, cap, h1, h2, h3⟩ := h.is
  have c1 : w.cell? ⟨b, 1, none⟩ = some (.slice tad bs.length cap) := by rw [h1.cell]; rfl
  have f1 := h1.free 1
  have H1 : Hid _ := h1
  have H3 : Hid _ := h3
  obtain ⟨hsl, h2⟩ := h2.take hk
  have H2 : Hid _ := h2
  have hd : decide ((k : Int) < 0) = false := by simp
  have hd2 : decide ((bs.length : Int) < (k : Int)) = false := by simp; omega
  clear h1 h2 h3 h
  go_enter Try.func32, Try.ntmps32
  go_wp2_with fail
  have e : (bs.take k).length = k := by simp; omega
  have K : Dsk0 D b most (bs.take k) s (w.setCell ⟨b, 1, none⟩ (.slice tad k cap)) := ⟨H.here, fun c hc => by simpa using H.lt c hc, hb, by simp; omega, tad, cap, by rw [e]; exact H1.out.set 1 _, H2.out.off ((Off.refl (fun c => c = b) _).setCell (.inl rfl) _) (fun c _ e h => (H3.out c e).2 h), H3.out⟩
  refine (dsync_any K).mono ?_
  rintro e w2 ⟨rfl, K2, off2⟩
  go_wp2_with fail
  go_ret
  rw [e] at K2
  exact ⟨rfl, K2, ((Off.refl D w).setCell (.inl H.here) _).trans off2 (fun _ _ h => h)⟩

theorem dcutno_any {D : Nat → Prop} {b most : Nat} {bs : List Nat} {s : Nat} {w : World} (h : Dsk D b most bs s w) (n : Int) (hn : n < 0 ∨ (bs.length : Int) < n) :
    Calls Try.prog 32 #[.pointer (some ⟨b, 0, none⟩), .int .i64 n] w fun e w' => e = .returned (.int .i64 1) ∧ w' = w := by
  obtain ⟨tad, cap, h1, h2, h3⟩ := h.is
  have c1 : w.cell? ⟨b, 1, none⟩ = some (.slice tad bs.length cap) := by rw [h1.cell]; rfl
  clear h1 h2 h3 h
  by_cases h0 : n < 0
  · have hd : decide (n < 0) = true := by simp [h0]
    go_enter Try.func32, Try.ntmps32
    go_wp2_with fail
    go_ret
    exact ⟨rfl, rfl⟩
  · have hd : decide (n < 0) = false := by simp [h0]
    have hd2 : decide ((bs.length : Int) < n) = true := by simp; omega
    go_enter Try.func32, Try.ntmps32
    go_wp2_with fail
    go_ret
    exact ⟨rfl, rfl⟩
/-- How many bytes stay of n, s of them sure. -/
def keepN (n s : Nat) (p : Int) : Nat := s + (p % 18446744073709551616).toNat % (n - s + 1)
theorem keepN_le {n s : Nat} (h : s ≤ n) (p : Int) : keepN n s p ≤ n := by
  have := Nat.mod_lt (p % 18446744073709551616).toNat (show n - s + 1 > 0 by omega)
  unfold keepN
  omega
theorem keepN_ge (n s : Nat) (p : Int) : s ≤ keepN n s p := by unfold keepN; omega

theorem wrap_mod {n s : Nat} (h : s ≤ n) (p : Int) (m : Nat) (hm : m = (p % 18446744073709551616).toNat % (n - s + 1)) : (IntKind.u64.wrap p).tmod ((n : Int) - (s : Int) + 1) = (m : Int) := by
  have e : IntKind.u64.wrap p = (((p % 18446744073709551616).toNat : Nat) : Int) := by
    simp only [IntKind.wrap, IntKind.bits, IntKind.signed]
    go_num
  have e2 : (n : Int) - (s : Int) + 1 = ((n - s + 1 : Nat) : Int) := by omega
  rw [e, e2, hm]
  rfl
theorem dcrash_any {D : Nat → Prop} {b most : Nat} {bs : List Nat} {s : Nat} {w : World} (h : Dsk D b most bs s w) (p : Int) :
    Calls Try.prog 26 #[.pointer (some ⟨b, 0, none⟩), .int .i64 p] w fun e w' => e = .returned (.tuple #[]) ∧ Dsk D b most (bs.take (keepN bs.length s p)) (keepN bs.length s p) w' ∧ Off D w w' := by
  have hle := keepN_le h.su p
  obtain ⟨m, hm⟩ : ∃ m, m = (p % 18446744073709551616).toNat % (bs.length - s + 1) := ⟨_, rfl⟩
  have hk : keepN bs.length s p = s + m := by rw [hm]; rfl
  rw [hk] at hle ⊢
  have hf := h.fit
  have hb := h.bound
  have hs := h.su
  have ek : (IntKind.u64.wrap p).tmod ((bs.length : Int) - (s : Int) + 1) = (m : Int) := wrap_mod hs p m hm
  clear hm hk
  have H := h
  obtain ⟨tad, cap, h1, h2, h3⟩ := h.is
  have c1 : w.cell? ⟨b, 1, none⟩ = some (.slice tad bs.length cap) := by rw [h1.cell]; rfl
  have c2 : w.cell? ⟨b, 2, none⟩ = some (.int .i64 (s : Int)) := by rw [h1.cell]; rfl
  clear h1 h2 h3 h
  go_enter Try.func26, Try.ntmps26
  go_wp2_with fail
  go_region
  go_wp2_with fail
  rw [show (s : Int) + (m : Int) = ((s + m : Nat) : Int) by omega]
  refine (dcut_any (H.free ((Off.refl _ w).drew)) (s + m) hle).mono ?_
  rintro e w1 ⟨rfl, K, off⟩
  go_wp2_with fail
  go_end0
  exact ⟨rfl, K, ((Off.refl D w).drew).trans off (fun _ _ h => h)⟩

theorem dmost_any {D : Nat → Prop} {b most : Nat} {bs : List Nat} {s : Nat} {w : World} (h : Dsk D b most bs s w) :
    Calls Try.prog 37 #[.pointer (some ⟨b, 0, none⟩)] w fun e w' => e = .returned (.int .i64 (most : Int)) ∧ w' = w := by
  obtain ⟨tad, cap, h1, h2, h3⟩ := h.is
  have c0 : w.cell? ⟨b, 0, none⟩ = some (.int .i64 (most : Int)) := by rw [h1.cell]; rfl
  clear h1 h2 h3 h
  go_enter Try.func37, Try.ntmps37
  go_wp2_with fail
  go_ret
  exact ⟨rfl, rfl⟩
theorem dsize_any {D : Nat → Prop} {b most : Nat} {bs : List Nat} {s : Nat} {w : World} (h : Dsk D b most bs s w) :
    Calls Try.prog 27 #[.pointer (some ⟨b, 0, none⟩)] w fun e w' => e = .returned (.int .i64 (bs.length : Int)) ∧ w' = w := by
  obtain ⟨tad, cap, h1, h2, h3⟩ := h.is
  have c0 : w.cell? ⟨b, 1, none⟩ = some (.slice tad bs.length cap) := by rw [h1.cell]; rfl
  clear h1 h2 h3 h
  go_enter Try.func27, Try.ntmps27
  go_wp2_with fail
  go_ret
  exact ⟨rfl, rfl⟩
theorem dsure_any {D : Nat → Prop} {b most : Nat} {bs : List Nat} {s : Nat} {w : World} (h : Dsk D b most bs s w) :
    Calls Try.prog 21 #[.pointer (some ⟨b, 0, none⟩)] w fun e w' => e = .returned (.int .i64 (s : Int)) ∧ w' = w := by
  obtain ⟨tad, cap, h1, h2, h3⟩ := h.is
  have c0 : w.cell? ⟨b, 2, none⟩ = some (.int .i64 (s : Int)) := by rw [h1.cell]; rfl
  clear h1 h2 h3 h
  go_enter Try.func21, Try.ntmps21
  go_wp2_with fail
  go_ret
  exact ⟨rfl, rfl⟩

end Go.Proofs.Ytmdhcoplhibbeaa
