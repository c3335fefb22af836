/- The walk of LazyOnce. -/
import Derived.Test.YtbeaebemfcfkhaaSmall
import Derived.Test.YtbeaebemfcfkhaaIsRow
import Derived.Maps.OwnSet
namespace Go.Proofs.Ytbeaebemfcfkhaa
open Go.RowKit Go.Maps

theorem IsRow.wfs {k : IntKind} {w : World} {a : Option Addr} {len cap : Nat} {zs : List Int} (h : IsRow k w a len cap zs) : ∀ i, i < len → (Lit.int k (zs.getD i 0)).wf = true := by
  intro i hi
  rcases h with ⟨-, rfl, -⟩ | ⟨x, -, h1, -, h3, -, h5⟩
  · omega
  · have hlt : i < zs.length := by omega
    have : zs.getD i 0 = zs[i] := by simp [hlt]
    rw [this]
    exact h5 _ (List.getElem_mem hlt)

/-- A table and how many of its numbers were made: none, or all. -/
def Sg (lo b : Nat) (K : Int) (g : FuncId) (caps : Array Value) (F : Nat → Int) (Inv : Nat → World → Prop) (c : Int) (w : World) : Prop :=
  (c = 0 ∧ (∃ nums, Tb b K (.func (.func g) #[] caps) 0 0 nums 0 w) ∧ Inv 0 w) ∨
  (c = K ∧ 0 < K ∧ ∃ r, lo ≤ r ∧ Full b r K.toNat K F w ∧ Inv K.toNat w)

theorem Sg.tb {lo b : Nat} {K : Int} {g : FuncId} {caps : Array Value} {F : Nat → Int} {Inv : Nat → World → Prop} {c : Int} {w : World} (h : Sg lo b K g caps F Inv c w) : ∃ fv d s nums, Tb b K fv d s nums c w := by
  rcases h with ⟨rfl, ⟨nums, t⟩, I⟩ | ⟨rfl, h0, r, -, ⟨⟨fv, t⟩, -⟩, I⟩
  · exact ⟨_, _, _, _, t⟩
  · have : ((c.toNat : Nat) : Int) = c := by omega
    rw [this] at t
    exact ⟨_, _, _, _, t⟩
theorem Sg.inv {lo b : Nat} {K : Int} {g : FuncId} {caps : Array Value} {F : Nat → Int} {Inv : Nat → World → Prop} {c : Int} {w : World} (h : Sg lo b K g caps F Inv c w) : Inv c.toNat w := by
  rcases h with ⟨rfl, -, I⟩ | ⟨rfl, -, r, -, -, I⟩
  · exact I
  · exact I
theorem Sg.made {lo b : Nat} {K : Int} {g : FuncId} {caps : Array Value} {F : Nat → Int} {Inv : Nat → World → Prop} {c : Int} {w : World} (h : Sg lo b K g caps F Inv c w) :
    Calls Try.prog 12 #[.pointer (some ⟨b, 0, none⟩)] w fun e w' => e = .returned (.int .i64 c) ∧ w' = w := by
  obtain ⟨fv, d, s, nums, t⟩ := h.tb
  exact made_any _ _ _ _ _ _ _ _ t
theorem Sg.out {lo b : Nat} {K : Int} {g : FuncId} {caps : Array Value} {F : Nat → Int} {Inv : Nat → World → Prop} {c : Int} {w : World} (h : Sg lo b K g caps F Inv c w) (i : Int) (hi : i < 0 ∨ K ≤ i) :
    Calls Try.prog 13 #[.pointer (some ⟨b, 0, none⟩), .int .i64 i] w fun e w' => e = .returned (.int .u32 0) ∧ w' = w := by
  obtain ⟨fv, d, s, nums, t⟩ := h.tb
  exact at_out _ _ _ _ _ _ _ _ _ t hi
theorem Sg.off {D E : Nat → Prop} {lo b : Nat} {K : Int} {g : FuncId} {caps : Array Value} {F : Nat → Int} {Inv : Nat → World → Prop} {c : Int} {w w' : World} {k : Nat} (h : Sg lo b K g caps F Inv c w) (M : Makes g caps k F D Inv) (o : Off E w w') (hb : ¬ E b) (hD : ∀ c, D c → ¬ E c) (hr : ∀ r, lo ≤ r → ¬ E r) : Sg lo b K g caps F Inv c w' := by
  rcases h with ⟨rfl, ⟨nums, t⟩, I⟩ | ⟨rfl, h0, r, hl, f, I⟩
  · exact .inl ⟨rfl, ⟨nums, t.off o hb⟩, M.keep E _ _ _ hD I o⟩
  · exact .inr ⟨rfl, h0, r, hl, f.off o hb (hr r hl), M.keep E _ _ _ hD I o⟩
theorem Sg.at_in {D : Nat → Prop} {lo b : Nat} {K : Int} {g : FuncId} {caps : Array Value} {F : Nat → Int} {Inv : Nat → World → Prop} {c : Int} {w : World} (h : Sg lo b K g caps F Inv c w) (hK0 : 0 ≤ K) (hK : K ≤ 4096) (M : Makes g caps K.toNat F D Inv) (hb : ¬ D b) (hlo : lo ≤ w.heap.size) (i : Int) (hi : 0 ≤ i) (hi' : i < K) :
    Calls Try.prog 13 #[.pointer (some ⟨b, 0, none⟩), .int .i64 i] w fun e w' => e = .returned (.int .u32 (F i.toNat)) ∧ Sg lo b K g caps F Inv K w' ∧ Off (fun c => c = b ∨ D c) w w' := by
  obtain ⟨k, rfl⟩ := Int.eq_ofNat_of_zero_le hK0
  obtain ⟨j, rfl⟩ := Int.eq_ofNat_of_zero_le hi
  rcases h with ⟨rfl, ⟨nums, t⟩, I⟩ | ⟨rfl, h0, r, hr, f, I⟩
  · refine (at_first b k (by omega) g caps F D Inv nums j (by omega) w t M I hb).mono ?_
    rintro e w' ⟨rfl, r, hr, f, I', O⟩
    exact ⟨rfl, .inr ⟨rfl, by omega, r, by omega, f, I'⟩, O⟩
  · refine (at_full b r k k F j (by omega) w f).mono ?_
    rintro e w' ⟨rfl, rfl⟩
    exact ⟨rfl, .inr ⟨rfl, by omega, r, hr, f, I⟩, Off.refl _ _⟩

theorem Sg.at_any {D : Nat → Prop} {lo b : Nat} {K : Int} {g : FuncId} {caps : Array Value} {F : Nat → Int} {Inv : Nat → World → Prop} {c : Int} {w : World} (h : Sg lo b K g caps F Inv c w) (hK0 : 0 ≤ K) (hK : K ≤ 4096) (M : Makes g caps K.toNat F D Inv) (hb : ¬ D b) (hlo : lo ≤ w.heap.size) (i : Int) :
    Calls Try.prog 13 #[.pointer (some ⟨b, 0, none⟩), .int .i64 i] w fun e w' => e = .returned (.int .u32 (if 0 ≤ i ∧ i < K then F i.toNat else 0)) ∧ ∃ c', (c' = 0 ∨ c' = K) ∧ Sg lo b K g caps F Inv c' w' ∧ Off (fun c => c = b ∨ D c) w w' := by
  by_cases hi : 0 ≤ i ∧ i < K
  · rw [if_pos hi]
    refine (h.at_in hK0 hK M hb hlo i hi.1 hi.2).mono ?_
    rintro e w' ⟨rfl, s, o⟩
    exact ⟨rfl, K, .inr rfl, s, o⟩
  · rw [if_neg hi]
    refine (h.out i (by omega)).mono ?_
    rintro e w' ⟨rfl, rfl⟩
    exact ⟨rfl, c, by rcases h with ⟨h, -⟩ | ⟨h, -⟩ <;> omega, h, Off.refl _ _⟩

theorem Sg.kcell {lo b : Nat} {K : Int} {g : FuncId} {caps : Array Value} {F : Nat → Int} {cc : Nat} {c : Int} {w : World} (h : Sg lo b K g caps F (fun j => Cel cc 3 #[.int .i64 (j : Int)]) c w) : w.cell? ⟨cc, 0, none⟩ = some (.int .i64 c) := by
  rcases h with ⟨rfl, -, I⟩ | ⟨rfl, h0, r, -, -, I⟩
  · rw [Cel.cell I]; rfl
  · rw [Cel.cell I]
    have : ((c.toNat : Nat) : Int) = c := by omega
    rw [this]; rfl

theorem once1 (i j cc : Nat) (hj : j < 5000) (w : World) (hc : Cel cc 3 #[.int .i64 (j : Int)] w) :
    Calls Try.prog 23 #[.int .i64 i, .pointer (some ⟨cc, 0, none⟩)] w fun e w' => e = .returned (.int .u32 ((j : Int) + 1)) ∧ Cel cc 3 #[.int .i64 ((j + 1 : Nat) : Int)] w' ∧ Off (fun c => c = cc) w w' := by
  have c2 := hc.cell 0
  have f2 := hc.free 0
  have E : Hid (Cel cc 3 #[.int .i64 ((j + 1 : Nat) : Int)] (w.setCell ⟨cc, 0, none⟩ (.int .i64 ((j : Int) + 1))) ∧ Off (fun c => c = cc) w (w.setCell ⟨cc, 0, none⟩ (.int .i64 ((j : Int) + 1)))) :=
    ⟨hc.set 0 _, (Off.refl (fun c => c = cc) w).setCell (p := ⟨cc, 0, none⟩) (.inl rfl) _⟩
  have c3 : (w.setCell ⟨cc, 0, none⟩ (.int .i64 ((j : Int) + 1))).cell? ⟨cc, 0, none⟩ = some (.int .i64 ((j : Int) + 1)) := by rw [(hc.set 0 _).cell]; rfl
  simp at c2
  go_enter Try.func23, Try.ntmps23
  go_wp2
  go_ret
  exact ⟨rfl, E.out⟩
theorem once1_makes (cc k : Nat) (hk : k ≤ 4096) : Makes 23 #[.pointer (some ⟨cc, 0, none⟩)] k (fun j => (j : Int) + 1) (fun c => c = cc) (fun j => Cel cc 3 #[.int .i64 (j : Int)]) where
  call j hj w I := by
    refine Calls.mono (once1 j j cc (by omega) w I) ?_
    rintro e w' ⟨rfl, a, o⟩
    exact ⟨rfl, a, o⟩
  keep E j w w' hE I o := I.off o (hE _ rfl)
  old j w I c h := by subst h; exact I.lt
  enters args w := fn_enters Try.func23 (by kernel_rfl) rfl args w
theorem once2 (j : Nat) (hj : j < 5000) (w : World) : Calls Try.prog 24 #[.int .i64 j] w fun e w' => e = .returned (.int .u32 (j : Int)) ∧ w' = w := by
  go_enter Try.func24, Try.ntmps24
  go_wp2
  go_ret
  exact ⟨rfl, rfl⟩
theorem once2_makes (k : Nat) (hk : k ≤ 4096) : Makes 24 #[] k (fun j => (j : Int)) (fun _ => False) (fun _ _ => True) where
  call j hj w I := by
    refine Calls.mono (once2 j (by omega) w) ?_
    rintro e w' ⟨rfl, rfl⟩
    exact ⟨rfl, trivial, Off.refl _ _⟩
  keep _ _ _ _ _ _ _ := trivial
  old _ _ _ _ h := h.elim
  enters args w := fn_enters Try.func24 (by kernel_rfl) rfl args w

theorem law3 : Keyed Try.prog 3 := int_keyed Try.underlying3
theorem zero22 (w : World) : (zeroValue 22).run Try.prog w = .ok (.int .u32 0) w := by kernel_rfl

/-- Whatever key is there, its number is what the table tells. -/
def Good (K : Int) (D : DataW Unit) : Prop := IsMap D ∧ ∀ x : Int, Maps.has D (.int .i64 x) = true → D.atKey (.int .i64 x) (.lit (.int .u32 0)) = .lit (.int .u32 (if 0 ≤ x ∧ x < K then x + 1 else 0))
theorem Good.empty (K : Int) : Good K (.map []) := ⟨isMap_empty, fun x h => by simp [Maps.has] at h⟩
theorem Good.put {K : Int} {D : DataW Unit} (h : Good K D) (z T : Int) (hT : T = if 0 ≤ z ∧ z < K then z + 1 else 0) : Good K (D.put (.int .i64 z) (.lit (.int .u32 T))) := by
  refine ⟨h.1.put _ _, fun x hx => ?_⟩
  by_cases e : x = z
  · subst e
    rw [atKey_put_same (k := .int .i64 x) h.1 trivial, hT]
  · have hne : (Lit.int .i64 x) ≠ (Lit.int .i64 z) := by simpa using e
    rw [has_put_other hne] at hx
    rw [atKey_put_other hne]
    exact h.2 x hx

theorem ownsMap_off {D : Nat → Prop} {w w' : World} {b n : Nat} {Dm : DataW Unit} (h : w.ownsMap Try.prog 3 (plainElem Try.prog 22) b n Dm) (o : Off D w w') (hb : ¬ D b) : w'.ownsMap Try.prog 3 (plainElem Try.prog 22) b n Dm := by
  have hlt := h.lt
  obtain ⟨es, clock, hb', F, hs, hD⟩ := h
  exact ⟨es, clock, (o.block b hlt hb).trans hb', F, hs, hD⟩


set_option maxRecDepth 100000 in
set_option maxHeartbeats 2000000 in
theorem once_any (n : Int) (ad : Option Addr) (len cap : Nat) (hlen : len ≤ 9223372036854775807) (zs : List Int) (w : World)
    (hz : ∀ i, i < len → ∃ b off, ad = some ⟨b, off, none⟩ ∧ b < w.heap.size ∧ w.cell? ⟨b, off + i, none⟩ = some (.int .i64 (zs.getD i 0)))
    (hwf : ∀ i, i < len → (Lit.int .i64 (zs.getD i 0)).wf = true) :
    Calls Try.prog 7 #[.int .i64 n, .slice ad len cap] w fun e w' => e = .returned (.bool true) ∧ Below w.heap.size w w' := by
  have hmf : ∀ (fn : Fn) (first cap : Array Value) (w : World), (Instr.makeFunc fn first cap).run Try.prog w = .ok (.func fn first cap) w := fun _ _ _ _ => rfl
  have hmm := @run_makeMap Try.prog
  have HZ : Hid _ := hz
  have HW : Hid _ := hwf
  clear hz hwf
  have n0 : 0 ≤ (IntKind.u64.wrap n).tmod 200 ∧ (IntKind.u64.wrap n).tmod 200 < 200 := by
    rw [IntKind.wrap_u64, Int.tmod_eq_emod_of_nonneg (by omega)]
    omega
  obtain ⟨k, ek⟩ := Int.eq_ofNat_of_zero_le n0.1
  have hk : k < 200 := by omega
  clear n0
  have N : Hid _ := new_fn ((k : Int) + 1) (.func 23) #[] #[.pointer (some ⟨w.heap.size, 0, none⟩)] (w.alloc (.cells #[.int .i64 0] 3))
  rw [show min (max ((k : Int) + 1) 0) 4096 = (k : Int) + 1 by omega, show (w.alloc (.cells #[.int .i64 0] 3)).heap.size = w.heap.size + 1 by simp] at N
  have vC := Cel.new w 3 #[.int .i64 0]
  have vO : Off (fun c => w.heap.size ≤ c) w (w.alloc (.cells #[.int .i64 0] 3)) := (Off.refl _ w).alloc _
  have M1 := once1_makes w.heap.size ((k : Int) + 1).toNat (by omega)
  have M2 := once2_makes ((k : Int) + 1).toNat (by omega)
  have HM1 : Hid _ := M1
  have HM2 : Hid _ := M2
  clear M1 M2
  go_enter Try.func7, Try.ntmps7
  go_wp2_with fail
  refine Calls.mono N.out ?_
  rintro e w1 ⟨rfl, t1, o1⟩
  have C1 := vC.off o1 id
  have O1 : Off (fun c => w.heap.size ≤ c) w w1 := vO.trans o1 (fun _ _ h => h.elim)
  clear vC vO o1 N
  go_wp2_with fail
  refine Calls.mono (new_fn ((k : Int) + 1) (.func 24) #[] #[] w1) ?_
  rintro e w2 ⟨rfl, t2, o2⟩
  rw [show min (max ((k : Int) + 1) 0) 4096 = (k : Int) + 1 by omega] at t2
  have hs1 := t1.lt
  have hs2 := t2.lt
  obtain ⟨bb, ebb⟩ : ∃ bb, bb = w1.heap.size := ⟨_, rfl⟩
  obtain ⟨mb, emb⟩ : ∃ mb, mb = w2.heap.size := ⟨_, rfl⟩
  rw [← ebb] at t2 hs1 hs2 ⊢
  rw [← emb] at hs2
  have S2 : Sg (mb + 1) (w.heap.size + 1) ((k : Int) + 1) 23 #[.pointer (some ⟨w.heap.size, 0, none⟩)] (fun j => (j : Int) + 1) (fun j => Cel w.heap.size 3 #[.int .i64 (j : Int)]) 0 (w2.alloc (.map #[] 0)) :=
    .inl ⟨rfl, ⟨_, Cel.alloc (t1.off o2 id) _⟩, (C1.off o2 id).alloc _⟩
  have T2 : Tb bb ((k : Int) + 1) (.func (.func 24) #[] #[]) 0 0 (.slice none 0 0) 0 (w2.alloc (.map #[] 0)) := Cel.alloc t2 _
  have P2 : (w2.alloc (.map #[] 0)).ownsMap Try.prog 3 (plainElem (H := Unit) Try.prog 22) mb 0 (.map []) := by rw [emb]; exact World.ownsMap_made _ _ _ _
  have O2 : Off (fun c => w.heap.size ≤ c) w (w2.alloc (.map #[] 0)) := (O1.trans o2 (fun _ _ h => h.elim)).alloc _
  have HMB : Hid _ := emb
  clear t1 t2 C1 O1 o2 ebb
  go_wp2_with fail
  rw [← HMB.out]
  clear HMB emb hmm
  go_loopw [27] (fun i wr => ∃ (j : Nat) (c : Int) (Dm : DataW Unit), j ≤ len ∧ i = .int .i64 j ∧ Sg (mb + 1) (w.heap.size + 1) ((k : Int) + 1) 23 #[.pointer (some ⟨w.heap.size, 0, none⟩)] (fun j => (j : Int) + 1) (fun j => Cel w.heap.size 3 #[.int .i64 (j : Int)]) c wr ∧
      Tb bb ((k : Int) + 1) (.func (.func 24) #[] #[]) 0 0 (.slice none 0 0) 0 wr ∧ wr.ownsMap Try.prog 3 (plainElem (H := Unit) Try.prog 22) mb j Dm ∧ Good ((k : Int) + 1) Dm ∧ Off (fun c => w.heap.size ≤ c) w wr) (fun i _ => (len - intOf i).toNat)
  case atStart => exact ⟨0, 0, _, by omega, rfl, S2, T2, P2, Good.empty _, O2⟩
  case round =>
    clear S2 T2 P2 O2
    obtain ⟨j, c, Dm, hj, rfl, S, T, P, G, O⟩ := hrel
    have hs3 := P.lt
    by_cases hlt : j < len ∧ j < 60
    · obtain ⟨b, off, rfl, hb, hc⟩ := HZ.out j hlt.1
      have hwz := HW.out j hlt.1
      have hc' : wr.cell? ⟨b, off + j, none⟩ = some (.int .i64 (zs.getD j 0)) := (World.cell?_of_block (a := ⟨b, off + j, none⟩) (O.block b hb (by omega))).trans hc
      clear hc
      have hl1 := hlt.1
      have hl2 := hlt.2
      clear hlt
      generalize zs.getD j 0 = z at *
      obtain ⟨t, et⟩ : ∃ t : Int, t = if 0 ≤ z ∧ z < (k : Int) + 1 then z + 1 else 0 := ⟨_, rfl⟩
      have ht : 0 ≤ t ∧ t ≤ 200 := by rw [et]; split <;> omega
      have A : Hid _ := S.at_any (by omega) (by omega) HM1.out (by omega) (by omega) z
      have et' : (if 0 ≤ z ∧ z < (k : Int) + 1 then ((z.toNat : Nat) : Int) + 1 else 0) = t := by
        rw [et]; split <;> omega
      rw [et'] at A
      have HT : Hid _ := et
      clear et et' S
      have hT1 := ht.1
      have hT2 := ht.2
      clear ht
      go_wp2_with fail
      refine Calls.mono A.out ?_
      rintro e w2 ⟨rfl, c', hc01, S2, O2⟩
      have T2 := T.off O2 (by omega)
      have P2 := ownsMap_off P O2 (by omega)
      have O3 := O.trans O2 (fun i hi h => by omega)
      clear P T O A O2 hc'
      have key : keyOf Try.prog 3 (.int .i64 z) = some (.int .i64 z) := keyOf_int_mk Try.underlying3 hwz
      cases hh : Maps.has Dm (.int .i64 z)
      · go_wp2_with (first
          | (at_lookup; refine wpList_lookup_own_ok_int _ rfl _ _ 41 rfl 3 22 .u32 law3 Try.underlying41 Try.underlying22 (zero22 _) mb j Dm rfl P2 _ _ rfl key ?_; intro cv hat hwc; rw [hh])
          | (at_mapUpdate; refine wpList_mapUpdate_own _ rfl _ _ _ 41 rfl 3 22 law3 Try.underlying41 _ mb j _ rfl P2 (by unfold maxLen; omega) _ _ _ rfl rfl key _ [] (plainElem_int Try.underlying22 (WalkArith.wf_u32 ⟨hT1, by omega⟩)) ?_; intro w3 P3 g3))
        have o3 : Off (fun c => c = mb) w2 w3 := (Off.refl (fun c => c = mb) w2).grown g3 (fun i hi => by simp at hi; omega)
        have S3 := S2.off HM1.out o3 (by omega) (fun c h => by omega) (fun r hr => by omega)
        have T3 := T2.off o3 (by omega)
        have O4 := O3.trans o3 (fun i hi h => by omega)
        have G3 := G.put z t HT.out
        have c1 := S3.kcell
        clear S2 T2 P2 O3 o3 g3
        go_wp2_with fail
        rcases hc01 with rfl | rfl
        · refine (S3.made).mono ?_
          rintro e w4 ⟨rfl, hw4⟩
          rw [hw4]
          clear hw4 w4
          go_wp2_with fail
          refine (made_any _ _ _ _ _ _ _ _ T3).mono ?_
          rintro e w4 ⟨rfl, hw4⟩
          rw [hw4]
          clear hw4 w4
          go_wp2_with fail
          go_roundw
          case rel => exact ⟨j + 1, 0, _, by omega, by go_num, S3, T3, P3, G3, O4⟩
          case measure => simp [intOf]; omega
        · refine (S3.made).mono ?_
          rintro e w4 ⟨rfl, hw4⟩
          rw [hw4]
          clear hw4 w4
          go_wp2_with fail
          refine (S3.made).mono ?_
          rintro e w4 ⟨rfl, hw4⟩
          rw [hw4]
          clear hw4 w4
          go_wp2_with fail
          refine (made_any _ _ _ _ _ _ _ _ T3).mono ?_
          rintro e w4 ⟨rfl, hw4⟩
          rw [hw4]
          clear hw4 w4
          go_wp2_with fail
          go_roundw
          case rel => exact ⟨j + 1, _, _, by omega, by go_num, S3, T3, P3, G3, O4⟩
          case measure => simp [intOf]; omega
      · have hv := G.2 z hh
        rw [← HT.out] at hv
        have HVV : Hid _ := hv
        clear hv
        go_wp2_with (first
          | (at_lookup; refine wpList_lookup_own_ok_int _ rfl _ _ 41 rfl 3 22 .u32 law3 Try.underlying41 Try.underlying22 (zero22 _) mb j Dm rfl P2 _ _ rfl key ?_; intro cv hat hwc; rw [hh]; obtain rfl : t = cv := (by rw [HVV.out] at hat; simpa using hat); clear hat hwc)
          | (at_mapUpdate; refine wpList_mapUpdate_own _ rfl _ _ _ 41 rfl 3 22 law3 Try.underlying41 _ mb j _ rfl P2 (by unfold maxLen; omega) _ _ _ rfl rfl key _ [] (plainElem_int Try.underlying22 (WalkArith.wf_u32 ⟨hT1, by omega⟩)) ?_; intro w3 P3 g3))
        have o3 : Off (fun c => c = mb) w2 w3 := (Off.refl (fun c => c = mb) w2).grown g3 (fun i hi => by simp at hi; omega)
        have S3 := S2.off HM1.out o3 (by omega) (fun c h => by omega) (fun r hr => by omega)
        have T3 := T2.off o3 (by omega)
        have O4 := O3.trans o3 (fun i hi h => by omega)
        have G3 := G.put z t HT.out
        have c1 := S3.kcell
        clear S2 T2 P2 O3 o3 g3
        go_wp2_with fail
        rcases hc01 with rfl | rfl
        · refine (S3.made).mono ?_
          rintro e w4 ⟨rfl, hw4⟩
          rw [hw4]
          clear hw4 w4
          go_wp2_with fail
          refine (made_any _ _ _ _ _ _ _ _ T3).mono ?_
          rintro e w4 ⟨rfl, hw4⟩
          rw [hw4]
          clear hw4 w4
          go_wp2_with fail
          go_roundw
          case rel => exact ⟨j + 1, 0, _, by omega, by go_num, S3, T3, P3, G3, O4⟩
          case measure => simp [intOf]; omega
        · refine (S3.made).mono ?_
          rintro e w4 ⟨rfl, hw4⟩
          rw [hw4]
          clear hw4 w4
          go_wp2_with fail
          refine (S3.made).mono ?_
          rintro e w4 ⟨rfl, hw4⟩
          rw [hw4]
          clear hw4 w4
          go_wp2_with fail
          refine (made_any _ _ _ _ _ _ _ _ T3).mono ?_
          rintro e w4 ⟨rfl, hw4⟩
          rw [hw4]
          clear hw4 w4
          go_wp2_with fail
          go_roundw
          case rel => exact ⟨j + 1, _, _, by omega, by go_num, S3, T3, P3, G3, O4⟩
          case measure => simp [intOf]; omega
    · by_cases hl : j < len
      · obtain ⟨b, off, rfl, hb, hc⟩ := HZ.out j hl
        have hc' : wr.cell? ⟨b, off + j, none⟩ = some (.int .i64 (zs.getD j 0)) := (World.cell?_of_block (a := ⟨b, off + j, none⟩) (O.block b hb (by omega))).trans hc
        have h60 : 60 ≤ j := by omega
        clear hc hlt
        generalize zs.getD j 0 = z at *
        have A2 : Hid _ := at_st bb (k + 1) (by omega) 24 #[] (fun j => (j : Int)) (fun _ => False) (fun _ => True) 0 (k : Int) wr (.inl ⟨_, T⟩) HM2.out trivial id (Nat.zero_le _)
        have et : told (fun j => (j : Int)) (k + 1) (k : Int) = (k : Int) := by unfold told; rw [if_pos (by omega)]; rfl
        rw [et] at A2
        clear et
        go_wp2_with fail
        refine Calls.mono A2.out ?_
        rintro e w4 ⟨rfl, -, hf, -, o4⟩
        obtain ⟨r, -, ⟨⟨fv, t4⟩, -⟩⟩ := hf (by omega)
        clear hf
        go_wp2_with fail
        refine (made_any _ _ _ _ _ _ _ _ t4).mono ?_
        rintro e w5 ⟨rfl, hw5⟩
        rw [hw5]
        clear hw5 w5
        go_wp2_with fail
        refine (awake_any _).mono ?_
        rintro e w5 ⟨rfl, o5⟩
        go_wp2_with fail
        go_ret
        exact ⟨rfl, ((O.trans o4 (fun i hi h => h.elim (fun h => by omega) False.elim)).trans o5 (fun _ _ h => h.elim)).below (Nat.le_refl _) (fun _ h => h)⟩
      · clear hlt
        have A2 : Hid _ := at_st bb (k + 1) (by omega) 24 #[] (fun j => (j : Int)) (fun _ => False) (fun _ => True) 0 (k : Int) wr (.inl ⟨_, T⟩) HM2.out trivial id (Nat.zero_le _)
        have et : told (fun j => (j : Int)) (k + 1) (k : Int) = (k : Int) := by unfold told; rw [if_pos (by omega)]; rfl
        rw [et] at A2
        clear et
        go_wp2_with fail
        refine Calls.mono A2.out ?_
        rintro e w4 ⟨rfl, -, hf, -, o4⟩
        obtain ⟨r, -, ⟨⟨fv, t4⟩, -⟩⟩ := hf (by omega)
        clear hf
        go_wp2_with fail
        refine (made_any _ _ _ _ _ _ _ _ t4).mono ?_
        rintro e w5 ⟨rfl, hw5⟩
        rw [hw5]
        clear hw5 w5
        go_wp2_with fail
        refine (awake_any _).mono ?_
        rintro e w5 ⟨rfl, o5⟩
        go_wp2_with fail
        go_ret
        exact ⟨rfl, ((O.trans o4 (fun i hi h => h.elim (fun h => by omega) False.elim)).trans o5 (fun _ _ h => h.elim)).below (Nat.le_refl _) (fun _ h => h)⟩

set_option linter.unusedVariables false in
theorem once_walk (n : Int) (ad : Option Addr) (len cap : Nat) (zs : List Int) (w : World) (w0 : (Lit.int .i64 n).wf = true) (w1 : IsRow .i64 w ad len cap zs) :
    Calls Try.prog 7 #[.int .i64 n, .slice ad len cap] w fun e w' => e = .returned (.bool true) ∧ Below w.heap.size w w' := once_any n ad len cap w1.len zs w w1.cells w1.wfs
end Go.Proofs.Ytbeaebemfcfkhaa
