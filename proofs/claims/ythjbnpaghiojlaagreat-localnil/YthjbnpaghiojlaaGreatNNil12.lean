/- Items of several texts. -/
import Derived.Lib.SlBytesConst
import Derived.Test.YthjbnpaghiojlaaGreatNArg12
namespace Go.Proofs.YthjbnpaghiojlaaGreat
open Go.RowKit

/-- A store at p on the file at b; all of it, and the file, is new since w0. -/
structure Lw (w0 : World) (p b most : Nat) (rs : List (List Nat)) (s : PS) (w : World) : Prop where
  ex : ∃ (lb : Nat) (D S : Nat → Prop), Hol D S p lb b most rs s w ∧ (∀ c, D c ∨ S c → w0.heap.size ≤ c)
  off : Off (fun _ => False) w0 w
theorem Lw.free {w0 : World} {p b most : Nat} {rs : List (List Nat)} {s : PS} {w w' : World} (h : Lw w0 p b most rs s w) (o : Off (fun _ => False) w w') : Lw w0 p b most rs s w' := by
  obtain ⟨lb, D, S, h1, h2⟩ := h.ex
  exact ⟨⟨lb, D, S, h1.free o, h2⟩, h.off.trans o (fun _ _ h => h)⟩
theorem Lw.inv {w0 : World} {p b most : Nat} {rs : List (List Nat)} {s : PS} {w : World} (h : Lw w0 p b most rs s w) : Inv rs s := by
  obtain ⟨lb, D, S, h1, h2⟩ := h.ex
  exact h1.inv
theorem Lw.mov {w0 : World} {p b most : Nat} {rs' : List (List Nat)} {s' : PS} {w w' : World} {lb : Nat} {D S D' S' : Nat → Prop} (h2 : ∀ c, D c ∨ S c → w0.heap.size ≤ c) (o : Off (fun _ => False) w0 w) (h1 : Hol D' S' p lb b most rs' s' w') (m : Mov D S D' S' w w') : Lw w0 p b most rs' s' w' := by
  obtain ⟨o', n'⟩ := m.new o h2
  exact ⟨⟨lb, D', S', h1, n'⟩, o'⟩
/-- The entry that a call has. -/
def C.e (x : C) : E := ⟨x.key, x.f, x.a, x.cap, x.l⟩

/-! The file of a store, by itself. -/
/-- All that stands on the file at b is sure, and it is the records rs. -/
structure Fil (w0 : World) (b most : Nat) (rs : List (List Nat)) (w : World) : Prop where
  ex : ∃ D, Dsk D b most (frs rs) (frs rs).length w ∧ (∀ c, D c → w0.heap.size ≤ c)
  off : Off (fun _ => False) w0 w
theorem Fil.free {w0 : World} {b most : Nat} {rs : List (List Nat)} {w w' : World} (h : Fil w0 b most rs w) (o : Off (fun _ => False) w w') : Fil w0 b most rs w' := by
  obtain ⟨D, h1, h2⟩ := h.ex
  exact ⟨⟨D, h1.free o, h2⟩, h.off.trans o (fun _ _ h => h)⟩
theorem Lw.fil {w0 : World} {p b most : Nat} {rs : List (List Nat)} {s : PS} {w : World} (h : Lw w0 p b most rs s w) : Fil w0 b most rs w := by
  obtain ⟨lb, D, S, h1, h2⟩ := h.ex
  obtain ⟨D0, k1, k2, -⟩ := h1.std.lg.dsk
  exact ⟨⟨D0, k1, fun c hc => h2 c (.inl (k2 c hc))⟩, h.off⟩
theorem keep_all (n : Nat) (k : Int) : keepN n n k = n := by
  unfold keepN
  rw [Nat.sub_self, Nat.zero_add, Nat.mod_one, Nat.add_zero]
theorem fnew_any (m : Int) (w : World) : Calls Tryz.prog 11 #[.int .i64 m] w fun e w' => ∃ b, e = .returned (.pointer (some ⟨b, 0, none⟩)) ∧ Fil w b (roomOf m) [] w' := by
  refine (dnew_any m w).mono ?_
  rintro e w' ⟨b, rfl, hb, k, o⟩
  exact ⟨b, rfl, ⟨⟨fun c => c = b, k, fun c hc => by rw [show c = b from hc]; exact hb⟩, o⟩⟩
theorem fcrash_any {w0 : World} {b most : Nat} {rs : List (List Nat)} {w : World} (h : Fil w0 b most rs w) (k : Int) :
    Calls Tryz.prog 14 #[.pointer (some ⟨b, 0, none⟩), .int .i64 k] w fun e w' => e = .returned (.tuple #[]) ∧ Fil w0 b most rs w' := by
  obtain ⟨D, h1, h2⟩ := h.ex
  refine (dcrash_any h1 k).mono ?_
  rintro e w' ⟨rfl, k1, o1⟩
  rw [keep_all, List.take_length] at k1
  exact ⟨rfl, ⟨⟨D, k1, h2⟩, ((h.off.mono (fun _ _ h => h.elim)).trans o1 (fun _ _ h => h)).mono (fun i hi e => by have := h2 i e; omega)⟩⟩
/-- Opened: the store that its records come to. -/
theorem fopen_any {w0 : World} {b most : Nat} {rs : List (List Nat)} {s : PS} {w : World} (h : Fil w0 b most rs w) (hi : Inv rs s) :
    Calls Tryz.prog 12 #[.pointer (some ⟨b, 0, none⟩)] w fun e w' => ∃ p, e = .returned (.tuple #[.pointer (some ⟨p, 0, none⟩), .int .i64 0]) ∧ Lw w0 p b most rs s w' := by
  obtain ⟨D, h1, h2⟩ := h.ex
  refine (lopen_any (xs := []) (by rw [List.append_nil]; exact h1) tk_nil (by simp) (fun _ => rfl) hi.rec_).mono ?_
  rintro e w' ⟨q, er, rfl, op⟩
  rcases op.is with ⟨s', p, hr, rfl, rfl, ⟨lb, D', S', hol, o, n1, n2⟩⟩ | ⟨hr, -⟩
  · rw [hi.run] at hr
    obtain rfl : s = s' := Option.some.inj hr
    have hsz := h.off.size
    refine ⟨p, rfl, ⟨⟨lb, D', S', hol, fun c hc => ?_⟩, ((h.off.mono (fun _ _ h => h.elim)).trans o (fun _ _ h => h)).mono (fun i hi e => by have := h2 i e; omega)⟩⟩
    rcases hc with hc | hc
    · rcases n1 c hc with e | e
      · exact h2 c e
      · omega
    · have := n2 c hc
      omega
  · rw [hi.run] at hr
    cases hr

/-! The calls. -/
theorem wget_any {w0 : World} {p b most : Nat} {rs : List (List Nat)} {s : PS} {w : World} (h : Lw w0 p b most rs s w) (key : ByteArray) (hk : key.size ≤ 9223372036854775807) :
    Calls Tryz.prog 26 #[.pointer (some ⟨p, 0, none⟩), .string key] w fun e w' => ∃ (f : Nat → Int) (a : Option Addr) (c : Nat) (l : List V), e = .returned (.tuple #[.agg #[.int .i64 (f 0), .int .i64 (f 1), .int .i64 (f 2), .int .i64 (f 3), .int .i64 (f 4), .int .i64 (f 5), .int .i64 (f 6), .int .i64 (f 7), .slice a l.length c], .bool (fndG K.key key s.1).isSome]) ∧ f = (getK s.1 key).f ∧ cont l = (getK s.1 key).l ∧ Row w' a c l ∧ Far w.heap.size a l ∧ Off (fun _ => False) w w' := by
  obtain ⟨lb, D, S, h1, h2⟩ := h.ex
  refine (lget_any h1.cor key hk).mono ?_
  rintro e w' h
  exact h
/-! awake. -/
def awK : K := (⟨⟨#[107]⟩, withV zer 0 1, [dot1 0 120]⟩ : K)
theorem aw_putK : putK ([], []) 0 ⟨#[107]⟩ zer [120] false = awK := by
  obtain ⟨-, h2, h3⟩ := put_one (n := 0) (by decide) 120
  have hz : getK ([] : List K) ⟨#[107]⟩ = ⟨⟨#[107]⟩, zer, []⟩ := rfl
  unfold putK
  simp only [hz]
  rw [h2, h3]
  rfl
theorem aw_putC : putC ([], []) 0 ⟨#[107]⟩ zer [120] false = 0 := by
  obtain ⟨h1, -, -⟩ := put_one (n := 0) (by decide) 120
  have hz : getK ([] : List K) ⟨#[107]⟩ = ⟨⟨#[107]⟩, zer, []⟩ := rfl
  unfold putC
  simp only [hz]
  rw [h1]
  rfl
theorem aw_okK : OkK awK := by
  rw [← aw_putK]
  exact put_okK OkP.nil nrm_zer (by simp) (by simp) aw_putC
theorem aw_len : (enc ⟨1, 0, awK⟩).length ≤ 900 := by decide +kernel
theorem aw_putA : putA 1000 [] ([], []) 0 ⟨#[107]⟩ zer [120] false = ⟨0, [enc ⟨1, 0, awK⟩], ([awK], [])⟩ := by
  have hd := put_do OkP.nil (by rw [aw_putK]; exact aw_okK) aw_putC
  rw [aw_putK] at hd
  have hl := aw_len
  have e0 : layE 1000 [] ([], []) (enc ⟨1, 0, awK⟩) = 0 := by
    unfold layE
    rw [if_pos (by simp [frs]; omega)]
  have e1 : layL 1000 [] ([], []) (enc ⟨1, 0, awK⟩) = [enc ⟨1, 0, awK⟩] := by
    unfold layL
    rw [if_pos (by simp [frs]; omega)]
    rfl
  unfold putA
  rw [if_pos aw_putC, aw_putK]
  unfold chA chE chL chS chE
  rw [e0, e1, if_pos rfl, hd]
  rfl
theorem aw_get : getK [awK] ⟨#[107]⟩ = awK ∧ (fndG K.key ⟨#[107]⟩ [awK]).isSome = true := ⟨rfl, rfl⟩
theorem one_cont {l : List V} {x : A} (h : cont l = [x]) : ∃ v : V, l = [v] ∧ v.abs = x := by
  match l, h with
  | [v], h => exact ⟨v, rfl, by simpa [cont] using h⟩
set_option maxRecDepth 100000 in
set_option maxHeartbeats 2000000 in
theorem awake_any (w : World) : Calls Tryz.prog 10 #[] w fun e w' => e = .returned (.bool true) ∧ Off (fun _ => False) w w' := by
  have hq := eql_sto
  have hcv := fun (w : World) (C : Array Value) (n c : Nat) => Lib.run_convert_bytes_const (P := Tryz.prog) w 44 5 C n c Tryz.underlying44 Tryz.underlying5
  go_enter Tryz.func10, Tryz.ntmps10
  go_wp2_with fail
  refine (fnew_any 1000 w).mono ?_
  rintro e w1 ⟨b, rfl, fl⟩
  rw [show roomOf 1000 = 1000 from rfl] at fl
  have HF : Hid _ := fl
  clear fl
  go_wp2_with fail
  refine (fopen_any HF.out Inv.nil).mono ?_
  rintro e w2 ⟨p, rfl, lw⟩
  have HL : Hid _ := lw
  clear lw
  have HPUT : Hid (Calls Tryz.prog 22 #[.pointer (some ⟨p, 0, none⟩), .int .i64 0, .string ⟨#[107]⟩, .agg #[.int .i64 0, .int .i64 0, .int .i64 0, .int .i64 0, .int .i64 0, .int .i64 0, .int .i64 0, .int .i64 0], .slice (some ⟨w2.heap.size, 0, none⟩) 1 1, .bool false] (w2.alloc (.cells #[.int .u8 120] 5 (1, 2))) fun e w' => ∃ (f : Nat → Int) (a : Option Addr) (c : Nat) (l : List V), e = .returned (.tuple #[.agg #[.int .i64 (f 0), .int .i64 (f 1), .int .i64 (f 2), .int .i64 (f 3), .int .i64 (f 4), .int .i64 (f 5), .int .i64 (f 6), .int .i64 (f 7), .slice a l.length c], .int .i64 0]) ∧ Lw w p b 1000 [enc ⟨1, 0, awK⟩] ([awK], []) w') := by
    show Calls _ _ _ _ _
    have OA : Off (fun _ => False) w2 (w2.alloc (.cells #[.int .u8 120] 5 (1, 2))) := (Off.refl _ w2).alloc _
    obtain ⟨lb, D, S, h1, h2⟩ := (HL.out.free OA).ex
    have hs := src_mark w2 120 120 rfl (1, 2)
    refine (lput_any h1 0 (by decide) ⟨#[107]⟩ (by decide) zer nrm_zer (some ⟨w2.heap.size, 0, none⟩) 1 [120] false hs (by simp) (by simp)).mono ?_
    rw [aw_putA]
    rintro e w' ⟨f, a, c, l, rfl, -, -, -, -, D', S', hol, mv⟩
    exact ⟨f, a, c, l, rfl, Lw.mov h2 (HL.out.free OA).off hol mv⟩
  go_wp2_with fail
  refine Calls.mono HPUT.out ?_
  rintro e w3 ⟨f3, a3, c3, l3, rfl, lw⟩
  have HL3 : Hid _ := lw
  clear lw HPUT
  go_wp2_with fail
  refine (fcrash_any HL3.out.fil 0).mono ?_
  rintro e w4 ⟨rfl, fl⟩
  have HF4 : Hid _ := fl
  clear fl
  go_wp2_with fail
  refine (fopen_any HF4.out HL3.out.inv).mono ?_
  rintro e w5 ⟨p5, rfl, lw⟩
  have HL5 : Hid _ := lw
  clear lw
  go_wp2_with fail
  refine (wget_any HL5.out ⟨#[107]⟩ (by decide)).mono ?_
  rw [aw_get.1, aw_get.2]
  rintro e w6 ⟨f, a, c, l, rfl, hf, hl, row, far, o6⟩
  obtain ⟨v, rfl, hv⟩ := one_cont hl
  obtain ⟨bb, off, rfl, k, -⟩ := row.at_ 0 v rfl
  rw [Nat.zero_mul, Nat.add_zero] at k
  have hn : v.node = 0 := congrArg A.node hv
  have hm : v.num = 1 := congrArg A.num hv
  have kc0 := k.c0
  have kc1 := k.c1
  rw [hn] at kc0
  rw [hm] at kc1
  have HO6 : Hid (Off (fun _ => False) w w6) := HL5.out.off.trans o6 (fun _ _ h => h)
  clear hf hl hv row far o6 k hn hm
  go_upto_region 9 with fail
  have CQ := Cel.new w6 47 #[.int .i64 (f 0), .int .i64 (f 1), .int .i64 (f 2), .int .i64 (f 3), .int .i64 (f 4), .int .i64 (f 5), .int .i64 (f 6), .int .i64 (f 7), .slice (some ⟨bb, off, none⟩) 1 c]
  have OA : Off (fun _ => False) w6 (w6.alloc (.cells #[.int .i64 (f 0), .int .i64 (f 1), .int .i64 (f 2), .int .i64 (f 3), .int .i64 (f 4), .int .i64 (f 5), .int .i64 (f 6), .int .i64 (f 7), .slice (some ⟨bb, off, none⟩) 1 c] 47)) := (Off.refl _ w6).alloc _
  have q0 : (w6.alloc (.cells #[.int .i64 (f 0), .int .i64 (f 1), .int .i64 (f 2), .int .i64 (f 3), .int .i64 (f 4), .int .i64 (f 5), .int .i64 (f 6), .int .i64 (f 7), .slice (some ⟨bb, off, none⟩) 1 c] 47)).cell? ⟨bb, off, none⟩ = some (.int .i64 0) := by
    rw [← kc0]
    exact World.cell?_of_block (a := ⟨bb, off, none⟩) (OA.block bb (cell_lt kc0) (fun h => h))
  have q1 : (w6.alloc (.cells #[.int .i64 (f 0), .int .i64 (f 1), .int .i64 (f 2), .int .i64 (f 3), .int .i64 (f 4), .int .i64 (f 5), .int .i64 (f 6), .int .i64 (f 7), .slice (some ⟨bb, off, none⟩) 1 c] 47)).cell? ⟨bb, off + 1, none⟩ = some (.int .i64 1) := by
    rw [← kc1]
    exact World.cell?_of_block (a := ⟨bb, off + 1, none⟩) (OA.block bb (cell_lt kc0) (fun h => h))
  have c8 : (w6.alloc (.cells #[.int .i64 (f 0), .int .i64 (f 1), .int .i64 (f 2), .int .i64 (f 3), .int .i64 (f 4), .int .i64 (f 5), .int .i64 (f 6), .int .i64 (f 7), .slice (some ⟨bb, off, none⟩) 1 c] 47)).cell? ⟨w6.heap.size, 8, none⟩ = some (.slice (some ⟨bb, off, none⟩) 1 c) := CQ.cell 8
  have HO7 : Hid _ := HO6.out.trans OA (fun _ _ h => h)
  generalize hv : w6.alloc (.cells #[.int .i64 (f 0), .int .i64 (f 1), .int .i64 (f 2), .int .i64 (f 3), .int .i64 (f 4), .int .i64 (f 5), .int .i64 (f 6), .int .i64 (f 7), .slice (some ⟨bb, off, none⟩) 1 c] 47) = V at q0 q1 c8 HO7 ⊢
  generalize hqq : w6.heap.size = q at c8 ⊢
  clear hv hqq CQ OA kc0 kc1
  go_wp2_with fail
  go_ret
  exact ⟨rfl, HO7.out⟩
end Go.Proofs.YthjbnpaghiojlaaGreat

namespace Go.Proofs.YthjbnpaghiojlaaGreat
open Go.RowKit

set_option maxRecDepth 100000 in
set_option maxHeartbeats 2000000 in
theorem nput_any (node : Int) (key : ByteArray) (g : Nat → Int) (v : Value) (dead : Bool) (w : World) : Calls Tryz.prog 22 #[.pointer none, .int .i64 node, .string key, .agg #[.int .i64 (g 0), .int .i64 (g 1), .int .i64 (g 2), .int .i64 (g 3), .int .i64 (g 4), .int .i64 (g 5), .int .i64 (g 6), .int .i64 (g 7)], v, .bool dead] w fun e w' => e = .returned (.tuple #[(.agg #[.int .i64 0, .int .i64 0, .int .i64 0, .int .i64 0, .int .i64 0, .int .i64 0, .int .i64 0, .int .i64 0, .slice none 0 0]), .int .i64 1]) ∧ Off (fun _ => False) w w' := by
  have hq := eql_sto
  obtain ⟨W, hW⟩ : ∃ W, W = ((w.alloc (.cells #[.int .i64 (g 0), .int .i64 (g 1), .int .i64 (g 2), .int .i64 (g 3), .int .i64 (g 4), .int .i64 (g 5), .int .i64 (g 6), .int .i64 (g 7)] 43)).alloc (.cells #[.int .i64 0, .int .i64 0, .int .i64 0, .int .i64 0, .int .i64 0, .int .i64 0, .int .i64 0, .int .i64 0, .slice none 0 0] 47)) := ⟨_, rfl⟩
  have O : Off (fun _ => False) w W := by rw [hW]; exact ((Off.refl _ w).alloc _).alloc _
  have C : Cel (w.heap.size + 1) 47 #[.int .i64 (zer 0), .int .i64 (zer 1), .int .i64 (zer 2), .int .i64 (zer 3), .int .i64 (zer 4), .int .i64 (zer 5), .int .i64 (zer 6), .int .i64 (zer 7), .slice none 0 0] W := by rw [hW]; exact Cel.new1 w _ _ _
  obtain ⟨z0, z1, z2, z3, z4, z5, z6, z7, z8⟩ := cel9 C
  have fr := C.free
  have HC : Hid _ := C
  have HO : Hid _ := O
  have HW : Hid _ := hW
  clear C O hW
  go_enter Tryz.func22, Tryz.ntmps22
  go_upto_region 1 with fail
  rw [show ((w.alloc (.cells #[.int .i64 (g 0), .int .i64 (g 1), .int .i64 (g 2), .int .i64 (g 3), .int .i64 (g 4), .int .i64 (g 5), .int .i64 (g 6), .int .i64 (g 7)] 43)).alloc (.cells #[.int .i64 0, .int .i64 0, .int .i64 0, .int .i64 0, .int .i64 0, .int .i64 0, .int .i64 0, .int .i64 0, .slice none 0 0] 47)) = W from HW.out.symm]
  go_wp2_with fail
  refine bodyPost_ret (results_err9 rfl rfl rfl HC.out.clr9) rfl ?_
  exact ⟨rfl, HO.out.clr9 (.inr (by omega))⟩
set_option maxRecDepth 100000 in
set_option maxHeartbeats 2000000 in
theorem njoin_any (key : ByteArray) (w : World) : Calls Tryz.prog 23 #[.pointer none, (.agg #[.string key, .int .i64 0, .int .i64 0, .int .i64 0, .int .i64 0, .int .i64 0, .int .i64 0, .int .i64 0, .int .i64 0, .slice none 0 0])] w fun e w' => e = .returned (.tuple #[.bool false, .int .i64 1]) ∧ Off (fun _ => False) w w' := by
  have hq := eql_sto
  have HO : Hid (Off (fun _ => False) w (w.alloc (.cells #[.string key, .int .i64 0, .int .i64 0, .int .i64 0, .int .i64 0, .int .i64 0, .int .i64 0, .int .i64 0, .int .i64 0, .slice none 0 0] 68))) := (Off.refl _ w).alloc _
  go_enter Tryz.func23, Tryz.ntmps23
  go_wp2_with fail
  go_ret2
  exact ⟨rfl, HO.out⟩
set_option maxRecDepth 100000 in
set_option maxHeartbeats 2000000 in
theorem nunhint_any (node : Int) (key : ByteArray) (f : Nat → Int) (a : Option Addr) (n c : Nat) (w : World) : Calls Tryz.prog 24 #[.pointer none, .int .i64 node, .string key, (.agg #[.int .i64 (f 0), .int .i64 (f 1), .int .i64 (f 2), .int .i64 (f 3), .int .i64 (f 4), .int .i64 (f 5), .int .i64 (f 6), .int .i64 (f 7), .slice a n c])] w fun e w' => e = .returned (.tuple #[.bool false, .int .i64 1]) ∧ Off (fun _ => False) w w' := by
  have hq := eql_sto
  have HO : Hid (Off (fun _ => False) w (w.alloc (.cells #[.int .i64 (f 0), .int .i64 (f 1), .int .i64 (f 2), .int .i64 (f 3), .int .i64 (f 4), .int .i64 (f 5), .int .i64 (f 6), .int .i64 (f 7), .slice a n c] 47))) := (Off.refl _ w).alloc _
  go_enter Tryz.func24, Tryz.ntmps24
  go_wp2_with fail
  go_ret2
  exact ⟨rfl, HO.out⟩
set_option maxRecDepth 100000 in
set_option maxHeartbeats 2000000 in
theorem nreap_any (key : ByteArray) (w : World) : Calls Tryz.prog 25 #[.pointer none, .string key] w fun e w' => e = .returned (.tuple #[.bool false, .int .i64 1]) ∧ Off (fun _ => False) w w' := by
  have hq := eql_sto
  go_enter Tryz.func25, Tryz.ntmps25
  go_wp2_with fail
  go_ret2
  exact ⟨rfl, Off.refl _ w⟩
set_option maxRecDepth 100000 in
set_option maxHeartbeats 2000000 in
theorem nget_any (key : ByteArray) (w : World) : Calls Tryz.prog 26 #[.pointer none, .string key] w fun e w' => e = .returned (.tuple #[(.agg #[.int .i64 0, .int .i64 0, .int .i64 0, .int .i64 0, .int .i64 0, .int .i64 0, .int .i64 0, .int .i64 0, .slice none 0 0]), .bool false]) ∧ Off (fun _ => False) w w' := by
  have hq := eql_sto
  obtain ⟨W, hW⟩ : ∃ W, W = (w.alloc (.cells #[.int .i64 0, .int .i64 0, .int .i64 0, .int .i64 0, .int .i64 0, .int .i64 0, .int .i64 0, .int .i64 0, .slice none 0 0] 47)) := ⟨_, rfl⟩
  have O : Off (fun _ => False) w W := by rw [hW]; exact (Off.refl _ w).alloc _
  have C : Cel (w.heap.size) 47 #[.int .i64 (zer 0), .int .i64 (zer 1), .int .i64 (zer 2), .int .i64 (zer 3), .int .i64 (zer 4), .int .i64 (zer 5), .int .i64 (zer 6), .int .i64 (zer 7), .slice none 0 0] W := by rw [hW]; exact Cel.new w _ _
  obtain ⟨z0, z1, z2, z3, z4, z5, z6, z7, z8⟩ := cel9 C
  have fr := C.free
  have HC : Hid _ := C
  have HO : Hid _ := O
  have HW : Hid _ := hW
  clear C O hW
  go_enter Tryz.func26, Tryz.ntmps26
  go_upto_region 1 with fail
  rw [show (w.alloc (.cells #[.int .i64 0, .int .i64 0, .int .i64 0, .int .i64 0, .int .i64 0, .int .i64 0, .int .i64 0, .int .i64 0, .slice none 0 0] 47)) = W from HW.out.symm]
  go_wp2_with fail
  refine bodyPost_ret (results_err9 rfl rfl rfl HC.out.clr9) rfl ?_
  exact ⟨rfl, HO.out.clr9 (.inr (by omega))⟩
set_option maxRecDepth 100000 in
set_option maxHeartbeats 2000000 in
theorem nhint_any  (w : World) : Calls Tryz.prog 27 #[.pointer none, (.agg #[.int .i64 0, .string ⟨#[]⟩, .int .i64 0, .int .i64 0, .int .i64 0, .int .i64 0, .int .i64 0, .int .i64 0, .int .i64 0, .int .i64 0, .slice none 0 0])] w fun e w' => e = .returned (.int .i64 1) ∧ Off (fun _ => False) w w' := by
  have hq := eql_sto
  have HO : Hid (Off (fun _ => False) w (w.alloc (.cells #[.int .i64 0, .string ⟨#[]⟩, .int .i64 0, .int .i64 0, .int .i64 0, .int .i64 0, .int .i64 0, .int .i64 0, .int .i64 0, .int .i64 0, .slice none 0 0] 75))) := (Off.refl _ w).alloc _
  go_enter Tryz.func27, Tryz.ntmps27
  go_wp2_with fail
  go_ret
  exact ⟨rfl, HO.out⟩
set_option maxRecDepth 100000 in
set_option maxHeartbeats 2000000 in
theorem nall_any  (w : World) : Calls Tryz.prog 28 #[.pointer none] w fun e w' => e = .returned (.slice none 0 0) ∧ Off (fun _ => False) w w' := by
  have hq := eql_sto
  go_enter Tryz.func28, Tryz.ntmps28
  go_wp2_with fail
  go_ret
  exact ⟨rfl, Off.refl _ w⟩
set_option maxRecDepth 100000 in
set_option maxHeartbeats 2000000 in
theorem nbucket_any (b : Int) (w : World) : Calls Tryz.prog 29 #[.pointer none, .int .i64 b] w fun e w' => e = .returned (.slice none 0 0) ∧ Off (fun _ => False) w w' := by
  have hq := eql_sto
  go_enter Tryz.func29, Tryz.ntmps29
  go_wp2_with fail
  go_ret
  exact ⟨rfl, Off.refl _ w⟩
set_option maxRecDepth 100000 in
set_option maxHeartbeats 2000000 in
theorem nhints_any  (w : World) : Calls Tryz.prog 30 #[.pointer none] w fun e w' => e = .returned (.slice none 0 0) ∧ Off (fun _ => False) w w' := by
  have hq := eql_sto
  go_enter Tryz.func30, Tryz.ntmps30
  go_wp2_with fail
  go_ret
  exact ⟨rfl, Off.refl _ w⟩
set_option maxRecDepth 100000 in
set_option maxHeartbeats 2000000 in
theorem nrecs_any  (w : World) : Calls Tryz.prog 31 #[.pointer none] w fun e w' => e = .returned (.int .i64 0) ∧ Off (fun _ => False) w w' := by
  have hq := eql_sto
  go_enter Tryz.func31, Tryz.ntmps31
  go_wp2_with fail
  go_ret
  exact ⟨rfl, Off.refl _ w⟩
set_option maxRecDepth 100000 in
set_option maxHeartbeats 2000000 in
theorem nil_walk (x : C) (w : World) : Calls Tryz.prog 5 #[(.agg #[.int .i64 x.d, .int .i64 x.node, .string x.key, .int .i64 (x.g 0), .int .i64 (x.g 1), .int .i64 (x.g 2), .int .i64 (x.g 3), .int .i64 (x.g 4), .int .i64 (x.g 5), .int .i64 (x.g 6), .int .i64 (x.g 7), .slice x.da x.data.length x.dc, .bool x.dead, .int .i64 (x.f 0), .int .i64 (x.f 1), .int .i64 (x.f 2), .int .i64 (x.f 3), .int .i64 (x.f 4), .int .i64 (x.f 5), .int .i64 (x.f 6), .int .i64 (x.f 7), .slice x.a x.l.length x.cap])] w fun e w' => e = .returned (.bool true) ∧ Off (fun _ => False) w w' := by
  have hq := eql_sto
  obtain ⟨W, hW⟩ : ∃ W, W = (w.alloc (.cells #[.int .i64 x.d, .int .i64 x.node, .string x.key, .int .i64 (x.g 0), .int .i64 (x.g 1), .int .i64 (x.g 2), .int .i64 (x.g 3), .int .i64 (x.g 4), .int .i64 (x.g 5), .int .i64 (x.g 6), .int .i64 (x.g 7), .slice x.da x.data.length x.dc, .bool x.dead, .int .i64 (x.f 0), .int .i64 (x.f 1), .int .i64 (x.f 2), .int .i64 (x.f 3), .int .i64 (x.f 4), .int .i64 (x.f 5), .int .i64 (x.f 6), .int .i64 (x.f 7), .slice x.a x.l.length x.cap] 49)) := ⟨_, rfl⟩
  have O : Off (fun _ => False) w W := by rw [hW]; exact (Off.refl _ w).alloc _
  have C : Cel w.heap.size 49 #[.int .i64 x.d, .int .i64 x.node, .string x.key, .int .i64 (x.g 0), .int .i64 (x.g 1), .int .i64 (x.g 2), .int .i64 (x.g 3), .int .i64 (x.g 4), .int .i64 (x.g 5), .int .i64 (x.g 6), .int .i64 (x.g 7), .slice x.da x.data.length x.dc, .bool x.dead, .int .i64 (x.f 0), .int .i64 (x.f 1), .int .i64 (x.f 2), .int .i64 (x.f 3), .int .i64 (x.f 4), .int .i64 (x.f 5), .int .i64 (x.f 6), .int .i64 (x.f 7), .slice x.a x.l.length x.cap] W := by rw [hW]; exact Cel.new w _ _
  obtain ⟨u0, u1, u2, u3, u4, u5, u6, u7, u8, u9, u10, u11, u12, u13, u14, u15, u16, u17, u18, u19, u20, u21⟩ := cel22 C
  have H0C : Hid _ := C
  have H0O : Hid _ := O
  have HW : Hid _ := hW
  clear C O hW
  go_enter Tryz.func5, Tryz.ntmps5
  go_upto_region 1 with fail
  rw [show (w.alloc (.cells #[.int .i64 x.d, .int .i64 x.node, .string x.key, .int .i64 (x.g 0), .int .i64 (x.g 1), .int .i64 (x.g 2), .int .i64 (x.g 3), .int .i64 (x.g 4), .int .i64 (x.g 5), .int .i64 (x.g 6), .int .i64 (x.g 7), .slice x.da x.data.length x.dc, .bool x.dead, .int .i64 (x.f 0), .int .i64 (x.f 1), .int .i64 (x.f 2), .int .i64 (x.f 3), .int .i64 (x.f 4), .int .i64 (x.f 5), .int .i64 (x.f 6), .int .i64 (x.f 7), .slice x.a x.l.length x.cap] 49)) = W from HW.out.symm]
  go_wp2_with fail
  clear u0 u1 u2 u3 u4 u5 u6 u7 u8 u9 u10 u11 u12 u13 u14 u15 u16 u17 u18 u19 u20 u21
  refine (nput_any x.node x.key x.g _ x.dead _).mono ?_
  rintro e w1 ⟨rfl, o1⟩
  go_upto_region 3 with fail
  have OB : Off (fun _ => False) w1 (w1.alloc (.cells #[.int .i64 0, .int .i64 0, .int .i64 0, .int .i64 0, .int .i64 0, .int .i64 0, .int .i64 0, .int .i64 0, .slice none 0 0] 47)) := (Off.refl _ w1).alloc _
  generalize hv : w1.alloc (.cells #[.int .i64 0, .int .i64 0, .int .i64 0, .int .i64 0, .int .i64 0, .int .i64 0, .int .i64 0, .int .i64 0, .slice none 0 0] 47) = V1 at OB ⊢
  generalize hqq : w1.heap.size = q1
  clear hv hqq
  have OO := o1.trans OB (fun _ _ h => h)
  clear o1 OB
  have H1C : Hid _ := H0C.out.off OO (fun h => h)
  have H1O : Hid _ := H0O.out.trans OO (fun _ _ h => h)
  clear OO
  obtain ⟨u0, u1, u2, u3, u4, u5, u6, u7, u8, u9, u10, u11, u12, u13, u14, u15, u16, u17, u18, u19, u20, u21⟩ := cel22 H1C.out
  go_wp2_with fail
  clear u0 u1 u2 u3 u4 u5 u6 u7 u8 u9 u10 u11 u12 u13 u14 u15 u16 u17 u18 u19 u20 u21
  refine (njoin_any x.key _).mono ?_
  rintro e w2 ⟨rfl, OO⟩
  have H2C : Hid _ := H1C.out.off OO (fun h => h)
  have H2O : Hid _ := H1O.out.trans OO (fun _ _ h => h)
  clear OO
  obtain ⟨u0, u1, u2, u3, u4, u5, u6, u7, u8, u9, u10, u11, u12, u13, u14, u15, u16, u17, u18, u19, u20, u21⟩ := cel22 H2C.out
  go_wp2_with fail
  clear u0 u1 u2 u3 u4 u5 u6 u7 u8 u9 u10 u11 u12 u13 u14 u15 u16 u17 u18 u19 u20 u21
  refine (nunhint_any x.node x.key x.f x.a x.l.length x.cap _).mono ?_
  rintro e w3 ⟨rfl, OO⟩
  have H3C : Hid _ := H2C.out.off OO (fun h => h)
  have H3O : Hid _ := H2O.out.trans OO (fun _ _ h => h)
  clear OO
  obtain ⟨u0, u1, u2, u3, u4, u5, u6, u7, u8, u9, u10, u11, u12, u13, u14, u15, u16, u17, u18, u19, u20, u21⟩ := cel22 H3C.out
  go_wp2_with fail
  clear u0 u1 u2 u3 u4 u5 u6 u7 u8 u9 u10 u11 u12 u13 u14 u15 u16 u17 u18 u19 u20 u21
  refine (nreap_any x.key _).mono ?_
  rintro e w4 ⟨rfl, OO⟩
  have H4C : Hid _ := H3C.out.off OO (fun h => h)
  have H4O : Hid _ := H3O.out.trans OO (fun _ _ h => h)
  clear OO
  obtain ⟨u0, u1, u2, u3, u4, u5, u6, u7, u8, u9, u10, u11, u12, u13, u14, u15, u16, u17, u18, u19, u20, u21⟩ := cel22 H4C.out
  go_wp2_with fail
  clear u0 u1 u2 u3 u4 u5 u6 u7 u8 u9 u10 u11 u12 u13 u14 u15 u16 u17 u18 u19 u20 u21
  refine (nget_any x.key _).mono ?_
  rintro e w5 ⟨rfl, o5⟩
  go_upto_region 7 with fail
  have OB : Off (fun _ => False) w5 (w5.alloc (.cells #[.int .i64 0, .int .i64 0, .int .i64 0, .int .i64 0, .int .i64 0, .int .i64 0, .int .i64 0, .int .i64 0, .slice none 0 0] 47)) := (Off.refl _ w5).alloc _
  generalize hv : w5.alloc (.cells #[.int .i64 0, .int .i64 0, .int .i64 0, .int .i64 0, .int .i64 0, .int .i64 0, .int .i64 0, .int .i64 0, .slice none 0 0] 47) = V5 at OB ⊢
  generalize hqq : w5.heap.size = q5
  clear hv hqq
  have OO := o5.trans OB (fun _ _ h => h)
  clear o5 OB
  have H5O : Hid _ := H4O.out.trans OO (fun _ _ h => h)
  clear OO
  go_wp2_with fail
  refine (lopen_nil _).mono ?_
  rintro e W6 ⟨rfl, hw⟩
  rw [hw]
  clear hw W6
  go_wp2_with fail
  refine (nhint_any _).mono ?_
  rintro e v6 ⟨rfl, o6⟩
  have H6O : Hid _ := H5O.out.trans o6 (fun _ _ h => h)
  clear o6
  go_wp2_with fail
  refine (nall_any _).mono ?_
  rintro e v7 ⟨rfl, o7⟩
  have H7O : Hid _ := H6O.out.trans o7 (fun _ _ h => h)
  clear o7
  go_wp2_with fail
  refine (nbucket_any 0 _).mono ?_
  rintro e v8 ⟨rfl, o8⟩
  have H8O : Hid _ := H7O.out.trans o8 (fun _ _ h => h)
  clear o8
  go_wp2_with fail
  refine (nhints_any _).mono ?_
  rintro e v9 ⟨rfl, o9⟩
  have H9O : Hid _ := H8O.out.trans o9 (fun _ _ h => h)
  clear o9
  go_wp2_with fail
  refine (nrecs_any _).mono ?_
  rintro e v10 ⟨rfl, o10⟩
  have H10O : Hid _ := H9O.out.trans o10 (fun _ _ h => h)
  clear o10
  go_wp2_with fail
  refine (awake_any _).mono ?_
  rintro e v11 ⟨rfl, o11⟩
  have H11O : Hid _ := H10O.out.trans o11 (fun _ _ h => h)
  clear o11
  go_wp2_with fail
  go_ret
  exact ⟨rfl, H11O.out⟩
end Go.Proofs.YthjbnpaghiojlaaGreat
