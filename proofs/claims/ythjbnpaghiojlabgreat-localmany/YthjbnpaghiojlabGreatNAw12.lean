/- Items of several texts. -/
import Derived.Lib.SlBytesConst
import Derived.Test.YthjbnpaghiojlabGreatNArg12
namespace Go.Proofs.YthjbnpaghiojlabGreat
open Go.RowKit
structure Lw (w0 : World) (p b most : Nat) (rs : List (List Nat)) (s : PS) (w : World) : Prop where
 ex : ∃ (lb : Nat) (D S : Nat → Prop), Hol D S p lb b most rs s w ∧ (∀ c, D c ∨ S c → w0.heap.size ≤ c)
 off : Off (fun _ => False) w0 w
theorem Lw.free {w0 : World} {p b most : Nat} {rs : List (List Nat)} {s : PS} {w w' : World} (h : Lw w0 p b most rs s w) (o : Off (fun _ => False) w w') : Lw w0 p b most rs s w' := by
 obtain ⟨lb, D, S, h1, h2⟩ := h.ex
 exact ⟨⟨lb, D, S, h1.free o, h2⟩, h.off.trans o (fun _ _ h => h)⟩
theorem Lw.inv {w0 : World} {p b most : Nat} {rs : List (List Nat)} {s : PS} {w : World} (h : Lw w0 p b most rs s w) : Inv rs s := by
 obtain ⟨lb, D, S, h1, h2⟩ := h.ex
 exact h1.inv
theorem Lw.mov {w0 : World} {p b most : Nat} {rs' : List (List Nat)} {s' : PS} {w w' : World} {lb : Nat} {D S D' S' : Nat → Prop} (h2 : ∀ c, D c ∨ S c → w0.heap.size ≤ c) (o : Off (fun _ => False) w0 w) (h1 : Hol D' S' p lb b most rs' s' w') (m : Mov D S D' S' w w') : Lw w0 p b most rs' s' w' := by
 obtain ⟨o', n'⟩ := m.new o h2
 exact ⟨⟨lb, D', S', h1, n'⟩, o'⟩
theorem ter_in {w0 : World} {D S : Nat → Prop} {a : Option Addr} {c : Nat} {l : List V} (hr : Row w0 a c l) (h2 : ∀ c, D c ∨ S c → w0.heap.size ≤ c) : Ter (fun c => ¬ D c ∧ ¬ S c) a l := hr.below.mono (fun x hx => ⟨fun e => by have := h2 x (.inl e); omega, fun e => by have := h2 x (.inr e); omega⟩)
def C.e (x : C) : E := ⟨x.key, x.f, x.a, x.cap, x.l⟩
structure Fil (w0 : World) (b most : Nat) (rs : List (List Nat)) (w : World) : Prop where
 ex : ∃ D, Dsk D b most (frs rs) (frs rs).length w ∧ (∀ c, D c → w0.heap.size ≤ c)
 off : Off (fun _ => False) w0 w
theorem Lw.fil {w0 : World} {p b most : Nat} {rs : List (List Nat)} {s : PS} {w : World} (h : Lw w0 p b most rs s w) : Fil w0 b most rs w := by
 obtain ⟨lb, D, S, h1, h2⟩ := h.ex
 obtain ⟨D0, k1, k2, -⟩ := h1.std.lg.dsk
 exact ⟨⟨D0, k1, fun c hc => h2 c (.inl (k2 c hc))⟩, h.off⟩
theorem keep_all (n : Nat) (k : Int) : keepN n n k = n := by
 unfold keepN
 rw [Nat.sub_self, Nat.zero_add, Nat.mod_one, Nat.add_zero]
theorem fnew_any (m : Int) (w : World) : Calls Tryz.prog 9 #[.int .i64 m] w fun e w' => ∃ b, e = .returned (.pointer (some ⟨b, 0, none⟩)) ∧ Fil w b (roomOf m) [] w' := by
 refine (dnew_any m w).mono ?_
 rintro e w' ⟨b, rfl, hb, k, o⟩
 exact ⟨b, rfl, ⟨⟨fun c => c = b, k, fun c hc => by rw [show c = b from hc]; exact hb⟩, o⟩⟩
theorem fcrash_any {w0 : World} {b most : Nat} {rs : List (List Nat)} {w : World} (h : Fil w0 b most rs w) (k : Int) :
  Calls Tryz.prog 24 #[.pointer (some ⟨b, 0, none⟩), .int .i64 k] w fun e w' => e = .returned (.tuple #[]) ∧ Fil w0 b most rs w' := by
 obtain ⟨D, h1, h2⟩ := h.ex
 refine (dcrash_any h1 k).mono ?_
 rintro e w' ⟨rfl, k1, o1⟩
 rw [keep_all, List.take_length] at k1
 exact ⟨rfl, ⟨⟨D, k1, h2⟩, ((h.off.mono (fun _ _ h => h.elim)).trans o1 (fun _ _ h => h)).mono (fun i hi e => by have := h2 i e; omega)⟩⟩
theorem fopen_any {w0 : World} {b most : Nat} {rs : List (List Nat)} {s : PS} {w : World} (h : Fil w0 b most rs w) (hi : Inv rs s) :
  Calls Tryz.prog 10 #[.pointer (some ⟨b, 0, none⟩)] w fun e w' => ∃ p, e = .returned (.tuple #[.pointer (some ⟨p, 0, none⟩), .int .i64 0]) ∧ Lw w0 p b most rs s w' := by
 obtain ⟨D, h1, h2⟩ := h.ex
 refine (lopen_any (xs := []) (by rw [List.append_nil]; exact h1) tk_nil (by simp) (fun _ => rfl) hi.rec_).mono ?_
 rintro e w' ⟨q, er, rfl, op⟩
 rcases op.is with ⟨s', p, hr, rfl, rfl, ⟨lb, D', S', hol, o, n1, n2⟩⟩ | ⟨hr, -⟩
 ·rw [hi.run] at hr
  obtain rfl : s = s' := Option.some.inj hr
  have hsz := h.off.size
  refine ⟨p, rfl, ⟨⟨lb, D', S', hol, fun c hc => ?_⟩, ((h.off.mono (fun _ _ h => h.elim)).trans o (fun _ _ h => h)).mono (fun i hi e => by have := h2 i e; omega)⟩⟩
  rcases hc with hc | hc
  ·rcases n1 c hc with e | e
   ·exact h2 c e
   ·omega
  ·have := n2 c hc
   omega
 ·rw [hi.run] at hr
  cases hr
theorem wget_any {w0 : World} {p b most : Nat} {rs : List (List Nat)} {s : PS} {w : World} (h : Lw w0 p b most rs s w) (key : ByteArray) (hk : key.size ≤ 9223372036854775807) :
  Calls Tryz.prog 25 #[.pointer (some ⟨p, 0, none⟩), .string key] w fun e w' => ∃ (f : Nat → Int) (a : Option Addr) (c : Nat) (l : List V), e = .returned (.tuple #[.agg #[.int .i64 (f 0), .int .i64 (f 1), .int .i64 (f 2), .int .i64 (f 3), .int .i64 (f 4), .int .i64 (f 5), .int .i64 (f 6), .int .i64 (f 7), .slice a l.length c], .bool (fndG K.key key s.1).isSome]) ∧ f = (getK s.1 key).f ∧ cont l = (getK s.1 key).l ∧ Row w' a c l ∧ Far w.heap.size a l ∧ Off (fun _ => False) w w' := by
 obtain ⟨lb, D, S, h1, h2⟩ := h.ex
 refine (lget_any h1.cor key hk).mono ?_
 rintro e w' h
 exact h
theorem wall_any {w0 : World} {p b most : Nat} {rs : List (List Nat)} {s : PS} {w : World} (h : Lw w0 p b most rs s w)  :
  Calls Tryz.prog 14 #[.pointer (some ⟨p, 0, none⟩)] w fun e w' => ∃ (a : Option Addr) (c : Nat) (es : List E), e = .returned (.slice a es.length c) ∧ absE es = s.1 ∧ OwnG 47 10 ecs w' a c es ∧ (∀ e ∈ es, Row w' e.a e.cap e.l ∧ Far w.heap.size e.a e.l) ∧ (∀ x, blk a = some x → w.heap.size ≤ x) ∧ Off (fun _ => False) w w' := by
 obtain ⟨lb, D, S, h1, h2⟩ := h.ex
 refine (lall_any h1.cor).mono ?_
 rintro e w' h
 exact h
theorem whints_any {w0 : World} {p b most : Nat} {rs : List (List Nat)} {s : PS} {w : World} (h : Lw w0 p b most rs s w)  :
  Calls Tryz.prog 16 #[.pointer (some ⟨p, 0, none⟩)] w fun e w' => ∃ (a : Option Addr) (c : Nat) (ys : List H), e = .returned (.slice a ys.length c) ∧ absH ys = s.2 ∧ OwnG 51 11 hcs w' a c ys ∧ (∀ y ∈ ys, Row w' y.e.a y.e.cap y.e.l) ∧ (∀ y ∈ ys, Ter (fun c => w.heap.size ≤ c) y.e.a y.e.l) ∧ (∀ c, blk a = some c → w.heap.size ≤ c) ∧ Off (fun _ => False) w w' := by
 obtain ⟨lb, D, S, h1, h2⟩ := h.ex
 refine (lhints_any h1.cor).mono ?_
 rintro e w' h
 exact h
theorem wrecs_any {w0 : World} {p b most : Nat} {rs : List (List Nat)} {s : PS} {w : World} (h : Lw w0 p b most rs s w)  :
  Calls Tryz.prog 17 #[.pointer (some ⟨p, 0, none⟩)] w fun e w' => e = .returned (.int .i64 ((rs.length : Nat) : Int)) ∧ w' = w := by
 obtain ⟨lb, D, S, h1, h2⟩ := h.ex
 obtain ⟨tp, tb, hp, T, H, t, xs, c0, -⟩ := h1.cor.is
 refine (lrecs_any c0 h1.std.lg.log).mono ?_
 rintro e w' h
 exact h
def awK : K := (⟨⟨#[107]⟩, withV zer 0 1, [dot1 0 120]⟩ : K)
theorem aw_putK : putK ([], []) 0 ⟨#[107]⟩ zer [120] false = awK := by
 obtain ⟨-, h2, h3⟩ := put_one (n := 0) (by decide) 120
 have hz : getK ([] : List K) ⟨#[107]⟩ = ⟨⟨#[107]⟩, zer, []⟩ := rfl
 unfold putK
 simp only [hz]
 rw [h2, h3]
 rfl
theorem aw_putC : putC ([], []) 0 ⟨#[107]⟩ zer [120] false = 0 := by
 obtain ⟨h1, -, -⟩ := put_one (n := 0) (by decide) 120
 have hz : getK ([] : List K) ⟨#[107]⟩ = ⟨⟨#[107]⟩, zer, []⟩ := rfl
 unfold putC
 simp only [hz]
 rw [h1]
 rfl
theorem aw_okK : OkK awK := by
 rw [← aw_putK]
 exact put_okK OkP.nil nrm_zer (by simp) (by simp) aw_putC
theorem aw_len : (enc ⟨1, 0, awK⟩).length ≤ 900 := by decide +kernel
theorem aw_putA : putA 1000 [] ([], []) 0 ⟨#[107]⟩ zer [120] false = ⟨0, [enc ⟨1, 0, awK⟩], ([awK], [])⟩ := by
 have hd := put_do OkP.nil (by rw [aw_putK]; exact aw_okK) aw_putC
 rw [aw_putK] at hd
 have hl := aw_len
 have e0 : layE 1000 [] ([], []) (enc ⟨1, 0, awK⟩) = 0 := by
  unfold layE
  rw [if_pos (by simp [frs]; omega)]
 have e1 : layL 1000 [] ([], []) (enc ⟨1, 0, awK⟩) = [enc ⟨1, 0, awK⟩] := by
  unfold layL
  rw [if_pos (by simp [frs]; omega)]
  rfl
 unfold putA
 rw [if_pos aw_putC, aw_putK]
 unfold chA chE chL chS chE
 rw [e0, e1, if_pos rfl, hd]
 rfl
theorem aw_get : getK [awK] ⟨#[107]⟩ = awK ∧ (fndG K.key ⟨#[107]⟩ [awK]).isSome = true := ⟨rfl, rfl⟩
theorem one_cont {l : List V} {x : A} (h : cont l = [x]) : ∃ v : V, l = [v] ∧ v.abs = x := by
 match l, h with
 | [v], h => exact ⟨v, rfl, by simpa [cont] using h⟩
set_option maxRecDepth 100000 in
set_option maxHeartbeats 2000000 in
theorem awake_any (w : World) : Calls Tryz.prog 8 #[] w fun e w' => e = .returned (.bool true) ∧ Off (fun _ => False) w w' := by
 have hq := eql_sto
 have hcv := fun (w : World) (C : Array Value) (n c : Nat) => Lib.run_convert_bytes_const (P := Tryz.prog) w 32 5 C n c Tryz.underlying32 Tryz.underlying5
 go_enter Tryz.func8, Tryz.ntmps8
 go_wp2_with fail
 refine (fnew_any 1000 w).mono ?_
 rintro e w1 ⟨b, rfl, fl⟩
 rw [show roomOf 1000 = 1000 from rfl] at fl
 have HF : Hid _ := fl
 clear fl
 go_wp2_with fail
 refine (fopen_any HF.out Inv.nil).mono ?_
 rintro e w2 ⟨p, rfl, lw⟩
 have HL : Hid _ := lw
 clear lw
 have HPUT : Hid (Calls Tryz.prog 23 #[.pointer (some ⟨p, 0, none⟩), .int .i64 0, .string ⟨#[107]⟩, .agg #[.int .i64 0, .int .i64 0, .int .i64 0, .int .i64 0, .int .i64 0, .int .i64 0, .int .i64 0, .int .i64 0], .slice (some ⟨w2.heap.size, 0, none⟩) 1 1, .bool false] (w2.alloc (.cells #[.int .u8 120] 5 (1, 2))) fun e w' => ∃ (f : Nat → Int) (a : Option Addr) (c : Nat) (l : List V), e = .returned (.tuple #[.agg #[.int .i64 (f 0), .int .i64 (f 1), .int .i64 (f 2), .int .i64 (f 3), .int .i64 (f 4), .int .i64 (f 5), .int .i64 (f 6), .int .i64 (f 7), .slice a l.length c], .int .i64 0]) ∧ Lw w p b 1000 [enc ⟨1, 0, awK⟩] ([awK], []) w') := by
  show Calls _ _ _ _ _
  have OA : Off (fun _ => False) w2 (w2.alloc (.cells #[.int .u8 120] 5 (1, 2))) := (Off.refl _ w2).alloc _
  obtain ⟨lb, D, S, h1, h2⟩ := (HL.out.free OA).ex
  have hs := src_mark w2 120 120 rfl (1, 2)
  refine (lput_any h1 0 (by decide) ⟨#[107]⟩ (by decide) zer nrm_zer (some ⟨w2.heap.size, 0, none⟩) 1 [120] false hs (by simp) (by simp)).mono ?_
  rw [aw_putA]
  rintro e w' ⟨f, a, c, l, rfl, -, -, -, -, D', S', hol, mv⟩
  exact ⟨f, a, c, l, rfl, Lw.mov h2 (HL.out.free OA).off hol mv⟩
 go_wp2_with fail
 refine Calls.mono HPUT.out ?_
 rintro e w3 ⟨f3, a3, c3, l3, rfl, lw⟩
 have HL3 : Hid _ := lw
 clear lw HPUT
 go_wp2_with fail
 refine (fcrash_any HL3.out.fil 0).mono ?_
 rintro e w4 ⟨rfl, fl⟩
 have HF4 : Hid _ := fl
 clear fl
 go_wp2_with fail
 refine (fopen_any HF4.out HL3.out.inv).mono ?_
 rintro e w5 ⟨p5, rfl, lw⟩
 have HL5 : Hid _ := lw
 clear lw
 go_wp2_with fail
 refine (wget_any HL5.out ⟨#[107]⟩ (by decide)).mono ?_
 rw [aw_get.1, aw_get.2]
 rintro e w6 ⟨f, a, c, l, rfl, hf, hl, row, far, o6⟩
 obtain ⟨v, rfl, hv⟩ := one_cont hl
 obtain ⟨bb, off, rfl, k, -⟩ := row.at_ 0 v rfl
 rw [Nat.zero_mul, Nat.add_zero] at k
 have hn : v.node = 0 := congrArg A.node hv
 have hm : v.num = 1 := congrArg A.num hv
 have kc0 := k.c0
 have kc1 := k.c1
 rw [hn] at kc0
 rw [hm] at kc1
 have HO6 : Hid (Off (fun _ => False) w w6) := HL5.out.off.trans o6 (fun _ _ h => h)
 clear hf hl hv row far o6 k hn hm
 go_upto_region 9 with fail
 have CQ := Cel.new w6 45 #[.int .i64 (f 0), .int .i64 (f 1), .int .i64 (f 2), .int .i64 (f 3), .int .i64 (f 4), .int .i64 (f 5), .int .i64 (f 6), .int .i64 (f 7), .slice (some ⟨bb, off, none⟩) 1 c]
 have OA : Off (fun _ => False) w6 (w6.alloc (.cells #[.int .i64 (f 0), .int .i64 (f 1), .int .i64 (f 2), .int .i64 (f 3), .int .i64 (f 4), .int .i64 (f 5), .int .i64 (f 6), .int .i64 (f 7), .slice (some ⟨bb, off, none⟩) 1 c] 45)) := (Off.refl _ w6).alloc _
 have q0 : (w6.alloc (.cells #[.int .i64 (f 0), .int .i64 (f 1), .int .i64 (f 2), .int .i64 (f 3), .int .i64 (f 4), .int .i64 (f 5), .int .i64 (f 6), .int .i64 (f 7), .slice (some ⟨bb, off, none⟩) 1 c] 45)).cell? ⟨bb, off, none⟩ = some (.int .i64 0) := by
  rw [← kc0]
  exact World.cell?_of_block (a := ⟨bb, off, none⟩) (OA.block bb (cell_lt kc0) (fun h => h))
 have q1 : (w6.alloc (.cells #[.int .i64 (f 0), .int .i64 (f 1), .int .i64 (f 2), .int .i64 (f 3), .int .i64 (f 4), .int .i64 (f 5), .int .i64 (f 6), .int .i64 (f 7), .slice (some ⟨bb, off, none⟩) 1 c] 45)).cell? ⟨bb, off + 1, none⟩ = some (.int .i64 1) := by
  rw [← kc1]
  exact World.cell?_of_block (a := ⟨bb, off + 1, none⟩) (OA.block bb (cell_lt kc0) (fun h => h))
 have c8 : (w6.alloc (.cells #[.int .i64 (f 0), .int .i64 (f 1), .int .i64 (f 2), .int .i64 (f 3), .int .i64 (f 4), .int .i64 (f 5), .int .i64 (f 6), .int .i64 (f 7), .slice (some ⟨bb, off, none⟩) 1 c] 45)).cell? ⟨w6.heap.size, 8, none⟩ = some (.slice (some ⟨bb, off, none⟩) 1 c) := CQ.cell 8
 have HO7 : Hid _ := HO6.out.trans OA (fun _ _ h => h)
 generalize hv : w6.alloc (.cells #[.int .i64 (f 0), .int .i64 (f 1), .int .i64 (f 2), .int .i64 (f 3), .int .i64 (f 4), .int .i64 (f 5), .int .i64 (f 6), .int .i64 (f 7), .slice (some ⟨bb, off, none⟩) 1 c] 45) = V at q0 q1 c8 HO7 ⊢
 generalize hqq : w6.heap.size = q at c8 ⊢
 clear hv hqq CQ OA kc0 kc1
 go_wp2_with fail
 go_ret
 exact ⟨rfl, HO7.out⟩
end Go.Proofs.YthjbnpaghiojlabGreat
