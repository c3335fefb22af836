/- Items of several texts. -/
import Derived.Lib.SlBytesConst
import Derived.Deep.CutBlock
import Derived.Test.YthjbnpaghiojlaaGreatQGSame
import Derived.Test.YthjbnpaghiojlaaGreatQRun
import Derived.Test.YthjbnpaghiojlaaGreatQArg12
namespace Go.Proofs.YthjbnpaghiojlaaGreat
open Go.RowKit
structure Lw (w0 : World) (p b most : Nat) (rs : List (List Nat)) (s : PS) (w : World) : Prop where
 ex : ∃ (lb : Nat) (D S : Nat → Prop), Hol D S p lb b most rs s w ∧ (∀ c, D c ∨ S c → w0.heap.size ≤ c)
 off : Off (fun _ => False) w0 w
theorem Lw.free {w0 : World} {p b most : Nat} {rs : List (List Nat)} {s : PS} {w w' : World} (h : Lw w0 p b most rs s w) (o : Off (fun _ => False) w w') : Lw w0 p b most rs s w' := by
 obtain ⟨lb, D, S, h1, h2⟩ := h.ex
 exact ⟨⟨lb, D, S, h1.free o, h2⟩, h.off.trans o (fun _ _ h => h)⟩
theorem Lw.inv {w0 : World} {p b most : Nat} {rs : List (List Nat)} {s : PS} {w : World} (h : Lw w0 p b most rs s w) : Inv rs s := by
 obtain ⟨lb, D, S, h1, h2⟩ := h.ex
 exact h1.inv
theorem Lw.mov {w0 : World} {p b most : Nat} {rs' : List (List Nat)} {s' : PS} {w w' : World} {lb : Nat} {D S D' S' : Nat → Prop} (h2 : ∀ c, D c ∨ S c → w0.heap.size ≤ c) (o : Off (fun _ => False) w0 w) (h1 : Hol D' S' p lb b most rs' s' w') (m : Mov D S D' S' w w') : Lw w0 p b most rs' s' w' := by
 obtain ⟨o', n'⟩ := m.new o h2
 exact ⟨⟨lb, D', S', h1, n'⟩, o'⟩
theorem ter_in {w0 : World} {D S : Nat → Prop} {a : Option Addr} {c : Nat} {l : List V} (hr : Row w0 a c l) (h2 : ∀ c, D c ∨ S c → w0.heap.size ≤ c) : Ter (fun c => ¬ D c ∧ ¬ S c) a l := hr.below.mono (fun x hx => ⟨fun e => by have := h2 x (.inl e); omega, fun e => by have := h2 x (.inr e); omega⟩)
def C.e (x : C) : E := ⟨x.key, x.f, x.a, x.cap, x.l⟩
structure Fil (w0 : World) (b most : Nat) (rs : List (List Nat)) (w : World) : Prop where
 ex : ∃ D, Dsk D b most (frs rs) (frs rs).length w ∧ (∀ c, D c → w0.heap.size ≤ c)
 off : Off (fun _ => False) w0 w
theorem Lw.fil {w0 : World} {p b most : Nat} {rs : List (List Nat)} {s : PS} {w : World} (h : Lw w0 p b most rs s w) : Fil w0 b most rs w := by
 obtain ⟨lb, D, S, h1, h2⟩ := h.ex
 obtain ⟨D0, k1, k2, -⟩ := h1.std.lg.dsk
 exact ⟨⟨D0, k1, fun c hc => h2 c (.inl (k2 c hc))⟩, h.off⟩
theorem keep_all (n : Nat) (k : Int) : keepN n n k = n := by
 unfold keepN
 rw [Nat.sub_self, Nat.zero_add, Nat.mod_one, Nat.add_zero]
theorem fnew_any (m : Int) (w : World) : Calls Tryz.prog 11 #[.int .i64 m] w fun e w' => ∃ b, e = .returned (.pointer (some ⟨b, 0, none⟩)) ∧ Fil w b (roomOf m) [] w' := by
 refine (dnew_any m w).mono ?_
 rintro e w' ⟨b, rfl, hb, k, o⟩
 exact ⟨b, rfl, ⟨⟨fun c => c = b, k, fun c hc => by rw [show c = b from hc]; exact hb⟩, o⟩⟩
theorem fcrash_any {w0 : World} {b most : Nat} {rs : List (List Nat)} {w : World} (h : Fil w0 b most rs w) (k : Int) :
  Calls Tryz.prog 14 #[.pointer (some ⟨b, 0, none⟩), .int .i64 k] w fun e w' => e = .returned (.tuple #[]) ∧ Fil w0 b most rs w' := by
 obtain ⟨D, h1, h2⟩ := h.ex
 refine (dcrash_any h1 k).mono ?_
 rintro e w' ⟨rfl, k1, o1⟩
 rw [keep_all, List.take_length] at k1
 exact ⟨rfl, ⟨⟨D, k1, h2⟩, ((h.off.mono (fun _ _ h => h.elim)).trans o1 (fun _ _ h => h)).mono (fun i hi e => by have := h2 i e; omega)⟩⟩
theorem fopen_any {w0 : World} {b most : Nat} {rs : List (List Nat)} {s : PS} {w : World} (h : Fil w0 b most rs w) (hi : Inv rs s) :
  Calls Tryz.prog 12 #[.pointer (some ⟨b, 0, none⟩)] w fun e w' => ∃ p, e = .returned (.tuple #[.pointer (some ⟨p, 0, none⟩), .int .i64 0]) ∧ Lw w0 p b most rs s w' := by
 obtain ⟨D, h1, h2⟩ := h.ex
 refine (lopen_any (xs := []) (by rw [List.append_nil]; exact h1) tk_nil (by simp) (fun _ => rfl) hi.rec_).mono ?_
 rintro e w' ⟨q, er, rfl, op⟩
 rcases op.is with ⟨s', p, hr, rfl, rfl, ⟨lb, D', S', hol, o, n1, n2⟩⟩ | ⟨hr, -⟩
 ·rw [hi.run] at hr
  obtain rfl : s = s' := Option.some.inj hr
  have hsz := h.off.size
  refine ⟨p, rfl, ⟨⟨lb, D', S', hol, fun c hc => ?_⟩, ((h.off.mono (fun _ _ h => h.elim)).trans o (fun _ _ h => h)).mono (fun i hi e => by have := h2 i e; omega)⟩⟩
  rcases hc with hc | hc
  ·rcases n1 c hc with e | e
   ·exact h2 c e
   ·omega
  ·have := n2 c hc
   omega
 ·rw [hi.run] at hr
  cases hr
theorem wget_any {w0 : World} {p b most : Nat} {rs : List (List Nat)} {s : PS} {w : World} (h : Lw w0 p b most rs s w) (key : ByteArray) (hk : key.size ≤ 9223372036854775807) :
  Calls Tryz.prog 26 #[.pointer (some ⟨p, 0, none⟩), .string key] w fun e w' => ∃ (f : Nat → Int) (a : Option Addr) (c : Nat) (l : List V), e = .returned (.tuple #[.agg #[.int .i64 (f 0), .int .i64 (f 1), .int .i64 (f 2), .int .i64 (f 3), .int .i64 (f 4), .int .i64 (f 5), .int .i64 (f 6), .int .i64 (f 7), .slice a l.length c], .bool (fndG K.key key s.1).isSome]) ∧ f = (getK s.1 key).f ∧ cont l = (getK s.1 key).l ∧ Row w' a c l ∧ Far w.heap.size a l ∧ Off (fun _ => False) w w' := by
 obtain ⟨lb, D, S, h1, h2⟩ := h.ex
 refine (lget_any h1.cor key hk).mono ?_
 rintro e w' h
 exact h
theorem wall_any {w0 : World} {p b most : Nat} {rs : List (List Nat)} {s : PS} {w : World} (h : Lw w0 p b most rs s w)  :
  Calls Tryz.prog 28 #[.pointer (some ⟨p, 0, none⟩)] w fun e w' => ∃ (a : Option Addr) (c : Nat) (es : List E), e = .returned (.slice a es.length c) ∧ absE es = s.1 ∧ OwnG 68 10 ecs w' a c es ∧ (∀ e ∈ es, Row w' e.a e.cap e.l ∧ Far w.heap.size e.a e.l) ∧ (∀ x, blk a = some x → w.heap.size ≤ x) ∧ Off (fun _ => False) w w' := by
 obtain ⟨lb, D, S, h1, h2⟩ := h.ex
 refine (lall_any h1.cor).mono ?_
 rintro e w' h
 exact h
theorem whints_any {w0 : World} {p b most : Nat} {rs : List (List Nat)} {s : PS} {w : World} (h : Lw w0 p b most rs s w)  :
  Calls Tryz.prog 30 #[.pointer (some ⟨p, 0, none⟩)] w fun e w' => ∃ (a : Option Addr) (c : Nat) (ys : List H), e = .returned (.slice a ys.length c) ∧ absH ys = s.2 ∧ OwnG 75 11 hcs w' a c ys ∧ (∀ y ∈ ys, Row w' y.e.a y.e.cap y.e.l) ∧ (∀ y ∈ ys, Ter (fun c => w.heap.size ≤ c) y.e.a y.e.l) ∧ (∀ c, blk a = some c → w.heap.size ≤ c) ∧ Off (fun _ => False) w w' := by
 obtain ⟨lb, D, S, h1, h2⟩ := h.ex
 refine (lhints_any h1.cor).mono ?_
 rintro e w' h
 exact h
def awK : K := (⟨⟨#[107]⟩, withV zer 0 1, [dot1 0 120]⟩ : K)
theorem aw_putK : putK ([], []) 0 ⟨#[107]⟩ zer [120] false = awK := by
 obtain ⟨-, h2, h3⟩ := put_one (n := 0) (by decide) 120
 have hz : getK ([] : List K) ⟨#[107]⟩ = ⟨⟨#[107]⟩, zer, []⟩ := rfl
 unfold putK
 simp only [hz]
 rw [h2, h3]
 rfl
theorem aw_putC : putC ([], []) 0 ⟨#[107]⟩ zer [120] false = 0 := by
 obtain ⟨h1, -, -⟩ := put_one (n := 0) (by decide) 120
 have hz : getK ([] : List K) ⟨#[107]⟩ = ⟨⟨#[107]⟩, zer, []⟩ := rfl
 unfold putC
 simp only [hz]
 rw [h1]
 rfl
theorem aw_okK : OkK awK := by
 rw [← aw_putK]
 exact put_okK OkP.nil nrm_zer (by simp) (by simp) aw_putC
theorem aw_len : (enc ⟨1, 0, awK⟩).length ≤ 900 := by decide +kernel
theorem aw_putA : putA 1000 [] ([], []) 0 ⟨#[107]⟩ zer [120] false = ⟨0, [enc ⟨1, 0, awK⟩], ([awK], [])⟩ := by
 have hd := put_do OkP.nil (by rw [aw_putK]; exact aw_okK) aw_putC
 rw [aw_putK] at hd
 have hl := aw_len
 have e0 : layE 1000 [] ([], []) (enc ⟨1, 0, awK⟩) = 0 := by
  unfold layE
  rw [if_pos (by simp [frs]; omega)]
 have e1 : layL 1000 [] ([], []) (enc ⟨1, 0, awK⟩) = [enc ⟨1, 0, awK⟩] := by
  unfold layL
  rw [if_pos (by simp [frs]; omega)]
  rfl
 unfold putA
 rw [if_pos aw_putC, aw_putK]
 unfold chA chE chL chS chE
 rw [e0, e1, if_pos rfl, hd]
 rfl
theorem aw_get : getK [awK] ⟨#[107]⟩ = awK ∧ (fndG K.key ⟨#[107]⟩ [awK]).isSome = true := ⟨rfl, rfl⟩
theorem one_cont {l : List V} {x : A} (h : cont l = [x]) : ∃ v : V, l = [v] ∧ v.abs = x := by
 match l, h with
 | [v], h => exact ⟨v, rfl, by simpa [cont] using h⟩
set_option maxRecDepth 100000 in
set_option maxHeartbeats 2000000 in
theorem awake_any (w : World) : Calls Tryz.prog 10 #[] w fun e w' => e = .returned (.bool true) ∧ Off (fun _ => False) w w' := by
 have hq := eql_sto
 have hcv := fun (w : World) (C : Array Value) (n c : Nat) => Lib.run_convert_bytes_const (P := Tryz.prog) w 44 5 C n c Tryz.underlying44 Tryz.underlying5
 go_enter Tryz.func10, Tryz.ntmps10
 go_wp2_with fail
 refine (fnew_any 1000 w).mono ?_
 rintro e w1 ⟨b, rfl, fl⟩
 rw [show roomOf 1000 = 1000 from rfl] at fl
 have HF : Hid _ := fl
 clear fl
 go_wp2_with fail
 refine (fopen_any HF.out Inv.nil).mono ?_
 rintro e w2 ⟨p, rfl, lw⟩
 have HL : Hid _ := lw
 clear lw
 have HPUT : Hid (Calls Tryz.prog 22 #[.pointer (some ⟨p, 0, none⟩), .int .i64 0, .string ⟨#[107]⟩, .agg #[.int .i64 0, .int .i64 0, .int .i64 0, .int .i64 0, .int .i64 0, .int .i64 0, .int .i64 0, .int .i64 0], .slice (some ⟨w2.heap.size, 0, none⟩) 1 1, .bool false] (w2.alloc (.cells #[.int .u8 120] 5 (1, 2))) fun e w' => ∃ (f : Nat → Int) (a : Option Addr) (c : Nat) (l : List V), e = .returned (.tuple #[.agg #[.int .i64 (f 0), .int .i64 (f 1), .int .i64 (f 2), .int .i64 (f 3), .int .i64 (f 4), .int .i64 (f 5), .int .i64 (f 6), .int .i64 (f 7), .slice a l.length c], .int .i64 0]) ∧ Lw w p b 1000 [enc ⟨1, 0, awK⟩] ([awK], []) w') := by
  show Calls _ _ _ _ _
  have OA : Off (fun _ => False) w2 (w2.alloc (.cells #[.int .u8 120] 5 (1, 2))) := (Off.refl _ w2).alloc _
  obtain ⟨lb, D, S, h1, h2⟩ := (HL.out.free OA).ex
  have hs := src_mark w2 120 120 rfl (1, 2)
  refine (lput_any h1 0 (by decide) ⟨#[107]⟩ (by decide) zer nrm_zer (some ⟨w2.heap.size, 0, none⟩) 1 [120] false hs (by simp) (by simp)).mono ?_
  rw [aw_putA]
  rintro e w' ⟨f, a, c, l, rfl, -, -, -, -, D', S', hol, mv⟩
  exact ⟨f, a, c, l, rfl, Lw.mov h2 (HL.out.free OA).off hol mv⟩
 go_wp2_with fail
 refine Calls.mono HPUT.out ?_
 rintro e w3 ⟨f3, a3, c3, l3, rfl, lw⟩
 have HL3 : Hid _ := lw
 clear lw HPUT
 go_wp2_with fail
 refine (fcrash_any HL3.out.fil 0).mono ?_
 rintro e w4 ⟨rfl, fl⟩
 have HF4 : Hid _ := fl
 clear fl
 go_wp2_with fail
 refine (fopen_any HF4.out HL3.out.inv).mono ?_
 rintro e w5 ⟨p5, rfl, lw⟩
 have HL5 : Hid _ := lw
 clear lw
 go_wp2_with fail
 refine (wget_any HL5.out ⟨#[107]⟩ (by decide)).mono ?_
 rw [aw_get.1, aw_get.2]
 rintro e w6 ⟨f, a, c, l, rfl, hf, hl, row, far, o6⟩
 obtain ⟨v, rfl, hv⟩ := one_cont hl
 obtain ⟨bb, off, rfl, k, -⟩ := row.at_ 0 v rfl
 rw [Nat.zero_mul, Nat.add_zero] at k
 have hn : v.node = 0 := congrArg A.node hv
 have hm : v.num = 1 := congrArg A.num hv
 have kc0 := k.c0
 have kc1 := k.c1
 rw [hn] at kc0
 rw [hm] at kc1
 have HO6 : Hid (Off (fun _ => False) w w6) := HL5.out.off.trans o6 (fun _ _ h => h)
 clear hf hl hv row far o6 k hn hm
 go_upto_region 9 with fail
 have CQ := Cel.new w6 47 #[.int .i64 (f 0), .int .i64 (f 1), .int .i64 (f 2), .int .i64 (f 3), .int .i64 (f 4), .int .i64 (f 5), .int .i64 (f 6), .int .i64 (f 7), .slice (some ⟨bb, off, none⟩) 1 c]
 have OA : Off (fun _ => False) w6 (w6.alloc (.cells #[.int .i64 (f 0), .int .i64 (f 1), .int .i64 (f 2), .int .i64 (f 3), .int .i64 (f 4), .int .i64 (f 5), .int .i64 (f 6), .int .i64 (f 7), .slice (some ⟨bb, off, none⟩) 1 c] 47)) := (Off.refl _ w6).alloc _
 have q0 : (w6.alloc (.cells #[.int .i64 (f 0), .int .i64 (f 1), .int .i64 (f 2), .int .i64 (f 3), .int .i64 (f 4), .int .i64 (f 5), .int .i64 (f 6), .int .i64 (f 7), .slice (some ⟨bb, off, none⟩) 1 c] 47)).cell? ⟨bb, off, none⟩ = some (.int .i64 0) := by
  rw [← kc0]
  exact World.cell?_of_block (a := ⟨bb, off, none⟩) (OA.block bb (cell_lt kc0) (fun h => h))
 have q1 : (w6.alloc (.cells #[.int .i64 (f 0), .int .i64 (f 1), .int .i64 (f 2), .int .i64 (f 3), .int .i64 (f 4), .int .i64 (f 5), .int .i64 (f 6), .int .i64 (f 7), .slice (some ⟨bb, off, none⟩) 1 c] 47)).cell? ⟨bb, off + 1, none⟩ = some (.int .i64 1) := by
  rw [← kc1]
  exact World.cell?_of_block (a := ⟨bb, off + 1, none⟩) (OA.block bb (cell_lt kc0) (fun h => h))
 have c8 : (w6.alloc (.cells #[.int .i64 (f 0), .int .i64 (f 1), .int .i64 (f 2), .int .i64 (f 3), .int .i64 (f 4), .int .i64 (f 5), .int .i64 (f 6), .int .i64 (f 7), .slice (some ⟨bb, off, none⟩) 1 c] 47)).cell? ⟨w6.heap.size, 8, none⟩ = some (.slice (some ⟨bb, off, none⟩) 1 c) := CQ.cell 8
 have HO7 : Hid _ := HO6.out.trans OA (fun _ _ h => h)
 generalize hv : w6.alloc (.cells #[.int .i64 (f 0), .int .i64 (f 1), .int .i64 (f 2), .int .i64 (f 3), .int .i64 (f 4), .int .i64 (f 5), .int .i64 (f 6), .int .i64 (f 7), .slice (some ⟨bb, off, none⟩) 1 c] 47) = V at q0 q1 c8 HO7 ⊢
 generalize hqq : w6.heap.size = q at c8 ⊢
 clear hv hqq CQ OA kc0 kc1
 go_wp2_with fail
 go_ret
 exact ⟨rfl, HO7.out⟩
end Go.Proofs.YthjbnpaghiojlaaGreat

namespace Go.Proofs.YthjbnpaghiojlaaGreat
open Go.RowKit
theorem cells_off {w w' : World} {b o : Nat} {e : E} (k : Off (fun _ => False) w w') (h : ∀ j u, (ecs e)[j]? = some u → w.cell? ⟨b, o + j, none⟩ = some u) : ∀ j u, (ecs e)[j]? = some u → w'.cell? ⟨b, o + j, none⟩ = some u := by
 intro j u hj
 have h1 := h j u hj
 rw [← h1]
 exact World.cell?_of_block (a := ⟨b, o + j, none⟩) (k.block b (cell_lt h1) (fun h => h))
theorem ent10 {w : World} {b o : Nat} {e : E} (h : ∀ j u, (ecs e)[j]? = some u → w.cell? ⟨b, o + j, none⟩ = some u) : w.cell? ⟨b, o, none⟩ = some (.string e.key) ∧ w.cell? ⟨b, o + 1, none⟩ = some (.int .i64 (e.f 0)) ∧ w.cell? ⟨b, o + 2, none⟩ = some (.int .i64 (e.f 1)) ∧ w.cell? ⟨b, o + 3, none⟩ = some (.int .i64 (e.f 2)) ∧ w.cell? ⟨b, o + 4, none⟩ = some (.int .i64 (e.f 3)) ∧ w.cell? ⟨b, o + 5, none⟩ = some (.int .i64 (e.f 4)) ∧ w.cell? ⟨b, o + 6, none⟩ = some (.int .i64 (e.f 5)) ∧ w.cell? ⟨b, o + 7, none⟩ = some (.int .i64 (e.f 6)) ∧ w.cell? ⟨b, o + 8, none⟩ = some (.int .i64 (e.f 7)) ∧ w.cell? ⟨b, o + 9, none⟩ = some (.slice e.a e.l.length e.cap) :=
 ⟨h 0 _ rfl, h 1 _ rfl, h 2 _ rfl, h 3 _ rfl, h 4 _ rfl, h 5 _ rfl, h 6 _ rfl, h 7 _ rfl, h 8 _ rfl, h 9 _ rfl⟩
theorem idx_ents {m n : Nat} (h : n < m) (c g o : Nat) (W : World) : (Instr.indexAt 33 (.slice (some ⟨g, o, none⟩) m c) (.int .i64 (n : Int))).run Tryz.prog W = .ok (.pointer (some ⟨g, o + n * 10, none⟩)) W := by
 go_simp
set_option maxRecDepth 100000 in
set_option maxHeartbeats 2000000 in
theorem sameents_any (a b : Option Addr) (ca cb : Nat) (xs ys : List E) (w : World) (h1 : Ent w a ca xs) (r1 : ∀ e ∈ xs, Row w e.a e.cap e.l) (h2 : Ent w b cb ys) (r2 : ∀ e ∈ ys, Row w e.a e.cap e.l) (he : absE xs = absE ys) (hl : xs.length ≤ 1000) :
  Calls Tryz.prog 32 #[.slice a xs.length ca, .slice b ys.length cb] w fun e w' => e = .returned (.bool true) ∧ Off (fun _ => False) w w' := by
 have hnot := not_any
 have hlen : ys.length = xs.length := by have := congrArg List.length he; rw [absE_len, absE_len] at this; exact this.symm
 have d0 : ((xs.length : Int) != (ys.length : Int)) = false := by rw [hlen]; simp
 have HLEN : Hid _ := hlen
 have H1 : Hid _ := h1
 have H2 : Hid _ := h2
 have R1 : Hid _ := r1
 have R2 : Hid _ := r2
 have HE : Hid _ := he
 clear h1 h2 r1 r2 he hlen
 go_enter Tryz.func32, Tryz.ntmps32
 go_wp2_with fail
 go_loopw [13] (fun y wr => ∃ i : Nat, y = .int .i64 (i : Int) ∧ i ≤ xs.length ∧ Off (fun _ => False) w wr) (fun y _ => (xs.length - intOf y).toNat)
 case atStart => exact ⟨0, rfl, by omega, Off.refl _ _⟩
 case round =>
  obtain ⟨i, rfl, hi, O⟩ := hrel
  have HO : Hid _ := O
  clear O
  by_cases hil : i < xs.length
  ·have i1 : decide ((i : Int) < (xs.length : Int)) = true := decide_eq_true (by omega)
   have i2 : decide (i < xs.length) = true := decide_eq_true hil
   have hil2 : i < ys.length := by have := HLEN.out; omega
   have hyl : ys.length ≤ 1000 := by have := HLEN.out; omega
   obtain ⟨x, hx⟩ : ∃ x, xs[i]? = some x := ⟨_, List.getElem?_eq_getElem hil⟩
   obtain ⟨y, hy⟩ : ∃ y, ys[i]? = some y := ⟨_, List.getElem?_eq_getElem hil2⟩
   have hab : x.abs = y.abs := by
    have := congrArg (fun z => z[i]?) HE.out
    simpa [absE, hx, hy] using this
   have HKEY : Hid (y.key = x.key) := (congrArg K.key hab).symm
   have HSM : Hid (sameS x.f y.f (cont x.l) (cont y.l) = true) := by
    have e0 : x.abs = y.abs := hab
    have e1 : x.f = y.f := congrArg K.f e0
    have e2 : cont x.l = cont y.l := congrArg K.l e0
    show _ = true
    rw [e1, e2]
    exact same_refl _ _
   obtain ⟨ba, oa, rfl, ka⟩ := H1.out.at_ i x hx
   obtain ⟨bb, ob, rfl, kb⟩ := H2.out.at_ i y hy
   have HKA : Hid _ := ka
   have HKB : Hid _ := kb
   have HRX : Hid _ := R1.out x (List.mem_of_getElem? hx)
   have HRY : Hid _ := R2.out y (List.mem_of_getElem? hy)
   clear ka kb hx hy hab
   go_upto_region 6 with fail
   refine wp_region_held_drew (S := fun w' => Off (fun _ => False) w w') (by kernel_rfl) HO.out.drew (fun hS => ?_)
   refine take_at (i := 0) 16 (v := .slice (some ⟨ba, oa, none⟩) xs.length ca) rfl rfl (by kernel_rfl) (by kernel_rfl) (by kernel_rfl) (fun _ _ _ h => h) (Or.inl ⟨by rfl, fun w' hw' => by go_simp⟩) hS ?_
   simp only [Act.put, lsA, lsZ, lsS]
   refine take_at (i := 1) 17 (v := .int .i64 (i : Int)) rfl rfl (by kernel_rfl) (by kernel_rfl) (by kernel_rfl) (fun _ _ _ h => h) (Or.inl ⟨by rfl, fun w' hw' => by go_simp⟩) hS ?_
   simp only [Act.put, lsA, lsZ, lsS]
   refine take_at (i := 2) 18 (v := .pointer (some ⟨ba, oa + i * 10, none⟩)) rfl rfl (by kernel_rfl) (by kernel_rfl) (by kernel_rfl) (fun _ _ _ h => h) (Or.inl ⟨by rfl, fun w' hw' => exec_idx10 rfl (idx_ents hil ca ba oa w')⟩) hS ?_
   simp only [Act.put, lsA, lsZ, lsS]
   refine take_at (i := 3) 19 (v := .pointer (some ⟨ba, oa + i * 10, none⟩)) rfl rfl (by kernel_rfl) (by kernel_rfl) (by kernel_rfl) (fun _ _ _ h => h) (Or.inl ⟨by rfl, fun w' hw' => by go_simp⟩) hS ?_
   simp only [Act.put, lsA, lsZ, lsS]
   refine take_at (i := 4) 20 (v := .string x.key) rfl rfl (by kernel_rfl) (by kernel_rfl) (by kernel_rfl) (fun _ _ _ h => h) (Or.inl ⟨by rfl, fun w' hw' => by obtain ⟨k0, k1, k2, k3, k4, k5, k6, k7, k8, k9⟩ := ent10 (cells_off hw' HKA.out); go_simp⟩) hS ?_
   simp only [Act.put, lsA, lsZ, lsS]
   refine take_at (i := 5) 21 (v := .slice (some ⟨bb, ob, none⟩) ys.length cb) rfl rfl (by kernel_rfl) (by kernel_rfl) (by kernel_rfl) (fun _ _ _ h => h) (Or.inl ⟨by rfl, fun w' hw' => by go_simp⟩) hS ?_
   simp only [Act.put, lsA, lsZ, lsS]
   refine take_at (i := 6) 22 (v := .int .i64 (i : Int)) rfl rfl (by kernel_rfl) (by kernel_rfl) (by kernel_rfl) (fun _ _ _ h => h) (Or.inl ⟨by rfl, fun w' hw' => by go_simp⟩) hS ?_
   simp only [Act.put, lsA, lsZ, lsS]
   refine take_at (i := 7) 23 (v := .pointer (some ⟨bb, ob + i * 10, none⟩)) rfl rfl (by kernel_rfl) (by kernel_rfl) (by kernel_rfl) (fun _ _ _ h => h) (Or.inl ⟨by rfl, fun w' hw' => exec_idx10 rfl (idx_ents hil2 cb bb ob w')⟩) hS ?_
   simp only [Act.put, lsA, lsZ, lsS]
   refine take_at (i := 8) 24 (v := .pointer (some ⟨bb, ob + i * 10, none⟩)) rfl rfl (by kernel_rfl) (by kernel_rfl) (by kernel_rfl) (fun _ _ _ h => h) (Or.inl ⟨by rfl, fun w' hw' => by go_simp⟩) hS ?_
   simp only [Act.put, lsA, lsZ, lsS]
   refine take_at (i := 9) 25 (v := .string x.key) rfl rfl (by kernel_rfl) (by kernel_rfl) (by kernel_rfl) (fun _ _ _ h => h) (Or.inl ⟨by rfl, fun w' hw' => by obtain ⟨k0, k1, k2, k3, k4, k5, k6, k7, k8, k9⟩ := ent10 (cells_off hw' HKB.out); rw [HKEY.out] at k0; go_simp⟩) hS ?_
   simp only [Act.put, lsA, lsZ, lsS]
   refine take_at (i := 10) 26 (v := .bool false) rfl rfl (by kernel_rfl) (by kernel_rfl) (by kernel_rfl) (fun _ _ _ h => h) (Or.inl ⟨by rfl, fun w' hw' => by go_simp⟩) hS ?_
   simp only [Act.put, lsA, lsZ, lsS]
   refine take_at (i := 11) 27 (v := .bool false) rfl rfl (by kernel_rfl) (by kernel_rfl) (by kernel_rfl) (fun _ _ _ h => h) (Or.inl ⟨by rfl, fun w' hw' => by go_simp⟩) hS ?_
   simp only [Act.put, lsA, lsZ, lsS]
   refine take_at (i := 12) 28 (v := .slice (some ⟨ba, oa, none⟩) xs.length ca) rfl rfl (by kernel_rfl) (by kernel_rfl) (by kernel_rfl) (fun _ _ _ h => h) (Or.inl ⟨by rfl, fun w' hw' => by go_simp⟩) hS ?_
   simp only [Act.put, lsA, lsZ, lsS]
   refine take_at (i := 13) 29 (v := .int .i64 (i : Int)) rfl rfl (by kernel_rfl) (by kernel_rfl) (by kernel_rfl) (fun _ _ _ h => h) (Or.inl ⟨by rfl, fun w' hw' => by go_simp⟩) hS ?_
   simp only [Act.put, lsA, lsZ, lsS]
   refine take_at (i := 14) 30 (v := .pointer (some ⟨ba, oa + i * 10, none⟩)) rfl rfl (by kernel_rfl) (by kernel_rfl) (by kernel_rfl) (fun _ _ _ h => h) (Or.inl ⟨by rfl, fun w' hw' => exec_idx10 rfl (idx_ents hil ca ba oa w')⟩) hS ?_
   simp only [Act.put, lsA, lsZ, lsS]
   refine take_at (i := 15) 31 (v := .pointer (some ⟨ba, oa + i * 10 + 1, none⟩)) rfl rfl (by kernel_rfl) (by kernel_rfl) (by kernel_rfl) (fun _ _ _ h => h) (Or.inl ⟨by rfl, fun w' hw' => by go_simp⟩) hS ?_
   simp only [Act.put, lsA, lsZ, lsS]
   refine take_at (i := 16) 32 (v := .agg #[.int .i64 (x.f 0), .int .i64 (x.f 1), .int .i64 (x.f 2), .int .i64 (x.f 3), .int .i64 (x.f 4), .int .i64 (x.f 5), .int .i64 (x.f 6), .int .i64 (x.f 7), .slice x.a x.l.length x.cap]) rfl rfl (by kernel_rfl) (by kernel_rfl) (by kernel_rfl) (fun _ _ _ h => h) (Or.inl ⟨by rfl, fun w' hw' => by obtain ⟨k0, k1, k2, k3, k4, k5, k6, k7, k8, k9⟩ := ent10 (cells_off hw' HKA.out); go_simp⟩) hS ?_
   simp only [Act.put, lsA, lsZ, lsS]
   refine take_at (i := 17) 33 (v := .slice (some ⟨bb, ob, none⟩) ys.length cb) rfl rfl (by kernel_rfl) (by kernel_rfl) (by kernel_rfl) (fun _ _ _ h => h) (Or.inl ⟨by rfl, fun w' hw' => by go_simp⟩) hS ?_
   simp only [Act.put, lsA, lsZ, lsS]
   refine take_at (i := 18) 34 (v := .int .i64 (i : Int)) rfl rfl (by kernel_rfl) (by kernel_rfl) (by kernel_rfl) (fun _ _ _ h => h) (Or.inl ⟨by rfl, fun w' hw' => by go_simp⟩) hS ?_
   simp only [Act.put, lsA, lsZ, lsS]
   refine take_at (i := 19) 35 (v := .pointer (some ⟨bb, ob + i * 10, none⟩)) rfl rfl (by kernel_rfl) (by kernel_rfl) (by kernel_rfl) (fun _ _ _ h => h) (Or.inl ⟨by rfl, fun w' hw' => exec_idx10 rfl (idx_ents hil2 cb bb ob w')⟩) hS ?_
   simp only [Act.put, lsA, lsZ, lsS]
   refine take_at (i := 20) 36 (v := .pointer (some ⟨bb, ob + i * 10 + 1, none⟩)) rfl rfl (by kernel_rfl) (by kernel_rfl) (by kernel_rfl) (fun _ _ _ h => h) (Or.inl ⟨by rfl, fun w' hw' => by go_simp⟩) hS ?_
   simp only [Act.put, lsA, lsZ, lsS]
   refine take_at (i := 21) 37 (v := .agg #[.int .i64 (y.f 0), .int .i64 (y.f 1), .int .i64 (y.f 2), .int .i64 (y.f 3), .int .i64 (y.f 4), .int .i64 (y.f 5), .int .i64 (y.f 6), .int .i64 (y.f 7), .slice y.a y.l.length y.cap]) rfl rfl (by kernel_rfl) (by kernel_rfl) (by kernel_rfl) (fun _ _ _ h => h) (Or.inl ⟨by rfl, fun w' hw' => by obtain ⟨k0, k1, k2, k3, k4, k5, k6, k7, k8, k9⟩ := ent10 (cells_off hw' HKB.out); go_simp⟩) hS ?_
   simp only [Act.put, lsA, lsZ, lsS]
   refine wpAnyH_ready (rs := [22]) (by kernel_rfl) (by simp) ?_
   refine AllReadyH.cons rfl (fun K' hK' => ?_) AllReadyH.nil
   go_simp
   refine (gsame_any x.f y.f x.a y.a x.cap y.cap x.l y.l _ (HRX.out.off hS) (HRY.out.off hS)).mono ?_
   rw [HSM.out]
   rintro e v1 ⟨rfl, o1⟩
   have hS1 := hS.trans o1 (fun _ _ h => h)
   refine hK'.out _ _ hS1 (fun hS => ?_)
   clear hK' K' hS1 o1
   refine take_at (i := 23) 39 (v := .bool false) rfl rfl (by kernel_rfl) (by kernel_rfl) (by kernel_rfl) (fun _ _ _ h => h) (Or.inl ⟨by rfl, fun w' hw' => by go_simp⟩) hS ?_
   simp only [Act.put, lsA, lsZ, lsS]
   refine take_at (i := 24) 40 (v := .bool false) rfl rfl (by kernel_rfl) (by kernel_rfl) (by kernel_rfl) (fun _ _ _ h => h) (Or.inl ⟨by rfl, fun w' hw' => by go_simp⟩) hS ?_
   simp only [Act.put, lsA, lsZ, lsS]
   refine wpAnyH_done (by kernel_rfl) ?_ _
   go_wp2_with fail
   go_roundw
   case rel => exact ⟨i + 1, by go_num, by omega, hS⟩
   case measure => simp [intOf]; omega
  ·obtain rfl : i = xs.length := by omega
   have i1 : decide ((xs.length : Int) < (xs.length : Int)) = false := decide_eq_false (by omega)
   have i2 : decide (xs.length < xs.length) = false := decide_eq_false (by omega)
   go_wp2_with fail
   go_ret
   exact ⟨rfl, HO.out⟩
set_option maxRecDepth 100000 in
set_option maxHeartbeats 2000000 in
theorem samehints_any (a b : Option Addr) (ca cb : Nat) (xs ys : List H) (w : World) (h1 : Hns w a ca xs) (r1 : ∀ e ∈ xs, Row w e.e.a e.e.cap e.e.l) (h2 : Hns w b cb ys) (r2 : ∀ e ∈ ys, Row w e.e.a e.e.cap e.e.l) (he : absH xs = absH ys) (hl : xs.length ≤ 1000) :
  Calls Tryz.prog 33 #[.slice a xs.length ca, .slice b ys.length cb] w fun e w' => e = .returned (.bool true) ∧ Off (fun _ => False) w w' := by
 have hnot := not_any
 have hlen : ys.length = xs.length := by have := congrArg List.length he; rw [absH_len, absH_len] at this; exact this.symm
 have d0 : ((xs.length : Int) != (ys.length : Int)) = false := by rw [hlen]; simp
 have HLEN : Hid _ := hlen
 have H1 : Hid _ := h1
 have H2 : Hid _ := h2
 have R1 : Hid _ := r1
 have R2 : Hid _ := r2
 have HE : Hid _ := he
 clear h1 h2 r1 r2 he hlen
 go_enter Tryz.func33, Tryz.ntmps33
 go_wp2_with fail
 go_loopw [13] (fun y wr => ∃ i : Nat, y = .int .i64 (i : Int) ∧ i ≤ xs.length ∧ Off (fun _ => False) w wr) (fun y _ => (xs.length - intOf y).toNat)
 case atStart => exact ⟨0, rfl, by omega, Off.refl _ _⟩
 case round =>
  obtain ⟨i, rfl, hi, O⟩ := hrel
  have HO : Hid _ := O
  clear O
  by_cases hil : i < xs.length
  ·have i1 : decide ((i : Int) < (xs.length : Int)) = true := decide_eq_true (by omega)
   have i2 : decide (i < xs.length) = true := decide_eq_true hil
   have hil2 : i < ys.length := by have := HLEN.out; omega
   have hyl : ys.length ≤ 1000 := by have := HLEN.out; omega
   obtain ⟨x, hx⟩ : ∃ x, xs[i]? = some x := ⟨_, List.getElem?_eq_getElem hil⟩
   obtain ⟨y, hy⟩ : ∃ y, ys[i]? = some y := ⟨_, List.getElem?_eq_getElem hil2⟩
   have hab : x.abs = y.abs := by
    have := congrArg (fun z => z[i]?) HE.out
    simpa [absH, hx, hy] using this
   have HKEY : Hid (y.e.key = x.e.key) := (congrArg (fun z : HK => z.k.key) hab).symm
   have HNOD : Hid (y.node = x.node) := (congrArg HK.node hab).symm
   have HSM : Hid (sameS x.e.f y.e.f (cont x.e.l) (cont y.e.l) = true) := by
    have e0 : x.e.abs = y.e.abs := congrArg HK.k hab
    have e1 : x.e.f = y.e.f := congrArg K.f e0
    have e2 : cont x.e.l = cont y.e.l := congrArg K.l e0
    show _ = true
    rw [e1, e2]
    exact same_refl _ _
   obtain ⟨ba, oa, rfl, ka⟩ := H1.out.at_ i x hx
   obtain ⟨bb, ob, rfl, kb⟩ := H2.out.at_ i y hy
   have HKA : Hid _ := ka
   have HKB : Hid _ := kb
   have HRX : Hid _ := R1.out x (List.mem_of_getElem? hx)
   have HRY : Hid _ := R2.out y (List.mem_of_getElem? hy)
   clear ka kb hx hy hab
   go_upto_region 6 with fail
   refine wp_region_held_drew (S := fun w' => Off (fun _ => False) w w') (by kernel_rfl) HO.out.drew (fun hS => ?_)
   refine take_at (i := 0) 16 (v := .slice (some ⟨ba, oa, none⟩) xs.length ca) rfl rfl (by kernel_rfl) (by kernel_rfl) (by kernel_rfl) (fun _ _ _ h => h) (Or.inl ⟨by rfl, fun w' hw' => by go_simp⟩) hS ?_
   simp only [Act.put, lsA, lsZ, lsS]
   refine take_at (i := 1) 17 (v := .int .i64 (i : Int)) rfl rfl (by kernel_rfl) (by kernel_rfl) (by kernel_rfl) (fun _ _ _ h => h) (Or.inl ⟨by rfl, fun w' hw' => by go_simp⟩) hS ?_
   simp only [Act.put, lsA, lsZ, lsS]
   refine take_at (i := 2) 18 (v := .pointer (some ⟨ba, oa + i * 11, none⟩)) rfl rfl (by kernel_rfl) (by kernel_rfl) (by kernel_rfl) (fun _ _ _ h => h) (Or.inl ⟨by rfl, fun w' hw' => exec_idx10 rfl (idx_hins hil ca ba oa w')⟩) hS ?_
   simp only [Act.put, lsA, lsZ, lsS]
   refine take_at (i := 3) 19 (v := .pointer (some ⟨ba, oa + i * 11, none⟩)) rfl rfl (by kernel_rfl) (by kernel_rfl) (by kernel_rfl) (fun _ _ _ h => h) (Or.inl ⟨by rfl, fun w' hw' => by go_simp⟩) hS ?_
   simp only [Act.put, lsA, lsZ, lsS]
   refine take_at (i := 4) 20 (v := .int .i64 x.node) rfl rfl (by kernel_rfl) (by kernel_rfl) (by kernel_rfl) (fun _ _ _ h => h) (Or.inl ⟨by rfl, fun w' hw' => by obtain ⟨k0, k1, k2, k3, k4, k5, k6, k7, k8, k9, k10⟩ := (HKA.out.off hw' (fun _ h => h)).cells; go_simp⟩) hS ?_
   simp only [Act.put, lsA, lsZ, lsS]
   refine take_at (i := 5) 21 (v := .slice (some ⟨bb, ob, none⟩) ys.length cb) rfl rfl (by kernel_rfl) (by kernel_rfl) (by kernel_rfl) (fun _ _ _ h => h) (Or.inl ⟨by rfl, fun w' hw' => by go_simp⟩) hS ?_
   simp only [Act.put, lsA, lsZ, lsS]
   refine take_at (i := 6) 22 (v := .int .i64 (i : Int)) rfl rfl (by kernel_rfl) (by kernel_rfl) (by kernel_rfl) (fun _ _ _ h => h) (Or.inl ⟨by rfl, fun w' hw' => by go_simp⟩) hS ?_
   simp only [Act.put, lsA, lsZ, lsS]
   refine take_at (i := 7) 23 (v := .pointer (some ⟨bb, ob + i * 11, none⟩)) rfl rfl (by kernel_rfl) (by kernel_rfl) (by kernel_rfl) (fun _ _ _ h => h) (Or.inl ⟨by rfl, fun w' hw' => exec_idx10 rfl (idx_hins hil2 cb bb ob w')⟩) hS ?_
   simp only [Act.put, lsA, lsZ, lsS]
   refine take_at (i := 8) 24 (v := .pointer (some ⟨bb, ob + i * 11, none⟩)) rfl rfl (by kernel_rfl) (by kernel_rfl) (by kernel_rfl) (fun _ _ _ h => h) (Or.inl ⟨by rfl, fun w' hw' => by go_simp⟩) hS ?_
   simp only [Act.put, lsA, lsZ, lsS]
   refine take_at (i := 9) 25 (v := .int .i64 x.node) rfl rfl (by kernel_rfl) (by kernel_rfl) (by kernel_rfl) (fun _ _ _ h => h) (Or.inl ⟨by rfl, fun w' hw' => by obtain ⟨k0, k1, k2, k3, k4, k5, k6, k7, k8, k9, k10⟩ := (HKB.out.off hw' (fun _ h => h)).cells; rw [HNOD.out] at k0; go_simp⟩) hS ?_
   simp only [Act.put, lsA, lsZ, lsS]
   refine take_at (i := 10) 26 (v := .bool false) rfl rfl (by kernel_rfl) (by kernel_rfl) (by kernel_rfl) (fun _ _ _ h => h) (Or.inl ⟨by rfl, fun w' hw' => by go_simp⟩) hS ?_
   simp only [Act.put, lsA, lsZ, lsS]
   refine take_at (i := 11) 27 (v := .bool false) rfl rfl (by kernel_rfl) (by kernel_rfl) (by kernel_rfl) (fun _ _ _ h => h) (Or.inl ⟨by rfl, fun w' hw' => by go_simp⟩) hS ?_
   simp only [Act.put, lsA, lsZ, lsS]
   refine take_at (i := 12) 28 (v := .slice (some ⟨ba, oa, none⟩) xs.length ca) rfl rfl (by kernel_rfl) (by kernel_rfl) (by kernel_rfl) (fun _ _ _ h => h) (Or.inl ⟨by rfl, fun w' hw' => by go_simp⟩) hS ?_
   simp only [Act.put, lsA, lsZ, lsS]
   refine take_at (i := 13) 29 (v := .int .i64 (i : Int)) rfl rfl (by kernel_rfl) (by kernel_rfl) (by kernel_rfl) (fun _ _ _ h => h) (Or.inl ⟨by rfl, fun w' hw' => by go_simp⟩) hS ?_
   simp only [Act.put, lsA, lsZ, lsS]
   refine take_at (i := 14) 30 (v := .pointer (some ⟨ba, oa + i * 11, none⟩)) rfl rfl (by kernel_rfl) (by kernel_rfl) (by kernel_rfl) (fun _ _ _ h => h) (Or.inl ⟨by rfl, fun w' hw' => exec_idx10 rfl (idx_hins hil ca ba oa w')⟩) hS ?_
   simp only [Act.put, lsA, lsZ, lsS]
   refine take_at (i := 15) 31 (v := .pointer (some ⟨ba, oa + i * 11 + 1, none⟩)) rfl rfl (by kernel_rfl) (by kernel_rfl) (by kernel_rfl) (fun _ _ _ h => h) (Or.inl ⟨by rfl, fun w' hw' => by go_simp⟩) hS ?_
   simp only [Act.put, lsA, lsZ, lsS]
   refine take_at (i := 16) 32 (v := .pointer (some ⟨ba, oa + i * 11 + 1, none⟩)) rfl rfl (by kernel_rfl) (by kernel_rfl) (by kernel_rfl) (fun _ _ _ h => h) (Or.inl ⟨by rfl, fun w' hw' => by go_simp⟩) hS ?_
   simp only [Act.put, lsA, lsZ, lsS]
   refine take_at (i := 17) 33 (v := .string x.e.key) rfl rfl (by kernel_rfl) (by kernel_rfl) (by kernel_rfl) (fun _ _ _ h => h) (Or.inl ⟨by rfl, fun w' hw' => by obtain ⟨k0, k1, k2, k3, k4, k5, k6, k7, k8, k9, k10⟩ := (HKA.out.off hw' (fun _ h => h)).cells; go_simp⟩) hS ?_
   simp only [Act.put, lsA, lsZ, lsS]
   refine take_at (i := 18) 34 (v := .slice (some ⟨bb, ob, none⟩) ys.length cb) rfl rfl (by kernel_rfl) (by kernel_rfl) (by kernel_rfl) (fun _ _ _ h => h) (Or.inl ⟨by rfl, fun w' hw' => by go_simp⟩) hS ?_
   simp only [Act.put, lsA, lsZ, lsS]
   refine take_at (i := 19) 35 (v := .int .i64 (i : Int)) rfl rfl (by kernel_rfl) (by kernel_rfl) (by kernel_rfl) (fun _ _ _ h => h) (Or.inl ⟨by rfl, fun w' hw' => by go_simp⟩) hS ?_
   simp only [Act.put, lsA, lsZ, lsS]
   refine take_at (i := 20) 36 (v := .pointer (some ⟨bb, ob + i * 11, none⟩)) rfl rfl (by kernel_rfl) (by kernel_rfl) (by kernel_rfl) (fun _ _ _ h => h) (Or.inl ⟨by rfl, fun w' hw' => exec_idx10 rfl (idx_hins hil2 cb bb ob w')⟩) hS ?_
   simp only [Act.put, lsA, lsZ, lsS]
   refine take_at (i := 21) 37 (v := .pointer (some ⟨bb, ob + i * 11 + 1, none⟩)) rfl rfl (by kernel_rfl) (by kernel_rfl) (by kernel_rfl) (fun _ _ _ h => h) (Or.inl ⟨by rfl, fun w' hw' => by go_simp⟩) hS ?_
   simp only [Act.put, lsA, lsZ, lsS]
   refine take_at (i := 22) 38 (v := .pointer (some ⟨bb, ob + i * 11 + 1, none⟩)) rfl rfl (by kernel_rfl) (by kernel_rfl) (by kernel_rfl) (fun _ _ _ h => h) (Or.inl ⟨by rfl, fun w' hw' => by go_simp⟩) hS ?_
   simp only [Act.put, lsA, lsZ, lsS]
   refine take_at (i := 23) 39 (v := .string x.e.key) rfl rfl (by kernel_rfl) (by kernel_rfl) (by kernel_rfl) (fun _ _ _ h => h) (Or.inl ⟨by rfl, fun w' hw' => by obtain ⟨k0, k1, k2, k3, k4, k5, k6, k7, k8, k9, k10⟩ := (HKB.out.off hw' (fun _ h => h)).cells; rw [HKEY.out] at k1; go_simp⟩) hS ?_
   simp only [Act.put, lsA, lsZ, lsS]
   refine take_at (i := 24) 40 (v := .bool false) rfl rfl (by kernel_rfl) (by kernel_rfl) (by kernel_rfl) (fun _ _ _ h => h) (Or.inl ⟨by rfl, fun w' hw' => by go_simp⟩) hS ?_
   simp only [Act.put, lsA, lsZ, lsS]
   refine take_at (i := 25) 41 (v := .bool false) rfl rfl (by kernel_rfl) (by kernel_rfl) (by kernel_rfl) (fun _ _ _ h => h) (Or.inl ⟨by rfl, fun w' hw' => by go_simp⟩) hS ?_
   simp only [Act.put, lsA, lsZ, lsS]
   refine take_at (i := 26) 42 (v := .bool false) rfl rfl (by kernel_rfl) (by kernel_rfl) (by kernel_rfl) (fun _ _ _ h => h) (Or.inl ⟨by rfl, fun w' hw' => by go_simp⟩) hS ?_
   simp only [Act.put, lsA, lsZ, lsS]
   refine take_at (i := 27) 43 (v := .slice (some ⟨ba, oa, none⟩) xs.length ca) rfl rfl (by kernel_rfl) (by kernel_rfl) (by kernel_rfl) (fun _ _ _ h => h) (Or.inl ⟨by rfl, fun w' hw' => by go_simp⟩) hS ?_
   simp only [Act.put, lsA, lsZ, lsS]
   refine take_at (i := 28) 44 (v := .int .i64 (i : Int)) rfl rfl (by kernel_rfl) (by kernel_rfl) (by kernel_rfl) (fun _ _ _ h => h) (Or.inl ⟨by rfl, fun w' hw' => by go_simp⟩) hS ?_
   simp only [Act.put, lsA, lsZ, lsS]
   refine take_at (i := 29) 45 (v := .pointer (some ⟨ba, oa + i * 11, none⟩)) rfl rfl (by kernel_rfl) (by kernel_rfl) (by kernel_rfl) (fun _ _ _ h => h) (Or.inl ⟨by rfl, fun w' hw' => exec_idx10 rfl (idx_hins hil ca ba oa w')⟩) hS ?_
   simp only [Act.put, lsA, lsZ, lsS]
   refine take_at (i := 30) 46 (v := .pointer (some ⟨ba, oa + i * 11 + 1, none⟩)) rfl rfl (by kernel_rfl) (by kernel_rfl) (by kernel_rfl) (fun _ _ _ h => h) (Or.inl ⟨by rfl, fun w' hw' => by go_simp⟩) hS ?_
   simp only [Act.put, lsA, lsZ, lsS]
   refine take_at (i := 31) 47 (v := .pointer (some ⟨ba, oa + i * 11 + 2, none⟩)) rfl rfl (by kernel_rfl) (by kernel_rfl) (by kernel_rfl) (fun _ _ _ h => h) (Or.inl ⟨by rfl, fun w' hw' => by go_simp⟩) hS ?_
   simp only [Act.put, lsA, lsZ, lsS]
   refine take_at (i := 32) 48 (v := .agg #[.int .i64 (x.e.f 0), .int .i64 (x.e.f 1), .int .i64 (x.e.f 2), .int .i64 (x.e.f 3), .int .i64 (x.e.f 4), .int .i64 (x.e.f 5), .int .i64 (x.e.f 6), .int .i64 (x.e.f 7), .slice x.e.a x.e.l.length x.e.cap]) rfl rfl (by kernel_rfl) (by kernel_rfl) (by kernel_rfl) (fun _ _ _ h => h) (Or.inl ⟨by rfl, fun w' hw' => by obtain ⟨k0, k1, k2, k3, k4, k5, k6, k7, k8, k9, k10⟩ := (HKA.out.off hw' (fun _ h => h)).cells; go_simp⟩) hS ?_
   simp only [Act.put, lsA, lsZ, lsS]
   refine take_at (i := 33) 49 (v := .slice (some ⟨bb, ob, none⟩) ys.length cb) rfl rfl (by kernel_rfl) (by kernel_rfl) (by kernel_rfl) (fun _ _ _ h => h) (Or.inl ⟨by rfl, fun w' hw' => by go_simp⟩) hS ?_
   simp only [Act.put, lsA, lsZ, lsS]
   refine take_at (i := 34) 50 (v := .int .i64 (i : Int)) rfl rfl (by kernel_rfl) (by kernel_rfl) (by kernel_rfl) (fun _ _ _ h => h) (Or.inl ⟨by rfl, fun w' hw' => by go_simp⟩) hS ?_
   simp only [Act.put, lsA, lsZ, lsS]
   refine take_at (i := 35) 51 (v := .pointer (some ⟨bb, ob + i * 11, none⟩)) rfl rfl (by kernel_rfl) (by kernel_rfl) (by kernel_rfl) (fun _ _ _ h => h) (Or.inl ⟨by rfl, fun w' hw' => exec_idx10 rfl (idx_hins hil2 cb bb ob w')⟩) hS ?_
   simp only [Act.put, lsA, lsZ, lsS]
   refine take_at (i := 36) 52 (v := .pointer (some ⟨bb, ob + i * 11 + 1, none⟩)) rfl rfl (by kernel_rfl) (by kernel_rfl) (by kernel_rfl) (fun _ _ _ h => h) (Or.inl ⟨by rfl, fun w' hw' => by go_simp⟩) hS ?_
   simp only [Act.put, lsA, lsZ, lsS]
   refine take_at (i := 37) 53 (v := .pointer (some ⟨bb, ob + i * 11 + 2, none⟩)) rfl rfl (by kernel_rfl) (by kernel_rfl) (by kernel_rfl) (fun _ _ _ h => h) (Or.inl ⟨by rfl, fun w' hw' => by go_simp⟩) hS ?_
   simp only [Act.put, lsA, lsZ, lsS]
   refine take_at (i := 38) 54 (v := .agg #[.int .i64 (y.e.f 0), .int .i64 (y.e.f 1), .int .i64 (y.e.f 2), .int .i64 (y.e.f 3), .int .i64 (y.e.f 4), .int .i64 (y.e.f 5), .int .i64 (y.e.f 6), .int .i64 (y.e.f 7), .slice y.e.a y.e.l.length y.e.cap]) rfl rfl (by kernel_rfl) (by kernel_rfl) (by kernel_rfl) (fun _ _ _ h => h) (Or.inl ⟨by rfl, fun w' hw' => by obtain ⟨k0, k1, k2, k3, k4, k5, k6, k7, k8, k9, k10⟩ := (HKB.out.off hw' (fun _ h => h)).cells; go_simp⟩) hS ?_
   simp only [Act.put, lsA, lsZ, lsS]
   refine wpAnyH_ready (rs := [39]) (by kernel_rfl) (by simp) ?_
   refine AllReadyH.cons rfl (fun K' hK' => ?_) AllReadyH.nil
   go_simp
   refine (gsame_any x.e.f y.e.f x.e.a y.e.a x.e.cap y.e.cap x.e.l y.e.l _ (HRX.out.off hS) (HRY.out.off hS)).mono ?_
   rw [HSM.out]
   rintro e v1 ⟨rfl, o1⟩
   have hS1 := hS.trans o1 (fun _ _ h => h)
   refine hK'.out _ _ hS1 (fun hS => ?_)
   clear hK' K' hS1 o1
   refine take_at (i := 40) 56 (v := .bool false) rfl rfl (by kernel_rfl) (by kernel_rfl) (by kernel_rfl) (fun _ _ _ h => h) (Or.inl ⟨by rfl, fun w' hw' => by go_simp⟩) hS ?_
   simp only [Act.put, lsA, lsZ, lsS]
   refine take_at (i := 41) 57 (v := .bool false) rfl rfl (by kernel_rfl) (by kernel_rfl) (by kernel_rfl) (fun _ _ _ h => h) (Or.inl ⟨by rfl, fun w' hw' => by go_simp⟩) hS ?_
   simp only [Act.put, lsA, lsZ, lsS]
   refine wpAnyH_done (by kernel_rfl) ?_ _
   go_wp2_with fail
   go_roundw
   case rel => exact ⟨i + 1, by go_num, by omega, hS⟩
   case measure => simp [intOf]; omega
  ·obtain rfl : i = xs.length := by omega
   have i1 : decide ((xs.length : Int) < (xs.length : Int)) = false := decide_eq_false (by omega)
   have i2 : decide (xs.length < xs.length) = false := decide_eq_false (by omega)
   go_wp2_with fail
   go_ret
   exact ⟨rfl, HO.out⟩
end Go.Proofs.YthjbnpaghiojlaaGreat

namespace Go.Proofs.YthjbnpaghiojlaaGreat
open Go.RowKit
structure Fd (w0 : World) (b most : Nat) (rs : List (List Nat)) (D0 : Nat → Prop) (w : World) : Prop where
 dsk : Dsk D0 b most (frs rs) (frs rs).length w
 age : ∀ c, D0 c → w0.heap.size ≤ c
 off : Off (fun _ => False) w0 w
structure Vw (w0 : World) (b : Nat) (rs : List (List Nat)) (s : PS) (p : Nat) (D0 : Nat → Prop) (w : World) : Prop where
 ex : ∃ (S : Nat → Prop) (lb : Nat), Cor S p (.pointer (some ⟨lb, 0, none⟩)) s w ∧ Cel lb 139 #[.pointer (some ⟨b, 0, none⟩), .int .i64 ((rs.length : Nat) : Int), .int .i64 (((frs rs).length : Nat) : Int)] w ∧ (∀ c, S c → ¬ D0 c ∧ c ≠ lb ∧ w0.heap.size ≤ c) ∧ ¬ D0 lb ∧ w0.heap.size ≤ lb
theorem Fd.free {w0 : World} {b most : Nat} {rs : List (List Nat)} {D0 : Nat → Prop} {w w' : World} (h : Fd w0 b most rs D0 w) (o : Off (fun _ => False) w w') : Fd w0 b most rs D0 w' := ⟨h.dsk.free o, h.age, h.off.trans o (fun _ _ h => h)⟩
theorem Vw.free {w0 : World} {b : Nat} {rs : List (List Nat)} {s : PS} {p : Nat} {D0 : Nat → Prop} {w w' : World} (h : Vw w0 b rs s p D0 w) (o : Off (fun _ => False) w w') : Vw w0 b rs s p D0 w' := by
 obtain ⟨S, lb, h1, h2, h3, h4, h5⟩ := h.ex
 exact ⟨S, lb, h1.free o, h2.off o (fun h => h), h3, h4, h5⟩
theorem Vw.step {w0 : World} {b : Nat} {rs : List (List Nat)} {s : PS} {p : Nat} {D0 D1 : Nat → Prop} {w w' : World} (h : Vw w0 b rs s p D0 w) (o : Off D0 w w') (hd : ∀ c, D1 c → D0 c ∨ w.heap.size ≤ c) : Vw w0 b rs s p D1 w' := by
 obtain ⟨S, lb, h1, h2, h3, h4, h5⟩ := h.ex
 refine ⟨S, lb, h1.off o (fun c _ hc => (h3 c hc).1), h2.off o h4, fun c hc => ⟨fun e => ?_, (h3 c hc).2⟩, fun e => ?_, h5⟩
 ·rcases hd c e with e | e
  ·exact (h3 c hc).1 e
  ·have := h1.lt c hc
   omega
 ·rcases hd lb e with e | e
  ·exact h4 e
  ·have := h2.lt
   omega
theorem Lw.vw {w0 : World} {p b most : Nat} {rs : List (List Nat)} {s : PS} {w : World} (h : Lw w0 p b most rs s w) : ∃ D0, Fd w0 b most rs D0 w ∧ Vw w0 b rs s p D0 w := by
 obtain ⟨lb, D, S, h1, h2⟩ := h.ex
 obtain ⟨D0, k1, k2, k3⟩ := h1.std.lg.dsk
 exact ⟨D0, ⟨k1, fun c hc => h2 c (.inl (k2 c hc)), h.off⟩, ⟨S, lb, h1.cor, h1.std.lg.log, fun c hc => ⟨fun e => h1.sep c hc (k2 c e), fun e => h1.sep c hc (by rw [e]; exact h1.std.lg.here), h2 c (.inr hc)⟩, k3, h2 lb (.inl h1.std.lg.here)⟩⟩
theorem Fd.lw {w0 : World} {p b most : Nat} {rs : List (List Nat)} {s : PS} {D0 : Nat → Prop} {w : World} (f : Fd w0 b most rs D0 w) (h : Vw w0 b rs s p D0 w) (hi : Inv rs s) : Lw w0 p b most rs s w := by
 obtain ⟨S, lb, h1, h2, h3, h4, h5⟩ := h.ex
 refine ⟨⟨lb, fun c => D0 c ∨ c = lb, S, ⟨h1, ⟨⟨.inr rfl, fun c hc => ?_, ⟨D0, f.dsk, fun c hc => .inl hc, h4⟩, h2⟩, hi.rec_⟩, fun c hc e => e.elim (h3 c hc).1 (h3 c hc).2.1, hi⟩, fun c hc => ?_⟩, f.off⟩
 ·rcases hc with hc | hc
  ·exact f.dsk.lt c hc
  ·rw [hc]
   exact h2.lt
 ·rcases hc with (hc | hc) | hc
  ·exact f.age c hc
  ·rw [hc]
   exact h5
  ·exact (h3 c hc).2.2
theorem vopen_any {w0 : World} {b most : Nat} {rs : List (List Nat)} {s : PS} {D0 : Nat → Prop} {w : World} (h : Fd w0 b most rs D0 w) (hi : Inv rs s) :
  Calls Tryz.prog 12 #[.pointer (some ⟨b, 0, none⟩)] w fun e w' => ∃ (p : Nat) (D1 : Nat → Prop), e = .returned (.tuple #[.pointer (some ⟨p, 0, none⟩), .int .i64 0]) ∧ Fd w0 b most rs D1 w' ∧ Vw w0 b rs s p D1 w' ∧ Off D0 w w' ∧ (∀ c, D1 c → D0 c ∨ w.heap.size ≤ c) := by
 refine (lopen_any (xs := []) (by rw [List.append_nil]; exact h.dsk) tk_nil (by simp) (fun _ => rfl) hi.rec_).mono ?_
 rintro e w' ⟨q, er, rfl, op⟩
 rcases op.is with ⟨s', p, hr, rfl, rfl, ⟨lb, D', S', hol, o, n1, n2⟩⟩ | ⟨hr, -⟩
 ·rw [hi.run] at hr
  obtain rfl : s = s' := Option.some.inj hr
  have hsz := h.off.size
  obtain ⟨D1, k1, k2, k3⟩ := hol.std.lg.dsk
  have hage : ∀ c, D' c → w0.heap.size ≤ c := fun c hc => by
   rcases n1 c hc with e | e
   ·exact h.age c e
   ·omega
  refine ⟨p, D1, rfl, ⟨k1, fun c hc => hage c (k2 c hc), ((h.off.mono (fun _ _ h => h.elim)).trans o (fun _ _ h => h)).mono (fun i hi e => by have := h.age i e; omega)⟩, ⟨S', lb, hol.cor, hol.std.lg.log, fun c hc => ⟨fun e => hol.sep c hc (k2 c e), fun e => hol.sep c hc (by rw [e]; exact hol.std.lg.here), ?_⟩, k3, hage lb hol.std.lg.here⟩, o, fun c hc => n1 c (k2 c hc)⟩
  have := n2 c hc
  omega
 ·rw [hi.run] at hr
  cases hr
theorem vall_any {w0 : World} {b : Nat} {rs : List (List Nat)} {s : PS} {p : Nat} {D0 : Nat → Prop} {w : World} (h : Vw w0 b rs s p D0 w) :
  Calls Tryz.prog 28 #[.pointer (some ⟨p, 0, none⟩)] w fun e w' => ∃ (a : Option Addr) (c : Nat) (es : List E), e = .returned (.slice a es.length c) ∧ absE es = s.1 ∧ OwnG 68 10 ecs w' a c es ∧ (∀ e ∈ es, Row w' e.a e.cap e.l ∧ Far w.heap.size e.a e.l) ∧ (∀ x, blk a = some x → w.heap.size ≤ x) ∧ Off (fun _ => False) w w' := by
 obtain ⟨S, lb, h1, -⟩ := h.ex
 exact lall_any h1
theorem vhints_any {w0 : World} {b : Nat} {rs : List (List Nat)} {s : PS} {p : Nat} {D0 : Nat → Prop} {w : World} (h : Vw w0 b rs s p D0 w) :
  Calls Tryz.prog 30 #[.pointer (some ⟨p, 0, none⟩)] w fun e w' => ∃ (a : Option Addr) (c : Nat) (ys : List H), e = .returned (.slice a ys.length c) ∧ absH ys = s.2 ∧ OwnG 75 11 hcs w' a c ys ∧ (∀ y ∈ ys, Row w' y.e.a y.e.cap y.e.l) ∧ (∀ y ∈ ys, Ter (fun c => w.heap.size ≤ c) y.e.a y.e.l) ∧ (∀ c, blk a = some c → w.heap.size ≤ c) ∧ Off (fun _ => False) w w' := by
 obtain ⟨S, lb, h1, -⟩ := h.ex
 exact lhints_any h1
theorem Vw.few {w0 : World} {b : Nat} {rs : List (List Nat)} {s : PS} {p : Nat} {D0 : Nat → Prop} {w : World} (h : Vw w0 b rs s p D0 w) : s.1.length ≤ 256 ∧ s.2.length ≤ 64 := by
 obtain ⟨S, lb, h1, -⟩ := h.ex
 exact ⟨h1.ok.few, h1.ok.set.few⟩
end Go.Proofs.YthjbnpaghiojlaaGreat

namespace Go.Proofs.YthjbnpaghiojlaaGreat
open Go.RowKit
theorem chA_no (most : Nat) (rs : List (List Nat)) (s : PS) (r : RD) : (chA most rs s r).er ≠ 0 → (chA most rs s r).s = s := by
 intro h
 unfold chA chS at *
 exact if_neg h
theorem putA_no (most : Nat) (rs : List (List Nat)) (s : PS) (node : Int) (key : ByteArray) (g : Nat → Int) (data : List Nat) (dead : Bool) : (putA most rs s node key g data dead).er ≠ 0 → (putA most rs s node key g data dead).s = s := by
 unfold putA
 split
 ·exact chA_no _ _ _ _
 ·exact fun _ => rfl
theorem joinA_no (most : Nat) (rs : List (List Nat)) (s : PS) (k : K) : (joinA most rs s k).er ≠ 0 → (joinA most rs s k).s = s := by
 unfold joinA
 split
 ·exact chA_no _ _ _ _
 ·split <;> exact fun _ => rfl
theorem hintA_no (most : Nat) (rs : List (List Nat)) (s : PS) (node : Int) (k : K) : (hintA most rs s node k).er ≠ 0 → (hintA most rs s node k).s = s := by
 unfold hintA
 split
 ·exact chA_no _ _ _ _
 ·split <;> exact fun _ => rfl
theorem unhA_no (most : Nat) (rs : List (List Nat)) (s : PS) (node : Int) (key : ByteArray) (f : Nat → Int) (l : List A) : (unhA most rs s node key f l).er ≠ 0 → (unhA most rs s node key f l).s = s := by
 unfold unhA
 split
 ·exact chA_no _ _ _ _
 ·exact fun _ => rfl
theorem reaA_no (most : Nat) (rs : List (List Nat)) (s : PS) (key : ByteArray) : (reaA most rs s key).er ≠ 0 → (reaA most rs s key).s = s := by
 unfold reaA
 split
 ·exact chA_no _ _ _ _
 ·exact fun _ => rfl
set_option maxRecDepth 100000 in
set_option maxHeartbeats 8000000 in
theorem small_walk (m : Int) (a : Option Addr) (cap : Nat) (cs : List C) (w : World) (_ : -9223372036854775808 ≤ m ∧ m ≤ 9223372036854775807) (hE : Cas w a cap cs) : Calls Tryz.prog 8 #[.int .i64 m, .slice a cs.length cap] w fun e w' => e = .returned (.bool true) ∧ Off (fun _ => False) w w' := by
 have hnot := not_any
 have hq := eql_sto
 have hbb : cs.length ≤ 9223372036854775807 := Nat.le_trans hE.len hE.bound
 have HE : Hid _ := hE
 clear hE
 go_enter Tryz.func8, Tryz.ntmps8
 go_wp2_with fail
 refine (light_any a cap cs w HE.out).mono ?_
 rintro e w1 ⟨bl, rfl, -, o1⟩
 have HO1 : Hid _ := o1
 have HE1 : Hid _ := HE.out.off o1
 clear o1
 cases bl
 ·go_wp2_with fail
  refine (awake_any _).mono ?_
  rintro e w2 ⟨rfl, o2⟩
  have HO2 : Hid _ := HO1.out.trans o2 (fun _ _ h => h)
  clear o2
  go_wp2_with fail
  go_ret
  exact ⟨rfl, HO2.out⟩
 ·go_wp2_with fail
  refine (fnew_any _ w1).mono ?_
  rintro e w2 ⟨b, rfl, fl⟩
  obtain ⟨most, hmost⟩ : ∃ k, Fil w1 b k [] w2 := ⟨_, fl⟩
  have HF : Hid _ := hmost
  clear fl hmost
  go_wp2_with fail
  refine (fopen_any HF.out Inv.nil).mono ?_
  rintro e w3 ⟨p, rfl, lw⟩
  have HL0 : Hid _ := lw
  clear lw HF
  go_wp2_with fail
  go_loopw [37] (fun y wr => ∃ (n : Nat) (rs : List (List Nat)) (s : PS), y = .int .i64 (n : Int) ∧ n ≤ cs.length ∧ Lw w1 p b most rs s wr) (fun y _ => (cs.length - intOf y).toNat)
  case atStart => exact ⟨0, [], ([], []), rfl, by omega, HL0.out⟩
  case round =>
   obtain ⟨n, rs, s, rfl, hn, lw⟩ := hrel
   have HL : Hid _ := lw
   clear lw
   by_cases hlt : n < cs.length
   ·have e1 : decide ((n : Int) < (cs.length : Int)) = true := decide_eq_true (by omega)
    have e2 : decide (n < cs.length) = true := decide_eq_true hlt
    obtain ⟨x, hx⟩ : ∃ x, cs[n]? = some x := ⟨_, List.getElem?_eq_getElem hlt⟩
    obtain ⟨bx, ox, rfl, kx, rx, sx⟩ := (HE1.out.off HL.out.off).at_ n x hx
    have HOK : Hid _ := HE1.out.ok x (List.mem_of_getElem? hx)
    have HBEL : Hid (Ter (fun c => c < w1.heap.size) x.a x.l) := by
     obtain ⟨-, -, -, -, hr, -⟩ := HE1.out.at_ n x hx
     exact hr.below
    go_upto_region 9 with fail
    refine wp_region_list ?_
    refine wpList_exec 39 rfl rfl (exec_idx10 rfl (idx_calls hlt _ _ _ _)) ?_
    simp only [Act.put, lsA, lsZ, lsS]
    refine wpList_exec 40 rfl rfl (exec_load rfl (run_loadAt_mid wr bx (ox + n * 22) 49 (ccs x) _ kx Tryz.underlying49 rfl (by kernel_rfl))) ?_
    simp only [Act.put, lsA, lsZ, lsS]
    refine wpList_exec 9 rfl rfl (exec_alloc rfl (allocC wr)) ?_
    simp only [Act.put, lsA, lsZ, lsS]
    refine wpList_skip rfl rfl (exec_store rfl (storeC wr x)) ?_
    have Cq4 := Cel.new wr 49 (ccs x).toArray
    have OA : Off (fun _ => False) wr (wr.alloc (.cells (ccs x).toArray 49)) := (Off.refl _ wr).alloc _
    generalize hq : wr.heap.size = q4 at Cq4 ⊢
    generalize hv : wr.alloc (.cells (ccs x).toArray 49) = V4 at Cq4 OA ⊢
    clear hq hv kx
    have HC4 : Hid _ := Cq4
    have HL4 : Hid _ := HL.out.free OA
    have HR4 : Hid (Row V4 x.a x.cap x.l) := rx.off OA
    have HX4 : Hid (Src V4 x.da x.dc x.data) := sx.off OA (fun _ _ _ h => h)
    clear Cq4 OA rx sx hx HL
    obtain ⟨lb, D, S, h1, h2⟩ := HL4.out.ex
    have HNS : Hid _ := h1.ns
    have HH4 : Hid _ := h1
    have HAGE : Hid _ := h2
    clear h1 h2
    go_wp2_with fail
    refine (wall_any HL4.out).mono ?_
    rintro e w5 ⟨ak, ck, es, rfl, hes, own, rows, hnw, o5⟩
    have HKE : Hid _ := hes
    have HKO5 : Hid _ := own
    have HKR5 : Hid _ := rows
    have HKN : Hid _ := hnw
    have HO5 : Hid _ := o5
    clear hes own rows hnw o5
    go_wp2_with fail
    refine (whints_any (HL4.out.free HO5.out)).mono ?_
    rintro e w6 ⟨ah, ch, ys, rfl, hys, own, rows, ters, hnw, o6⟩
    have HHE : Hid _ := hys
    have HHO : Hid _ := own
    have HHR : Hid _ := rows
    have HHT : Hid (∀ y ∈ ys, Ter (fun c => ¬ D c ∧ ¬ S c) y.e.a y.e.l) := fun y hy => (ters y hy).mono (fun c hc => HNS.out c (Nat.le_trans HO5.out.size hc))
    have HHN : Hid (∀ c, blk ah = some c → V4.heap.size ≤ c) := fun c hc => Nat.le_trans HO5.out.size (hnw c hc)
    have HO6 : Hid _ := HO5.out.trans o6 (fun _ _ h => h)
    have HKO : Hid _ := HKO5.out.off o6 (fun _ _ _ h => h)
    have HKR : Hid (∀ y ∈ es, Row w6 y.a y.cap y.l) := fun y hy => (HKR5.out y hy).1.off o6
    have HKT : Hid (∀ y ∈ es, Ter (fun c => ¬ D c ∧ ¬ S c) y.a y.l) := fun y hy => (HKR5.out y hy).2.ter.mono (fun c hc => HNS.out c hc)
    clear hys own rows ters hnw o6 HKO5 HKR5 HO5
    have HOL : Hid _ := HH4.out.free HO6.out
    have HROW : Hid _ := HR4.out.off HO6.out
    have HSRC : Hid _ := HX4.out.off HO6.out (fun _ _ _ h => h)
    have HTER : Hid (Ter (fun c => ¬ D c ∧ ¬ S c) x.a x.l) := HBEL.out.mono (fun c hc => ⟨fun e => by have := HAGE.out c (.inl e); omega, fun e => by have := HAGE.out c (.inr e); omega⟩)
    have HOFF6 : Hid (Off (fun _ => False) w1 w6) := HL4.out.off.trans HO6.out (fun _ _ h => h)
    have HC6 : Hid (Cel q4 49 #[.int .i64 x.d, .int .i64 x.node, .string x.key, .int .i64 (x.g 0), .int .i64 (x.g 1), .int .i64 (x.g 2), .int .i64 (x.g 3), .int .i64 (x.g 4), .int .i64 (x.g 5), .int .i64 (x.g 6), .int .i64 (x.g 7), .slice x.da x.data.length x.dc, .bool x.dead, .int .i64 (x.f 0), .int .i64 (x.f 1), .int .i64 (x.f 2), .int .i64 (x.f 3), .int .i64 (x.f 4), .int .i64 (x.f 5), .int .i64 (x.f 6), .int .i64 (x.f 7), .slice x.a x.l.length x.cap] w6) := HC4.out.off HO6.out (fun h => h)
    clear HL4 HC4 HR4 HX4 HH4 HBEL HO6
    obtain ⟨u0, u1, u2, u3, u4, u5, u6, u7, u8, u9, u10, u11, u12, u13, u14, u15, u16, u17, u18, u19, u20, u21⟩ := cel22 HC6.out
    go_upto_block 2 with fail
    clear u0 u1 u2 u3 u4 u5 u6 u7 u8 u9 u10 u11 u12 u13 u14 u15 u16 u17 u18 u19 u20 u21
    go_cut [12, 37] from 37 to 149 (fun g y wx => ∃ (er : Int) (rs2 : List (List Nat)) (s2 : PS) (D2 S2 : Nat → Prop), g = .int .i64 er ∧ y = .int .i64 (n : Int) ∧ (er ≠ 0 → s2 = s) ∧ Hol D2 S2 p lb b most rs2 s2 wx ∧ Mov D S D2 S2 w6 wx)
    case first =>
     by_cases h0 : x.d = 0
     ·have d0 : (x.d == 0) = true := by rw [h0]; rfl
      have d0' : decide (x.d = 0) = true := decide_eq_true h0
      obtain ⟨u0, u1, u2, u3, u4, u5, u6, u7, u8, u9, u10, u11, u12, u13, u14, u15, u16, u17, u18, u19, u20, u21⟩ := cel22 HC6.out
      go_wp2_with fail
      clear u0 u1 u2 u3 u4 u5 u6 u7 u8 u9 u10 u11 u12 u13 u14 u15 u16 u17 u18 u19 u20 u21
      refine (lput_any HOL.out x.node HOK.out.no x.key HOK.out.key x.g HOK.out.g x.da x.dc x.data x.dead HSRC.out HOK.out.lt HOK.out.len).mono ?_
      rintro e v6 ⟨f1, a1, c1, l1, rfl, -, -, -, -, D2, S2, hol, mv⟩
      have HH : Hid _ := hol
      have HM : Hid _ := mv
      clear hol mv
      go_wp2_with fail
      go_meet
      exact ⟨_, _, _, D2, S2, rfl, rfl, putA_no _ _ _ _ _ _ _ _, HH.out, HM.out⟩
     ·have d0 : (x.d == 0) = false := by rw [beq_eq_false_iff_ne]; exact h0
      have d0' : decide (x.d = 0) = false := decide_eq_false h0
      by_cases h1 : x.d = 1
      ·have d1 : (x.d == 1) = true := by rw [h1]; rfl
       have d1' : decide (x.d = 1) = true := decide_eq_true h1
       obtain ⟨u0, u1, u2, u3, u4, u5, u6, u7, u8, u9, u10, u11, u12, u13, u14, u15, u16, u17, u18, u19, u20, u21⟩ := cel22 HC6.out
       go_wp2_with fail
       clear u0 u1 u2 u3 u4 u5 u6 u7 u8 u9 u10 u11 u12 u13 u14 u15 u16 u17 u18 u19 u20 u21
       refine (ljoin_any HOL.out x.e HROW.out HOK.out.f HTER.out HOK.out.key).mono ?_
       rintro e v6 ⟨rfl, D2, S2, hol, mv⟩
       have HH : Hid _ := hol
       have HM : Hid _ := mv
       clear hol mv
       go_wp2_with fail
       go_meet
       exact ⟨_, _, _, D2, S2, rfl, rfl, joinA_no _ _ _ _, HH.out, HM.out⟩
      ·have d1 : (x.d == 1) = false := by rw [beq_eq_false_iff_ne]; exact h1
       have d1' : decide (x.d = 1) = false := decide_eq_false h1
       by_cases h2 : x.d = 2
       ·have d2 : (x.d == 2) = true := by rw [h2]; rfl
        have d2' : decide (x.d = 2) = true := decide_eq_true h2
        obtain ⟨u0, u1, u2, u3, u4, u5, u6, u7, u8, u9, u10, u11, u12, u13, u14, u15, u16, u17, u18, u19, u20, u21⟩ := cel22 HC6.out
        go_wp2_with fail
        clear u0 u1 u2 u3 u4 u5 u6 u7 u8 u9 u10 u11 u12 u13 u14 u15 u16 u17 u18 u19 u20 u21
        refine (lhint_any HOL.out x.node x.e HROW.out HOK.out.f HTER.out).mono ?_
        rintro e v6 ⟨rfl, D2, S2, hol, mv⟩
        have HH : Hid _ := hol
        have HM : Hid _ := mv
        clear hol mv
        go_wp2_with fail
        go_meet
        exact ⟨_, _, _, D2, S2, rfl, rfl, hintA_no _ _ _ _ _, HH.out, HM.out⟩
       ·have d2 : (x.d == 2) = false := by rw [beq_eq_false_iff_ne]; exact h2
        have d2' : decide (x.d = 2) = false := decide_eq_false h2
        by_cases h3 : x.d = 3
        ·have d3 : (x.d == 3) = true := by rw [h3]; rfl
         have d3' : decide (x.d = 3) = true := decide_eq_true h3
         obtain ⟨u0, u1, u2, u3, u4, u5, u6, u7, u8, u9, u10, u11, u12, u13, u14, u15, u16, u17, u18, u19, u20, u21⟩ := cel22 HC6.out
         go_wp2_with fail
         clear u0 u1 u2 u3 u4 u5 u6 u7 u8 u9 u10 u11 u12 u13 u14 u15 u16 u17 u18 u19 u20 u21
         refine (lunhint_any HOL.out x.node x.key x.f x.a x.cap x.l HROW.out).mono ?_
         rintro e v6 ⟨rfl, D2, S2, hol, mv⟩
         have HH : Hid _ := hol
         have HM : Hid _ := mv
         clear hol mv
         go_wp2_with fail
         go_meet
         exact ⟨_, _, _, D2, S2, rfl, rfl, unhA_no _ _ _ _ _ _ _, HH.out, HM.out⟩
        ·have d3 : (x.d == 3) = false := by rw [beq_eq_false_iff_ne]; exact h3
         have d3' : decide (x.d = 3) = false := decide_eq_false h3
         by_cases h4 : x.d = 4
         ·have d4 : (x.d == 4) = true := by rw [h4]; rfl
          have d4' : decide (x.d = 4) = true := decide_eq_true h4
          obtain ⟨u0, u1, u2, u3, u4, u5, u6, u7, u8, u9, u10, u11, u12, u13, u14, u15, u16, u17, u18, u19, u20, u21⟩ := cel22 HC6.out
          go_wp2_with fail
          clear u0 u1 u2 u3 u4 u5 u6 u7 u8 u9 u10 u11 u12 u13 u14 u15 u16 u17 u18 u19 u20 u21
          refine (lreap_any HOL.out x.key HOK.out.key).mono ?_
          rintro e v6 ⟨rfl, D2, S2, hol, mv⟩
          have HH : Hid _ := hol
          have HM : Hid _ := mv
          clear hol mv
          go_wp2_with fail
          go_meet
          exact ⟨_, _, _, D2, S2, rfl, rfl, reaA_no _ _ _ _, HH.out, HM.out⟩
         ·have d4 : (x.d == 4) = false := by rw [beq_eq_false_iff_ne]; exact h4
          have d4' : decide (x.d = 4) = false := decide_eq_false h4
          obtain ⟨u0, u1, u2, u3, u4, u5, u6, u7, u8, u9, u10, u11, u12, u13, u14, u15, u16, u17, u18, u19, u20, u21⟩ := cel22 HC6.out
          go_wp2_with fail
          go_meet
          exact ⟨0, rs, s, D, S, rfl, rfl, fun h => absurd rfl h, HOL.out, Mov.refl D S _⟩
    case rest =>
     clear HOL HROW HSRC HTER HC6
     obtain ⟨er, rs2, s2, D2, S2, rfl, rfl, himp, hol, mv⟩ := hcut
     have HIMP : Hid _ := himp
     have HH : Hid _ := hol
     have HM : Hid _ := mv
     have HL2 : Hid _ := Lw.mov HAGE.out HOFF6.out hol mv
     clear himp hol mv
     by_cases her : er = 0
     ·subst her
      clear HKE HKO HKR HKT HHE HHO HHR HHT HNS
      obtain ⟨D0, fd, vw⟩ := HL2.out.vw
      have HINV : Hid _ := HL2.out.inv
      have HF0 : Hid _ := fd
      have HV0 : Hid _ := vw
      clear fd vw HL2
      go_wp2_with fail
      refine (vopen_any HF0.out HINV.out).mono ?_
      rintro e x5 ⟨pt, D1, rfl, fd1, vw1, o1, n1⟩
      have HF1 : Hid _ := fd1
      have HVT : Hid _ := vw1
      have HVS : Hid _ := HV0.out.step o1 n1
      have HFEW : Hid _ := vw1.few
      clear fd1 vw1 o1 n1 HF0 HV0
      go_wp2_with fail
      refine (vall_any HVT.out).mono ?_
      rintro e x6 ⟨a6, c6, e6, rfl, h6, own6, row6, nw6, o6⟩
      have H6 : Hid _ := h6
      have HW6 : Hid _ := own6
      have HR6 : Hid _ := row6
      have HO6 : Hid _ := o6
      clear h6 own6 row6 nw6 o6
      go_wp2_with fail
      refine (vall_any (HVS.out.free HO6.out)).mono ?_
      rintro e x7 ⟨a7, c7, e7, rfl, h7, own7, row7, nw7, o7⟩
      have H7 : Hid _ := h7
      have HW7 : Hid _ := own7
      have HR7 : Hid _ := row7
      have HO7 : Hid _ := o7
      clear h7 own7 row7 nw7 o7
      go_wp2_with fail
      refine (sameents_any a6 a7 c6 c7 e6 e7 x7 (HW6.out.off HO7.out (fun _ _ _ h => h)).ent (fun e he => (HR6.out e he).1.off HO7.out) HW7.out.ent (fun e he => (HR7.out e he).1) (by rw [H6.out, H7.out]) (by have e := congrArg List.length H6.out; rw [absE_len] at e; have := HFEW.out.1; omega)).mono ?_
      rintro e x8 ⟨rfl, o8⟩
      have HO8 : Hid _ := (HO6.out.trans HO7.out (fun _ _ h => h)).trans o8 (fun _ _ h => h)
      clear o8 H6 H7 HW6 HW7 HR6 HR7 HO6 HO7
      go_wp2_with fail
      refine (vhints_any (HVT.out.free HO8.out)).mono ?_
      rintro e x9 ⟨a6, c6, e6, rfl, h6, own6, row6, ter6, nw6, o6⟩
      have H6 : Hid _ := h6
      have HW6 : Hid _ := own6
      have HR6 : Hid _ := row6
      have HO6 : Hid _ := o6
      clear h6 own6 row6 ter6 nw6 o6
      go_wp2_with fail
      refine (vhints_any ((HVS.out.free HO8.out).free HO6.out)).mono ?_
      rintro e x10 ⟨a7, c7, e7, rfl, h7, own7, row7, ter7, nw7, o7⟩
      have H7 : Hid _ := h7
      have HW7 : Hid _ := own7
      have HR7 : Hid _ := row7
      have HO7 : Hid _ := o7
      clear h7 own7 row7 ter7 nw7 o7
      go_wp2_with fail
      refine (samehints_any a6 a7 c6 c7 e6 e7 x10 (HW6.out.off HO7.out (fun _ _ _ h => h)).hns (fun e he => (HR6.out e he).off HO7.out) HW7.out.hns (fun e he => HR7.out e he) (by rw [H6.out, H7.out]) (by have e := congrArg List.length H6.out; rw [absH_len] at e; have := HFEW.out.2; omega)).mono ?_
      rintro e x11 ⟨rfl, o8⟩
      have HO9 : Hid _ := ((HO8.out.trans HO6.out (fun _ _ h => h)).trans HO7.out (fun _ _ h => h)).trans o8 (fun _ _ h => h)
      clear o8 H6 H7 HW6 HW7 HR6 HR7 HO6 HO7 HO8
      go_wp2_with fail
      go_roundw
      case rel => exact ⟨n + 1, _, _, by go_num, by omega, (HF1.out.free HO9.out).lw (HVS.out.free HO9.out) HINV.out⟩
      case measure => simp [intOf]; omega
     ·have d1 : (er != 0) = true := bne_iff_ne.2 her
      have HS2 : Hid (s2 = s) := HIMP.out her
      have HFE : Hid (s2.1.length ≤ 256 ∧ s2.2.length ≤ 64) := ⟨HL2.out.inv.ok.few, HL2.out.inv.ok.set.few⟩
      have HKO2 : Hid _ := HKO.out.off HM.out.off (fun c _ hc e => by have h3 := HNS.out c (HKN.out c hc); exact e.elim h3.1 h3.2)
      have HKR2 : Hid _ := fun e he => HM.out.row (HKR.out e he) (HKT.out e he)
      have HHO2 : Hid _ := HHO.out.off HM.out.off (fun c _ hc e => by have h3 := HNS.out c (HHN.out c hc); exact e.elim h3.1 h3.2)
      have HHR2 : Hid _ := fun e he => HM.out.row (HHR.out e he) (HHT.out e he)
      clear HKO HKR HKT HHO HHR HHT HNS
      go_wp2_with fail
      refine (lall_any HH.out.cor).mono ?_
      rintro e y6 ⟨a6, c6, e6, rfl, h6, own6, row6, nw6, o6⟩
      have H6 : Hid _ := h6
      have HW6 : Hid _ := own6
      have HR6 : Hid _ := row6
      have HO6 : Hid _ := o6
      clear h6 own6 row6 nw6 o6
      go_wp2_with fail
      refine (sameents_any a6 ak c6 ck e6 es y6 HW6.out.ent (fun e he => (HR6.out e he).1) (HKO2.out.off HO6.out (fun _ _ _ h => h)).ent (fun e he => (HKR2.out e he).off HO6.out) (by rw [H6.out, HKE.out, HS2.out]) (by have e := congrArg List.length H6.out; rw [absE_len] at e; have := HFE.out.1; omega)).mono ?_
      rintro e y8 ⟨rfl, o8⟩
      have HO8 : Hid _ := HO6.out.trans o8 (fun _ _ h => h)
      clear o8 H6 HW6 HR6 HO6 HKE HKO2 HKR2
      go_wp2_with fail
      refine (lhints_any (HH.out.free HO8.out).cor).mono ?_
      rintro e y9 ⟨a6, c6, e6, rfl, h6, own6, row6, ter6, nw6, o6⟩
      have H6 : Hid _ := h6
      have HW6 : Hid _ := own6
      have HR6 : Hid _ := row6
      have HO6 : Hid _ := o6
      clear h6 own6 row6 ter6 nw6 o6
      go_wp2_with fail
      refine (samehints_any a6 ah c6 ch e6 ys y9 HW6.out.hns (fun e he => HR6.out e he) ((HHO2.out.off HO8.out (fun _ _ _ h => h)).off HO6.out (fun _ _ _ h => h)).hns (fun e he => ((HHR2.out e he).off HO8.out).off HO6.out) (by rw [H6.out, HHE.out, HS2.out]) (by have e := congrArg List.length H6.out; rw [absH_len] at e; have := HFE.out.2; omega)).mono ?_
      rintro e y10 ⟨rfl, o8⟩
      have HL3 : Hid _ := HL2.out.free ((HO8.out.trans HO6.out (fun _ _ h => h)).trans o8 (fun _ _ h => h))
      clear o8 H6 HW6 HR6 HO6 HO8 HHE HHO2 HHR2 HH HM HL2 HS2
      have HL2 : Hid _ := HL3.out
      clear HL3
      obtain ⟨D0, fd, vw⟩ := HL2.out.vw
      have HINV : Hid _ := HL2.out.inv
      have HF0 : Hid _ := fd
      have HV0 : Hid _ := vw
      clear fd vw HL2
      go_wp2_with fail
      refine (vopen_any HF0.out HINV.out).mono ?_
      rintro e x5 ⟨pt, D1, rfl, fd1, vw1, o1, n1⟩
      have HF1 : Hid _ := fd1
      have HVT : Hid _ := vw1
      have HVS : Hid _ := HV0.out.step o1 n1
      have HFEW : Hid _ := vw1.few
      clear fd1 vw1 o1 n1 HF0 HV0
      go_wp2_with fail
      refine (vall_any HVT.out).mono ?_
      rintro e x6 ⟨a6, c6, e6, rfl, h6, own6, row6, nw6, o6⟩
      have H6 : Hid _ := h6
      have HW6 : Hid _ := own6
      have HR6 : Hid _ := row6
      have HO6 : Hid _ := o6
      clear h6 own6 row6 nw6 o6
      go_wp2_with fail
      refine (vall_any (HVS.out.free HO6.out)).mono ?_
      rintro e x7 ⟨a7, c7, e7, rfl, h7, own7, row7, nw7, o7⟩
      have H7 : Hid _ := h7
      have HW7 : Hid _ := own7
      have HR7 : Hid _ := row7
      have HO7 : Hid _ := o7
      clear h7 own7 row7 nw7 o7
      go_wp2_with fail
      refine (sameents_any a6 a7 c6 c7 e6 e7 x7 (HW6.out.off HO7.out (fun _ _ _ h => h)).ent (fun e he => (HR6.out e he).1.off HO7.out) HW7.out.ent (fun e he => (HR7.out e he).1) (by rw [H6.out, H7.out]) (by have e := congrArg List.length H6.out; rw [absE_len] at e; have := HFEW.out.1; omega)).mono ?_
      rintro e x8 ⟨rfl, o8⟩
      have HO8 : Hid _ := (HO6.out.trans HO7.out (fun _ _ h => h)).trans o8 (fun _ _ h => h)
      clear o8 H6 H7 HW6 HW7 HR6 HR7 HO6 HO7
      go_wp2_with fail
      refine (vhints_any (HVT.out.free HO8.out)).mono ?_
      rintro e x9 ⟨a6, c6, e6, rfl, h6, own6, row6, ter6, nw6, o6⟩
      have H6 : Hid _ := h6
      have HW6 : Hid _ := own6
      have HR6 : Hid _ := row6
      have HO6 : Hid _ := o6
      clear h6 own6 row6 ter6 nw6 o6
      go_wp2_with fail
      refine (vhints_any ((HVS.out.free HO8.out).free HO6.out)).mono ?_
      rintro e x10 ⟨a7, c7, e7, rfl, h7, own7, row7, ter7, nw7, o7⟩
      have H7 : Hid _ := h7
      have HW7 : Hid _ := own7
      have HR7 : Hid _ := row7
      have HO7 : Hid _ := o7
      clear h7 own7 row7 ter7 nw7 o7
      go_wp2_with fail
      refine (samehints_any a6 a7 c6 c7 e6 e7 x10 (HW6.out.off HO7.out (fun _ _ _ h => h)).hns (fun e he => (HR6.out e he).off HO7.out) HW7.out.hns (fun e he => HR7.out e he) (by rw [H6.out, H7.out]) (by have e := congrArg List.length H6.out; rw [absH_len] at e; have := HFEW.out.2; omega)).mono ?_
      rintro e x11 ⟨rfl, o8⟩
      have HO9 : Hid _ := ((HO8.out.trans HO6.out (fun _ _ h => h)).trans HO7.out (fun _ _ h => h)).trans o8 (fun _ _ h => h)
      clear o8 H6 H7 HW6 HW7 HR6 HR7 HO6 HO7 HO8
      go_wp2_with fail
      go_roundw
      case rel => exact ⟨n + 1, _, _, by go_num, by omega, (HF1.out.free HO9.out).lw (HVS.out.free HO9.out) HINV.out⟩
      case measure => simp [intOf]; omega
   ·obtain rfl : n = cs.length := by omega
    have e1 : decide ((cs.length : Int) < (cs.length : Int)) = false := decide_eq_false (by omega)
    have e2 : decide (cs.length < cs.length) = false := decide_eq_false (by omega)
    go_wp2_with fail
    refine (awake_any _).mono ?_
    rintro e w11 ⟨rfl, o11⟩
    have HOZ : Hid _ := (HO1.out.trans HL.out.off (fun _ _ h => h)).trans o11 (fun _ _ h => h)
    clear o11
    go_wp2_with fail
    go_ret
    exact ⟨rfl, HOZ.out⟩
end Go.Proofs.YthjbnpaghiojlaaGreat
