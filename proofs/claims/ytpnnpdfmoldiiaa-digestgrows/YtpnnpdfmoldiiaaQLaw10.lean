/- Items of several texts. -/
import Derived.Deep.Cut
import Derived.Deep.RegionHeld
import Derived.Test.YtpnnpdfmoldiiaaQLiv
import Derived.Test.YtpnnpdfmoldiiaaQAwk
import Derived.Test.YtpnnpdfmoldiiaaQTxt
import Derived.Test.YtpnnpdfmoldiiaaQTbJ
namespace Go.Proofs.Ytpnnpdfmoldiiaa
open Go.RowKit
def ecs (e : E) : List Value := [.string e.key, .int .i64 (e.f 0), .int .i64 (e.f 1), .int .i64 (e.f 2), .int .i64 (e.f 3), .int .i64 (e.f 4), .int .i64 (e.f 5), .int .i64 (e.f 6), .int .i64 (e.f 7), .slice e.a e.l.length e.cap]
theorem ecs_len (e : E) : (ecs e).length = 10 := rfl
theorem ecs_one (e : E) : ∀ u ∈ ecs e, u.oneCell' = true := by simp [ecs, Value.oneCell']
theorem Try.infoE : (Try.prog.info? 40).map (fun i => (i.zero, i.size, i.bytes)) = some (some (.agg #[.string ⟨#[]⟩, .int .i64 0, .int .i64 0, .int .i64 0, .int .i64 0, .int .i64 0, .int .i64 0, .int .i64 0, .int .i64 0, .slice none 0 0]), 10, 104) := by kernel_rfl
theorem snoc_abs (es : List E) (x : E) : absE (es ++ [x]) = absE es ++ [x.abs] := by simp [absE]
structure Apt (to : Option Addr) (a : Option Addr) (l : List V) : Prop where
 row : l ≠ [] → ∀ c, blk a = some c → blk to ≠ some c
 val : ∀ v ∈ l, v.data ≠ [] → ∀ c, blk v.ad = some c → blk to ≠ some c
theorem src_lt {w : World} {t : Option Addr} {c : Nat} {bs : List Nat} (h : Src w t c bs) (hb : bs ≠ []) : ∀ x, blk t = some x → x < w.heap.size := by
 rcases h.is with ⟨-, e, -⟩ | ⟨ad, rfl, h0⟩
 ·exact absurd e hb
 ·intro x hx
  cases bs with
  | nil => exact absurd rfl hb
  | cons y r =>
   have h1 := h0 0 _ rfl
   have h2 := cell_lt h1
   rw [add_block] at h2
   simp [blk] at hx
   omega
theorem Src.offX {D : Nat → Prop} {w w' : World} {t : Option Addr} {c : Nat} {bs : List Nat} (h : Src w t c bs) (o : Off D w w') (hD : bs ≠ [] → ∀ x, blk t = some x → ¬ D x) : Src w' t c bs := by
 rcases h.is with e | ⟨ad, rfl, h0⟩
 ·exact ⟨.inl e⟩
 ·refine ⟨.inr ⟨ad, rfl, fun j u hj => ?_⟩⟩
  have h1 := h0 j u hj
  rw [← h1]
  refine World.cell?_of_block (o.block _ (cell_lt h1) (hD (fun e => ?_) _ (by rw [add_block]; rfl)))
  rw [e] at hj
  simp [vl] at hj
theorem Apt.row_off {to a : Option Addr} {cap : Nat} {l : List V} {w w' : World} (h : Apt to a l) (hr : Row w a cap l) (o : Off (fun c => blk to = some c) w w') : Row w' a cap l :=
 ⟨hr.len, hr.bound, fun i v hi => by
  obtain ⟨b, off, e, h1, h2⟩ := hr.at_ i v hi
  exact ⟨b, off, e, h1.off o (fun _ => h.row (fun e => by rw [e] at hi; simp at hi) b (by rw [e]; rfl)), ⟨h2.src.offX o (h.val v (List.mem_of_getElem? hi)), h2.lt, h2.n0, h2.n1, h2.m0, h2.m1, h2.len⟩⟩⟩
theorem Apt.step {to to' a : Option Addr} {cap N : Nat} {l : List V} {w : World} (h : Apt to a l) (hr : Row w a cap l) (hN : w.heap.size ≤ N) (hat : blk to' = blk to ∨ blk to' = some N) : Apt to' a l := by
 refine ⟨fun hl c hc e => ?_, fun v hv hd c hc e => ?_⟩
 ·rcases hat with k | k
  ·exact h.row hl c hc (k ▸ e)
  ·cases l with
   | nil => exact hl rfl
   | cons v r =>
    obtain ⟨b, off, ea, h1, -⟩ := hr.at_ 0 v rfl
    have := h1.lt
    rw [ea] at hc
    rw [k] at e
    simp [blk] at hc e
    omega
 ·rcases hat with k | k
  ·exact h.val v hv hd c hc (k ▸ e)
  ·have := src_lt (hr.ok v hv).src hd c hc
   rw [k] at e
   simp at e
   omega
end Go.Proofs.Ytpnnpdfmoldiiaa

namespace Go.Proofs.Ytpnnpdfmoldiiaa
open Go.RowKit
structure Ens (w : World) (a : Option Addr) (cap : Nat) (es : List E) : Prop where
 len : es.length ≤ cap
 bound : cap ≤ 9223372036854775807
 at_ : ∀ i e, es[i]? = some e → ∃ b off, a = some ⟨b, off, none⟩ ∧ (∀ j u, (ecs e)[j]? = some u → w.cell? ⟨b, off + i * 10 + j, none⟩ = some u) ∧ Row w e.a e.cap e.l
theorem Ens.offD {D : Nat → Prop} {w w' : World} {a : Option Addr} {cap : Nat} {es : List E} (h : Ens w a cap es) (o : Off D w w') (hN : NoI D w) : Ens w' a cap es :=
 ⟨h.len, h.bound, fun i e hi => by
  obtain ⟨b, off, ea, h1, h2⟩ := h.at_ i e hi
  refine ⟨b, off, ea, fun j u hj => ?_, h2.offN o hN⟩
  have k := h1 j u hj
  have k1 := h1 1 _ rfl
  rw [← k]
  exact World.cell?_of_block (a := ⟨b, off + i * 10 + j, none⟩) (o.block b (cell_lt k) (fun hd => hN.no ⟨b, off + i * 10 + 1, none⟩ hd _ _ k1))⟩
theorem Ens.off {w w' : World} {a : Option Addr} {cap : Nat} {es : List E} (h : Ens w a cap es) (o : Off (fun _ => False) w w') : Ens w' a cap es := h.offD o (NoI.none w)
theorem Ens.nil (w : World) (a : Option Addr) (cap : Nat) (h : cap ≤ 9223372036854775807) : Ens w a cap [] := ⟨by simp, h, fun i e hi => by simp at hi⟩
theorem OwnG.ens {w : World} {a : Option Addr} {cap : Nat} {es : List E} (h : OwnG 40 10 ecs w a cap es) (hr : ∀ e ∈ es, Row w e.a e.cap e.l) : Ens w a cap es := by
 have hb : es.length ≤ cap ∧ cap ≤ 9223372036854775807 := by
  rcases h.row.2 with ⟨hv, h0⟩ | ⟨g, c, cur, hv, hb, hh, hc, hm, -⟩
  ·simp only [Value.slice.injEq] at hv
   omega
  ·simp only [Value.slice.injEq] at hv
   unfold maxLen at hm
   omega
 refine ⟨hb.1, hb.2, fun i e hi => ?_⟩
 obtain ⟨g, e1, h1⟩ := h.at_ ecs_len hi
 exact ⟨g, 0, e1, fun j u hj => by rw [Nat.zero_add]; exact h1 j u hj, hr e (List.mem_of_getElem? hi)⟩
theorem ent10 {w : World} {b o : Nat} {e : E} (h : ∀ j u, (ecs e)[j]? = some u → w.cell? ⟨b, o + j, none⟩ = some u) : w.cell? ⟨b, o, none⟩ = some (.string e.key) ∧ w.cell? ⟨b, o + 1, none⟩ = some (.int .i64 (e.f 0)) ∧ w.cell? ⟨b, o + 2, none⟩ = some (.int .i64 (e.f 1)) ∧ w.cell? ⟨b, o + 3, none⟩ = some (.int .i64 (e.f 2)) ∧ w.cell? ⟨b, o + 4, none⟩ = some (.int .i64 (e.f 3)) ∧ w.cell? ⟨b, o + 5, none⟩ = some (.int .i64 (e.f 4)) ∧ w.cell? ⟨b, o + 6, none⟩ = some (.int .i64 (e.f 5)) ∧ w.cell? ⟨b, o + 7, none⟩ = some (.int .i64 (e.f 6)) ∧ w.cell? ⟨b, o + 8, none⟩ = some (.int .i64 (e.f 7)) ∧ w.cell? ⟨b, o + 9, none⟩ = some (.slice e.a e.l.length e.cap) :=
 ⟨h 0 _ rfl, h 1 _ rfl, h 2 _ rfl, h 3 _ rfl, h 4 _ rfl, h 5 _ rfl, h 6 _ rfl, h 7 _ rfl, h 8 _ rfl, h 9 _ rfl⟩
theorem idx_ents {m n : Nat} (h : n < m) (c g o : Nat) (W : World) : (Instr.indexAt 22 (.slice (some ⟨g, o, none⟩) m c) (.int .i64 (n : Int))).run Try.prog W = .ok (.pointer (some ⟨g, o + n * 10, none⟩)) W := by
 go_simp
def aw8 (a b : Int) : Nat → Int
 | 0 => a
 | 1 => b
 | _ => 0
end Go.Proofs.Ytpnnpdfmoldiiaa
