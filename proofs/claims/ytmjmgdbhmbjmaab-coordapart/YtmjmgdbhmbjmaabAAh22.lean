/- Items of several texts. -/
import Derived.Test.YtmjmgdbhmbjmaabAGSame
import Derived.Test.YtmjmgdbhmbjmaabAGSm
import Derived.Test.YtmjmgdbhmbjmaabAArg22
import Derived.Test.YtmjmgdbhmbjmaabACs22
import Derived.Test.YtmjmgdbhmbjmaabAAt22
import Derived.Test.YtmjmgdbhmbjmaabASi22
import Derived.Test.YtmjmgdbhmbjmaabAGt22
namespace Go.Proofs.Ytmjmgdbhmbjmaab
set_option maxRecDepth 100000
open Go.RowKit
theorem sbs_at {n m : Nat} (h : n < m) (c b o : Nat) (W : World) : (Instr.indexAt 22 (.slice (some ⟨b, o, none⟩) m c) (.int .i64 (n : Int))).run Try.prog W = .ok (.pointer (some ⟨b, o + n * 9, none⟩)) W := by
 go_simp
theorem Sbs.cells {w wr : World} {a : Option Addr} {cap : Nat} {es : List SV} (h : Sbs w a cap es) (o : Off (fun _ => False) w wr) {i : Nat} (hi : i < es.length) : ∃ b off, a = some ⟨b, off, none⟩ ∧ (∀ j u, (sv9 (es.getD i SV.zero))[j]? = some u → wr.cell? ⟨b, off + i * 9 + j, none⟩ = some u) ∧ SvOk wr (es.getD i SV.zero) := by
 have e : es[i]? = some (es.getD i SV.zero) := by rw [List.getD_eq_getElem?_getD, List.getElem?_eq_getElem hi]; rfl
 exact (h.off o).at_ i _ e
theorem svc9 {b o : Nat} {s : SV} {w : World} (h : ∀ j u, (sv9 s)[j]? = some u → w.cell? ⟨b, o + j, none⟩ = some u) : w.cell? ⟨b, o, none⟩ = some (.int .i64 (s.f 0)) ∧ w.cell? ⟨b, o + 1, none⟩ = some (.int .i64 (s.f 1)) ∧ w.cell? ⟨b, o + 2, none⟩ = some (.int .i64 (s.f 2)) ∧ w.cell? ⟨b, o + 3, none⟩ = some (.int .i64 (s.f 3)) ∧ w.cell? ⟨b, o + 4, none⟩ = some (.int .i64 (s.f 4)) ∧ w.cell? ⟨b, o + 5, none⟩ = some (.int .i64 (s.f 5)) ∧ w.cell? ⟨b, o + 6, none⟩ = some (.int .i64 (s.f 6)) ∧ w.cell? ⟨b, o + 7, none⟩ = some (.int .i64 (s.f 7)) ∧ w.cell? ⟨b, o + 8, none⟩ = some (.slice s.a s.l.length s.cap) :=
 ⟨h 0 _ rfl, h 1 _ rfl, h 2 _ rfl, h 3 _ rfl, h 4 _ rfl, h 5 _ rfl, h 6 _ rfl, h 7 _ rfl, h 8 _ rfl⟩
theorem SvOk.sok {w wr : World} {s : SV} {Z : Nat → Prop} (h : SvOk w s) (o : Off (fun _ => False) w wr) (hZ : ∀ c, Z c → w.heap.size ≤ c) : SOk Z wr s := by
 have k : SOk (fun _ => False) w s := ⟨h.row, h.nrm, fun v hv => ⟨fun c _ z => z, fun _ c _ z => z⟩⟩
 exact ⟨(h.off o).row, h.nrm, fun v hv => ⟨fun c hc z => by have := (k.lt v hv).1 c hc; have := hZ c z; omega, fun hb c hc z => by have := (k.lt v hv).2 hb c hc; have := hZ c z; omega⟩⟩
theorem sgsame (s r : SV) (w : World) (h1 : Row w s.a s.cap s.l) (h2 : Row w r.a r.cap r.l) :
  Calls Try.prog 11 #[(.agg #[.int .i64 (s.f 0), .int .i64 (s.f 1), .int .i64 (s.f 2), .int .i64 (s.f 3), .int .i64 (s.f 4), .int .i64 (s.f 5), .int .i64 (s.f 6), .int .i64 (s.f 7), .slice s.a s.l.length s.cap]), (.agg #[.int .i64 (r.f 0), .int .i64 (r.f 1), .int .i64 (r.f 2), .int .i64 (r.f 3), .int .i64 (r.f 4), .int .i64 (r.f 5), .int .i64 (r.f 6), .int .i64 (r.f 7), .slice r.a r.l.length r.cap])] w fun e w' => e = .returned (.bool (sameSA s.abs r.abs)) ∧ Off (fun _ => False) w w' :=
 gsame_any s.f r.f s.a r.a s.cap r.cap s.l r.l w h1 h2
theorem an11 {g : Nat} {z : AnD} {w : World} (h : ∀ j u, (anC z)[j]? = some u → w.cell? ⟨g, j, none⟩ = some u) : w.cell? ⟨g, 1, none⟩ = some (.int .i64 z.err) ∧ w.cell? ⟨g, 2, none⟩ = some (.int .i64 (z.s.f 0)) ∧ w.cell? ⟨g, 3, none⟩ = some (.int .i64 (z.s.f 1)) ∧ w.cell? ⟨g, 4, none⟩ = some (.int .i64 (z.s.f 2)) ∧ w.cell? ⟨g, 5, none⟩ = some (.int .i64 (z.s.f 3)) ∧ w.cell? ⟨g, 6, none⟩ = some (.int .i64 (z.s.f 4)) ∧ w.cell? ⟨g, 7, none⟩ = some (.int .i64 (z.s.f 5)) ∧ w.cell? ⟨g, 8, none⟩ = some (.int .i64 (z.s.f 6)) ∧ w.cell? ⟨g, 9, none⟩ = some (.int .i64 (z.s.f 7)) ∧ w.cell? ⟨g, 10, none⟩ = some (.slice z.s.a z.s.l.length z.s.cap) :=
 ⟨h 1 _ rfl, h 2 _ rfl, h 3 _ rfl, h 4 _ rfl, h 5 _ rfl, h 6 _ rfl, h 7 _ rfl, h 8 _ rfl, h 9 _ rfl, h 10 _ rfl⟩
theorem an_off {w w' : World} {g : Nat} {us : List Value} (k : Off (fun _ => False) w w') (h : ∀ j u, us[j]? = some u → w.cell? ⟨g, j, none⟩ = some u) : ∀ j u, us[j]? = some u → w'.cell? ⟨g, j, none⟩ = some u := fun j u hj => by
 have h1 := h j u hj
 rw [← h1]
 exact World.cell?_of_block (a := ⟨g, j, none⟩) (k.block g (cell_lt h1) (fun h => h))
theorem cellsJ_off {w w' : World} {b o : Nat} {us : List Value} (k : Off (fun _ => False) w w') (h : ∀ j u, us[j]? = some u → w.cell? ⟨b, o + j, none⟩ = some u) : ∀ j u, us[j]? = some u → w'.cell? ⟨b, o + j, none⟩ = some u := fun j u hj => by
 have h1 := h j u hj
 rw [← h1]
 exact World.cell?_of_block (a := ⟨b, o + j, none⟩) (k.block b (cell_lt h1) (fun h => h))
theorem anss_at0 (n c g : Nat) (h : 0 < n) (W : World) : (Instr.indexAt 43 (.slice (some ⟨g, 0, none⟩) n c) (.int .i64 0)).run Try.prog W = .ok (.pointer (some ⟨g, 0, none⟩)) W := by
 have := anss_at (n := 0) (m := n) h c g W
 rw [show 0 * 11 = 0 from rfl] at this
 exact this
def apE (es : List SV) (i : Nat) : SA := (es.getD i SV.zero).abs
def Two (p q : Nat) (x y : CM) (N M : Nat) (w : World) : Prop := ∃ D E Z : Nat → Prop, CST D Z p x w ∧ CST E Z q y w ∧ (∀ c, D c → E c → False) ∧ (∀ c, Z c → N ≤ c) ∧ (∀ c, E c → c < M) ∧ M ≤ w.heap.size
theorem off_above {w0 w w' : World} {D : Nat → Prop} (O : Off (fun _ => False) w0 w) (g : Off D w w') (h : ∀ c, D c → w0.heap.size ≤ c) : Off (fun _ => False) w0 w' := O.trans g (fun c hc d => by have := h c d; omega)
theorem two_one {p q : Nat} {x y x' : CM} {N M : Nat} {w w' : World} {D E Z D' Z' : Nat → Prop} (hx : CST D Z p x w) (hy : CST E Z q y w) (hd : ∀ c, D c → E c → False) (hN : ∀ c, Z c → N ≤ c) (_ : ∀ c, E c → c < M) (c' : CST D' Z' p x' w') (g : Gro D D' Z Z' w w') (hNw : N ≤ w.heap.size) : Two p q x' y N w.heap.size w' :=
 ⟨D', E, Z', c', hy.beside g (fun c d e => hd c d e) (fun c d => hx.sub c d) (fun c z => c'.lt c z), fun c d e => (g.new c d).elim (fun d => hd c d e) (fun h => by have := hy.lt c (hy.sub c e); omega), fun c z => (g.zd c z).elim (hN c) (fun h => Nat.le_trans hNw h), fun c e => hy.lt c (hy.sub c e), g.off.size⟩
theorem two_two {p q : Nat} {x y y' : CM} {N M : Nat} {w w' : World} {D E Z E' Z' : Nat → Prop} (hx : CST D Z p x w) (hy : CST E Z q y w) (hd : ∀ c, D c → E c → False) (hN : ∀ c, Z c → N ≤ c) (_ : ∀ c, E c → c < M) (c' : CST E' Z' q y' w') (g : Gro E E' Z Z' w w') (hNw : N ≤ w.heap.size) : Two p q x y' N w'.heap.size w' :=
 ⟨D, E', Z', hx.beside g (fun c e d => hd c d e) (fun c e => hy.sub c e) (fun c z => c'.lt c z), c', fun c d e => (g.new c e).elim (fun e => hd c d e) (fun h => by have := hx.lt c (hx.sub c d); omega), fun c z => (g.zd c z).elim (hN c) (fun h => Nat.le_trans hNw h), fun c e => c'.lt c (c'.sub c e), Nat.le_refl _⟩
theorem two_new (w : World) : Calls Try.prog 6 #[.int .i64 9] w fun e w' => ∃ p, e = .returned (.pointer (some ⟨p, 0, none⟩)) ∧ p = w.heap.size ∧ CST (fun c => c = p) (fun c => False ∨ c = p) p (newM 9) w' ∧ Off (fun _ => False) w w' :=
 (cnew_any (Z := fun _ => False) 9 w (by omega) (fun _ h => h.elim)).mono fun e w' ⟨p, h1, h2, h3, h4⟩ => ⟨p, h1, h2, h3, h4.off⟩
theorem two_new2 {p : Nat} {x : CM} {w0 w : World} (h : CST (fun c => c = p) (fun c => False ∨ c = p) p x w) (O : Off (fun _ => False) w0 w) (hp : w0.heap.size ≤ p) : Calls Try.prog 6 #[.int .i64 9] w fun e w' => ∃ q M, e = .returned (.pointer (some ⟨q, 0, none⟩)) ∧ Two p q x (newM 9) w0.heap.size M w' ∧ Off (fun _ => False) w0 w' :=
 (cnew_any (Z := fun c => False ∨ c = p) 9 w (by omega) (fun c z => h.lt c z)).mono fun e w' ⟨q, h1, h2, h3, h4⟩ => ⟨q, w'.heap.size, h1, ⟨fun c => c = p, fun c => c = q, _, h.beside h4 (fun c e => e.elim) (fun c e => e.elim) (fun c z => h3.lt c z), h3, fun c e d => by have := h.lt p (.inr rfl); omega, fun c z => z.elim (fun z => z.elim (fun z => z.elim) (fun e => by omega)) (fun e => by have := O.size; omega), fun c e => h3.lt c (.inr e), Nat.le_refl _⟩, O.trans h4.off (fun _ _ h => h)⟩
theorem read_one {p q : Nat} {x y : CM} {M : Nat} {w0 w : World} (h : Two p q x y w0.heap.size M w) (O : Off (fun _ => False) w0 w) (need : Int) (key : ByteArray) (hl0 : x.last < 1000000) : Calls Try.prog 7 #[.pointer (some ⟨p, 0, none⟩), .int .i64 0, .int .i64 need, .string key, (.agg #[.int .i64 (SV.zero.f 0), .int .i64 (SV.zero.f 1), .int .i64 (SV.zero.f 2), .int .i64 (SV.zero.f 3), .int .i64 (SV.zero.f 4), .int .i64 (SV.zero.f 5), .int .i64 (SV.zero.f 6), .int .i64 (SV.zero.f 7), .slice SV.zero.a SV.zero.l.length SV.zero.cap])] w fun e w' => ∃ x' M', Two p q x' y w0.heap.size M' w' ∧ Off (fun _ => False) w0 w' ∧ x'.abs = (beginA x.abs 0 need true key SA.zero).1 ∧ e = .returned (.tuple #[.int .i64 (beginA x.abs 0 need true key SA.zero).2.1, .int .i64 (beginA x.abs 0 need true key SA.zero).2.2]) := by
 obtain ⟨D, E, Z, hx, hy, hd, hN, hM, hm⟩ := h
 refine (read_any hx 0 need key SV.zero (SOk.zero _ _) hl0).mono ?_
 rintro e w' ⟨x', D', Z', c', g, e1, e2⟩
 exact ⟨x', _, two_one hx hy hd hN hM c' g O.size, off_above O g.off (fun c d => hN c (hx.sub c d)), e1, e2⟩
theorem read_two {p q : Nat} {x y : CM} {M : Nat} {w0 w : World} (h : Two p q x y w0.heap.size M w) (O : Off (fun _ => False) w0 w) (need : Int) (key : ByteArray) (hl0 : y.last < 1000000) : Calls Try.prog 7 #[.pointer (some ⟨q, 0, none⟩), .int .i64 0, .int .i64 need, .string key, (.agg #[.int .i64 (SV.zero.f 0), .int .i64 (SV.zero.f 1), .int .i64 (SV.zero.f 2), .int .i64 (SV.zero.f 3), .int .i64 (SV.zero.f 4), .int .i64 (SV.zero.f 5), .int .i64 (SV.zero.f 6), .int .i64 (SV.zero.f 7), .slice SV.zero.a SV.zero.l.length SV.zero.cap])] w fun e w' => ∃ y' M', Two p q x y' w0.heap.size M' w' ∧ Off (fun _ => False) w0 w' ∧ y'.abs = (beginA y.abs 0 need true key SA.zero).1 ∧ e = .returned (.tuple #[.int .i64 (beginA y.abs 0 need true key SA.zero).2.1, .int .i64 (beginA y.abs 0 need true key SA.zero).2.2]) := by
 obtain ⟨D, E, Z, hx, hy, hd, hN, hM, hm⟩ := h
 refine (read_any hy 0 need key SV.zero (SOk.zero _ _) hl0).mono ?_
 rintro e w' ⟨x', D', Z', c', g, e1, e2⟩
 exact ⟨x', _, two_two hx hy hd hN hM c' g O.size, off_above O g.off (fun c d => hN c (hy.sub c d)), e1, e2⟩
theorem got_one {p q : Nat} {x y : CM} {M : Nat} {w0 w : World} (h : Two p q x y w0.heap.size M w) (O : Off (fun _ => False) w0 w) {n : Int} (hn : wf64 n) (node : Int) (key : ByteArray) (s : SV) (hs : SvOk w0 s) : Calls Try.prog 8 #[.pointer (some ⟨p, 0, none⟩), .int .i64 n, .int .i64 node, (.agg #[.string key, .int .i64 (s.f 0), .int .i64 (s.f 1), .int .i64 (s.f 2), .int .i64 (s.f 3), .int .i64 (s.f 4), .int .i64 (s.f 5), .int .i64 (s.f 6), .int .i64 (s.f 7), .slice s.a s.l.length s.cap])] w fun e w' => ∃ x', Two p q x' y w0.heap.size w.heap.size w' ∧ Off (fun _ => False) w0 w' ∧ x'.abs = (gotA x.abs n node key s.abs).1 ∧ GotR (gotA x.abs n node key s.abs).2 e w.heap.size w' := by
 obtain ⟨D, E, Z, hx, hy, hd, hN, hM, hm⟩ := h
 refine (got_any hx hn node key s (hs.sok O hN)).mono ?_
 rintro e w' ⟨x', D', Z', c', g, e1, e2⟩
 exact ⟨x', two_one hx hy hd hN hM c' g O.size, off_above O g.off (fun c d => hN c (hx.sub c d)), e1, e2⟩
theorem got_two {p q : Nat} {x y : CM} {M : Nat} {w0 w : World} (h : Two p q x y w0.heap.size M w) (O : Off (fun _ => False) w0 w) {n : Int} (hn : wf64 n) (node : Int) (key : ByteArray) (s : SV) (hs : SvOk w0 s) : Calls Try.prog 8 #[.pointer (some ⟨q, 0, none⟩), .int .i64 n, .int .i64 node, (.agg #[.string key, .int .i64 (s.f 0), .int .i64 (s.f 1), .int .i64 (s.f 2), .int .i64 (s.f 3), .int .i64 (s.f 4), .int .i64 (s.f 5), .int .i64 (s.f 6), .int .i64 (s.f 7), .slice s.a s.l.length s.cap])] w fun e w' => ∃ y' M', Two p q x y' w0.heap.size M' w' ∧ Off (fun _ => False) w0 w' ∧ Off (fun c => c < M) w w' ∧ y'.abs = (gotA y.abs n node key s.abs).1 ∧ GotR (gotA y.abs n node key s.abs).2 e w.heap.size w' := by
 obtain ⟨D, E, Z, hx, hy, hd, hN, hM, hm⟩ := h
 refine (got_any hy hn node key s (hs.sok O hN)).mono ?_
 rintro e w' ⟨x', D', Z', c', g, e1, e2⟩
 exact ⟨x', _, two_two hx hy hd hN hM c' g O.size, off_above O g.off (fun c d => hN c (hy.sub c d)), g.off.mono (fun c _ e => hM c e), e1, e2⟩
theorem GotR.row {r : Option (List Int)} {e : Ending} {N : Nat} {w' : World} (h : GotR r e N w') : ∃ a c l, e = .returned (.tuple #[.slice a l.length c, .bool r.isSome]) ∧ l = r.getD [] ∧ OwnG 3 1 inC w' a c l ∧ ∀ b, blk a = some b → N ≤ b := by
 cases r with
 | none => exact ⟨none, 0, [], h, rfl, OwnG.nil _ _ _ _, fun b hb => by cases hb⟩
 | some l =>
  obtain ⟨a, c, e, o, n⟩ := h
  exact ⟨a, c, l, e, rfl, o, n⟩
theorem ans_one {p q : Nat} {x y : CM} {M : Nat} {w0 w : World} (h : Two p q x y w0.heap.size M w) (O : Off (fun _ => False) w0 w) : Calls Try.prog 10 #[.pointer (some ⟨p, 0, none⟩)] w fun e w' => e = .returned (.slice x.aa x.an.length x.ac) ∧ OwnG 46 11 anC w' x.aa x.ac x.an ∧ x.an.length ≤ 1000000 ∧ Off (fun _ => False) w0 w' ∧ ∃ E Z : Nat → Prop, CST E Z q y w' ∧ (∀ z ∈ x.an, SOk Z w' z.s) ∧ ∀ c, Z c → w0.heap.size ≤ c := by
 obtain ⟨D, E, Z, hx, hy, hd, hN, hM, hm⟩ := h
 refine (canswers_any hx).mono ?_
 rintro e w' ⟨e1, own, oks, c', g⟩
 exact ⟨e1, own, by have := hx.cnt; have := hx.num; omega, off_above O g.off (fun c d => hN c (hx.sub c d)), E, Z, hy.beside g (fun c d e => hd c d e) (fun c d => hx.sub c d) (fun c z => c'.lt c z), oks, hN⟩
theorem behind_len9 (o : OA) : ∀ n, (behindA o n).length ≤ n
 | 0 => Nat.le_refl _
 | n + 1 => by
  have := behind_len9 o n
  show (behindA o n ++ _).length ≤ _
  rw [List.length_append]
  split <;> simp <;> omega
theorem got_len (x : CA) (n node : Int) (key : ByteArray) (s : SA) : ((gotA x n node key s).2.getD []).length ≤ 8 := by
 unfold gotA
 split
 ·simp
 ·split
  ·simp
  ·split
   ·exact behind_len9 _ 8
   ·simp
end Go.Proofs.Ytmjmgdbhmbjmaab
