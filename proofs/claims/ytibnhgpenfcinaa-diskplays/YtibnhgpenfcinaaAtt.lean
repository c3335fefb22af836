/- A file of a call's own: all its blocks were made since the call began. -/
import Derived.Test.YtibnhgpenfcinaaReg6
import Derived.Test.YtibnhgpenfcinaaArg6
namespace Go.Proofs.Ytibnhgpenfcinaa
open Go.RowKit

theorem app_yes {m : Nat} {bs xs : List Nat} (h : bs.length + xs.length ≤ m) : appE m bs xs = 0 ∧ appL m bs xs = bs ++ xs := ⟨by rw [appE, if_pos h], by rw [appL, if_pos h]⟩
theorem app_no {m : Nat} {bs xs : List Nat} (h : m < bs.length + xs.length) : appE m bs xs = 5 ∧ appL m bs xs = bs := ⟨by rw [appE, if_neg (by omega)], by rw [appL, if_neg (by omega)]⟩
theorem rep_yes {m s : Nat} {bs xs : List Nat} (h : xs.length ≤ m) : repE m xs = 0 ∧ repL m bs xs = xs ∧ repS m s xs = xs.length := ⟨by rw [repE, if_pos h], by rw [repL, if_pos h], by rw [repS, if_pos h]⟩
theorem rep_no {m s : Nat} {bs xs : List Nat} (h : m < xs.length) : repE m xs = 5 ∧ repL m bs xs = bs ∧ repS m s xs = s := ⟨by rw [repE, if_neg (by omega)], by rw [repL, if_neg (by omega)], by rw [repS, if_neg (by omega)]⟩

structure Att (w v : World) (b most : Nat) (bs : List Nat) (s : Nat) : Prop where
  off : Off (fun _ => False) w v
  is : ∃ D, Dsk D b most bs s v ∧ ∀ c, D c → w.heap.size ≤ c

theorem Att.su {w v : World} {b most : Nat} {bs : List Nat} {s : Nat} (h : Att w v b most bs s) : s ≤ bs.length := by obtain ⟨_, D, k, -⟩ := h; exact k.su
theorem Att.fit {w v : World} {b most : Nat} {bs : List Nat} {s : Nat} (h : Att w v b most bs s) : bs.length ≤ most := by obtain ⟨_, D, k, -⟩ := h; exact k.fit
theorem Att.bound {w v : World} {b most : Nat} {bs : List Nat} {s : Nat} (h : Att w v b most bs s) : most ≤ 1048576 := by obtain ⟨_, D, k, -⟩ := h; exact k.bound
theorem Att.free {w v v' : World} {b most : Nat} {bs : List Nat} {s : Nat} (h : Att w v b most bs s) (o : Off (fun _ => False) v v') : Att w v' b most bs s := by
  obtain ⟨h1, D, k, hd⟩ := h
  exact ⟨h1.trans o (fun _ _ h => h), D, k.free o, hd⟩
theorem Att.next {w v v' : World} {D D' : Nat → Prop} {b most : Nat} {bs : List Nat} {s : Nat} (h : Off (fun _ => False) w v) (hd : ∀ c, D c → w.heap.size ≤ c) (o : Off D v v') (k : Dsk D' b most bs s v') (hd' : ∀ c, D' c → D c ∨ v.heap.size ≤ c) : Att w v' b most bs s := by
  refine ⟨((h.mono (fun _ _ h => h.elim)).trans o (fun _ _ h => h)).mono (fun i hi e => ?_), D', k, fun c hc => ?_⟩
  · have := hd i e
    omega
  · have := h.size
    rcases hd' c hc with h | h
    · exact hd c h
    · omega

theorem anew_any (m : Int) {w v : World} (o : Off (fun _ => False) w v) :
    Calls Try.prog 9 #[.int .i64 m] v fun e v' => ∃ b, e = .returned (.pointer (some ⟨b, 0, none⟩)) ∧ Att w v' b (roomOf m) [] 0 ∧ Off (fun _ => False) v v' ∧ v.heap.size ≤ b ∧ b < v'.heap.size := by
  refine (new_any m v).mono ?_
  rintro e v' ⟨b, rfl, hb, k, o'⟩
  exact ⟨b, rfl, ⟨o.trans o' (fun _ _ h => h), _, k, fun c hc => by have := o.size; omega⟩, o', hb, k.lt b rfl⟩
theorem async_any {w v : World} {b most : Nat} {bs : List Nat} {s : Nat} (h : Att w v b most bs s) :
    Calls Try.prog 12 #[.pointer (some ⟨b, 0, none⟩)] v fun e v' => e = .returned (.int .i64 0) ∧ Att w v' b most bs bs.length := by
  obtain ⟨h1, D, k, hd⟩ := h
  refine (sync_any k.toDsk0).mono ?_
  rintro e v' ⟨rfl, k', o⟩
  exact ⟨rfl, .next h1 hd o k' (fun _ h => .inl h)⟩
theorem abytes_any {w v : World} {b most : Nat} {bs : List Nat} {s : Nat} (h : Att w v b most bs s) :
    Calls Try.prog 16 #[.pointer (some ⟨b, 0, none⟩)] v fun e v' => ∃ t c, e = .returned (.slice t bs.length c) ∧ OwnR v' t c bs ∧ (∀ k, blk t = some k → v.heap.size ≤ k) ∧ Att w v' b most bs s ∧ Off (fun _ => False) v v' := by
  obtain ⟨h1, D, k, hd⟩ := h
  refine (bytes_any k).mono ?_
  rintro e v' ⟨t, c, rfl, own, hblk, o⟩
  exact ⟨t, c, rfl, own, hblk, Att.free ⟨h1, D, k, hd⟩ o, o⟩
theorem aappend_any {w v : World} {b most : Nat} {bs : List Nat} {s : Nat} (h : Att w v b most bs s) (xt : Option Addr) (xc : Nat) (xs : List Nat) (hx : Src v xt xc xs) (hxl : xs.length ≤ 9223372036854775807) :
    Calls Try.prog 11 #[.pointer (some ⟨b, 0, none⟩), .slice xt xs.length xc] v fun e v' => e = .returned (.int .i64 (appE most bs xs)) ∧ Att w v' b most (appL most bs xs) s := by
  obtain ⟨h1, D, k, hd⟩ := h
  refine (append_any k xt xc xs hx hxl).mono ?_
  rintro e v' ⟨rfl, D', k', o, d⟩
  exact ⟨rfl, .next h1 hd o k' d⟩
theorem areplace_any {w v : World} {b most : Nat} {bs : List Nat} {s : Nat} (h : Att w v b most bs s) (xt : Option Addr) (xc : Nat) (xs : List Nat) (hx : Src v xt xc xs) (hxl : xs.length ≤ 9223372036854775807) :
    Calls Try.prog 13 #[.pointer (some ⟨b, 0, none⟩), .slice xt xs.length xc] v fun e v' => e = .returned (.int .i64 (repE most xs)) ∧ Att w v' b most (repL most bs xs) (repS most s xs) := by
  obtain ⟨h1, D, k, hd⟩ := h
  refine (replace_any k xt xc xs hx hxl).mono ?_
  rintro e v' ⟨rfl, D', k', o, d⟩
  exact ⟨rfl, .next h1 hd o k' d⟩
theorem acut_any {w v : World} {b most : Nat} {bs : List Nat} {s : Nat} (h : Att w v b most bs s) (n : Nat) (hn : n ≤ bs.length) :
    Calls Try.prog 14 #[.pointer (some ⟨b, 0, none⟩), .int .i64 (n : Int)] v fun e v' => e = .returned (.int .i64 0) ∧ Att w v' b most (bs.take n) n := by
  obtain ⟨h1, D, k, hd⟩ := h
  refine (cut_any k n hn).mono ?_
  rintro e v' ⟨rfl, k', o⟩
  exact ⟨rfl, .next h1 hd o k' (fun _ h => .inl h)⟩
theorem acutno_any {w v : World} {b most : Nat} {bs : List Nat} {s : Nat} (h : Att w v b most bs s) (n : Int) (hn : n < 0 ∨ (bs.length : Int) < n) :
    Calls Try.prog 14 #[.pointer (some ⟨b, 0, none⟩), .int .i64 n] v fun e v' => e = .returned (.int .i64 1) ∧ v' = v := by
  obtain ⟨h1, D, k, hd⟩ := h
  exact cutno_any k n hn
theorem acrash_any {w v : World} {b most : Nat} {bs : List Nat} {s : Nat} (h : Att w v b most bs s) (p : Int) :
    Calls Try.prog 15 #[.pointer (some ⟨b, 0, none⟩), .int .i64 p] v fun e v' => e = .returned (.tuple #[]) ∧ Att w v' b most (bs.take (keepN bs.length s p)) (keepN bs.length s p) := by
  obtain ⟨h1, D, k, hd⟩ := h
  refine (crash_any k p).mono ?_
  rintro e v' ⟨rfl, k', o⟩
  exact ⟨rfl, .next h1 hd o k' (fun _ h => .inl h)⟩
/-- All is sure: a crash takes nothing. -/
theorem acrash_all {w v : World} {b most : Nat} {bs : List Nat} (h : Att w v b most bs bs.length) (p : Int) :
    Calls Try.prog 15 #[.pointer (some ⟨b, 0, none⟩), .int .i64 p] v fun e v' => e = .returned (.tuple #[]) ∧ Att w v' b most bs bs.length := by
  refine (acrash_any h p).mono ?_
  have e : keepN bs.length bs.length p = bs.length := Nat.le_antisymm (keepN_le (Nat.le_refl _) p) (keepN_ge _ _ _)
  rw [e, List.take_length]
  exact fun _ _ h => h
end Go.Proofs.Ytibnhgpenfcinaa
