/- Items of several texts. -/
import Derived.Test.YthjbnpaghiojlaaGreatKInsP
namespace Go.Proofs.YthjbnpaghiojlaaGreat
open Go.RowKit
structure Mk (N:Nat) (w:World) (a:Option Addr) (c:Nat) (l:List V):Prop where
 own:OwnV w a c l
 lo:∀ k,blk a=some k→N≤k
 val:∀ v ∈ l,VOk w v∧∀ k,blk v.ad=some k→N≤k∧k < w.heap.size∧blk a ≠ some k
theorem Mk.nil (N:Nat) (w:World):Mk N w none 0 []:=⟨OwnV.nil w,fun k hk=>by simp [blk] at hk,fun v hv=>by simp at hv⟩
theorem Mk.off {D:Nat→Prop} {N:Nat} {w w':World} {a:Option Addr} {c:Nat} {l:List V} (h:Mk N w a c l) (o:Off D w w') (hD:∀ k,N≤k→k < w.heap.size→¬ D k):Mk N w' a c l :=
 ⟨h.own.off o (fun k hk=>hD k (h.lo k hk) (h.own.lt k hk)),h.lo,fun v hv=>⟨(h.val v hv).1.off o (fun k _ hk=>hD k ((h.val v hv).2 k hk).1 ((h.val v hv).2 k hk).2.1),fun k hk=>⟨((h.val v hv).2 k hk).1,Nat.lt_of_lt_of_le ((h.val v hv).2 k hk).2.1 o.size,((h.val v hv).2 k hk).2.2⟩⟩⟩
theorem Mk.free {N:Nat} {w w':World} {a:Option Addr} {c:Nat} {l:List V} (h:Mk N w a c l) (o:Off (fun _=>False) w w'):Mk N w' a c l:=h.off o (fun _ _ _ h=>h)
theorem Mk.row {N:Nat} {w:World} {a:Option Addr} {c:Nat} {l:List V} (h:Mk N w a c l):Row w a c l:=h.own.toRow (fun v hv=>(h.val v hv).1)
theorem Mk.snoc {N:Nat} {w w':World} {a a':Option Addr} {c c':Nat} {l:List V} {u:V} (h:Mk N w a c l) (hN:N≤w.heap.size) (hu:VOk w u) (hk:∀ k,blk u.ad=some k→N≤k∧k < w.heap.size∧blk a ≠ some k)
  (own:OwnV w' a' c' (l ++ [u])) (o:Off (fun k=>blk a=some k) w w') (hat:blk a'=blk a∨blk a'=some w.heap.size):Mk N w' a' c' (l ++ [u]):=by
 have far:∀ k,k < w.heap.size→blk a ≠ some k→blk a' ≠ some k:=fun k h1 h2 e=>by
  rcases hat with h | h
  ·exact h2 (h ▸ e)
  ·rw [h] at e
   simp at e
   omega
 refine ⟨own,fun k hk=>?_,fun v hv=>?_⟩
 ·rcases hat with e | e
  ·exact h.lo k (e ▸ hk)
  ·rw [e] at hk
   simp at hk
   omega
 ·rw [List.mem_append,List.mem_singleton] at hv
  rcases hv with hv | rfl
  ·have hx:=h.val v hv
   exact ⟨hx.1.off o (fun k _ hk=>(hx.2 k hk).2.2),fun k hk=>⟨(hx.2 k hk).1,Nat.lt_of_lt_of_le (hx.2 k hk).2.1 o.size,far k (hx.2 k hk).2.1 (hx.2 k hk).2.2⟩⟩
  ·exact ⟨hu.off o (fun k _ h=>(hk k h).2.2),fun k h=>⟨(hk k h).1,Nat.lt_of_lt_of_le (hk k h).2.1 o.size,far k (hk k h).2.1 (hk k h).2.2⟩⟩
theorem Mk.ins {N:Nat} {w w':World} {a a':Option Addr} {c c':Nat} {l:List V} {u:V} {m:Nat} (h:Mk N w a c l) (hN:N≤w.heap.size) (hu:VOk w u) (hk:∀ k,blk u.ad=some k→N≤k∧k < w.heap.size)
  (own:OwnV w' a' c' (l.take m ++ u :: l.drop m)) (o:Off (fun _=>False) w w') (hat:∀ k,blk a'=some k→w.heap.size≤k):Mk N w' a' c' (l.take m ++ u :: l.drop m):=by
 refine ⟨own,fun k hk=>Nat.le_trans hN (hat k hk),fun v hv=>?_⟩
 have far:∀ k,k < w.heap.size→blk a' ≠ some k:=fun k h1 e=>by
  have:=hat k e
  omega
 rw [ins_mem] at hv
 rcases hv with rfl | hv
 ·exact ⟨hu.off o (fun _ _ _ h=>h),fun k h=>⟨(hk k h).1,Nat.lt_of_lt_of_le (hk k h).2 o.size,far k (hk k h).2⟩⟩
 ·have hx:=h.val v hv
  exact ⟨hx.1.off o (fun _ _ _ h=>h),fun k h=>⟨(hx.2 k h).1,Nat.lt_of_lt_of_le (hx.2 k h).2.1 o.size,far k (hx.2 k h).2.1⟩⟩
end Go.Proofs.YthjbnpaghiojlaaGreat
