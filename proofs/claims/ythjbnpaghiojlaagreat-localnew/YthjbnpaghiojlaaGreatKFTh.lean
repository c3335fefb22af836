/- Items of several texts. -/
import Derived.Test.YthjbnpaghiojlaaGreatKLPure
namespace Go.Proofs.YthjbnpaghiojlaaGreat
def num4 (l:List Nat):Nat:=l.getD 0 0 * 16777216 + l.getD 1 0 * 65536 + l.getD 2 0 * 256 + l.getD 3 0
def be4 (n:Nat):List Nat:=[n / 16777216 % 256,n / 65536 % 256,n / 256 % 256,n % 256]
theorem be4_lt (n:Nat):∀ x ∈ be4 n,x < 256:=by
 intro x hx
 simp only [be4,List.mem_cons,List.not_mem_nil,or_false] at hx
 omega
theorem be4_len (n:Nat):(be4 n).length=4:=rfl
theorem num_be4 {n:Nat} (h:n < 4294967296) (x:List Nat):num4 (be4 n ++ x)=n:=by
 simp only [num4,be4,List.cons_append,List.nil_append,List.getD_cons_zero,List.getD_cons_succ]
 omega
theorem num4_lt {l:List Nat} (h:∀ x ∈ l,x < 256):num4 l < 4294967296:=by
 have g:∀ i,l.getD i 0 < 256:=fun i=>by
  by_cases hi:i < l.length
  ·have:l.getD i 0=l[i]:=by simp [hi]
   rw [this]
   exact h _ (List.getElem_mem hi)
  ·have:l[i]?=none:=List.getElem?_eq_none (Nat.le_of_not_lt hi)
   rw [List.getD_eq_getElem?_getD,this]
   decide
 have:=g 0
 have:=g 1
 have:=g 2
 have:=g 3
 unfold num4
 omega
def crcL (l:List Nat):Nat:=crc entry (fun i=>l.getD i 0) l.length
theorem getD_lt {l:List Nat} (h:∀ x ∈ l,x < 256) (i:Nat) (hi:i < l.length):l.getD i 0 < 256:=by
 have:l.getD i 0=l[i]:=by simp [hi]
 rw [this]
 exact h _ (List.getElem_mem hi)
theorem crcL_lt {l:List Nat} (h:∀ x ∈ l,x < 256):crcL l < 4294967296 :=
 crc_lt (fun x hx=>entry_lt (by omega)) _ (fun i hi=>getD_lt h i hi)
def frm (r:List Nat):List Nat:=be4 r.length ++ (be4 (crcL r) ++ r)
theorem frm_len (r:List Nat):(frm r).length=r.length + 8:=by
 simp [frm,be4_len]
 omega
theorem frm_lt {r:List Nat} (h:∀ x ∈ r,x < 256):∀ x ∈ frm r,x < 256:=by
 intro x hx
 simp only [frm,List.mem_append] at hx
 rcases hx with hx | hx | hx
 ·exact be4_lt _ _ hx
 ·exact be4_lt _ _ hx
 ·exact h _ hx
theorem frm_drop8 (r x:List Nat):(frm r ++ x).drop 8=r ++ x:=by
 simp [frm,be4]
theorem frm_drop4 (r x:List Nat):(frm r ++ x).drop 4=be4 (crcL r) ++ (r ++ x):=by
 simp [frm,be4]
def tkE (l:List Nat):Int :=
 if l.length < 8 then 2 else if 60000 < num4 l then 4 else if l.length - 8 < num4 l then 2 else if crcL ((l.drop 8).take (num4 l))=num4 (l.drop 4) then 0 else 3
def tkR (l:List Nat):List Nat:=if tkE l=0 then (l.drop 8).take (num4 l) else []
def tkN (l:List Nat):Nat:=if tkE l=0 then num4 l + 8 else 0
structure Rec (r:List Nat):Prop where
 len:r.length≤60000
 lt:∀ x ∈ r,x < 256
theorem frm_num {r:List Nat} (h:Rec r) (x:List Nat):num4 (frm r ++ x)=r.length:=by
 rw [frm,List.append_assoc]
 exact num_be4 (by have:=h.len; omega) _
theorem tkE_frm {r:List Nat} (h:Rec r) (x:List Nat):tkE (frm r ++ x)=0:=by
 have hn:=frm_num h x
 have hl:(frm r ++ x).length=r.length + 8 + x.length:=by rw [List.length_append,frm_len]
 unfold tkE
 rw [if_neg (by omega),hn,if_neg (by have:=h.len; omega),if_neg (by omega),frm_drop8,List.take_left,frm_drop4,num_be4 (crcL_lt h.lt),if_pos rfl]
theorem tkR_frm {r:List Nat} (h:Rec r) (x:List Nat):tkR (frm r ++ x)=r:=by
 rw [tkR,if_pos (tkE_frm h x),frm_num h,frm_drop8,List.take_left]
theorem tkN_frm {r:List Nat} (h:Rec r) (x:List Nat):tkN (frm r ++ x)=r.length + 8:=by
 rw [tkN,if_pos (tkE_frm h x),frm_num h]
theorem tkE_ok {l:List Nat} (h:tkE l=0):8≤l.length∧num4 l≤60000∧num4 l + 8≤l.length:=by
 unfold tkE at h
 by_cases h1:l.length < 8
 ·rw [if_pos h1] at h; omega
 ·rw [if_neg h1] at h
  by_cases h2:60000 < num4 l
  ·rw [if_pos h2] at h; omega
  ·rw [if_neg h2] at h
   by_cases h3:l.length - 8 < num4 l
   ·rw [if_pos h3] at h; omega
   ·omega
theorem tkN_le (l:List Nat):tkN l≤l.length:=by
 unfold tkN
 split
 ·have:=tkE_ok (by assumption); omega
 ·omega
theorem tkR_len {l:List Nat} (h:tkE l=0):(tkR l).length + 8=tkN l:=by
 have:=tkE_ok h
 rw [tkR,tkN,if_pos h,if_pos h,List.length_take,List.length_drop]
 omega
theorem tkR_lt {l:List Nat} (h:∀ x ∈ l,x < 256):∀ x ∈ tkR l,x < 256:=by
 intro x hx
 unfold tkR at hx
 split at hx
 ·exact h x (List.mem_of_mem_drop (List.mem_of_mem_take hx))
 ·simp at hx
theorem tkE_cases (l:List Nat):tkE l=0∨tkE l=2∨tkE l=3∨tkE l=4:=by
 unfold tkE
 repeat' split
 all_goals simp
theorem tkR_no {l:List Nat} (h:tkE l ≠ 0):tkR l=[]∧tkN l=0:=by
 rw [tkR,tkN,if_neg h,if_neg h]
 exact ⟨rfl,rfl⟩
def Got:List Nat→List (List Nat)→Nat→Prop
 | _,[],n=>n=0
 | l,r :: rs,n=>tkE l=0∧r=tkR l∧∃ m,n=tkN l + m∧Got (l.drop (tkN l)) rs m
theorem Got.le {l:List Nat} {rs:List (List Nat)} {n:Nat} (h:Got l rs n):n≤l.length:=by
 induction rs generalizing l n with
 | nil=>simp only [Got] at h; omega
 | cons r rs ih =>
  obtain ⟨-,-,m,rfl,h3⟩:=h
  have:=ih h3
  have:=tkN_le l
  rw [List.length_drop] at *
  omega
theorem Got.many {l:List Nat} {rs:List (List Nat)} {n:Nat} (h:Got l rs n):rs.length * 8≤n:=by
 induction rs generalizing l n with
 | nil=>simp
 | cons r rs ih =>
  obtain ⟨h1,-,m,rfl,h3⟩:=h
  have:=ih h3
  have:=tkR_len h1
  rw [List.length_cons]
  omega
theorem Got.snoc {l:List Nat} {rs:List (List Nat)} {n:Nat} (h:Got l rs n) (e:tkE (l.drop n)=0):Got l (rs ++ [tkR (l.drop n)]) (n + tkN (l.drop n)):=by
 induction rs generalizing l n with
 | nil =>
  simp only [Got] at h
  subst h
  rw [List.drop_zero] at *
  exact ⟨e,rfl,0,by omega,rfl⟩
 | cons r rs ih =>
  obtain ⟨h1,h2,m,rfl,h3⟩:=h
  rw [← List.drop_drop] at e
  have:=ih h3 e
  rw [List.drop_drop] at this
  exact ⟨h1,h2,_,by omega,this⟩
structure Al (l:List Nat) (rs:List (List Nat)) (n:Nat) (e:Int):Prop where
 got:Got l rs n
 fin:(tkE (l.drop n)=2∧e=0)∨(tkE (l.drop n) ≠ 2∧tkE (l.drop n) ≠ 0∧e=tkE (l.drop n))
theorem Got.uniq {l:List Nat} {rs ss:List (List Nat)} {n m:Nat} (h:Got l rs n) (k:Got l ss m) (hn:tkE (l.drop n) ≠ 0) (km:tkE (l.drop m) ≠ 0):rs=ss∧n=m:=by
 induction rs generalizing l n m ss with
 | nil =>
  simp only [Got] at h
  subst h
  cases ss with
  | nil=>simp only [Got] at k; exact ⟨rfl,k.symm⟩
  | cons s ss=>exact absurd k.1 hn
 | cons r rs ih =>
  obtain ⟨h1,rfl,a,rfl,h3⟩:=h
  cases ss with
  | nil =>
   simp only [Got] at k
   subst k
   exact absurd h1 km
  | cons s ss =>
   obtain ⟨k1,rfl,b,rfl,k3⟩:=k
   rw [← List.drop_drop] at hn km
   obtain ⟨rfl,rfl⟩:=ih h3 k3 hn km
   exact ⟨rfl,rfl⟩
theorem Al.ne {l:List Nat} {rs:List (List Nat)} {n:Nat} {e:Int} (h:Al l rs n e):tkE (l.drop n) ≠ 0:=by
 rcases h.fin with ⟨h,-⟩ | ⟨-,h,-⟩
 ·rw [h]; decide
 ·exact h
theorem Al.uniq {l:List Nat} {rs ss:List (List Nat)} {n m:Nat} {e f:Int} (h:Al l rs n e) (k:Al l ss m f):rs=ss∧n=m∧e=f:=by
 obtain ⟨rfl,rfl⟩:=h.got.uniq k.got h.ne k.ne
 refine ⟨rfl,rfl,?_⟩
 rcases h.fin with ⟨a,rfl⟩ | ⟨a,-,rfl⟩ <;> rcases k.fin with ⟨b,rfl⟩ | ⟨b,-,rfl⟩
 ·rfl
 ·exact absurd a b
 ·exact absurd b a
 ·rfl
def frs (rs:List (List Nat)):List Nat:=rs.flatMap frm
theorem frs_snoc (a:List (List Nat)) (r:List Nat):frs (a ++ [r])=frs a ++ frm r:=by simp [frs]
theorem frs_cons (r:List Nat) (a:List (List Nat)):frs (r :: a)=frm r ++ frs a:=by simp [frs]
theorem frs_lt {rs:List (List Nat)} (h:∀ r ∈ rs,Rec r):∀ x ∈ frs rs,x < 256:=by
 intro x hx
 simp only [frs,List.mem_flatMap] at hx
 obtain ⟨r,hr,hx⟩:=hx
 exact frm_lt (h r hr).lt x hx
theorem frs_len {rs:List (List Nat)} {n:Nat} (h:∀ r ∈ rs,r.length≤n):(frs rs).length≤rs.length * (n + 8):=by
 induction rs with
 | nil=>simp [frs]
 | cons r rs ih =>
  have h1:=h r (by simp)
  have h2:=ih (fun x hx=>h x (by simp [hx]))
  rw [frs_cons,List.length_append,frm_len,List.length_cons,Nat.succ_mul]
  omega
theorem got_frs {rs:List (List Nat)} (h:∀ r ∈ rs,Rec r) (x:List Nat):Got (frs rs ++ x) rs (frs rs).length:=by
 induction rs with
 | nil=>rfl
 | cons r rs ih =>
  have hr:=h r (by simp)
  rw [frs_cons,List.append_assoc]
  refine ⟨tkE_frm hr _,(tkR_frm hr _).symm,(frs rs).length,?_,?_⟩
  ·rw [tkN_frm hr,List.length_append,frm_len]
  ·rw [tkN_frm hr,← frm_len,List.drop_left]
   exact ih (fun s hs=>h s (by simp [hs]))
end Go.Proofs.YthjbnpaghiojlaaGreat
