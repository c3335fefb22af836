/- Items of several texts. -/
import Derived.Test.YthjbnpaghiojlaaGreatKWRtext
namespace Go.Proofs.YthjbnpaghiojlaaGreat
open Go.RowKit
theorem wflag_any {D:Nat→Prop} {b most:Nat} {st:Option (List Nat)} {w:World} (hW:Wtr D b most st w) (f:Bool) (hsz:(st.getD []).length + 1≤140737488355328∨most≤140737488355328∧(st.getD []).length≤most) :
  Calls Tryz.prog 234 #[.pointer (some ⟨b,0,none⟩),.bool f] w fun e w'=>e=.returned (.tuple #[])∧Put D b most st [if f then 1 else 0] w w':=by
 cases f with
 | true =>
  have o1:Off (fun _=>False) w (w.alloc (.cells #[.int .u8 1] 5)):=(Off.refl _ w).alloc _
  have s1:=src_new w 1
  go_enter Tryz.func234,Tryz.ntmps234
  go_wp2_with fail
  refine (add_any (hW.off o1 (fun _ _ _ h=>h)) _ 1 [1] s1 none 0 [] (fun w' _=>Src.nil w') (by simp only [List.length_cons,List.length_nil]; omega)).mono ?_
  rintro e w2 ⟨rfl,P⟩
  go_wp2_with fail
  first | go_end0 | refine bodyPost_ret (results_none rfl _ _ _) rfl ?_
  exact ⟨rfl,Put.after o1 P⟩
 | false =>
  have o1:Off (fun _=>False) w (w.alloc (.cells #[.int .u8 0] 5)):=(Off.refl _ w).alloc _
  have s1:=src_new w 0
  go_enter Tryz.func234,Tryz.ntmps234
  go_wp2_with fail
  refine (add_any (hW.off o1 (fun _ _ _ h=>h)) _ 1 [0] s1 none 0 [] (fun w' _=>Src.nil w') (by simp only [List.length_cons,List.length_nil]; omega)).mono ?_
  rintro e w2 ⟨rfl,P⟩
  go_wp2_with fail
  first | go_end0 | refine bodyPost_ret (results_none rfl _ _ _) rfl ?_
  exact ⟨rfl,Put.after o1 P⟩
theorem rflag_any {D:Nat→Prop} {b:Nat} {s:RS} {w:World} (hR:Rdr 198 D b s w) :
  Calls Tryz.prog 223 #[.pointer (some ⟨b,0,none⟩)] w fun e w'=>e=.returned (.bool (flagS s).1)∧Rdr 198 D b (flagS s).2 w'∧Off (fun c=>c=b) w w':=by
 obtain ⟨l,er⟩:=s
 by_cases her:er=0
 ·subst her
  match l with
  | [] =>
   go_enter Tryz.func223,Tryz.ntmps223
   go_wp2_with fail
   refine (rnext_any hR).mono ?_
   rw [show nextS ([],0)=(0,([],2)) from rfl]
   rintro e w1 ⟨rfl,R1,o1⟩
   go_wp2_with fail
   go_ret
   exact ⟨rfl,R1,o1⟩
  | c :: l =>
   have hc:c < 256:=hR.ok.1 c (by simp)
   by_cases h1:1 < c
   ·have HF:Hid (flagS (c :: l,0)=(false,([],3))):=by
     show flagS (c :: l,0)=_
     simp [flagS,h1]
    have hd:decide ((1:Int) < (c:Int))=true:=by simp; omega
    have hd2:(((c:Nat):Int) == 1)=false:=by rw [beq_eq_false_iff_ne]; omega
    go_enter Tryz.func223,Tryz.ntmps223
    go_wp2_with fail
    refine (rnext_any hR).mono ?_
    rw [show nextS (c :: l,0)=(c,(l,0)) from rfl]
    rintro e w1 ⟨rfl,R1,o1⟩
    go_wp2_with fail
    refine (fail_any R1 3 (by omega)).mono ?_
    rintro e w2 ⟨rfl,R2,o2⟩
    go_wp2_with fail
    go_ret
    rw [HF.out]
    exact ⟨rfl,R2,o1.trans o2 (fun _ _ h=>h)⟩
   ·have HF:Hid (flagS (c :: l,0)=(c == 1,(l,0))):=by
     show flagS (c :: l,0)=_
     simp [flagS,h1]
    have hd:decide ((1:Int) < (c:Int))=false:=by simp; omega
    have HQ:Hid ((((c:Nat):Int) == 1)=(c == 1)):=by
     show (((c:Nat):Int) == 1)=(c == 1)
     rw [Bool.eq_iff_iff,beq_iff_eq,beq_iff_eq]
     omega
    go_enter Tryz.func223,Tryz.ntmps223
    go_wp2_with fail
    refine (rnext_any hR).mono ?_
    rw [show nextS (c :: l,0)=(c,(l,0)) from rfl]
    rintro e w1 ⟨rfl,R1,o1⟩
    go_wp2_with fail
    go_ret
    rw [HF.out]
    exact ⟨by simp only [← HQ.out]; rfl,R1,o1⟩
 ·have HF:Hid (flagS (l,er)=(false,(l,er))):=by
   show flagS (l,er)=_
   simp [flagS,her]
  have hx:nextS (l,er)=(0,(l,er)):=by simp [nextS,her]
  go_enter Tryz.func223,Tryz.ntmps223
  go_wp2_with fail
  refine (rnext_any hR).mono ?_
  rw [hx]
  rintro e w1 ⟨rfl,R1,o1⟩
  go_wp2_with fail
  go_ret
  rw [HF.out]
  exact ⟨rfl,R1,o1⟩
end Go.Proofs.YthjbnpaghiojlaaGreat
