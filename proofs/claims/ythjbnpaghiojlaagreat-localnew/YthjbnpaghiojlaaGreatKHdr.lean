/- Items of several texts. -/
import Derived.Test.YthjbnpaghiojlaaGreatKLeq5
import Derived.Test.YthjbnpaghiojlaaGreatKHpt
namespace Go.Proofs.YthjbnpaghiojlaaGreat
open Go.RowKit
set_option maxRecDepth 100000 in
set_option maxHeartbeats 4000000 in
theorem hdrop_any (D:Nat→Prop) (p:Nat) (xs:List H) (node:Int) (key:ByteArray) (f:Nat→Int) (sa:Option Addr) (sc:Nat) (l:List V) (w:World) (S:HSt D p xs w) (hr:Row w sa sc l) :
  Calls Tryz.prog 97 #[.pointer (some ⟨p,0,none⟩),.int .i64 node,.string key,.agg #[.int .i64 (f 0),.int .i64 (f 1),.int .i64 (f 2),.int .i64 (f 3),.int .i64 (f 4),.int .i64 (f 5),.int .i64 (f 6),.int .i64 (f 7),.slice sa l.length sc]] w fun e w'=>e=.returned (.bool (drpB (absH xs) (node,key) f (cont l)))∧∃ xs',HSt D p xs' w'∧absH xs'=drpT (absH xs) (node,key) f (cont l)∧Off D w w':=by
 have hq:=eql_set
 have hnot:=not_any
 have C:=Cel.new w 47 #[.int .i64 (f 0),.int .i64 (f 1),.int .i64 (f 2),.int .i64 (f 3),.int .i64 (f 4),.int .i64 (f 5),.int .i64 (f 6),.int .i64 (f 7),.slice sa l.length sc]
 have O:Off (fun _=>False) w (w.alloc (.cells #[.int .i64 (f 0),.int .i64 (f 1),.int .i64 (f 2),.int .i64 (f 3),.int .i64 (f 4),.int .i64 (f 5),.int .i64 (f 6),.int .i64 (f 7),.slice sa l.length sc] 47)):=(Off.refl _ w).alloc _
 have HST:Hid _:=S
 have hfew:=S.few
 go_enter Tryz.func97,Tryz.ntmps97
 go_upto_region 1 with fail
 generalize hv:w.alloc (.cells #[.int .i64 (f 0),.int .i64 (f 1),.int .i64 (f 2),.int .i64 (f 3),.int .i64 (f 4),.int .i64 (f 5),.int .i64 (f 6),.int .i64 (f 7),.slice sa l.length sc] 47)=V at C O ⊢
 have HC:Hid _:=C
 have HO:Hid _:=O
 have HR:Hid _:=hr.off O
 clear hv C O hr S
 go_wp2_with fail
 refine (hfind_any D p xs node key V (HST.out.free HO.out)).mono ?_
 rintro e w2 ⟨n,rfl,hfn,o2⟩
 have HO2:Hid _:=HO.out.trans o2 (fun _ _ h=>h)
 have HC2:Hid _:=HC.out.off o2 (fun h=>h)
 have HR2:Hid _:=HR.out.off o2
 have HFN:Hid _:=hfn
 clear o2 hfn HC HR HO
 obtain ⟨a,cap,hcp,how,hgd,hgt⟩:=(HST.out.free HO2.out).is
 have c0:w2.cell? ⟨p,0,none⟩=some (.slice a xs.length cap):=hcp.cell 0
 have HCP:Hid _:=hcp
 have HOW2:Hid _:=how
 have HGD:Hid _:=hgd
 have HGT:Hid _:=hgt
 clear hcp how hgd hgt
 cases hia:isAt xs (node,key) n
 ·have HNF:Hid (fndGH HK.nk (node,key) (absH xs)=none):=by show _=none; rw [← absH_fnd,fnd_no HST.out.sor HFN.out hia]; rfl
  clear hia
  go_upto_region 4 with fail
  refine wp_region_held_drew (S:=fun w'=>Off (fun _=>False) w2 w') (by kernel_rfl) ((Off.refl _ w2).drew) (fun hS=>?_)
  refine take_q 0 20 (.bool false) hS ?_
  simp only [Act.put,lsA,lsZ,lsS]
  refine take_q 1 21 (.bool true) hS ?_
  simp only [Act.put,lsA,lsZ,lsS]
  refine take_q 2 22 (.bool true) hS ?_
  simp only [Act.put,lsA,lsZ,lsS]
  refine take_r 3 23 (undef) rfl (Or.inr ⟨by rfl,rfl⟩) hS ?_
  simp only [Act.put,lsA,lsZ,lsS]
  refine take_r 4 24 (undef) rfl (Or.inr ⟨by rfl,rfl⟩) hS ?_
  simp only [Act.put,lsA,lsZ,lsS]
  refine take_r 5 25 (undef) rfl (Or.inr ⟨by rfl,rfl⟩) hS ?_
  simp only [Act.put,lsA,lsZ,lsS]
  refine take_r 6 26 (undef) rfl (Or.inr ⟨by rfl,rfl⟩) hS ?_
  simp only [Act.put,lsA,lsZ,lsS]
  refine take_r 7 27 (undef) rfl (Or.inr ⟨by rfl,rfl⟩) hS ?_
  simp only [Act.put,lsA,lsZ,lsS]
  refine take_r 8 28 (undef) rfl (Or.inr ⟨by rfl,rfl⟩) hS ?_
  simp only [Act.put,lsA,lsZ,lsS]
  refine take_r 9 29 (undef) rfl (Or.inr ⟨by rfl,rfl⟩) hS ?_
  simp only [Act.put,lsA,lsZ,lsS]
  refine take_r 10 30 (undef) rfl (Or.inr ⟨by rfl,rfl⟩) hS ?_
  simp only [Act.put,lsA,lsZ,lsS]
  refine take_r 11 31 (undef) rfl (Or.inr ⟨by rfl,rfl⟩) hS ?_
  simp only [Act.put,lsA,lsZ,lsS]
  refine take_r 12 32 (undef) rfl (Or.inr ⟨by rfl,rfl⟩) hS ?_
  simp only [Act.put,lsA,lsZ,lsS]
  refine take_r 13 33 (undef) rfl (Or.inr ⟨by rfl,rfl⟩) hS ?_
  simp only [Act.put,lsA,lsZ,lsS]
  refine take_r 14 34 (undef) rfl (Or.inr ⟨by rfl,rfl⟩) hS ?_
  simp only [Act.put,lsA,lsZ,lsS]
  refine take_q 15 35 (.bool true) hS ?_
  simp only [Act.put,lsA,lsZ,lsS]
  refine wpAnyH_done (by kernel_rfl) ?_ _
  have HO3:Hid _:=HO2.out.trans hS (fun _ _ h=>h)
  clear hS
  go_wp2_with fail
  go_ret
  have hB:drpB (absH xs) (node,key) f (cont l)=false:=by unfold drpB; rw [HNF.out]
  exact ⟨by rw [hB]; rfl,xs,HST.out.free HO3.out,by unfold drpT; rw [hB]; rfl,HO3.out.mono (fun _ _ h=>h.elim)⟩
 ·obtain ⟨x,hx,hxk,hfx⟩:=fnd_yes HST.out.sor hia
  have HFX:Hid (fndGH HK.nk (node,key) (absH xs)=some x.abs):=by show _=_; rw [← absH_fnd,hfx]; rfl
  have HX:Hid _:=hx
  have HXK:Hid _:=hxk
  have HRX:Hid _:=(HST.out.row x (List.mem_of_getElem? hx)).off HO2.out
  obtain ⟨hlt,-⟩:=List.getElem?_eq_some_iff.1 hx
  obtain ⟨g,rfl,hat⟩:=HOW2.out.atH hx
  have HAT:Hid _:=hat
  clear hx hxk hfx hat hia
  go_upto_region 4 with fail
  clear c0
  refine wp_region_held_drew (S:=fun w'=>Off (fun _=>False) w2 w') (by kernel_rfl) ((Off.refl _ w2).drew) (fun hS=>?_)
  refine take_q 0 20 (.bool true) hS ?_
  simp only [Act.put,lsA,lsZ,lsS]
  refine take_q 1 21 (.bool false) hS ?_
  simp only [Act.put,lsA,lsZ,lsS]
  refine take_q 2 22 (.bool false) hS ?_
  simp only [Act.put,lsA,lsZ,lsS]
  refine take_q 3 23 (.pointer (some ⟨p,0,none⟩)) hS ?_
  simp only [Act.put,lsA,lsZ,lsS]
  refine take_q 4 24 (.pointer (some ⟨p,0,none⟩)) hS ?_
  simp only [Act.put,lsA,lsZ,lsS]
  refine take_q 5 25 (.pointer (some ⟨p,0,none⟩)) hS ?_
  simp only [Act.put,lsA,lsZ,lsS]
  refine take_r 6 26 (.slice (some ⟨g,0,none⟩) xs.length cap) rfl (Or.inl ⟨by rfl,fun w' hw'=>by have e:=(HCP.out.off hw' (fun h=>h)).cell 0; simp only [List.getElem?_toArray,List.getElem?_cons_zero] at e; go_simp⟩) hS ?_
  simp only [Act.put,lsA,lsZ,lsS]
  refine take_q 7 27 (.int .i64 (n:Int)) hS ?_
  simp only [Act.put,lsA,lsZ,lsS]
  refine take_r 8 28 (.pointer (some ⟨g,n * 11,none⟩)) rfl (Or.inl ⟨by rfl,fun w' hw'=>exec_idx10 rfl (idx_hin hlt cap g w')⟩) hS ?_
  simp only [Act.put,lsA,lsZ,lsS]
  refine take_q 9 29 (.pointer (some ⟨g,n * 11 + 1,none⟩)) hS ?_
  simp only [Act.put,lsA,lsZ,lsS]
  refine take_q 10 30 (.pointer (some ⟨g,n * 11 + 2,none⟩)) hS ?_
  simp only [Act.put,lsA,lsZ,lsS]
  refine take_r 11 31 (.agg #[.int .i64 (x.e.f 0),.int .i64 (x.e.f 1),.int .i64 (x.e.f 2),.int .i64 (x.e.f 3),.int .i64 (x.e.f 4),.int .i64 (x.e.f 5),.int .i64 (x.e.f 6),.int .i64 (x.e.f 7),.slice x.e.a x.e.l.length x.e.cap]) rfl (Or.inl ⟨by rfl,fun w' hw'=>by obtain ⟨x0,x1,x2,x3,x4,x5,x6,x7,x8,x9,x10⟩:=(HAT.out.off hw' (fun _ h=>h)).cells; go_simp⟩) hS ?_
  simp only [Act.put,lsA,lsZ,lsS]
  refine take_r 12 32 (.agg #[.int .i64 (f 0),.int .i64 (f 1),.int .i64 (f 2),.int .i64 (f 3),.int .i64 (f 4),.int .i64 (f 5),.int .i64 (f 6),.int .i64 (f 7),.slice sa l.length sc]) rfl (Or.inl ⟨by rfl,fun w' hw'=>by obtain ⟨x0,x1,x2,x3,x4,x5,x6,x7,x8⟩:=cel9 (HC2.out.off hw' (fun h=>h)); go_simp⟩) hS ?_
  simp only [Act.put,lsA,lsZ,lsS]
  refine wpAnyH_ready (rs:=[13]) (by kernel_rfl) (by simp) ?_
  refine AllReadyH.cons rfl (fun K' hK'=>?_) AllReadyH.nil
  go_simp
  refine (sleq_any x.e.f f x.e.a sa x.e.cap sc x.e.l l _ (HRX.out.off hS) (HR2.out.off hS)).mono ?_
  have HLQ:Hid (drpB (absH xs) (node,key) f (cont l)=leqS x.e.f f (cont x.e.l) (cont l)):=by show _=_; unfold drpB; rw [HFX.out]; rfl
  generalize leqS x.e.f f (cont x.e.l) (cont l)=lq at HLQ
  rintro e v3 ⟨rfl,o3⟩
  refine hK'.out _ _ (hS.trans o3 (fun _ _ h=>h)) (fun hS=>?_)
  clear hK' K'
  refine take_q 14 34 (.bool (!lq)) hS ?_
  simp only [Act.put,lsA,lsZ,lsS]
  refine take_q 15 35 (.bool (!lq)) hS ?_
  simp only [Act.put,lsA,lsZ,lsS]
  refine wpAnyH_done (by kernel_rfl) ?_ _
  have HP3:Hid (Off (fun _=>False) w2 v3):=hS
  clear hS o3
  have HO3:Hid _:=HO2.out.trans HP3.out (fun _ _ h=>h)
  cases lq
  ·go_wp2_with fail
   go_ret
   exact ⟨by rw [HLQ.out]; rfl,xs,HST.out.free HO3.out,by unfold drpT; rw [HLQ.out]; rfl,HO3.out.mono (fun _ _ h=>h.elim)⟩
  ·have c0:v3.cell? ⟨p,0,none⟩=some (.slice (some ⟨g,0,none⟩) xs.length cap):=(HCP.out.off HP3.out (fun h=>h)).cell 0
   have b1:(n:Int) + 1≤65:=by omega
   go_wp2_with fail
   clear c0
   refine (hdel_any (some ⟨g,0,none⟩) cap xs n v3 (HOW2.out.off HP3.out (fun _ _ _ h=>h)) hlt (by omega) _ rfl).mono ?_
   rintro e v4 ⟨m,rfl,hm,own4,o4⟩
   have HM4:Hid _:=hm
   have HOWN:Hid _:=own4
   have HO4:Hid (Off (fun c=>c=g) v3 v4):=o4.mono (fun i _ e=>by simp [blk] at e; exact e.symm)
   clear hm own4 o4
   have hcp4:Cel p 144 #[.slice (some ⟨g,0,none⟩) xs.length cap] v4:=(HCP.out.off HP3.out (fun h=>h)).off HO4.out (fun e=>(HGD.out g rfl).2 e.symm)
   have c0:v4.cell? ⟨p,0,none⟩=some (.slice (some ⟨g,0,none⟩) xs.length cap):=hcp4.cell 0
   have fr:=hcp4.free
   have HCP4:Hid _:=hcp4.set 0 (.slice (some ⟨g,0,none⟩) m cap)
   clear hcp4
   go_wp2_with fail
   go_ret
   have hdl:xs.take n ++ xs.drop (n + 1)=delG H.nk x.nk xs:=erase_del H.nk HST.out.sor HX.out
   rw [hdl] at HM4 HOWN
   have OP:Off (fun c=>c=p) v4 (v4.setCell ⟨p,0,none⟩ (.slice (some ⟨g,0,none⟩) m cap)):=(Off.refl (fun c=>c=p) v4).setCell (p:=⟨p,0,none⟩) (.inl rfl) _
   have hgd:=HGD.out g rfl
   have OD:Off D w (v4.setCell ⟨p,0,none⟩ (.slice (some ⟨g,0,none⟩) m cap)):=((HO3.out.mono (fun _ _ h=>h.elim)).trans HO4.out (fun i _ e=>by rw [e]; exact hgd.1)).trans OP (fun i _ e=>by rw [e]; exact HST.out.dp)
   have hab:absH (delG H.nk x.nk xs)=delG HK.nk (node,key) (absH xs):=by rw [absH_del,HXK.out]
   have memX:∀ z ∈ delG H.nk x.nk xs,z ∈ xs:=fun z hz=>((mem_delG H.nk).1 hz).1
   refine ⟨by rw [HLQ.out]; rfl,delG H.nk x.nk xs,⟨HST.out.dp,fun c hc=>Nat.lt_of_lt_of_le (HST.out.dlt c hc) OD.size,⟨some ⟨g,0,none⟩,cap,by rw [← HM4.out]; exact HCP4.out,HOWN.out.off OP (fun c _ hc e=>by simp [blk] at hc; exact hgd.2 (hc.trans e)),fun c hc=>HGD.out c hc,fun z hz=>HGT.out z (memX z hz)⟩,fun z hz=>?_,fun z hz=>HST.out.ter z (memX z hz),?_⟩,?_,OD⟩
   ·exact (((HST.out.row z (memX z hz)).off HO3.out).offT (HGT.out z (memX z hz)) HO4.out (fun c _ hd e=>hd (by rw [e]; rfl))).offT (HST.out.ter z (memX z hz)) OP (fun c _ hd e=>hd.2 e)
   ·rw [hab]
    exact HST.out.ok.del _
   ·rw [hab]
    unfold drpT
    rw [HLQ.out]
    rfl
end Go.Proofs.YthjbnpaghiojlaaGreat
