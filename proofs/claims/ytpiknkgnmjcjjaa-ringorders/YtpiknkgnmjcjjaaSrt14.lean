/- The library's sort at points. -/
import Derived.Test.YtpiknkgnmjcjjaaApp14
import Derived.Test.YtpiknkgnmjcjjaaSlay
namespace Go.Proofs.Ytpiknkgnmjcjjaa
set_option maxRecDepth 100000
open Go.RowKit Go.Shelf Go.Lib Go.Sort

theorem sw_off {α : Type} [Inhabited α] {enc : α → List Value} {k : Nat} {w W : World} {b o : Nat} {d : Array α} (h : SWK enc k w b o d W) : Off (fun c => c = b) w W := by
  obtain ⟨n, os, rfl⟩ := h
  unfold sortWorldK
  refine ⟨rfl, rfl, rfl, by rw [size_grow, size_putRowK]; exact Nat.le_add_right _ _, fun i hi hb => ?_⟩
  have hb : i ≠ b := hb
  show (((putRowK enc k (Sort.ahead w n) b o d).heap ++ os))[i]? = _
  have hi' : i < (putRowK enc k (Sort.ahead w n) b o d).heap.size := by rw [size_putRowK]; exact hi
  rw [Array.getElem?_append_left hi']
  unfold putRowK putRow mapBlock
  simp only [Array.getElem?_modify]
  rw [if_neg (Ne.symm hb)]
  rfl
theorem OwnG.holds {α : Type} [Inhabited α] {e : TypeId} {k : Nat} {cs : α → List Value} {w : World} {g cap : Nat} {l : List α} (h : OwnG e k cs w (some ⟨g, 0, none⟩) cap l) (hcs : ∀ x, (cs x).length = k) (hk : 0 < k) : HoldsK cs k w g 0 l.toArray := by
  intro j hj
  rw [size_flatK] at hj
  have hj : j < l.length * k := by simpa using hj
  have hi : j / k < l.length := Nat.div_lt_of_lt_mul (by rw [Nat.mul_comm]; exact hj)
  have hr : j % k < k := Nat.mod_lt _ hk
  obtain ⟨g', e', hc⟩ := h.at_ hcs (i := j / k) (x := l[j / k]) (List.getElem?_eq_getElem hi)
  simp only [Option.some.injEq, Addr.mk.injEq, and_true] at e'
  subst e'
  rw [get_flatK _ _ _ _ (by simpa using hj)]
  have hx : (cs l[j / k])[j % k]? = some (cs l[j / k])[j % k]! := by
    rw [getElem!_pos _ _ (by rw [hcs]; exact hr)]
    exact List.getElem?_eq_getElem _
  have := hc _ _ hx
  have ej : j / k * k + j % k = j := by rw [Nat.mul_comm]; exact Nat.div_add_mod j k
  rw [ej] at this
  have el : l.toArray[j / k]! = l[j / k] := by rw [getElem!_pos _ _ (by simpa using hi)]; simp
  rw [el]
  refine ⟨by simpa using this, ?_⟩
  rcases h.row.2 with ⟨hv, -⟩ | ⟨g2, c, cur, hv, hb, hh, -⟩
  · cases hv
  · simp only [Value.slice.injEq, Option.some.injEq, Addr.mk.injEq, and_true] at hv
    obtain ⟨rfl, -, -⟩ := hv
    simp [World.frozen?, hh]

theorem cmpP (b o n : Nat) (w : World) : CmpLays Try.prog 33 #[] pcs 3 cfP b o n w := fun _ _ _ _ x y => comp_x x y _
theorem psort_any (t : Option Addr) (c : Nat) (ds : List Pn) (w : World) (h : OwnG 75 3 pcs w t c ds) (hn : ds.Nodup) (hl : ds.length ≤ 1000000) :
    Calls Try.prog 32 #[.slice t ds.length c, .func (.func 33) #[] #[]] w fun e w' => e = .returned (.tuple #[]) ∧ RowP w' t c (srtP ds) ∧ Off (fun k => blk t = some k) w w' := by
  have rd := h.rowP
  have hsh : (t = none ∧ ds = []) ∨ ∃ g, t = some ⟨g, 0, none⟩ ∧ g < w.heap.size := by
    rcases h.row.2 with ⟨hv, h0⟩ | ⟨g, c, cur, hv, hb, hh, -⟩
    · simp only [Value.slice.injEq] at hv
      exact .inl ⟨hv.1, List.eq_nil_of_length_eq_zero h0⟩
    · simp only [Value.slice.injEq] at hv
      exact .inr ⟨g, hv.1, lt_of_block hh⟩
  rcases hsh with ⟨rfl, rfl⟩ | ⟨g, rfl, hg⟩
  · refine (AnyF.slices_SortFunc_none Try.sortPt none c (.func (.func 33) #[] #[]) w).mono ?_
    rintro e w' ⟨rfl, rfl⟩
    exact ⟨rfl, rd, Off.refl _ _⟩
  · have hH := h.holds pcs_len (by omega)
    have eg : ∀ args w, (callFunc 33 args).run Try.prog w = .ok (.enter 33 args) w := enters_of Try.func33 (by kernel_rfl) rfl
    have hcon := AnyQ.slices_SortFunc Try.sortPt 3 Try.isAgg75 Try.sizeOf75 pcs pcs_len (fun x => pcs_one x) cfP swoP 33 #[] g 0 c ds.toArray w eg (cmpP g 0 _ w) hH hg (by simp; omega)
    have ez : ds.toArray.size = ds.length := by simp
    rw [ez] at hcon
    refine hcon.mono ?_
    rintro e w' ⟨rfl, d', n, os, hp, hs, rfl⟩
    have sw : SWK pcs 3 w g 0 d' (sortWorldK pcs 3 w g 0 n d' os) := ⟨n, os, rfl⟩
    have hsz : d'.size = ds.length := by rw [hp.1]; simp
    have hH' := sw.holds hg hH (by rw [hsz]; simp)
    have hperm : d'.toList.Perm ds := by
      have := hp.2.2
      rw [show d'.extract 0 ds.length = d' by rw [← hsz]; simp, show ds.toArray.extract 0 ds.length = ds.toArray by rw [← ez]; simp] at this
      simpa using this
    have hnd : d'.toList.Nodup := hperm.nodup_iff.2 hn
    have hsp : Sp d'.toList := by
      refine List.pairwise_iff_getElem.2 fun i j hi hj hij => ?_
      have := hs i j (by omega) hij (by rw [← hsz]; simpa using hj)
      rw [ltOfP, getElem!_pos d' j (by simpa using hj), getElem!_pos d' i (by simpa using hi)] at this
      have h1 : ltP d'.toList[j] d'.toList[i] = false := by simpa using this
      cases h2 : ltP d'.toList[i] d'.toList[j]
      · have := ltP_tri h2 h1
        exact absurd this (fun e => (List.pairwise_iff_getElem.1 hnd i j hi hj hij) e)
      · rfl
    have hE : srtP ds = d'.toList := sp_ext (srt_sp hn) hsp (fun x => by rw [srt_mem]; exact hperm.mem_iff.symm)
    rw [hE]
    refine ⟨rfl, ⟨?_, fun i d hi => ?_⟩, (sw_off sw).mono (fun i _ e => by subst e; rfl)⟩
    · have := rd.len
      simp
      omega
    · have hi' : i < d'.size := by
        obtain ⟨h, -⟩ := List.getElem?_eq_some_iff.1 hi
        simpa using h
      have e1 : d'[i]! = d := by
        rw [getElem!_pos d' i hi']
        obtain ⟨h, e⟩ := List.getElem?_eq_some_iff.1 hi
        simpa using e
      have k0 := (hH'.cell hi' (c := 0) (by omega)).1
      have k1 := (hH'.cell hi' (c := 1) (by omega)).1
      have k2 := (hH'.cell hi' (c := 2) (by omega)).1
      rw [e1] at k0 k1 k2
      exact ⟨g, 0, rfl, k0, k1, k2⟩
end Go.Proofs.Ytpiknkgnmjcjjaa
