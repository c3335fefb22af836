/- In which order entries are joined, and how often, makes no difference, where no key has too many values: as data. -/
import Derived.Test.YtbagahlphnafdaaJns
namespace Go.Proofs.Ytbagahlphnafdaa

/-- A fold over what may come in any order, and twice. -/
structure Fld {α : Type} (P : α → Prop) (op : α → α → α) : Prop where
  ok : ∀ {a b}, P a → P b → P (op a b)
  comm : ∀ {a b}, P a → P b → op a b = op b a
  assoc : ∀ {a b c}, P a → P b → P c → op (op a b) c = op a (op b c)
  idem : ∀ {a}, P a → op a a = a
section
variable {α : Type} {P : α → Prop} {op : α → α → α}
theorem Fld.all (F : Fld P op) : ∀ (l : List α) {e : α}, P e → (∀ a ∈ l, P a) → P (l.foldl op e)
  | [], _, he, _ => he
  | a :: l, _, he, h => F.all l (F.ok he (h a (List.mem_cons_self ..))) (fun b hb => h b (List.mem_cons_of_mem _ hb))
/-- The fold is above its start and above each of its members. -/
theorem Fld.above (F : Fld P op) : ∀ (l : List α) {e : α}, P e → (∀ a ∈ l, P a) → ∀ b, P b → (b = e ∨ b ∈ l ∨ op b e = e) → op b (l.foldl op e) = l.foldl op e
  | [], e, he, _, b, hb, h => by
    rcases h with rfl | h | h
    · exact F.idem hb
    · simp at h
    · exact h
  | a :: l, e, he, h, b, hb, hm => by
    have ha := h a (List.mem_cons_self ..)
    refine F.above l (F.ok he ha) (fun c hc => h c (List.mem_cons_of_mem _ hc)) b hb ?_
    rcases hm with rfl | hm | hm
    · right; right
      rw [← F.assoc hb hb ha, F.idem hb]
    · rcases List.mem_cons.1 hm with rfl | hm
      · right; right
        rw [F.comm he hb, ← F.assoc hb hb he, F.idem hb]
      · exact .inr (.inl hm)
    · right; right
      rw [← F.assoc hb he ha, hm]
/-- What is above all members is above the fold. -/
theorem Fld.below (F : Fld P op) : ∀ (l : List α) {e y : α}, P e → P y → (∀ a ∈ l, P a) → op e y = y → (∀ a ∈ l, op a y = y) → op (l.foldl op e) y = y
  | [], _, _, _, _, _, he, _ => he
  | a :: l, e, y, h1, h2, h3, he, h4 => by
    have ha := h3 a (List.mem_cons_self ..)
    refine F.below l (F.ok h1 ha) h2 (fun c hc => h3 c (List.mem_cons_of_mem _ hc)) ?_ (fun c hc => h4 c (List.mem_cons_of_mem _ hc))
    rw [F.assoc h1 ha h2, h4 a (List.mem_cons_self ..), he]
theorem Fld.same (F : Fld P op) {l k : List α} {e : α} (he : P e) (h1 : ∀ a ∈ l, P a) (h2 : ∀ a ∈ k, P a) (hm : ∀ a, a ∈ l ↔ a ∈ k) : l.foldl op e = k.foldl op e := by
  have p1 := F.all l he h1
  have p2 := F.all k he h2
  have a1 : op (l.foldl op e) (k.foldl op e) = k.foldl op e := F.below l he p2 h1 (F.above k he h2 e he (.inl rfl)) (fun a ha => F.above k he h2 a (h1 a ha) (.inr (.inl ((hm a).1 ha))))
  have a2 : op (k.foldl op e) (l.foldl op e) = l.foldl op e := F.below k he p1 h2 (F.above l he h1 e he (.inl rfl)) (fun a ha => F.above l he h1 a (h2 a ha) (.inr (.inl ((hm a).2 ha))))
  rw [← a2, F.comm p2 p1, a1]
end
theorem fld_max : Fld (fun _ : Nat → Int => True) maxV :=
  ⟨fun _ _ => trivial, fun _ _ => by funext j; simp only [maxV]; omega, fun _ _ _ => by funext j; simp only [maxV]; omega, fun _ => by funext j; simp only [maxV]; omega⟩
theorem fld_st (d : Int × Int) : Fld (Of d) joinSt := ⟨of_join, join_comm, join_assoc, fun _ => join_idem _⟩

theorem len_sub {l u : List A} (h : l.Nodup) (hs : ∀ a ∈ l, a ∈ u) : l.length ≤ u.length := by
  haveI : DecidableEq A := A.dec
  induction l generalizing u with
  | nil => simp
  | cons a l ih =>
    obtain ⟨h1, h2⟩ := List.nodup_cons.1 h
    have ha := hs a (List.mem_cons_self ..)
    have h3 := ih (u := u.erase a) h2 (fun b hb => by
      have hne : b ≠ a := fun e => h1 (e ▸ hb)
      exact (List.mem_erase_of_ne hne).2 (hs b (List.mem_cons_of_mem _ hb)))
    rw [List.length_erase_of_mem ha] at h3
    have h4 : 0 < u.length := List.length_pos_of_mem ha
    simp only [List.length_cons]
    omega
theorem srt_nodup {l : List A} (h : Srt l) : l.Nodup := by
  refine List.Pairwise.imp (fun {a b} hab => ?_) h
  intro e
  subst e
  exact LT.irr a hab
/-- Joined without a cut. -/
theorem join_u {U : List A} (hU : U.length ≤ 16) {f g : Nat → Int} {l k : List A} (h1 : MayP f l) (h2 : MayP g k) (u1 : ∀ a ∈ l, a ∈ U) (u2 : ∀ a ∈ k, a ∈ U) :
    joinV f g l k = maxV f g ∧ (∀ a ∈ joinL f g l k, a ∈ U) ∧ ∀ d, st (joinV f g l k) (joinL f g l k) d = joinSt (st f l d) (st g k d) := by
  have e1 := may_yes h1
  have e2 := may_yes h2
  have hv : joinV f g l k = maxV f g := by simp [joinV, e1, e2]
  have hm : ∀ a ∈ mergeA (nc g) (nc f) l k, a ∈ U := fun a ha => by
    rcases inM_mem ((mem_merge (nc g) (nc f) l k (may_srt h1) (may_srt h2) a).1 ha) with h | h
    · exact u1 a h
    · exact u2 a h
  have hlen : (mergeA (nc g) (nc f) l k).length ≤ 16 := Nat.le_trans (len_sub (srt_nodup (srt_merge _ _ l k (may_srt h1) (may_srt h2))) hm) hU
  have hl : joinL f g l k = mergeA (nc g) (nc f) l k := by
    simp only [joinL, e1, e2, and_self, if_true]
    exact List.take_of_length_le hlen
  rw [hv, hl]
  exact ⟨rfl, hm, st_join h1 h2⟩

/-- One more entry, as data. -/
def kjo (X : List K) (v : K) : List K := (joinR X v.key v.f v.l).x
def okv (v : K) : Bool := keyB v.key && mayS v.f v.l
/-- Those that count for a key. -/
def sel (vs : List K) (k : ByteArray) : List K := vs.filter fun v => okv v && smk v.key k
theorem mem_sel {vs : List K} {k : ByteArray} {v : K} : v ∈ sel vs k ↔ v ∈ vs ∧ okv v = true ∧ v.key = k := by
  unfold sel
  rw [List.mem_filter, Bool.and_eq_true, smk_iff]
theorem sel_snoc_in {vs : List K} {v : K} (h : okv v = true) : sel (vs ++ [v]) v.key = sel vs v.key ++ [v] := by
  unfold sel
  rw [List.filter_append, List.filter_cons, h]
  have : smk v.key v.key = true := smk_iff.2 rfl
  simp [this]
theorem sel_snoc_out {vs : List K} {v : K} {k : ByteArray} (h : okv v = false ∨ v.key ≠ k) : sel (vs ++ [v]) k = sel vs k := by
  unfold sel
  rw [List.filter_append, List.filter_cons]
  have : (okv v && smk v.key k) = false := by
    rcases h with h | h
    · simp [h]
    · rw [smk_no.2 h]
      simp
  rw [this]
  simp
theorem okv_may {v : K} (h : okv v = true) : keyB v.key = true ∧ MayP v.f v.l := by
  unfold okv at h
  rw [Bool.and_eq_true] at h
  exact ⟨h.1, may_iff.1 h.2⟩
/-- What a table is behind these entries. -/
structure Spc (U : List A) (vs X : List K) : Prop where
  sor : Sor K.key X
  ok : OkT X
  inU : ∀ x ∈ X, ∀ a ∈ x.l, a ∈ U
  len : X.length ≤ vs.length
  pres : ∀ k, (fndG K.key k X).isSome = true ↔ ∃ v ∈ vs, okv v = true ∧ v.key = k
  seen : ∀ k, (getK X k).f = ((sel vs k).map K.f).foldl maxV zer
  stat : ∀ k d, st (getK X k).f (getK X k).l d = ((sel vs k).map fun v => st v.f v.l d).foldl joinSt (st zer [] d)
theorem spc_nil (U : List A) : Spc U [] [] :=
  ⟨List.Pairwise.nil, okT_nil, fun x hx => by simp at hx, Nat.le_refl _, fun k => by simp [fndG], fun k => rfl, fun k d => rfl⟩
theorem getK_key {X : List K} {k : ByteArray} : (getK X k).key = k := by
  unfold getK
  cases e : fndG K.key k X with
  | none => rfl
  | some x => exact (fnd_mem K.key e).2
theorem spc_may {U : List A} {vs X : List K} (h : Spc U vs X) (k : ByteArray) : MayP (getK X k).f (getK X k).l ∧ ∀ a ∈ (getK X k).l, a ∈ U := by
  unfold getK
  cases e : fndG K.key k X with
  | none => exact ⟨may_zer, fun a ha => by simp at ha⟩
  | some x => exact ⟨h.ok.may x (fnd_mem K.key e).1, h.inU x (fnd_mem K.key e).1⟩
/-- Join of a valid entry puts what is known and what it knows together. -/
theorem kjo_put {X : List K} {v : K} (hv : okv v = true) (hn : X.length < 256) : kjo X v = putG K.key ⟨v.key, joinV (getK X v.key).f v.f (getK X v.key).l v.l, joinL (getK X v.key).f v.f (getK X v.key).l v.l⟩ X := by
  unfold kjo
  cases hf : fndG K.key v.key X with
  | none =>
    have e : getK X v.key = ⟨v.key, zer, []⟩ := by unfold getK; rw [hf]; rfl
    rw [joinR_new hv hf (by omega), e]
  | some u =>
    have e : getK X v.key = u := by unfold getK; rw [hf]; rfl
    rw [joinR_old hv hf, e]
theorem spc_step {U : List A} (hU : U.length ≤ 16) {vs X : List K} (h : Spc U vs X) {v : K} (hvU : ∀ a ∈ v.l, a ∈ U) (hn : vs.length < 256) : Spc U (vs ++ [v]) (kjo X v) := by
  cases hv : okv v
  · have e : kjo X v = X := by unfold kjo; rw [joinR_arg hv]
    rw [e]
    refine ⟨h.sor, h.ok, h.inU, by rw [List.length_append]; have := h.len; omega, fun k => ?_, fun k => ?_, fun k d => ?_⟩
    · rw [h.pres k]
      constructor
      · rintro ⟨x, hx, r⟩
        exact ⟨x, List.mem_append_left _ hx, r⟩
      · rintro ⟨x, hx, r1, r2⟩
        rcases List.mem_append.1 hx with hx | hx
        · exact ⟨x, hx, r1, r2⟩
        · rw [List.mem_singleton] at hx
          subst hx
          rw [hv] at r1
          cases r1
    · rw [sel_snoc_out (.inl hv)]
      exact h.seen k
    · rw [sel_snoc_out (.inl hv)]
      exact h.stat k d
  · obtain ⟨hkb, hmay⟩ := okv_may hv
    obtain ⟨gm, gU⟩ := spc_may h v.key
    obtain ⟨j1, j2, j3⟩ := join_u hU gm hmay gU hvU
    rw [kjo_put hv (Nat.lt_of_le_of_lt h.len hn)]
    generalize hJ : (⟨v.key, joinV (getK X v.key).f v.f (getK X v.key).l v.l, joinL (getK X v.key).f v.f (getK X v.key).l v.l⟩ : K) = J
    have hJk : J.key = v.key := by rw [← hJ]
    have hJf : J.f = maxV (getK X v.key).f v.f := by rw [← hJ]; exact j1
    have hJU : ∀ a ∈ J.l, a ∈ U := by rw [← hJ]; exact j2
    have hJs : ∀ d, st J.f J.l d = joinSt (st (getK X v.key).f (getK X v.key).l d) (st v.f v.l d) := by rw [← hJ]; exact j3
    have hJm : MayP J.f J.l := by rw [← hJ]; exact join_ok gm hmay
    have gin : getK (putG K.key J X) v.key = J := by
      unfold getK
      rw [← hJk, fnd_put_same K.key h.sor]
      rfl
    have gout : ∀ k, k ≠ v.key → getK (putG K.key J X) k = getK X k := fun k hk => by
      unfold getK
      rw [fnd_put_other K.key h.sor (by rw [hJk]; exact hk)]
    refine ⟨sor_putG K.key h.sor, okT_put h.ok hJm (hJk ▸ hkb), fun x hx => ?_, ?_, fun k => ?_, fun k => ?_, fun k d => ?_⟩
    · rcases (mem_putG K.key).1 hx with rfl | ⟨hx, -⟩
      · exact hJU
      · exact h.inU x hx
    · rw [len_putG K.key h.sor, List.length_append]
      have := h.len
      split
      · omega
      · simp only [List.length_singleton]
        omega
    · by_cases hk : k = v.key
      · subst hk
        constructor
        · intro _
          exact ⟨v, List.mem_append_right _ (List.mem_singleton.2 rfl), hv, rfl⟩
        · intro _
          rw [← hJk, fnd_put_same K.key h.sor]
          rfl
      · rw [fnd_put_other K.key h.sor (by rw [hJk]; exact hk), h.pres k]
        constructor
        · rintro ⟨x, hx, r⟩
          exact ⟨x, List.mem_append_left _ hx, r⟩
        · rintro ⟨x, hx, r1, r2⟩
          rcases List.mem_append.1 hx with hx | hx
          · exact ⟨x, hx, r1, r2⟩
          · rw [List.mem_singleton] at hx
            subst hx
            exact absurd r2.symm hk
    · by_cases hk : k = v.key
      · subst hk
        rw [gin, sel_snoc_in hv, List.map_append, List.foldl_append, ← h.seen v.key, hJf]
        rfl
      · rw [gout k hk, sel_snoc_out (.inr (fun e => hk e.symm))]
        exact h.seen k
    · by_cases hk : k = v.key
      · subst hk
        rw [gin, sel_snoc_in hv, List.map_append, List.foldl_append, ← h.stat v.key d, hJs d]
        rfl
      · rw [gout k hk, sel_snoc_out (.inr (fun e => hk e.symm))]
        exact h.stat k d
/-- Two tables of the same entries, in whatever order, are the same. -/
theorem spc_same {U : List A} {vs ws X Y : List K} (h : Spc U vs X) (k : Spc U ws Y) (hm : ∀ v, v ∈ vs ↔ v ∈ ws) : X = Y := by
  have hsel : ∀ k v, v ∈ sel vs k ↔ v ∈ sel ws k := fun k v => by rw [mem_sel, mem_sel, hm v]
  have hf : ∀ key, (getK X key).f = (getK Y key).f := fun key => by
    rw [h.seen key, k.seen key]
    refine fld_max.same trivial (fun _ _ => trivial) (fun _ _ => trivial) (fun a => ?_)
    rw [List.mem_map, List.mem_map]
    constructor
    · rintro ⟨v, hv, rfl⟩
      exact ⟨v, (hsel key v).1 hv, rfl⟩
    · rintro ⟨v, hv, rfl⟩
      exact ⟨v, (hsel key v).2 hv, rfl⟩
  have hof : ∀ (us : List K) (key : ByteArray) (d : Int × Int), ∀ a ∈ (sel us key).map (fun v => st v.f v.l d), Of d a := fun us key d a ha => by
    obtain ⟨v, hv, rfl⟩ := List.mem_map.1 ha
    exact st_of (may_srt (okv_may (mem_sel.1 hv).2.1).2) d
  have hst : ∀ key d, st (getK X key).f (getK X key).l d = st (getK Y key).f (getK Y key).l d := fun key d => by
    rw [h.stat key d, k.stat key d]
    refine (fld_st d).same (st_of (may_srt may_zer) d) (hof vs key d) (hof ws key d) (fun a => ?_)
    rw [List.mem_map, List.mem_map]
    constructor
    · rintro ⟨v, hv, rfl⟩
      exact ⟨v, (hsel key v).1 hv, rfl⟩
    · rintro ⟨v, hv, rfl⟩
      exact ⟨v, (hsel key v).2 hv, rfl⟩
  have hg : ∀ key, getK X key = getK Y key := fun key => by
    have e1 := hf key
    have e2 : (getK X key).l = (getK Y key).l := st_ext (may_srt (spc_may h key).1) (may_srt (spc_may k key).1) (hst key)
    have e3 : (getK X key).key = (getK Y key).key := by rw [getK_key, getK_key]
    cases hx : getK X key
    cases hy : getK Y key
    rw [hx, hy] at e1 e2 e3
    simp only at e1 e2 e3
    rw [e1, e2, e3]
  have hp : ∀ key, (fndG K.key key X).isSome = (fndG K.key key Y).isSome := fun key => by
    rw [Bool.eq_iff_iff, h.pres key, k.pres key]
    constructor
    · rintro ⟨v, hv, r⟩
      exact ⟨v, (hm v).1 hv, r⟩
    · rintro ⟨v, hv, r⟩
      exact ⟨v, (hm v).2 hv, r⟩
  have one : ∀ {X Y : List K}, Sor K.key X → Sor K.key Y → (∀ key, getK X key = getK Y key) → (∀ key, (fndG K.key key X).isSome = (fndG K.key key Y).isSome) → ∀ z ∈ X, z ∈ Y := by
    intro X Y sx sy hg hp z hz
    have e1 : fndG K.key z.key X = some z := (fnd_some K.key sx).2 ⟨hz, rfl⟩
    have e2 := hp z.key
    rw [e1] at e2
    cases e3 : fndG K.key z.key Y with
    | none => rw [e3] at e2; cases e2
    | some y =>
      have e4 := hg z.key
      unfold getK at e4
      rw [e1, e3] at e4
      have : z = y := e4
      rw [this]
      exact (fnd_mem K.key e3).1
  exact sor_ext K.key h.sor k.sor (fun z => ⟨one h.sor k.sor hg hp z, one k.sor h.sor (fun key => (hg key).symm) (fun key => (hp key).symm) z⟩)
/-- Joined again, an entry of a table changes nothing. -/
theorem kjo_self {X : List K} (hs : Sor K.key X) (ok : OkT X) {x : K} (hx : x ∈ X) : joinR X x.key x.f x.l = ⟨X, x.f, x.l, true, 0⟩ := by
  have hf : fndG K.key x.key X = some x := (fnd_some K.key hs).2 ⟨hx, rfl⟩
  have hm := ok.may x hx
  have hv : (keyB x.key && mayS x.f x.l) = true := by rw [ok.key x hx, may_yes hm]; rfl
  have e1 : joinV x.f x.f x.l x.l = x.f := by
    have e2 := may_yes hm
    have e3 : joinV x.f x.f x.l x.l = maxV x.f x.f := by simp [joinV, e2]
    rw [e3]
    exact fld_max.idem trivial
  have e2 : joinL x.f x.f x.l x.l = x.l := (same_iff.1 (ord_self hm)).2
  rw [joinR_old hv hf, e1, e2, same_refl]
  have e3 : putG K.key ⟨x.key, x.f, x.l⟩ X = X := by
    refine sor_ext K.key (sor_putG K.key hs) hs (fun z => ?_)
    rw [mem_putG K.key]
    constructor
    · rintro (rfl | ⟨h, -⟩)
      · exact hx
      · exact h
    · intro hz
      by_cases hk : z.key = x.key
      · exact .inl (sor_eq K.key hs hz hx hk)
      · exact .inr ⟨hz, hk⟩
  rw [e3]
end Go.Proofs.Ytbagahlphnafdaa
