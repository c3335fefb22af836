/- Items of several texts. -/
import Derived.Test.YtmbphlkohlggfaaCTh20
namespace Go.Proofs.Ytmbphlkohlggfaa
set_option maxRecDepth 100000
open Go.RowKit
theorem no_of {P : Prop} {b : Bool} (h : b = true ↔ P) (n : ¬ P) : b = false := by
 cases b
 ·rfl
 ·exact absurd (h.1 rfl) n
theorem cond_lt {b : Bool} {l : List Nat} (h : ∀ y ∈ l, y < 256) : ∀ y ∈ cond b l [], y < 256 := by
 cases b
 ·intro y hy
  cases hy
 ·exact h
theorem app_lt {a b : List Nat} (ha : ∀ y ∈ a, y < 256) (hb : ∀ y ∈ b, y < 256) : ∀ y ∈ a ++ b, y < 256 := fun y hy => (List.mem_append.1 hy).elim (ha y) (hb y)
theorem nil_lt : ∀ y ∈ ([] : List Nat), y < 256 := fun y hy => by cases hy
theorem encEs_lt : ∀ (es : List K), (∀ k ∈ es, ∀ x ∈ k.l, Rng x) → ∀ y ∈ encEs es, y < 256
 | [], _ => nil_lt
 | k :: l, h => app_lt (encE_lt (h k (by simp))) (encEs_lt l (fun x hx => h x (by simp [hx])))
theorem encGs_lt : ∀ (gs : List GK), ∀ y ∈ encGs gs, y < 256
 | [] => nil_lt
 | _ :: l => app_lt encG_lt (encGs_lt l)
theorem encMs_lt : ∀ (ms : List (Int × Int)), ∀ y ∈ encMs ms, y < 256
 | [] => nil_lt
 | _ :: l => app_lt (app_lt (numB_lt _) (numB_lt _)) (encMs_lt l)
theorem encMsg_lt (s : Msk) {d : MD} (hl : ∀ k ∈ d.es, ∀ x ∈ k.l, Rng x) : ∀ y ∈ encMsg s d, y < 256 :=
 app_lt (app_lt (numB_lt _) (app_lt (numB_lt _) (numB_lt _))) (app_lt (cond_lt (numB_lt _)) (app_lt (cond_lt (numB_lt _)) (app_lt (cond_lt (app_lt (numB_lt _) (keyL_lt _))) (app_lt (cond_lt (numB_lt _)) (app_lt (cond_lt (app_lt (numB_lt _) (encEs_lt _ hl))) (app_lt (cond_lt (app_lt (numB_lt _) (encGs_lt _))) (cond_lt (app_lt (numB_lt _) (encMs_lt _)))))))))
theorem EncR.zero {d : MD} {bs : List Nat} (h : EncR d bs 0) : MayM d ∧ bs = encMsg (msk d.k) d := by
 rcases h.is with ⟨h1, h2, h3⟩ | ⟨h1, h2, h3⟩
 ·omega
 ·refine ⟨h1, ?_⟩
  rw [wrMsg_enc] at h2 h3
  generalize encMsg (msk d.k) d = X at h2 h3 ⊢
  unfold putS at h2 h3
  simp only [List.nil_append] at h2 h3
  split at h2
  ·exact h2
  ·rename_i hn
   rw [if_neg hn] at h3
   exact absurd h3 (by decide)
theorem md_rng {w : World} {m : Mg} {es : List E} {gs : List G} {ms : List (Int × Int)} (h : MsgAt w m es gs ms) : ∀ k ∈ (mdM m es gs ms).es, ∀ x ∈ k.l, Rng x := by
 intro k hk
 have hk : k ∈ (cond (msk m.k).es es []).map E.abs := hk
 obtain ⟨e, he, rfl⟩ := List.mem_map.1 hk
 have he2 : e ∈ es := by
  generalize (msk m.k).es = b at he
  cases b
  ·cases he
  ·exact he
 obtain ⟨i, hi⟩ := List.mem_iff_getElem?.1 he2
 obtain ⟨b, off, -, -, hr⟩ := h.ens.at_ i e hi
 exact hr.rng
theorem apart_iff {w w2 : World} {m n : Mg} {es e2 : List E} {gs g2 : List G} {ms m2 : List (Int × Int)} {bs cs : List Nat} (h : MsgAt w m es gs ms) (h2 : MsgAt w2 n e2 g2 m2) (k1 : EncR (mdM m es gs ms) bs 0) (k2 : EncR (mdM n e2 g2 m2) cs 0) : bs = cs ↔ nfM m es gs ms = nfM n e2 g2 m2 := by
 obtain ⟨a1, a2⟩ := k1.zero
 obtain ⟨b1, b2⟩ := k2.zero
 have n1 : nfM m es gs ms = nfD (mdM m es gs ms) := nf_md _ _ _ _
 have n2 : nfM n e2 g2 m2 = nfD (mdM n e2 g2 m2) := nf_md _ _ _ _
 rw [n1, n2, a2, b2]
 exact ⟨enc_inj a1 (bare_mdM _ _ _ _) (md_rng h) b1 (bare_mdM _ _ _ _) (md_rng h2), enc_congr⟩
theorem enc0_lt {w : World} {m : Mg} {es : List E} {gs : List G} {ms : List (Int × Int)} {bs : List Nat} (h : MsgAt w m es gs ms) (k : EncR (mdM m es gs ms) bs 0) : ∀ y ∈ bs, y < 256 := by
 rw [k.zero.2]
 exact encMsg_lt _ (md_rng h)
end Go.Proofs.Ytmbphlkohlggfaa
