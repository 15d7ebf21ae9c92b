/- The document's put, as plain mathematics: it adds what the code adds. -/
import Derived.Test.YtmmdhlemkcddmaaI18
namespace Go.Proofs.Ytmmdhlemkcddmaa
set_option linter.unusedVariables false
set_option linter.unusedSimpArgs false
mutual
def dputT : Tr → List Tr → List Tr
  | .node k i ks, L => if .node k i ks ∈ L then L else dputK ks L ++ [.node k i ks]
def dputK : List Tr → List Tr → List Tr
  | [], L => L
  | q :: r, L => dputK r (dputT q L)
end
theorem dputT_eq (t : Tr) (L : List Tr) : dputT t L = if t ∈ L then L else dputK t.ks L ++ [t] := by cases t; rw [dputT]; rfl
theorem dputK_nil (L : List Tr) : dputK [] L = L := by rw [dputK]
theorem dputK_cons (q : Tr) (r L : List Tr) : dputK (q :: r) L = dputK r (dputT q L) := by rw [dputK]
theorem dputK_snoc : ∀ (ks : List Tr) (q : Tr) (L : List Tr), dputK (ks ++ [q]) L = dputT q (dputK ks L)
  | [], q, L => by simp [dputK]
  | t :: r, q, L => by rw [List.cons_append, dputK_cons, dputK_snoc r q, dputK_cons]
theorem dputK_take (ks : List Tr) (m : Nat) (h : m < ks.length) (L : List Tr) : dputK (ks.take (m + 1)) L = dputT ks[m] (dputK (ks.take m) L) := by
  rw [List.take_succ_eq_append_getElem h, dputK_snoc]
theorem dput_pre (t : Tr) : ∀ L, L <+: dputT t L := by
  induction t using Tr.ind with
  | h t ih =>
    have hk : ∀ (ks : List Tr), (∀ q ∈ ks, ∀ L, L <+: dputT q L) → ∀ L, L <+: dputK ks L := by
      intro ks
      induction ks with
      | nil => intro _ L; rw [dputK_nil]; exact List.prefix_refl _
      | cons q r ihr => intro h L; rw [dputK_cons]; exact (h q (by simp) L).trans (ihr (fun x hx => h x (by simp [hx])) _)
    intro L
    rw [dputT_eq]
    split
    · exact List.prefix_refl _
    · exact (hk t.ks ih L).trans (List.prefix_append _ _)
theorem dputK_pre : ∀ (ks L : List Tr), L <+: dputK ks L
  | [], L => by rw [dputK_nil]; exact List.prefix_refl _
  | q :: r, L => by rw [dputK_cons]; exact (dput_pre q L).trans (dputK_pre r _)
theorem dput_len (t : Tr) : ∀ L, (dputT t L).length ≤ L.length + t.sz := by
  induction t using Tr.ind with
  | h t ih =>
    have hk : ∀ (ks : List Tr), (∀ q ∈ ks, ∀ L, (dputT q L).length ≤ L.length + q.sz) → ∀ L, (dputK ks L).length ≤ L.length + szL ks := by
      intro ks
      induction ks with
      | nil => intro _ L; rw [dputK_nil]; simp [szL]
      | cons q r ihr =>
        intro h L
        rw [dputK_cons]
        have h1 := h q (by simp) L
        have h2 := ihr (fun x hx => h x (by simp [hx])) (dputT q L)
        simp only [szL]
        omega
    intro L
    have := hk t.ks ih L
    have := sz_eq t
    rw [dputT_eq]
    split
    · omega
    · rw [List.length_append]; simp; omega
theorem dputK_len : ∀ (ks L : List Tr), (dputK ks L).length ≤ L.length + szL ks
  | [], L => by rw [dputK_nil]; simp [szL]
  | q :: r, L => by rw [dputK_cons]; have h1 := dput_len q L; have h2 := dputK_len r (dputT q L); simp only [szL]; omega
theorem dput_mem (t : Tr) : ∀ L u, u ∈ dputT t L → u ∈ L ∨ u.sz ≤ t.sz := by
  induction t using Tr.ind with
  | h t ih =>
    have hk : ∀ (ks : List Tr), (∀ q ∈ ks, ∀ L u, u ∈ dputT q L → u ∈ L ∨ u.sz ≤ q.sz) → ∀ L u, u ∈ dputK ks L → u ∈ L ∨ u.sz ≤ szL ks := by
      intro ks
      induction ks with
      | nil => intro _ L u hu; rw [dputK_nil] at hu; exact .inl hu
      | cons q r ihr =>
        intro h L u hu
        rw [dputK_cons] at hu
        simp only [szL]
        rcases ihr (fun x hx => h x (by simp [hx])) _ u hu with h1 | h1
        · rcases h q (by simp) L u h1 with h2 | h2
          · exact .inl h2
          · exact .inr (by omega)
        · exact .inr (by omega)
    intro L u hu
    have hs := sz_eq t
    rw [dputT_eq] at hu
    split at hu
    · exact .inl hu
    · rw [List.mem_append] at hu
      rcases hu with hu | hu
      · rcases hk t.ks ih L u hu with h1 | h1
        · exact .inl h1
        · exact .inr (by omega)
      · simp at hu; subst hu; exact .inr (Nat.le_refl _)
theorem dputK_mem : ∀ (ks L : List Tr) (u : Tr), u ∈ dputK ks L → u ∈ L ∨ u.sz ≤ szL ks
  | [], L, u, hu => by rw [dputK_nil] at hu; exact .inl hu
  | q :: r, L, u, hu => by
    rw [dputK_cons] at hu
    simp only [szL]
    rcases dputK_mem r _ u hu with h1 | h1
    · rcases dput_mem q L u h1 with h2 | h2
      · exact .inl h2
      · exact .inr (by omega)
    · exact .inr (by omega)
theorem dputT_in {t : Tr} {L : List Tr} (h : t ∈ L) : dputT t L = L := by rw [dputT_eq, if_pos h]
theorem dputK_in : ∀ (ks L : List Tr), (∀ q ∈ ks, q ∈ L) → dputK ks L = L
  | [], L, _ => dputK_nil L
  | q :: r, L, h => by rw [dputK_cons, dputT_in (h q (by simp)), dputK_in r L fun x hx => h x (by simp [hx])]
/-- what the code adds is what the document adds -/
theorem dput_add (room : Nat) (t : Tr) : ∀ L, Ok L → L.length ≤ room → rightN t = 0 →
    ((dputT t L).length ≤ room → addT room t L = (dputT t L, num (dputT t L) t) ∧ num (dputT t L) t ≠ 0) ∧ (¬ (dputT t L).length ≤ room → (addT room t L).2 = 0) := by
  induction t using Tr.ind with
  | h t ih =>
    have hk : ∀ (ks : List Tr), (∀ q ∈ ks, rightN q = 0) → (∀ q ∈ ks, ∀ L, Ok L → L.length ≤ room → rightN q = 0 →
        ((dputT q L).length ≤ room → addT room q L = (dputT q L, num (dputT q L) q) ∧ num (dputT q L) q ≠ 0) ∧ (¬ (dputT q L).length ≤ room → (addT room q L).2 = 0)) → ∀ L, Ok L → L.length ≤ room →
        ((dputK ks L).length ≤ room → addK room ks L = (dputK ks L, true)) ∧ (¬ (dputK ks L).length ≤ room → (addK room ks L).2 = false) := by
      intro ks
      induction ks with
      | nil => intro _ _ L _ hL; rw [dputK_nil]; exact ⟨fun _ => by rw [addK], fun h => absurd hL h⟩
      | cons q r ihr =>
        intro hr h L ho hL
        rw [dputK_cons]
        obtain ⟨h1, h2⟩ := h q (by simp) L ho hL (hr q (by simp))
        have hpre := (dputK_pre r (dputT q L)).length_le
        rw [addK]
        by_cases hf : (dputT q L).length ≤ room
        · obtain ⟨e1, e2⟩ := h1 hf
          have ok := (added q room L ho hL (hr q (by simp))).1.ok
          rw [e1] at ok ⊢
          rw [if_neg e2]
          exact ihr (fun x hx => hr x (by simp [hx])) (fun x hx => h x (by simp [hx])) _ ok hf
        · rw [if_pos (h2 hf)]
          exact ⟨fun hh => absurd (Nat.le_trans hpre hh) hf, fun _ => rfl⟩
    intro L ho hL hr
    obtain ⟨k1, k2⟩ := hk t.ks (fun q hq => right_kid hr hq) ih L ho hL
    by_cases hm : t ∈ L
    · have hkin : dputK t.ks L = L := dputK_in _ _ fun q hq => ho.kid hm hq
      rw [hkin] at k1
      rw [dputT_in hm]
      refine ⟨fun _ => ⟨?_, num_mem.2 hm⟩, fun h => absurd hL h⟩
      rw [addT_eq, k1 hL, if_neg (by simp), if_pos (num_mem.2 hm)]
    · have hn : t ∉ dputK t.ks L := fun h => by
        rcases dputK_mem t.ks L t h with h1 | h1
        · exact hm h1
        · have := sz_eq t; omega
      rw [dputT_eq, if_neg hm]
      have hl : (dputK t.ks L ++ [t]).length = (dputK t.ks L).length + 1 := by simp
      rw [hl]
      refine ⟨fun hf => ⟨?_, ?_⟩, fun hf => ?_⟩
      · rw [addT_eq, k1 (by omega), if_neg (by simp), if_neg (by rw [Classical.not_not]; exact num_zero.2 hn), if_neg (by simp only; omega), num_new hn]
      · rw [num_new hn]; omega
      · by_cases hf2 : (dputK t.ks L).length ≤ room
        · rw [addT_eq, k1 hf2, if_neg (by simp), if_neg (by rw [Classical.not_not]; exact num_zero.2 hn), if_pos (by simp only; omega)]
        · rw [addT_eq, if_pos (k2 hf2)]
/-- behind a put -/
theorem dput_ok {room : Nat} {t : Tr} {L : List Tr} (ho : Ok L) (hL : L.length ≤ room) (hr : rightN t = 0) (hf : (dputT t L).length ≤ room) : Ok (dputT t L) := by
  have := (added t room L ho hL hr).1.ok
  rw [((dput_add room t L ho hL hr).1 hf).1] at this
  exact this
/-- all that a put makes is right -/
theorem dput_right {t : Tr} {L : List Tr} (ho : Ok L) (hr : rightN t = 0) : Ok (dputT t L) :=
  dput_ok (room := L.length + t.sz) ho (by omega) hr (dput_len t L)
theorem dputK_right : ∀ {ks L : List Tr}, Ok L → (∀ q ∈ ks, rightN q = 0) → Ok (dputK ks L)
  | [], L, ho, _ => by rw [dputK_nil]; exact ho
  | q :: r, L, ho, h => by rw [dputK_cons]; exact dputK_right (dput_right ho (h q (by simp))) fun x hx => h x (by simp [hx])
end Go.Proofs.Ytmmdhlemkcddmaa
