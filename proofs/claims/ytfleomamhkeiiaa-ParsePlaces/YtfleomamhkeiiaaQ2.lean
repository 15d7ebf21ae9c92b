/- Where a text is refused, what stands ahead of that place alone: plain mathematics. -/
import Derived.Test.YtfleomamhkeiiaaQ1
import Derived.Test.YtfleomamhkeiiaaL9
namespace Go.Proofs.Ytfleomamhkeiiaa
set_option linter.unusedVariables false
theorem digsN_take (r : List Nat) : ∀ m, digsN r ≤ m → digsN (r.take m) = digsN r := by
  induction r with
  | nil => intro m _; simp
  | cons c r ih =>
    intro m h
    cases m with
    | zero =>
      simp only [List.take_zero]
      have : digsN (c :: r) = 0 := by omega
      rw [this]
      rfl
    | succ m =>
      simp only [List.take_succ_cons, digsN] at h ⊢
      by_cases hc : isDigN c = true
      · rw [if_pos hc] at h
        rw [if_pos hc, if_pos hc, ih m (by omega)]
      · rw [if_neg hc, if_neg hc]
theorem stepN_take {c k n z m : Nat} {r : List Nat} (h : stepN c r = .tok k n z) (hz : z ≤ m) : stepN c (r.take m) = .tok k n z := by
  unfold stepN at h ⊢
  by_cases h1 : c = 32 ∨ c = 9
  · rw [if_pos h1] at h; cases h
  · rw [if_neg h1] at h
    rw [if_neg h1]
    by_cases h2 : isSignT c = true
    · rw [if_pos h2] at h
      rw [if_pos h2]
      exact h
    · rw [if_neg h2] at h
      rw [if_neg h2]
      cases hL : letterN c with
      | none => rw [hL] at h; cases h
      | some km =>
        obtain ⟨kk, mm⟩ := km
        rw [hL] at h
        simp only [] at h ⊢
        have hzz : digsN r = z := by
          cases hN : numN (r.take (digsN r)) mm with
          | none => rw [hN] at h; cases h
          | some nn => rw [hN] at h; cases h; rfl
        rw [digsN_take r m (by omega), List.take_take, show min (digsN r) m = digsN r by omega]
        exact h
theorem stepN_blank_take {c m : Nat} {r : List Nat} (h : stepN c r = .blank) : stepN c (r.take m) = .blank := by
  unfold stepN at h ⊢
  by_cases h1 : c = 32 ∨ c = 9
  · rw [if_pos h1]
  · rw [if_neg h1] at h
    split at h
    · cases h
    · split at h
      · cases h
      · split at h
        · cases h
        · cases h
theorem lexN_place : ∀ (k : Nat) (i : Nat) (b : List Nat) (l : List Tok), b.length ≤ k → lexN i b = .ok l → ∀ t ∈ l, i ≤ t.p ∧ t.p < i + b.length := by
  intro k
  induction k with
  | zero =>
    intro i b l hk h
    have : b = [] := List.length_eq_zero_iff.1 (by omega)
    subst this
    rw [lexN_nil] at h
    cases h
    intro t ht
    cases ht
  | succ k ih =>
    intro i b l hk h t ht
    cases b with
    | nil => rw [lexN_nil] at h; cases h; cases ht
    | cons c r =>
      simp only [List.length_cons] at hk ⊢
      cases hs : stepN c r with
      | blank => rw [lexN_blank hs] at h; have := ih _ _ _ (by omega) h t ht; omega
      | err e => rw [lexN_err hs] at h; cases h
      | tok kk n z =>
        have hz := (stepN_z hs).1
        rw [lexN_tok hs] at h
        cases hq : lexN (i + 1 + z) (r.drop z) with
        | bad a b => rw [hq] at h; cases h
        | ok l' =>
          rw [hq] at h
          cases h
          rcases List.mem_append.1 ht with e | e
          · simp only [List.mem_cons, List.not_mem_nil, or_false] at e
            subst e
            simp only
            omega
          · have := ih _ _ _ (by rw [List.length_drop]; omega) hq t e
            rw [List.length_drop] at this
            omega
theorem lexN_pre : ∀ (k : Nat) (i : Nat) (b : List Nat) (a : List Tok) (y : Tok) (r : List Tok), b.length ≤ k → lexN i b = .ok (a ++ y :: r) → lexN i (b.take (y.p - i)) = .ok a := by
  intro k
  induction k with
  | zero =>
    intro i b a y r hk h
    have : b = [] := List.length_eq_zero_iff.1 (by omega)
    subst this
    rw [lexN_nil] at h
    simp at h
  | succ k ih =>
    intro i b a y r hk h
    have hpl := lexN_place _ _ _ _ (Nat.le_refl _) h y (by simp)
    cases b with
    | nil => rw [lexN_nil] at h; simp at h
    | cons c q =>
      simp only [List.length_cons] at hk hpl
      cases hs : stepN c q with
      | blank =>
        rw [lexN_blank hs] at h
        have hp2 := lexN_place _ _ _ _ (Nat.le_refl _) h y (by simp)
        have := ih _ _ _ _ _ (by omega) h
        rw [show y.p - i = (y.p - (i + 1)) + 1 by omega, List.take_succ_cons, lexN_blank (stepN_blank_take hs)]
        exact this
      | err e => rw [lexN_err hs] at h; cases h
      | tok kk n z =>
        have hz := (stepN_z hs).1
        rw [lexN_tok hs] at h
        cases hq : lexN (i + 1 + z) (q.drop z) with
        | bad a b => rw [hq] at h; cases h
        | ok l' =>
          rw [hq] at h
          simp only [LexR.pre, LexR.ok.injEq, List.cons_append, List.nil_append] at h
          cases a with
          | nil =>
            simp only [List.nil_append, List.cons.injEq] at h
            rw [← h.1]
            simp [lexN_nil]
          | cons x a' =>
            simp only [List.cons_append, List.cons.injEq] at h
            obtain ⟨rfl, h2⟩ := h
            rw [h2] at hq
            have hp2 := lexN_place _ _ _ _ (Nat.le_refl _) hq y (by simp)
            have := ih _ _ _ _ _ (by rw [List.length_drop]; omega) hq
            rw [show y.p - i = (y.p - i - 1) + 1 by omega, List.take_succ_cons, lexN_tok (stepN_take hs (m := y.p - i - 1) (by omega))]
            rw [List.drop_take, show y.p - i - 1 - z = y.p - (i + 1 + z) by omega, this]
            rfl
theorem lexN_code : ∀ (k : Nat) (i : Nat) (b : List Nat) (c j : Nat), b.length ≤ k → lexN i b = .bad c j → c = 30 ∨ c = 31 := by
  intro k
  induction k with
  | zero =>
    intro i b c j hk h
    have : b = [] := List.length_eq_zero_iff.1 (by omega)
    subst this
    rw [lexN_nil] at h
    cases h
  | succ k ih =>
    intro i b c j hk h
    cases b with
    | nil => rw [lexN_nil] at h; cases h
    | cons x r =>
      simp only [List.length_cons] at hk
      cases hs : stepN x r with
      | blank => rw [lexN_blank hs] at h; exact ih _ _ _ _ (by omega) h
      | err e =>
        rw [lexN_err hs] at h
        cases h
        unfold stepN at hs
        split at hs
        · cases hs
        · split at hs
          · cases hs
          · split at hs
            · cases hs; omega
            · split at hs
              · cases hs; omega
              · cases hs
      | tok kk n z =>
        rw [lexN_tok hs] at h
        cases hq : lexN (i + 1 + z) (r.drop z) with
        | bad a b => rw [hq] at h; cases h; exact ih _ _ _ _ (by rw [List.length_drop]; omega) hq
        | ok l' => rw [hq] at h; cases h
theorem lexAll_code {b : List Nat} {c j : Nat} (h : lexAll b = .bad c j) : c = 2 ∨ c = 30 ∨ c = 31 := by
  unfold lexAll at h
  by_cases hb : 8000 < b.length
  · rw [if_pos hb] at h; cases h; exact .inl rfl
  · rw [if_neg hb] at h
    exact .inr (lexN_code _ _ _ _ _ (Nat.le_refl _) h)
theorem exc_cases (z m : Nat) : excN z m = 0 ∨ excN z m = 20 ∨ excN z m = 21 := by
  unfold excN
  split
  · exact .inr (.inl rfl)
  · split
    · exact .inr (.inr rfl)
    · exact .inl rfl
/-- what may come of what stands ahead of the place -/
def AheadOk (at' : Nat) (r : WR) : Prop := (whT r).2.1 = 0 ∨ ((whT r).2.1 = 32 ∧ (whT r).2.2 = at') ∨ (whT r).2.1 = 20 ∨ (whT r).2.1 = 21
theorem places (b : List Nat) (pl : Nat) (h : (whT (wholeR (formP 16100) b.length (lexAll b))).2.1 = 32) (hp : pl = (whT (wholeR (formP 16100) b.length (lexAll b))).2.2) : pl ≤ b.length ∧ AheadOk pl (wholeR (formP 16100) pl (lexAll (b.take pl))) := by
  cases hL : lexAll b with
  | bad c i =>
    rw [hL] at h
    have := lexAll_code hL
    simp only [wholeR, whT] at h
    omega
  | ok l =>
    rw [hL] at h hp
    have hb : b.length ≤ 8000 := by
      unfold lexAll at hL
      by_cases hb : 8000 < b.length
      · rw [if_pos hb] at hL; cases hL
      · omega
    have hN : lexN 0 b = .ok l := by
      unfold lexAll at hL
      rw [if_neg (by omega)] at hL
      exact hL
    have ahead : ∀ a y r, l = a ++ y :: r → y.p ≤ b.length ∧ lexAll (b.take y.p) = .ok a := by
      intro a y r e
      rw [e] at hN
      have h1 := lexN_place _ _ _ _ (Nat.le_refl _) hN y (by simp)
      refine ⟨by omega, ?_⟩
      unfold lexAll
      rw [if_neg (by rw [List.length_take]; omega)]
      have := lexN_pre _ _ _ _ _ _ (Nat.le_refl _) hN
      rwa [Nat.sub_zero] at this
    have hw := formP_within 16100 l
    cases hF : formP 16100 l with
    | bad r' =>
      rw [hF] at hw
      have R : wholeR (formP 16100) b.length (.ok l) = .bad 32 (placeN b.length r') := by simp only [wholeR, hF]
      rw [R] at hp
      cases r' with
      | nil =>
        have e : pl = b.length := hp
        rw [e]
        refine ⟨Nat.le_refl _, ?_⟩
        rw [List.take_length, hL, R]
        exact .inr (.inl ⟨rfl, rfl⟩)
      | cons y r =>
        obtain ⟨a, ha⟩ := hw
        have e : pl = y.p := hp
        obtain ⟨h1, h2⟩ := ahead a y r ha.symm
        rw [e]
        refine ⟨h1, ?_⟩
        have h3 := (formP_pre 16100).2 a (y :: r) [] (by rw [ha]; exact hF)
        rw [h2]
        simp only [wholeR, h3]
        exact .inr (.inl ⟨rfl, rfl⟩)
    | ok t r' =>
      rw [hF] at hw
      cases r' with
      | nil =>
        exfalso
        simp only [wholeR, hF, if_true] at h
        rcases exc_cases t.sz (1 + dpL t.ks) with e | e | e
        · rw [if_pos e] at h; simp [whT] at h
        · rw [if_neg (by omega)] at h; simp only [whT] at h; omega
        · rw [if_neg (by omega)] at h; simp only [whT] at h; omega
      | cons y r =>
        obtain ⟨a, ha⟩ := hw.1
        have R : wholeR (formP 16100) b.length (.ok l) = .bad 32 y.p := by simp only [wholeR, hF]; rw [if_neg (by simp)]; rfl
        rw [R] at hp
        have e : pl = y.p := hp
        obtain ⟨h1, h2⟩ := ahead a y r ha.symm
        rw [e]
        refine ⟨h1, ?_⟩
        have h3 := (formP_pre 16100).1 a (y :: r) [] t (by rw [ha]; exact hF)
        rw [h2]
        simp only [wholeR, h3, if_true]
        rcases exc_cases t.sz (1 + dpL t.ks) with e | e | e
        · rw [if_pos e]; exact .inl rfl
        · rw [if_neg (by omega), e]; exact .inr (.inr (.inl rfl))
        · rw [if_neg (by omega), e]; exact .inr (.inr (.inr rfl))
end Go.Proofs.Ytfleomamhkeiiaa
