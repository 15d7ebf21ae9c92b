/- What is read of a beginning alone: plain mathematics. -/
import Derived.Test.YtfleomamhkeiiaaT11
namespace Go.Proofs.Ytfleomamhkeiiaa
set_option linter.unusedVariables false
/-- reading what stands ahead of r alone goes as reading all of it, as long as r was not reached into -/
def Pre (T : List Tok → PR) : Prop := (∀ a r a1 t, T (a ++ r) = .ok t (a1 ++ r) → T a = .ok t a1) ∧ (∀ a r a1, T (a ++ r) = .bad (a1 ++ r) → T a = .bad a1)
def With (T : List Tok → PR) : Prop := ∀ r, (T r).within r
theorem app_self {a r : List Tok} (h : a ++ r = r) : a = [] := by
  have := congrArg List.length h
  simp only [List.length_append] at this
  exact List.length_eq_zero_iff.1 (by omega)
/-- a suffix of a ++ r reaches to r, or lies within it -/
theorem suf_cases {q a r : List Tok} (h : q <:+ a ++ r) : (∃ a2, q = a2 ++ r ∧ a2 <:+ a) ∨ q.length < r.length := by
  obtain ⟨b, hb⟩ := h
  by_cases hl : q.length < r.length
  · exact .inr hl
  · left
    have hlen := congrArg List.length hb
    simp only [List.length_append] at hlen
    have hba : b.length ≤ a.length := by omega
    refine ⟨a.drop b.length, ?_, List.drop_suffix _ _⟩
    have h1 : (b ++ q).drop b.length = (a ++ r).drop b.length := by rw [hb]
    rw [List.drop_left] at h1
    rw [h1, List.drop_append_of_le_length hba]
theorem stands_app {c : Nat} {y : Tok} {a r : List Tok} : stands c (y :: a ++ r) = stands c (y :: a) := rfl
theorem PR.rest_len {p : PR} {r : List Tok} (h : p.within r) : (∀ t q, p = .ok t q → q.length < r.length) ∧ (∀ q, p = .bad q → q.length ≤ r.length) := by
  cases p with
  | ok t q => exact ⟨fun t' q' e => by cases e; exact h.2, fun q' e => by cases e⟩
  | bad q => exact ⟨fun t' q' e => (by cases e), fun q' e => by cases e; exact List.IsSuffix.length_le h⟩
theorem tail_len_lt {r : List Tok} {c : Nat} (h : stands c r = true) : r.tail.length + 1 = r.length := by
  obtain ⟨t, r1, rfl, _, _⟩ := stands_cons h
  simp
/-- what is left of arguments -/
theorem argsL_len {T : List Tok → PR} (hT : With T) (k n c : Nat) (acc : List Tr) (r : List Tok) : (∀ t q, argsL T k n c acc r = .ok t q → q.length < r.length) ∧ (∀ q, argsL T k n c acc r = .bad q → q.length ≤ r.length) :=
  PR.rest_len (argsL_within T k n c acc r (fun r0 _ => hT r0))
theorem argsL_pre {T : List Tok → PR} (hT : With T) (hP : Pre T) (k n : Nat) : ∀ (c : Nat) (acc : List Tr) (a r : List Tok), (∀ a1 t, argsL T k n c acc (a ++ r) = .ok t (a1 ++ r) → argsL T k n c acc a = .ok t a1) ∧ (∀ a1, argsL T k n c acc (a ++ r) = .bad (a1 ++ r) → argsL T k n c acc a = .bad a1) := by
  intro c
  induction c with
  | zero =>
    intro acc a r
    refine ⟨fun a1 t h => by simp [argsL] at h, fun a1 h => ?_⟩
    simp only [argsL, PR.bad.injEq] at h ⊢
    exact List.append_cancel_right h
  | succ c ih =>
    intro acc a r
    cases hR : T (a ++ r) with
    | bad q =>
      refine ⟨fun a1 t h => by simp [argsL, hR] at h, fun a1 h => ?_⟩
      simp only [argsL, hR, PR.bad.injEq] at h
      subst h
      simp only [argsL, hP.2 _ _ _ hR]
    | ok u q =>
      have hq : q <:+ a ++ r := by have := hT (a ++ r); rw [hR] at this; exact this.1
      have e0 : argsL T k n (c + 1) acc (a ++ r) = if stands 41 q then .ok (.node k n (acc ++ [u])) q.tail else if c = 0 ∨ stands 44 q = false then .bad q else argsL T k n c (acc ++ [u]) q.tail := by simp only [argsL, hR]
      rcases suf_cases hq with ⟨a2, rfl, hs2⟩ | hlt
      · have hTa := hP.1 _ _ _ _ hR
        have e1 : argsL T k n (c + 1) acc a = if stands 41 a2 then .ok (.node k n (acc ++ [u])) a2.tail else if c = 0 ∨ stands 44 a2 = false then .bad a2 else argsL T k n c (acc ++ [u]) a2.tail := by simp only [argsL, hTa]
        rw [e0, e1]
        cases a2 with
        | nil =>
          simp only [List.nil_append]
          have s1 : stands 41 ([] : List Tok) = false := rfl
          have s2 : stands 44 ([] : List Tok) = false := rfl
          rw [s1, s2]
          cases h41 : stands 41 r with
          | true =>
            have hl := tail_len_lt h41
            refine ⟨fun a1 t h => ?_, fun a1 h => by simp at h⟩
            simp only [if_true, PR.ok.injEq] at h
            have := congrArg List.length h.2
            simp only [List.length_append] at this
            omega
          | false =>
            by_cases hc : c = 0 ∨ stands 44 r = false
            · refine ⟨fun a1 t h => by simp [hc] at h, fun a1 h => ?_⟩
              simp [hc] at h
              simp
              exact h
            · have h44 : stands 44 r = true := by
                cases hs : stands 44 r with
                | true => rfl
                | false => exact absurd (.inr hs) hc
              have hl := tail_len_lt h44
              have hal := argsL_len hT k n c (acc ++ [u]) r.tail
              refine ⟨fun a1 t h => ?_, fun a1 h => ?_⟩
              · rw [if_neg (by simp), if_neg hc] at h
                have := hal.1 _ _ h
                simp only [List.length_append] at this
                omega
              · rw [if_neg (by simp), if_neg hc] at h
                have := hal.2 _ h
                simp only [List.length_append] at this
                omega
        | cons y a3 =>
          have s1 : stands 41 (y :: a3 ++ r) = stands 41 (y :: a3) := rfl
          have s2 : stands 44 (y :: a3 ++ r) = stands 44 (y :: a3) := rfl
          rw [s1, s2]
          simp only [List.cons_append, List.tail_cons]
          by_cases h41 : stands 41 (y :: a3) = true
          · rw [if_pos h41, if_pos h41]
            refine ⟨fun a1 t h => ?_, fun a1 h => by cases h⟩
            simp only [PR.ok.injEq] at h ⊢
            exact ⟨h.1, List.append_cancel_right h.2⟩
          · rw [if_neg h41, if_neg h41]
            by_cases hc : c = 0 ∨ stands 44 (y :: a3) = false
            · rw [if_pos hc, if_pos hc]
              refine ⟨fun a1 t h => (by cases h), fun a1 h => ?_⟩
              simp only [PR.bad.injEq] at h ⊢
              exact List.append_cancel_right (as := y :: a3) h
            · rw [if_neg hc, if_neg hc]
              exact ih _ _ _
      · rw [e0]
        have hal := argsL_len hT k n c (acc ++ [u]) q.tail
        have htl : q.tail.length ≤ q.length := by simp
        refine ⟨fun a1 t h => ?_, fun a1 h => ?_⟩
        · exfalso
          by_cases h41 : stands 41 q = true
          · rw [if_pos h41] at h
            simp only [PR.ok.injEq] at h
            have := congrArg List.length h.2
            simp only [List.length_append] at this
            omega
          · rw [if_neg h41] at h
            by_cases hc : c = 0 ∨ stands 44 q = false
            · rw [if_pos hc] at h; cases h
            · rw [if_neg hc] at h
              have := hal.1 _ _ h
              simp only [List.length_append] at this
              omega
        · exfalso
          by_cases h41 : stands 41 q = true
          · rw [if_pos h41] at h; cases h
          · rw [if_neg h41] at h
            by_cases hc : c = 0 ∨ stands 44 q = false
            · rw [if_pos hc] at h
              simp only [PR.bad.injEq] at h
              have := congrArg List.length h
              simp only [List.length_append] at this
              omega
            · rw [if_neg hc] at h
              have := hal.2 _ h
              simp only [List.length_append] at this
              omega
theorem argsP_pre {T : List Tok → PR} (hT : With T) (hP : Pre T) (k n : Nat) : Pre (argsP T k n) := by
  have key : ∀ a r, (∀ a1 t, argsP T k n (a ++ r) = .ok t (a1 ++ r) → argsP T k n a = .ok t a1) ∧ (∀ a1, argsP T k n (a ++ r) = .bad (a1 ++ r) → argsP T k n a = .bad a1) := by
    intro a r
    unfold argsP
    cases a with
    | nil =>
      simp only [List.nil_append]
      have s1 : stands 40 ([] : List Tok) = false := rfl
      rw [s1]
      by_cases h : stands 40 r = true
      · rw [if_pos h]
        have hl := tail_len_lt h
        have hal := argsL_len hT k n 4 [] r.tail
        refine ⟨fun a1 t e => ?_, fun a1 e => ?_⟩
        · have := hal.1 _ _ e
          simp only [List.length_append] at this
          omega
        · have := hal.2 _ e
          simp only [List.length_append] at this
          omega
      · rw [if_neg h, if_neg (by simp)]
        refine ⟨fun a1 t e => ?_, fun a1 e => by cases e⟩
        simp only [PR.ok.injEq] at e ⊢
        exact ⟨e.1, (app_self e.2.symm).symm⟩
    | cons y a3 =>
      have s1 : stands 40 (y :: a3 ++ r) = stands 40 (y :: a3) := rfl
      rw [s1]
      simp only [List.cons_append, List.tail_cons]
      by_cases h : stands 40 (y :: a3) = true
      · rw [if_pos h, if_pos h]
        exact argsL_pre hT hP k n 4 [] a3 r
      · rw [if_neg h, if_neg h]
        refine ⟨fun a1 t e => ?_, fun a1 e => by cases e⟩
        simp only [PR.ok.injEq] at e ⊢
        exact ⟨e.1, List.append_cancel_right (as := y :: a3) e.2⟩
  exact ⟨fun a r a1 t h => (key a r).1 a1 t h, fun a r a1 h => (key a r).2 a1 h⟩
theorem termP_pre : ∀ f, Pre (termP f) := by
  intro f
  induction f with
  | zero =>
    refine ⟨fun a r a1 t h => by simp [termP] at h, fun a r a1 h => ?_⟩
    simp only [termP, PR.bad.injEq] at h ⊢
    exact List.append_cancel_right h
  | succ f ih =>
    have key : ∀ a r, (∀ a1 t, termP (f + 1) (a ++ r) = .ok t (a1 ++ r) → termP (f + 1) a = .ok t a1) ∧ (∀ a1, termP (f + 1) (a ++ r) = .bad (a1 ++ r) → termP (f + 1) a = .bad a1) := by
      intro a r
      cases a with
      | nil =>
        have hl := PR.rest_len (termP_within (f + 1) r)
        simp only [List.nil_append]
        refine ⟨fun a1 t h => ?_, fun a1 h => ?_⟩
        · have := hl.1 _ _ h
          simp only [List.length_append] at this
          omega
        · have := hl.2 _ h
          simp only [List.length_append] at this
          have : a1 = [] := List.length_eq_zero_iff.1 (by omega)
          rw [this]
          rfl
      | cons y a3 =>
        simp only [List.cons_append, termP]
        by_cases h1 : y.k = 1
        · rw [if_pos h1, if_pos h1]
          refine ⟨fun a1 t e => ?_, fun a1 e => by cases e⟩
          simp only [PR.ok.injEq] at e ⊢
          exact ⟨e.1, List.append_cancel_right e.2⟩
        · rw [if_neg h1, if_neg h1]
          by_cases h2 : y.k = 2
          · rw [if_pos h2, if_pos h2]
            have := argsP_pre (fun r => termP_within f r) ih 2 y.n
            exact ⟨fun a1 t e => this.1 _ _ _ _ e, fun a1 e => this.2 _ _ _ e⟩
          · rw [if_neg h2, if_neg h2]
            refine ⟨fun a1 t e => (by cases e), fun a1 e => ?_⟩
            simp only [PR.bad.injEq] at e ⊢
            exact List.append_cancel_right (as := y :: a3) e
    exact ⟨fun a r a1 t h => (key a r).1 a1 t h, fun a r a1 h => (key a r).2 a1 h⟩
/-- one thing read behind another: what is left reaches to r, or all is lost -/
theorem seq_pre {T : List Tok → PR} (hT : With T) (hP : Pre T) {a r : List Tok} {u : Tr} {q : List Tok} (hR : T (a ++ r) = .ok u q) : (∃ a2, q = a2 ++ r ∧ T a = .ok u a2) ∨ q.length < r.length := by
  have hq : q <:+ a ++ r := by have := hT (a ++ r); rw [hR] at this; exact this.1
  rcases suf_cases hq with ⟨a2, rfl, _⟩ | h
  · exact .inl ⟨a2, rfl, hP.1 _ _ _ _ hR⟩
  · exact .inr h
def thenP (p : PR) (K : Tr → List Tok → PR) : PR := match p with
  | .bad q => .bad q
  | .ok u q => K u q
/-- no more is left than there was -/
def LenR (G : List Tok → PR) : Prop := ∀ q, (∀ t r, G q = .ok t r → r.length ≤ q.length) ∧ (∀ r, G q = .bad r → r.length ≤ q.length)
theorem With.len {T : List Tok → PR} (h : With T) : LenR T := fun q => ⟨fun t r e => Nat.le_of_lt ((PR.rest_len (h q)).1 t r e), (PR.rest_len (h q)).2⟩
theorem ok_pre (t : Tr) : Pre (fun q => .ok t q) := ⟨fun a r a1 u h => by simp only [PR.ok.injEq] at h ⊢; exact ⟨h.1, List.append_cancel_right h.2⟩, fun a r a1 h => by cases h⟩
theorem ok_len (t : Tr) : LenR (fun q => .ok t q) := fun q => ⟨fun u r e => by cases e; exact Nat.le_refl _, fun r e => by cases e⟩
theorem sign_len {c : Nat} {G : List Tok → PR} (hL : LenR G) : LenR (fun q => if stands c q then G q.tail else .bad q) := by
  intro q
  by_cases h : stands c q = true
  · have hl := tail_len_lt h
    simp only [h, if_true]
    exact ⟨fun t r e => Nat.le_trans ((hL _).1 _ _ e) (by omega), fun r e => Nat.le_trans ((hL _).2 _ e) (by omega)⟩
  · simp only [h]
    exact ⟨fun t r e => (by cases e), fun r e => by cases e; exact Nat.le_refl _⟩
theorem sign_pre {c : Nat} {G : List Tok → PR} (hP : Pre G) (hL : LenR G) : Pre (fun q => if stands c q then G q.tail else .bad q) := by
  have key : ∀ a r, (∀ a1 t, (if stands c (a ++ r) then G (a ++ r).tail else .bad (a ++ r)) = .ok t (a1 ++ r) → (if stands c a then G a.tail else .bad a) = .ok t a1) ∧ (∀ a1, (if stands c (a ++ r) then G (a ++ r).tail else .bad (a ++ r)) = .bad (a1 ++ r) → (if stands c a then G a.tail else PR.bad a) = .bad a1) := by
    intro a r
    cases a with
    | nil =>
      simp only [List.nil_append]
      rw [show stands c ([] : List Tok) = false from rfl]
      by_cases h : stands c r = true
      · rw [if_pos h]
        have hl := tail_len_lt h
        refine ⟨fun a1 t e => ?_, fun a1 e => ?_⟩
        · have := (hL _).1 _ _ e
          simp only [List.length_append] at this
          omega
        · have := (hL _).2 _ e
          simp only [List.length_append] at this
          omega
      · rw [if_neg h, if_neg (by simp)]
        refine ⟨fun a1 t e => (by cases e), fun a1 e => ?_⟩
        simp only [PR.bad.injEq] at e ⊢
        exact (app_self e.symm).symm
    | cons y a3 =>
      rw [show stands c (y :: a3 ++ r) = stands c (y :: a3) from rfl]
      simp only [List.cons_append, List.tail_cons]
      by_cases h : stands c (y :: a3) = true
      · rw [if_pos h, if_pos h]
        exact ⟨fun a1 t e => hP.1 _ _ _ _ e, fun a1 e => hP.2 _ _ _ e⟩
      · rw [if_neg h, if_neg h]
        refine ⟨fun a1 t e => (by cases e), fun a1 e => ?_⟩
        simp only [PR.bad.injEq] at e ⊢
        exact List.append_cancel_right (as := y :: a3) e
  exact ⟨fun a r a1 t h => (key a r).1 a1 t h, fun a r a1 h => (key a r).2 a1 h⟩
theorem then_pre {T : List Tok → PR} (hT : With T) (hP : Pre T) {K : Tr → List Tok → PR} (hK : ∀ u, Pre (K u)) (hL : ∀ u, LenR (K u)) : Pre (fun r => thenP (T r) K) := by
  have key : ∀ a r, (∀ a1 t, thenP (T (a ++ r)) K = .ok t (a1 ++ r) → thenP (T a) K = .ok t a1) ∧ (∀ a1, thenP (T (a ++ r)) K = .bad (a1 ++ r) → thenP (T a) K = .bad a1) := by
    intro a r
    cases hR : T (a ++ r) with
    | bad q =>
      refine ⟨fun a1 t h => by simp [thenP] at h, fun a1 h => ?_⟩
      simp only [thenP, PR.bad.injEq] at h
      subst h
      simp only [thenP, hP.2 _ _ _ hR]
    | ok u q =>
      simp only [thenP]
      rcases seq_pre hT hP hR with ⟨a2, rfl, e⟩ | hlt
      · rw [e]
        exact ⟨fun a1 t h => (hK u).1 _ _ _ _ h, fun a1 h => (hK u).2 _ _ _ h⟩
      · refine ⟨fun a1 t h => ?_, fun a1 h => ?_⟩
        · have := (hL u _).1 _ _ h
          simp only [List.length_append] at this
          omega
        · have := (hL u _).2 _ h
          simp only [List.length_append] at this
          omega
  exact ⟨fun a r a1 t h => (key a r).1 a1 t h, fun a r a1 h => (key a r).2 a1 h⟩
theorem then_len {T : List Tok → PR} (hT : LenR T) {K : Tr → List Tok → PR} (hL : ∀ u, LenR (K u)) : LenR (fun r => thenP (T r) K) := by
  intro r
  cases hR : T r with
  | bad q => simp only [hR, thenP]; exact ⟨fun t r e => (by cases e), fun r' e => by cases e; exact (hT r).2 _ hR⟩
  | ok u q =>
    simp only [hR, thenP]
    have := (hT r).1 _ _ hR
    exact ⟨fun t r' e => Nat.le_trans ((hL u q).1 _ _ e) this, fun r' e => Nat.le_trans ((hL u q).2 _ e) this⟩
theorem joint_tail {r : List Tok} (h : ¬ jointN r = 0) : r.tail.length + 1 = r.length := by
  cases r with
  | nil => exact absurd rfl h
  | cons y r => simp
theorem joint_len {G : Nat → List Tok → PR} (hL : ∀ j, LenR (G j)) : LenR (fun q => if jointN q = 0 then .bad q else G (jointN q) q.tail) := by
  intro q
  by_cases h : jointN q = 0
  · simp only [h, if_true]
    exact ⟨fun t r e => (by cases e), fun r e => by cases e; exact Nat.le_refl _⟩
  · have hl := joint_tail h
    simp only [h, if_false]
    exact ⟨fun t r e => Nat.le_trans ((hL _ _).1 _ _ e) (by omega), fun r e => Nat.le_trans ((hL _ _).2 _ e) (by omega)⟩
theorem joint_pre {G : Nat → List Tok → PR} (hP : ∀ j, Pre (G j)) (hL : ∀ j, LenR (G j)) : Pre (fun q => if jointN q = 0 then .bad q else G (jointN q) q.tail) := by
  have key : ∀ a r, (∀ a1 t, (if jointN (a ++ r) = 0 then .bad (a ++ r) else G (jointN (a ++ r)) (a ++ r).tail) = .ok t (a1 ++ r) → (if jointN a = 0 then .bad a else G (jointN a) a.tail) = .ok t a1) ∧ (∀ a1, (if jointN (a ++ r) = 0 then .bad (a ++ r) else G (jointN (a ++ r)) (a ++ r).tail) = .bad (a1 ++ r) → (if jointN a = 0 then PR.bad a else G (jointN a) a.tail) = .bad a1) := by
    intro a r
    cases a with
    | nil =>
      simp only [List.nil_append]
      rw [show jointN ([] : List Tok) = 0 from rfl, if_pos rfl]
      by_cases h : jointN r = 0
      · rw [if_pos h]
        refine ⟨fun a1 t e => (by cases e), fun a1 e => ?_⟩
        simp only [PR.bad.injEq] at e ⊢
        exact (app_self e.symm).symm
      · rw [if_neg h]
        have hl := joint_tail h
        refine ⟨fun a1 t e => ?_, fun a1 e => ?_⟩
        · have := (hL _ _).1 _ _ e
          simp only [List.length_append] at this
          omega
        · have := (hL _ _).2 _ e
          simp only [List.length_append] at this
          omega
    | cons y a3 =>
      rw [show jointN (y :: a3 ++ r) = jointN (y :: a3) from rfl]
      simp only [List.cons_append, List.tail_cons]
      by_cases h : jointN (y :: a3) = 0
      · rw [if_pos h, if_pos h]
        refine ⟨fun a1 t e => (by cases e), fun a1 e => ?_⟩
        simp only [PR.bad.injEq] at e ⊢
        exact List.append_cancel_right (as := y :: a3) e
      · rw [if_neg h, if_neg h]
        exact ⟨fun a1 t e => (hP _).1 _ _ _ _ e, fun a1 e => (hP _).2 _ _ _ e⟩
  exact ⟨fun a r a1 t h => (key a r).1 a1 t h, fun a r a1 h => (key a r).2 a1 h⟩
theorem eqP_then (T : List Tok → PR) : eqP T = fun r => thenP (T r) (fun u q => if stands 61 q then thenP (T q.tail) (fun v q2 => .ok (.node 4 0 [u, v]) q2) else .bad q) := by
  funext r
  unfold eqP thenP
  cases T r <;> rfl
theorem eqP_pre {T : List Tok → PR} (hT : With T) (hP : Pre T) : Pre (eqP T) := by
  rw [eqP_then]
  exact then_pre hT hP (fun u => sign_pre (then_pre hT hP (fun v => ok_pre _) (fun v => ok_len _)) (then_len hT.len (fun v => ok_len _))) (fun u => sign_len (then_len hT.len (fun v => ok_len _)))
theorem notP_then (F : List Tok → PR) : notP F = fun r => thenP (F r) (fun u q => .ok (.node 5 0 [u]) q) := by
  funext r
  unfold notP thenP
  cases F r <;> rfl
theorem notP_pre {F : List Tok → PR} (hF : With F) (hP : Pre F) : Pre (notP F) := by
  rw [notP_then]
  exact then_pre hF hP (fun u => ok_pre _) (fun u => ok_len _)
theorem pairP_then (F : List Tok → PR) : pairP F = fun r => thenP (F r) (fun u q => if jointN q = 0 then .bad q else (fun (j : Nat) q' => thenP (F q') (fun v q2 => if stands 41 q2 then (fun q3 => PR.ok (.node (j : Int) 0 [u, v]) q3) q2.tail else .bad q2)) (jointN q) q.tail) := by
  funext r
  unfold pairP thenP
  cases F r <;> rfl
theorem pairP_pre {F : List Tok → PR} (hF : With F) (hP : Pre F) : Pre (pairP F) := by
  rw [pairP_then]
  have h1 : ∀ (u : Tr) (j : Nat), LenR (fun q' => thenP (F q') (fun v q2 => if stands 41 q2 then (fun q3 => PR.ok (.node (j : Int) 0 [u, v]) q3) q2.tail else .bad q2)) := fun u j => then_len hF.len (fun v => sign_len (c := 41) (ok_len (.node (j : Int) 0 [u, v])))
  have h2 : ∀ (u : Tr) (j : Nat), Pre (fun q' => thenP (F q') (fun v q2 => if stands 41 q2 then (fun q3 => PR.ok (.node (j : Int) 0 [u, v]) q3) q2.tail else .bad q2)) := fun u j => then_pre hF hP (fun v => sign_pre (c := 41) (ok_pre (.node (j : Int) 0 [u, v])) (ok_len _)) (fun v => sign_len (c := 41) (ok_len (.node (j : Int) 0 [u, v])))
  exact then_pre hF hP (fun u => joint_pre (h2 u) (h1 u)) (fun u => joint_len (h1 u))
theorem quantP_pre {F : List Tok → PR} (hF : With F) (hP : Pre F) (k : Nat) : Pre (quantP F k) := by
  have key : ∀ a r, (∀ a1 t, quantP F k (a ++ r) = .ok t (a1 ++ r) → quantP F k a = .ok t a1) ∧ (∀ a1, quantP F k (a ++ r) = .bad (a1 ++ r) → quantP F k a = .bad a1) := by
    intro a r
    cases a with
    | nil =>
      simp only [List.nil_append]
      cases r with
      | nil => refine ⟨fun a1 t e => by simp [quantP] at e, fun a1 e => ?_⟩
               simp only [quantP, List.append_nil] at e ⊢
               exact e
      | cons y r =>
        have hl := hF.len
        by_cases h : y.k = 1
        · cases hR : F r with
          | bad q =>
            have := (hl r).2 _ hR
            refine ⟨fun a1 t e => by simp [quantP, h, hR] at e, fun a1 e => ?_⟩
            simp only [quantP, h, hR, if_true, PR.bad.injEq] at e
            have := congrArg List.length e
            simp only [List.length_append, List.length_cons] at this
            omega
          | ok u q =>
            have := (hl r).1 _ _ hR
            refine ⟨fun a1 t e => ?_, fun a1 e => by simp [quantP, h, hR] at e⟩
            simp only [quantP, h, hR, if_true, PR.ok.injEq] at e
            have := congrArg List.length e.2
            simp only [List.length_append, List.length_cons] at this
            omega
        · refine ⟨fun a1 t e => by simp [quantP, h] at e, fun a1 e => ?_⟩
          simp only [quantP, h, if_false, PR.bad.injEq] at e ⊢
          exact (app_self e.symm).symm
    | cons y a3 =>
      simp only [List.cons_append, quantP]
      by_cases h : y.k = 1
      · rw [if_pos h, if_pos h]
        have := then_pre hF hP (K := fun u q => .ok (.node k y.n [u]) q) (fun u => ok_pre _) (fun u => ok_len _)
        exact ⟨fun a1 t e => this.1 a3 r a1 t e, fun a1 e => this.2 a3 r a1 e⟩
      · rw [if_neg h, if_neg h]
        refine ⟨fun a1 t e => (by cases e), fun a1 e => ?_⟩
        simp only [PR.bad.injEq] at e ⊢
        exact List.append_cancel_right (as := y :: a3) e
  exact ⟨fun a r a1 t h => (key a r).1 a1 t h, fun a r a1 h => (key a r).2 a1 h⟩
theorem formP_pre : ∀ f, Pre (formP f) := by
  intro f
  induction f with
  | zero =>
    refine ⟨fun a r a1 t h => by simp [formP] at h, fun a r a1 h => ?_⟩
    simp only [formP, PR.bad.injEq] at h ⊢
    exact List.append_cancel_right h
  | succ f ih =>
    have hF : With (formP f) := fun r => formP_within f r
    have hT : With (termP f) := fun r => termP_within f r
    have key : ∀ a r, (∀ a1 t, formP (f + 1) (a ++ r) = .ok t (a1 ++ r) → formP (f + 1) a = .ok t a1) ∧ (∀ a1, formP (f + 1) (a ++ r) = .bad (a1 ++ r) → formP (f + 1) a = .bad a1) := by
      intro a r
      cases a with
      | nil =>
        have hl := PR.rest_len (formP_within (f + 1) r)
        simp only [List.nil_append]
        refine ⟨fun a1 t h => ?_, fun a1 h => ?_⟩
        · have := hl.1 _ _ h
          simp only [List.length_append] at this
          omega
        · have := hl.2 _ h
          simp only [List.length_append] at this
          have : a1 = [] := List.length_eq_zero_iff.1 (by omega)
          rw [this]
          rfl
      | cons y a3 =>
        have use : ∀ G : List Tok → PR, Pre G → (∀ a1 t, G (a3 ++ r) = .ok t (a1 ++ r) → G a3 = .ok t a1) ∧ (∀ a1, G (a3 ++ r) = .bad (a1 ++ r) → G a3 = .bad a1) := fun G hG => ⟨fun a1 t e => hG.1 _ _ _ _ e, fun a1 e => hG.2 _ _ _ e⟩
        have bad : (∀ a1 t, PR.bad (y :: (a3 ++ r)) = .ok t (a1 ++ r) → PR.bad (y :: a3) = .ok t a1) ∧ (∀ a1, PR.bad (y :: (a3 ++ r)) = .bad (a1 ++ r) → PR.bad (y :: a3) = .bad a1) := by
          refine ⟨fun a1 t e => (by cases e), fun a1 e => ?_⟩
          simp only [PR.bad.injEq] at e ⊢
          exact List.append_cancel_right (as := y :: a3) e
        simp only [List.cons_append, formP]
        by_cases h3 : y.k = 3
        · rw [if_pos h3, if_pos h3]; exact use _ (argsP_pre hT (termP_pre f) 3 y.n)
        · rw [if_neg h3, if_neg h3]
          by_cases h12 : y.k = 1 ∨ y.k = 2
          · rw [if_pos h12, if_pos h12]
            have := eqP_pre hT (termP_pre f)
            exact ⟨fun a1 t e => this.1 (y :: a3) r a1 t e, fun a1 e => this.2 (y :: a3) r a1 e⟩
          · rw [if_neg h12, if_neg h12]
            by_cases h4 : y.k = 4
            · rw [if_pos h4, if_pos h4]
              by_cases e1 : y.n = 33
              · rw [if_pos e1, if_pos e1]; exact use _ (notP_pre hF ih)
              · rw [if_neg e1, if_neg e1]
                by_cases e2 : y.n = 64
                · rw [if_pos e2, if_pos e2]; exact use _ (quantP_pre hF ih 7)
                · rw [if_neg e2, if_neg e2]
                  by_cases e3 : y.n = 63
                  · rw [if_pos e3, if_pos e3]; exact use _ (quantP_pre hF ih 10)
                  · rw [if_neg e3, if_neg e3]
                    by_cases e4 : y.n = 40
                    · rw [if_pos e4, if_pos e4]; exact use _ (pairP_pre hF ih)
                    · rw [if_neg e4, if_neg e4]; exact bad
            · rw [if_neg h4, if_neg h4]; exact bad
    exact ⟨fun a r a1 t h => (key a r).1 a1 t h, fun a r a1 h => (key a r).2 a1 h⟩
end Go.Proofs.Ytfleomamhkeiiaa
