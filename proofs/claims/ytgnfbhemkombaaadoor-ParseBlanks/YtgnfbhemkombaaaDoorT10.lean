/- Tokens read as terms and formulas: plain mathematics. -/
import Derived.Test.YtgnfbhemkombaaaDoorT9
import Derived.Test.YtgnfbhemkombaaaDoorT2
namespace Go.Proofs.YtgnfbhemkombaaaDoor
set_option linter.unusedVariables false
/-- what reading gives: a tree and what is left, or the tokens from the refused one on -/
inductive PR where
  | ok (t : Tr) (r : List Tok)
  | bad (r : List Tok)
/-- is the first token that sign? -/
def stands (c : Nat) : List Tok → Bool
  | t :: _ => t.k == 4 && t.n == c
  | [] => false
def argsL (T : List Tok → PR) (k n : Nat) : Nat → List Tr → List Tok → PR
  | 0, _, r => .bad r
  | c + 1, acc, r => match T r with
    | .bad r' => .bad r'
    | .ok t r1 => if stands 41 r1 then .ok (.node k n (acc ++ [t])) r1.tail else if c = 0 ∨ stands 44 r1 = false then .bad r1 else argsL T k n c (acc ++ [t]) r1.tail
def argsP (T : List Tok → PR) (k n : Nat) (r : List Tok) : PR := if stands 40 r then argsL T k n 4 [] r.tail else .ok (.node k n []) r
def termP : Nat → List Tok → PR
  | 0, r => .bad r
  | _ + 1, [] => .bad []
  | f + 1, t :: r => if t.k = 1 then .ok (.node 1 t.n []) r else if t.k = 2 then argsP (termP f) 2 t.n r else .bad (t :: r)
def quantP (F : List Tok → PR) (k : Nat) : List Tok → PR
  | [] => .bad []
  | t :: r => if t.k = 1 then (match F r with | .bad r' => .bad r' | .ok a r1 => .ok (.node k t.n [a]) r1) else .bad (t :: r)
/-- the kind of the sign between two formulas -/
def jointN (r : List Tok) : Nat := if stands 62 r then 6 else if stands 38 r then 8 else if stands 124 r then 9 else 0
def pairP (F : List Tok → PR) (r : List Tok) : PR := match F r with
  | .bad r' => .bad r'
  | .ok a r1 => if jointN r1 = 0 then .bad r1 else match F r1.tail with
    | .bad r' => .bad r'
    | .ok b r2 => if stands 41 r2 then .ok (.node (jointN r1) 0 [a, b]) r2.tail else .bad r2
def eqP (T : List Tok → PR) (r : List Tok) : PR := match T r with
  | .bad r' => .bad r'
  | .ok a r1 => if stands 61 r1 then (match T r1.tail with | .bad r' => .bad r' | .ok b r2 => .ok (.node 4 0 [a, b]) r2) else .bad r1
def notP (F : List Tok → PR) (r : List Tok) : PR := match F r with
  | .bad r' => .bad r'
  | .ok a r1 => .ok (.node 5 0 [a]) r1
def formP : Nat → List Tok → PR
  | 0, r => .bad r
  | _ + 1, [] => .bad []
  | f + 1, t :: r =>
    if t.k = 3 then argsP (termP f) 3 t.n r
    else if t.k = 1 ∨ t.k = 2 then eqP (termP f) (t :: r)
    else if t.k = 4 then
      (if t.n = 33 then notP (formP f) r else if t.n = 64 then quantP (formP f) 7 r else if t.n = 63 then quantP (formP f) 10 r else if t.n = 40 then pairP (formP f) r else .bad (t :: r))
    else .bad (t :: r)
/-- where a refused token stands -/
def placeN (len : Nat) : List Tok → Nat
  | [] => len
  | t :: _ => t.p
/-- what is left is a part of what there was -/
def PR.within (r : List Tok) : PR → Prop
  | .ok _ r1 => r1 <:+ r ∧ r1.length < r.length
  | .bad r1 => r1 <:+ r
theorem suf_len {a b : List Tok} (h : a <:+ b) : a.length ≤ b.length := h.length_le
theorem stands_cons {c : Nat} {r : List Tok} (h : stands c r = true) : ∃ t r1, r = t :: r1 ∧ t.k = 4 ∧ t.n = c := by
  cases r with
  | nil => simp [stands] at h
  | cons t r1 => simp [stands] at h; exact ⟨t, r1, rfl, h.1, h.2⟩
theorem argsL_within (T : List Tok → PR) (k n : Nat) : ∀ (c : Nat) (acc : List Tr) (r : List Tok), (∀ r0, r0 <:+ r → (T r0).within r0) → (argsL T k n c acc r).within r := by
  intro c
  induction c with
  | zero => intro acc r _; exact List.suffix_refl _
  | succ c ih =>
    intro acc r hT
    have h0 := hT r (List.suffix_refl _)
    simp only [argsL]
    cases hr : T r with
    | bad r' => rw [hr] at h0; exact h0
    | ok t r1 =>
      rw [hr] at h0
      simp only []
      by_cases h1 : stands 41 r1 = true
      · rw [if_pos h1]
        obtain ⟨x, r2, rfl, _, _⟩ := stands_cons h1
        have := h0.2
        simp only [List.length_cons] at this
        exact ⟨(List.suffix_cons x r2).trans h0.1, by simp only [List.tail_cons]; omega⟩
      · rw [if_neg h1]
        by_cases h2 : c = 0 ∨ stands 44 r1 = false
        · rw [if_pos h2]; exact h0.1
        · rw [if_neg h2]
          have h3 : stands 44 r1 = true := by cases hs : stands 44 r1 with
            | true => rfl
            | false => exact absurd (Or.inr hs) h2
          obtain ⟨x, r2, rfl, _, _⟩ := stands_cons h3
          have hs : r2 <:+ r := (List.suffix_cons x r2).trans h0.1
          have := ih (acc ++ [t]) r2 (fun r0 h => hT r0 (h.trans hs))
          have hl := h0.2
          simp only [List.length_cons] at hl
          simp only [List.tail_cons]
          cases hq : argsL T k n c (acc ++ [t]) r2 with
          | bad r' => rw [hq] at this; exact List.IsSuffix.trans this hs
          | ok t' r' => rw [hq] at this; exact ⟨this.1.trans hs, by have := this.2; omega⟩
theorem argsP_within (T : List Tok → PR) (k n : Nat) (t : Tok) (r : List Tok) (hT : ∀ r0, r0 <:+ r → (T r0).within r0) : (argsP T k n r).within (t :: r) := by
  unfold argsP
  by_cases h : stands 40 r = true
  · rw [if_pos h]
    obtain ⟨x, r1, rfl, _, _⟩ := stands_cons h
    have hs : r1 <:+ t :: x :: r1 := (List.suffix_cons x r1).trans (List.suffix_cons t _)
    have := argsL_within T k n 4 [] r1 (fun r0 h => hT r0 (h.trans (List.suffix_cons x r1)))
    simp only [List.tail_cons]
    cases hq : argsL T k n 4 [] r1 with
    | bad r' => rw [hq] at this; exact List.IsSuffix.trans this hs
    | ok t' r' => rw [hq] at this; exact ⟨this.1.trans hs, by have := this.2; simp only [List.length_cons]; omega⟩
  · rw [if_neg h]
    exact ⟨List.suffix_cons t r, by simp⟩
theorem termP_within : ∀ (f : Nat) (r : List Tok), (termP f r).within r := by
  intro f
  induction f with
  | zero => intro r; exact List.suffix_refl _
  | succ f ih =>
    intro r
    cases r with
    | nil => exact List.suffix_refl _
    | cons t r =>
      simp only [termP]
      by_cases h1 : t.k = 1
      · rw [if_pos h1]; exact ⟨List.suffix_cons t r, by simp⟩
      · rw [if_neg h1]
        by_cases h2 : t.k = 2
        · rw [if_pos h2]; exact argsP_within _ _ _ t r (fun r0 _ => ih r0)
        · rw [if_neg h2]; exact List.suffix_refl _
theorem PR.within_up {p : PR} {r r' : List Tok} (h : p.within r) (hs : r <:+ r') : p.within r' := by
  have := hs.length_le
  cases p with
  | bad q => exact List.IsSuffix.trans h hs
  | ok t q => exact ⟨h.1.trans hs, by have := h.2; omega⟩
theorem formP_within : ∀ (f : Nat) (r : List Tok), (formP f r).within r := by
  intro f
  induction f with
  | zero => intro r; exact List.suffix_refl _
  | succ f ih =>
    intro r
    cases r with
    | nil => exact List.suffix_refl _
    | cons t r =>
      have hs := List.suffix_cons t r
      have quant : ∀ k, (quantP (formP f) k r).within (t :: r) := by
        intro k
        cases r with
        | nil => exact hs
        | cons x r1 =>
          simp only [quantP]
          by_cases h1 : x.k = 1
          · rw [if_pos h1]
            have := ih r1
            cases hq : formP f r1 with
            | bad r' => rw [hq] at this; exact List.IsSuffix.trans this ((List.suffix_cons x r1).trans hs)
            | ok a r' => rw [hq] at this; exact ⟨this.1.trans ((List.suffix_cons x r1).trans hs), by have := this.2; simp only [List.length_cons]; omega⟩
          · rw [if_neg h1]; exact hs
      simp only [formP]
      by_cases h3 : t.k = 3
      · rw [if_pos h3]; exact argsP_within _ _ _ t r (fun r0 _ => termP_within f r0)
      · rw [if_neg h3]
        by_cases h12 : t.k = 1 ∨ t.k = 2
        · rw [if_pos h12]
          unfold eqP
          have h1 := termP_within f (t :: r)
          cases hq : termP f (t :: r) with
          | bad r' => rw [hq] at h1; exact h1
          | ok a r1 =>
            rw [hq] at h1
            simp only []
            by_cases he : stands 61 r1 = true
            · rw [if_pos he]
              obtain ⟨x, r2, rfl, _, _⟩ := stands_cons he
              simp only [List.tail_cons]
              have h2 := termP_within f r2
              have hs2 : r2 <:+ t :: r := (List.suffix_cons x r2).trans h1.1
              cases hq2 : termP f r2 with
              | bad r' => rw [hq2] at h2; exact List.IsSuffix.trans h2 hs2
              | ok b r' => rw [hq2] at h2; exact ⟨h2.1.trans hs2, by have := h2.2; have := hs2.length_le; omega⟩
            · rw [if_neg he]; exact h1.1
        · rw [if_neg h12]
          by_cases h4 : t.k = 4
          · rw [if_pos h4]
            by_cases e1 : t.n = 33
            · rw [if_pos e1]
              unfold notP
              have := ih r
              cases hq : formP f r with
              | bad r' => rw [hq] at this; exact List.IsSuffix.trans this hs
              | ok a r' => rw [hq] at this; exact ⟨this.1.trans hs, by have := this.2; simp only [List.length_cons]; omega⟩
            · rw [if_neg e1]
              by_cases e2 : t.n = 64
              · rw [if_pos e2]; exact quant 7
              · rw [if_neg e2]
                by_cases e3 : t.n = 63
                · rw [if_pos e3]; exact quant 10
                · rw [if_neg e3]
                  by_cases e4 : t.n = 40
                  · rw [if_pos e4]
                    unfold pairP
                    have h1 := ih r
                    cases hq : formP f r with
                    | bad r' => rw [hq] at h1; exact List.IsSuffix.trans h1 hs
                    | ok a r1 =>
                      rw [hq] at h1
                      simp only []
                      by_cases hj : jointN r1 = 0
                      · rw [if_pos hj]; exact h1.1.trans hs
                      · rw [if_neg hj]
                        have hne : r1 ≠ [] := fun e => hj (by rw [e]; rfl)
                        obtain ⟨x, r2, rfl⟩ := List.exists_cons_of_ne_nil hne
                        simp only [List.tail_cons]
                        have hs2 : r2 <:+ t :: r := (List.suffix_cons x r2).trans (h1.1.trans hs)
                        have h2 := ih r2
                        cases hq2 : formP f r2 with
                        | bad r' => rw [hq2] at h2; exact List.IsSuffix.trans h2 hs2
                        | ok b r3 =>
                          rw [hq2] at h2
                          simp only []
                          by_cases hc : stands 41 r3 = true
                          · rw [if_pos hc]
                            obtain ⟨y, r4, rfl, _, _⟩ := stands_cons hc
                            have q1 := h2.2
                            have q2 := hs2.length_le
                            refine ⟨((List.suffix_cons y r4).trans h2.1).trans hs2, ?_⟩
                            show r4.length < (t :: r).length
                            simp only [List.length_cons] at q1 q2 ⊢
                            omega
                          · rw [if_neg hc]; exact h2.1.trans hs2
                  · rw [if_neg e4]; exact List.suffix_refl _
          · rw [if_neg h4]; exact List.suffix_refl _
end Go.Proofs.YtgnfbhemkombaaaDoor
