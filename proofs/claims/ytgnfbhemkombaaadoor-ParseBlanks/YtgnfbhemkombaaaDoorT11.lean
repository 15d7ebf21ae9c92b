/- How many tokens a tree takes. -/
import Derived.Test.YtgnfbhemkombaaaDoorT10
namespace Go.Proofs.YtgnfbhemkombaaaDoor
set_option linter.unusedVariables false
def SzOk (T : List Tok → PR) : Prop := ∀ r t r', T r = .ok t r' → t.sz + r'.length ≤ r.length
theorem argsL_sz {T : List Tok → PR} (hT : SzOk T) (k n : Nat) : ∀ (c : Nat) (acc : List Tr) (r : List Tok) (t : Tr) (r' : List Tok), argsL T k n c acc r = .ok t r' → ∃ ks, t = .node k n (acc ++ ks) ∧ szL ks + r'.length ≤ r.length := by
  intro c
  induction c with
  | zero => intro acc r t r' h; simp [argsL] at h
  | succ c ih =>
    intro acc r t r' h
    simp only [argsL] at h
    cases hr : T r with
    | bad q => rw [hr] at h; simp at h
    | ok u r1 =>
      rw [hr] at h
      have h0 := hT r u r1 hr
      simp only [] at h
      by_cases h1 : stands 41 r1 = true
      · rw [if_pos h1] at h
        cases h
        refine ⟨[u], rfl, ?_⟩
        simp [szL]
        omega
      · rw [if_neg h1] at h
        by_cases h2 : c = 0 ∨ stands 44 r1 = false
        · rw [if_pos h2] at h; cases h
        · rw [if_neg h2] at h
          obtain ⟨ks, e, hk⟩ := ih _ _ _ _ h
          refine ⟨u :: ks, by rw [e, List.append_assoc]; rfl, ?_⟩
          have : r1.tail.length ≤ r1.length := by simp
          simp only [szL]
          omega
theorem argsP_sz {T : List Tok → PR} (hT : SzOk T) (k n : Nat) (r : List Tok) (t : Tr) (r' : List Tok) (h : argsP T k n r = .ok t r') : ∃ ks, t = .node k n ks ∧ szL ks + r'.length ≤ r.length := by
  unfold argsP at h
  by_cases h1 : stands 40 r = true
  · rw [if_pos h1] at h
    obtain ⟨ks, e, hk⟩ := argsL_sz hT k n _ _ _ _ _ h
    have : r.tail.length ≤ r.length := by simp
    exact ⟨ks, by simpa using e, by omega⟩
  · rw [if_neg h1] at h
    cases h
    exact ⟨[], rfl, by simp [szL]⟩
theorem termP_sz : ∀ f, SzOk (termP f) := by
  intro f
  induction f with
  | zero => intro r t r' h; simp [termP] at h
  | succ f ih =>
    intro r t r' h
    cases r with
    | nil => simp [termP] at h
    | cons x r =>
      simp only [termP] at h
      by_cases h1 : x.k = 1
      · rw [if_pos h1] at h
        cases h
        simp [Tr.sz, szL]
        omega
      · rw [if_neg h1] at h
        by_cases h2 : x.k = 2
        · rw [if_pos h2] at h
          obtain ⟨ks, e, hk⟩ := argsP_sz ih _ _ _ _ _ h
          rw [e, sz_eq]
          simp only [Tr.ks, List.length_cons]
          omega
        · rw [if_neg h2] at h; cases h
theorem formP_sz : ∀ f, SzOk (formP f) := by
  intro f
  induction f with
  | zero => intro r t r' h; simp [formP] at h
  | succ f ih =>
    intro r t r' h
    cases r with
    | nil => simp [formP] at h
    | cons x r =>
      have quant : ∀ k : Nat, quantP (formP f) k r = .ok t r' → t.sz + r'.length ≤ (x :: r).length := by
        intro k hq
        cases r with
        | nil => simp [quantP] at hq
        | cons y r1 =>
          simp only [quantP] at hq
          by_cases h1 : y.k = 1
          · rw [if_pos h1] at hq
            cases hr : formP f r1 with
            | bad q => rw [hr] at hq; cases hq
            | ok a r2 =>
              rw [hr] at hq
              cases hq
              have := ih _ _ _ hr
              simp [Tr.sz, szL]
              omega
          · rw [if_neg h1] at hq; cases hq
      simp only [formP] at h
      by_cases h3 : x.k = 3
      · rw [if_pos h3] at h
        obtain ⟨ks, e, hk⟩ := argsP_sz (termP_sz f) _ _ _ _ _ h
        rw [e, sz_eq]
        simp only [Tr.ks, List.length_cons]
        omega
      · rw [if_neg h3] at h
        by_cases h12 : x.k = 1 ∨ x.k = 2
        · rw [if_pos h12] at h
          unfold eqP at h
          cases hr : termP f (x :: r) with
          | bad q => rw [hr] at h; cases h
          | ok a r1 =>
            rw [hr] at h
            have e1 := termP_sz f _ _ _ hr
            simp only [] at h
            by_cases he : stands 61 r1 = true
            · rw [if_pos he] at h
              obtain ⟨y, r2, rfl, _, _⟩ := stands_cons he
              simp only [List.tail_cons] at h
              cases hr2 : termP f r2 with
              | bad q => rw [hr2] at h; cases h
              | ok b r3 =>
                rw [hr2] at h
                cases h
                have e2 := termP_sz f _ _ _ hr2
                simp only [List.length_cons] at e1 ⊢
                simp [Tr.sz, szL]
                omega
            · rw [if_neg he] at h; cases h
        · rw [if_neg h12] at h
          by_cases h4 : x.k = 4
          · rw [if_pos h4] at h
            by_cases e1 : x.n = 33
            · rw [if_pos e1] at h
              unfold notP at h
              cases hr : formP f r with
              | bad q => rw [hr] at h; cases h
              | ok a r1 =>
                rw [hr] at h
                cases h
                have := ih _ _ _ hr
                simp [Tr.sz, szL]
                omega
            · rw [if_neg e1] at h
              by_cases e2 : x.n = 64
              · rw [if_pos e2] at h; exact quant 7 h
              · rw [if_neg e2] at h
                by_cases e3 : x.n = 63
                · rw [if_pos e3] at h; exact quant 10 h
                · rw [if_neg e3] at h
                  by_cases e4 : x.n = 40
                  · rw [if_pos e4] at h
                    unfold pairP at h
                    cases hr : formP f r with
                    | bad q => rw [hr] at h; cases h
                    | ok a r1 =>
                      rw [hr] at h
                      have q1 := ih _ _ _ hr
                      simp only [] at h
                      by_cases hj : jointN r1 = 0
                      · rw [if_pos hj] at h; cases h
                      · rw [if_neg hj] at h
                        have : r1.tail.length ≤ r1.length := by simp
                        cases hr2 : formP f r1.tail with
                        | bad q => rw [hr2] at h; cases h
                        | ok b r3 =>
                          rw [hr2] at h
                          have q2 := ih _ _ _ hr2
                          simp only [] at h
                          by_cases hc : stands 41 r3 = true
                          · rw [if_pos hc] at h
                            cases h
                            have : r3.tail.length ≤ r3.length := by simp
                            have : 1 ≤ r1.length := by
                              cases r1 with
                              | nil => exact absurd rfl hj
                              | cons _ _ => simp
                            simp [Tr.sz, szL] at *
                            omega
                          · rw [if_neg hc] at h; cases h
                  · rw [if_neg e4] at h; cases h
          · rw [if_neg h4] at h; cases h
end Go.Proofs.YtgnfbhemkombaaaDoor
