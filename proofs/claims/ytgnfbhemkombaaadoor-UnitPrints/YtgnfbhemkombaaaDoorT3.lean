/- The order of trees, as plain mathematics. No program is named. -/
import Derived.Test.YtgnfbhemkombaaaDoorT2
namespace Go.Proofs.YtgnfbhemkombaaaDoor
def byI (a b : Int) : Int := if a < b then -1 else if b < a then 1 else 0
theorem byI_zero {a b : Int} : byI a b = 0 ↔ a = b := by
  unfold byI; split
  · omega
  · split <;> omega
theorem byI_lt {a b : Int} (h : a < b) : byI a b = -1 := by unfold byI; rw [if_pos h]
theorem byI_gt {a b : Int} (h : b < a) : byI a b = 1 := by unfold byI; rw [if_neg (by omega), if_pos h]
theorem byI_self (a : Int) : byI a a = 0 := byI_zero.2 rfl
theorem byI_neg (a b : Int) : byI b a = - byI a b := by
  unfold byI
  by_cases h : a < b
  · rw [if_neg (by omega), if_pos h, if_pos h]; omega
  · by_cases h' : b < a
    · rw [if_pos h', if_neg h, if_pos h']
    · rw [if_neg h', if_neg h, if_neg h, if_neg h']; omega
/-- the heads -/
def headC (a b : Tr) : Int := if byI a.k b.k ≠ 0 then byI a.k b.k else if byI a.i b.i ≠ 0 then byI a.i b.i else byI a.ks.length b.ks.length
mutual
def cmpT : Tr → Tr → Int
  | .node k i ks, b => if headC (.node k i ks) b ≠ 0 then headC (.node k i ks) b else cmpL ks b.ks
def cmpL : List Tr → List Tr → Int
  | [], _ => 0
  | _ :: _, [] => 0
  | a :: r, b :: s => if cmpT a b ≠ 0 then cmpT a b else cmpL r s
end
theorem cmpT_eq (a b : Tr) : cmpT a b = if headC a b ≠ 0 then headC a b else cmpL a.ks b.ks := by cases a; simp [cmpT, Tr.ks]
theorem headC_zero {a b : Tr} : headC a b = 0 ↔ a.k = b.k ∧ a.i = b.i ∧ a.ks.length = b.ks.length := by
  unfold headC
  by_cases h1 : a.k = b.k
  · rw [if_neg (by simp [byI_zero.2 h1])]
    by_cases h2 : a.i = b.i
    · rw [if_neg (by simp [byI_zero.2 h2]), byI_zero]; omega
    · have : byI a.i b.i ≠ 0 := fun h => h2 (byI_zero.1 h)
      rw [if_pos this]; simp [h1, h2]; exact this
  · have : byI a.k b.k ≠ 0 := fun h => h1 (byI_zero.1 h)
    rw [if_pos this]; simp [h1]; exact this
theorem cmpL_take (ks ls : List Tr) (m : Nat) (h : m < ks.length) (h' : m < ls.length) (hz : cmpL (ks.take m) (ls.take m) = 0) :
    cmpL (ks.take (m + 1)) (ls.take (m + 1)) = cmpT ks[m] ls[m] := by
  induction m generalizing ks ls with
  | zero =>
    cases ks with
    | nil => simp at h
    | cons a r => cases ls with
      | nil => simp at h'
      | cons b s => simp only [List.take_succ_cons, List.take_zero, cmpL, List.getElem_cons_zero]; split <;> simp_all
  | succ m ih =>
    cases ks with
    | nil => simp at h
    | cons a r => cases ls with
      | nil => simp at h'
      | cons b s =>
        simp only [List.take_succ_cons, cmpL] at hz ⊢
        split at hz
        · rename_i hne; exact absurd hz hne
        · rename_i he
          rw [if_neg he]
          rw [List.getElem_cons_succ, List.getElem_cons_succ]
          exact ih r s (by simpa using h) (by simpa using h') hz
theorem cmpL_of_take (ks ls : List Tr) (m : Nat) (hne : cmpL (ks.take m) (ls.take m) ≠ 0) : cmpL ks ls = cmpL (ks.take m) (ls.take m) := by
  induction m generalizing ks ls with
  | zero => simp [cmpL] at hne
  | succ m ih =>
    cases ks with
    | nil => simp [cmpL] at hne
    | cons a r => cases ls with
      | nil => simp [cmpL] at hne
      | cons b s =>
        simp only [List.take_succ_cons, cmpL] at hne ⊢
        by_cases h : cmpT a b = 0
        · simp only [h, ne_eq, not_true_eq_false, if_false] at hne ⊢
          exact ih r s hne
        · simp [h]
/-! ### it is an order -/
theorem headC_neg (a b : Tr) : headC b a = - headC a b := by
  unfold headC
  rw [byI_neg a.k b.k, byI_neg a.i b.i, byI_neg (a.ks.length : Int) b.ks.length]
  by_cases h1 : byI a.k b.k = 0
  · by_cases h2 : byI a.i b.i = 0
    · simp [h1, h2]
    · simp [h1, h2]
  · simp [h1]
theorem cmpT_neg (a : Tr) : ∀ b, cmpT b a = - cmpT a b := by
  induction a using Tr.ind with
  | h a ih =>
    intro b
    have hl : ∀ (r s : List Tr), (∀ q, q ∈ r → q ∈ a.ks) → cmpL s r = - cmpL r s := by
      intro r
      induction r with
      | nil => intro s _; cases s <;> simp [cmpL]
      | cons x r ihr =>
        intro s hs
        cases s with
        | nil => simp [cmpL]
        | cons y s =>
          have h1 := ih x (hs x (by simp)) y
          have h2 := ihr s (fun q hq => hs q (by simp [hq]))
          simp only [cmpL, h1, h2]
          by_cases h : cmpT x y = 0
          · simp [h]
          · simp [h]
    rw [cmpT_eq b a, cmpT_eq a b, headC_neg a b, hl a.ks b.ks (fun q hq => hq)]
    by_cases h : headC a b = 0
    · simp [h]
    · simp [h]
theorem cmpT_zero (a : Tr) : ∀ b, cmpT a b = 0 ↔ a = b := by
  induction a using Tr.ind with
  | h a ih =>
    intro b
    have hl : ∀ (r s : List Tr), (∀ q, q ∈ r → q ∈ a.ks) → r.length = s.length → (cmpL r s = 0 ↔ r = s) := by
      intro r
      induction r with
      | nil => intro s _ hlen; cases s <;> simp_all [cmpL]
      | cons x r ihr =>
        intro s hs hlen
        cases s with
        | nil => simp at hlen
        | cons y s =>
          have h1 := ih x (hs x (by simp)) y
          have h2 := ihr s (fun q hq => hs q (by simp [hq])) (by simpa using hlen)
          simp only [cmpL]
          by_cases h : cmpT x y = 0
          · have := h1.1 h; subst this; simp [h, h2]
          · have : ¬ x = y := fun e => h (h1.2 e)
            simp [h, this]
    rw [cmpT_eq]
    by_cases h : headC a b = 0
    · rw [if_neg (by simp [h])]
      obtain ⟨e1, e2, e3⟩ := headC_zero.1 h
      rw [hl a.ks b.ks (fun q hq => hq) e3]
      constructor
      · intro e; rw [Tr.eta a, Tr.eta b, e1, e2, e]
      · intro e; rw [e]
    · rw [if_pos h]
      constructor
      · intro e; exact absurd e h
      · intro e; subst e; exact absurd (headC_zero.2 ⟨rfl, rfl, rfl⟩) h
theorem cmpT_self (a : Tr) : cmpT a a = 0 := (cmpT_zero a a).2 rfl
theorem byI_cases (a b : Int) : (byI a b = -1 ∧ a < b) ∨ (byI a b = 0 ∧ a = b) ∨ (byI a b = 1 ∧ b < a) := by
  unfold byI; split
  · exact .inl ⟨rfl, by assumption⟩
  · split
    · exact .inr (.inr ⟨rfl, by assumption⟩)
    · exact .inr (.inl ⟨rfl, by omega⟩)
theorem headC_cases (a b : Tr) : headC a b = -1 ∨ headC a b = 0 ∨ headC a b = 1 := by
  unfold headC
  rcases byI_cases a.k b.k with ⟨h, _⟩ | ⟨h, _⟩ | ⟨h, _⟩ <;> rcases byI_cases a.i b.i with ⟨h', _⟩ | ⟨h', _⟩ | ⟨h', _⟩ <;>
    rcases byI_cases (a.ks.length : Int) b.ks.length with ⟨h'', _⟩ | ⟨h'', _⟩ | ⟨h'', _⟩ <;> simp [h, h', h'']
theorem cmpT_cases (a : Tr) : ∀ b, cmpT a b = -1 ∨ cmpT a b = 0 ∨ cmpT a b = 1 := by
  induction a using Tr.ind with
  | h a ih =>
    intro b
    have hl : ∀ (r s : List Tr), (∀ q, q ∈ r → q ∈ a.ks) → (cmpL r s = -1 ∨ cmpL r s = 0 ∨ cmpL r s = 1) := by
      intro r
      induction r with
      | nil => intro s _; simp [cmpL]
      | cons x r ihr =>
        intro s hs
        cases s with
        | nil => simp [cmpL]
        | cons y s =>
          have h1 := ih x (hs x (by simp)) y
          have h2 := ihr s (fun q hq => hs q (by simp [hq]))
          simp only [cmpL]
          by_cases h : cmpT x y = 0
          · simp [h]; exact h2
          · simp [h]; omega
    rw [cmpT_eq]
    have := headC_cases a b
    split
    · exact this
    · exact hl a.ks b.ks (fun q hq => hq)
theorem headC_trans (a b c : Tr) (h1 : headC a b ≤ 0) (h2 : headC b c ≤ 0) : headC a c ≤ 0 ∧ (headC a c = 0 → headC a b = 0 ∧ headC b c = 0) := by
  unfold headC at *
  rcases byI_cases a.k b.k with ⟨p1, q1⟩ | ⟨p1, q1⟩ | ⟨p1, q1⟩ <;> rcases byI_cases b.k c.k with ⟨p2, q2⟩ | ⟨p2, q2⟩ | ⟨p2, q2⟩ <;> rcases byI_cases a.k c.k with ⟨p3, q3⟩ | ⟨p3, q3⟩ | ⟨p3, q3⟩ <;>
    simp only [p1, p2, p3] at h1 h2 ⊢ <;> first
      | omega
      | (simp at h1; done)
      | (simp at h2; done)
      | (simp; done)
      | (rcases byI_cases a.i b.i with ⟨r1, s1⟩ | ⟨r1, s1⟩ | ⟨r1, s1⟩ <;> rcases byI_cases b.i c.i with ⟨r2, s2⟩ | ⟨r2, s2⟩ | ⟨r2, s2⟩ <;> rcases byI_cases a.i c.i with ⟨r3, s3⟩ | ⟨r3, s3⟩ | ⟨r3, s3⟩ <;>
          simp only [r1, r2, r3] at h1 h2 ⊢ <;> first
            | omega
            | (simp at h1; done)
            | (simp at h2; done)
            | (simp; done)
            | (rcases byI_cases (a.ks.length : Int) b.ks.length with ⟨u1, v1⟩ | ⟨u1, v1⟩ | ⟨u1, v1⟩ <;> rcases byI_cases (b.ks.length : Int) c.ks.length with ⟨u2, v2⟩ | ⟨u2, v2⟩ | ⟨u2, v2⟩ <;> rcases byI_cases (a.ks.length : Int) c.ks.length with ⟨u3, v3⟩ | ⟨u3, v3⟩ | ⟨u3, v3⟩ <;>
                simp only [u1, u2, u3] at h1 h2 ⊢ <;> first
                  | omega
                  | (simp at h1; done)
                  | (simp at h2; done)
                  | (simp; done)))
theorem cmpT_trans (a : Tr) : ∀ b c, cmpT a b ≤ 0 → cmpT b c ≤ 0 → cmpT a c ≤ 0 := by
  induction a using Tr.ind with
  | h a ih =>
    intro b c h1 h2
    have hl : ∀ (r s u : List Tr), (∀ q, q ∈ r → q ∈ a.ks) → r.length = s.length → s.length = u.length → cmpL r s ≤ 0 → cmpL s u ≤ 0 → cmpL r u ≤ 0 := by
      intro r
      induction r with
      | nil => intro s u _ _ _ _ _; simp [cmpL]
      | cons x r ihr =>
        intro s u hs e1 e2 h1 h2
        cases s with
        | nil => simp at e1
        | cons y s => cases u with
          | nil => simp at e2
          | cons z u =>
            have hx := ih x (hs x (by simp)) y z
            have hr := ihr s u (fun q hq => hs q (by simp [hq])) (by simpa using e1) (by simpa using e2)
            simp only [cmpL] at h1 h2 ⊢
            by_cases a1 : cmpT x y = 0
            · have := (cmpT_zero x y).1 a1
              subst this
              simp only [a1, ne_eq, not_true_eq_false, if_false] at h1
              by_cases a2 : cmpT x z = 0
              · simp only [a2, ne_eq, not_true_eq_false, if_false] at h2 ⊢
                exact hr h1 h2
              · simp only [a2, ne_eq, not_false_eq_true, if_true] at h2 ⊢
                exact h2
            · simp only [a1, ne_eq, not_false_eq_true, if_true] at h1
              by_cases a2 : cmpT y z = 0
              · have := (cmpT_zero y z).1 a2
                subst this
                simp only [a1, ne_eq, not_false_eq_true, if_true]
                exact h1
              · simp only [a2, ne_eq, not_false_eq_true, if_true] at h2
                have h3 := hx h1 h2
                by_cases a3 : cmpT x z = 0
                · have := (cmpT_zero x z).1 a3
                  subst this
                  have := cmpT_neg x y
                  omega
                · simp only [a3, ne_eq, not_false_eq_true, if_true]
                  exact h3
    rw [cmpT_eq] at h1 h2 ⊢
    by_cases e1 : headC a b = 0
    · by_cases e2 : headC b c = 0
      · obtain ⟨p1, p2, p3⟩ := headC_zero.1 e1
        obtain ⟨r1, r2, r3⟩ := headC_zero.1 e2
        have e3 : headC a c = 0 := headC_zero.2 ⟨p1.trans r1, p2.trans r2, p3.trans r3⟩
        simp only [e1, e2, e3, ne_eq, not_true_eq_false, if_false] at h1 h2 ⊢
        exact hl a.ks b.ks c.ks (fun q hq => hq) p3 r3 h1 h2
      · simp only [e2, ne_eq, not_false_eq_true, if_true] at h2
        have := headC_trans a b c (by omega) h2
        have e3 : headC a c ≠ 0 := fun h => e2 (this.2 h).2
        rw [if_pos e3]; exact this.1
    · simp only [e1, ne_eq, not_false_eq_true, if_true] at h1
      by_cases e2 : headC b c = 0
      · have := headC_trans a b c h1 (by omega)
        have e3 : headC a c ≠ 0 := fun h => e1 (this.2 h).1
        rw [if_pos e3]; exact this.1
      · simp only [e2, ne_eq, not_false_eq_true, if_true] at h2
        have := headC_trans a b c h1 h2
        have e3 : headC a c ≠ 0 := fun h => e1 (this.2 h).1
        rw [if_pos e3]; exact this.1
end Go.Proofs.YtgnfbhemkombaaaDoor
