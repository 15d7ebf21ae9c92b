/- What the walks over the nodes gather is what the sets are: plain mathematics. -/
import Derived.Test.YtgnfbhemkombaaaDoorT12
namespace Go.Proofs.YtgnfbhemkombaaaDoor
set_option linter.unusedVariables false
set_option linter.unusedSimpArgs false
/-- what is asked of a tree here: a variable has no kids, variables and quantifiers have numbers that there are -/
def Tr.vok (t : Tr) : Prop := t.shp = true
theorem vok_kids {t : Tr} (h : t.shp = true) : ∀ q ∈ t.ks, q.shp = true := by
  rw [shp_eq, Bool.and_eq_true, shpL_all, List.all_eq_true] at h
  intro q hq
  have := h.2 q hq
  simp at this
  exact this.2
theorem shp_var {t : Tr} (h : t.shp = true) (h1 : t.k = 1) : t.ks = [] ∧ 0 ≤ t.i ∧ t.i ≤ 63 := by
  rw [shp_eq, Bool.and_eq_true] at h
  have h2 := h.1
  unfold kindOk at h2
  rw [if_pos h1] at h2
  simp only [Bool.and_eq_true, decide_eq_true_eq] at h2
  exact ⟨List.length_eq_zero_iff.1 (by omega), h2.1, h2.2.1⟩
theorem shp_quantified {t : Tr} (h : t.shp = true) (h1 : t.k = 7 ∨ t.k = 10) : t.ks.length = 1 ∧ 0 ≤ t.i ∧ t.i ≤ 63 := by
  rw [shp_eq, Bool.and_eq_true] at h
  have h2 := h.1
  unfold kindOk at h2
  rw [if_neg (by omega), if_neg (by omega), if_neg (by omega), if_neg (by omega), if_neg (by omega), if_pos h1] at h2
  simp only [Bool.and_eq_true, decide_eq_true_eq] at h2
  exact ⟨by omega, h2.1, h2.2.1⟩
theorem hasN_bit {s : Nat} {x : Int} (h0 : 0 ≤ x) (h1 : x ≤ 63) : hasN s x = s.testBit x.toNat := hasN_in s x h0 h1
theorem inI_self {x : Int} (h0 : 0 ≤ x) (h1 : x ≤ 63) : inI x x.toNat = true := by unfold inI; rw [decide_eq_true_eq]; omega
theorem inI_eq {i : Int} {j : Nat} (h : inI i j = true) : i = (j : Int) ∧ j < 64 := by unfold inI at h; simpa using h
/-! ### Bound -/
theorem fold_bound (t : Tr) : ∀ ar acc j, (foldV gBound t ar acc).testBit j = (acc.testBit j || (boundT t).testBit j) := by
  induction t using Tr.ind with
  | h t ih =>
    intro ar acc j
    have hl : ∀ (l : List Tr), (∀ q ∈ l, ∀ ar acc j, (foldV gBound q ar acc).testBit j = (acc.testBit j || (boundT q).testBit j)) → ∀ ar acc, (foldVL gBound l ar acc).testBit j = (acc.testBit j || (boundL l).testBit j) := by
      intro l
      induction l with
      | nil => intro _ ar acc; rw [foldVL_nil, boundL_nil]; simp
      | cons y l ihl =>
        intro h ar acc
        rw [foldVL_cons, boundL_cons, ihl (fun q hq => h q (by simp [hq])), h y (by simp), Nat.testBit_or, Bool.or_assoc]
    rw [foldV_eq, hl _ ih, boundT_eq, Nat.testBit_or]
    unfold gBound
    by_cases h : t.k = 7 ∨ t.k = 10
    · rw [if_pos h, if_pos h, tb_with, tb_with]
      simp [Bool.or_assoc]
    · rw [if_neg h, if_neg h]
      simp
theorem code_bound (t : Tr) : foldV gBound t 0 0 = boundT t := Nat.eq_of_testBit_eq fun j => by rw [fold_bound]; simp
/-! ### Vars -/
theorem fold_vars (t : Tr) : t.shp = true → ∀ ar acc j, (foldV gVars t ar acc).testBit j = (acc.testBit j || (varsT t).testBit j) := by
  induction t using Tr.ind with
  | h t ih =>
    intro hs ar acc j
    have hk := vok_kids hs
    have hl : ∀ (l : List Tr), (∀ q ∈ l, ∀ ar acc j, (foldV gVars q ar acc).testBit j = (acc.testBit j || (varsT q).testBit j)) → ∀ ar acc, (foldVL gVars l ar acc).testBit j = (acc.testBit j || ((occL l).testBit j || (boundL l).testBit j)) := by
      intro l
      induction l with
      | nil => intro _ ar acc; rw [foldVL_nil, boundL_nil, occL_nil]; simp
      | cons y l ihl =>
        intro h ar acc
        rw [foldVL_cons, boundL_cons, occL_cons, ihl (fun q hq => h q (by simp [hq])), h y (by simp), Nat.testBit_or, Nat.testBit_or]
        unfold varsT
        rw [Nat.testBit_or]
        cases acc.testBit j <;> cases (occT y).testBit j <;> cases (boundT y).testBit j <;> cases (occL l).testBit j <;> cases (boundL l).testBit j <;> rfl
    rw [foldV_eq, hl _ (fun q hq => ih q hq (hk q hq))]
    unfold varsT gVars
    rw [boundT_eq, occT_eq, Nat.testBit_or, Nat.testBit_or]
    by_cases h1 : t.k = 1
    · obtain ⟨e, _, _⟩ := shp_var hs h1
      rw [if_pos (.inl h1), if_pos h1, if_neg (by omega), e, occL_nil, boundL_nil, tb_with, tb_with]
      simp
    · rw [if_neg h1]
      by_cases h : t.k = 7 ∨ t.k = 10
      · rw [if_pos (.inr h), if_pos h, tb_with, tb_with]
        cases acc.testBit j <;> cases (occL t.ks).testBit j <;> cases (boundL t.ks).testBit j <;> cases inI t.i j <;> simp
      · rw [if_neg (by omega), if_neg h]
        simp
theorem code_vars (t : Tr) (h : t.shp = true) : foldV gVars t 0 0 = varsT t := Nat.eq_of_testBit_eq fun j => by rw [fold_vars t h]; simp
/-! ### Free -/
theorem fold_free (t : Tr) : t.shp = true → ∀ ar acc j, (foldV gFree t ar acc).testBit j = (acc.testBit j || ((freeT t).testBit j && !ar.testBit j)) := by
  induction t using Tr.ind with
  | h t ih =>
    intro hs ar acc j
    have hk := vok_kids hs
    have hl : ∀ (l : List Tr), (∀ q ∈ l, ∀ ar acc j, (foldV gFree q ar acc).testBit j = (acc.testBit j || ((freeT q).testBit j && !ar.testBit j))) → ∀ ar acc, (foldVL gFree l ar acc).testBit j = (acc.testBit j || ((freeL l).testBit j && !ar.testBit j)) := by
      intro l
      induction l with
      | nil => intro _ ar acc; rw [foldVL_nil, freeL_nil]; simp
      | cons y l ihl =>
        intro h ar acc
        rw [foldVL_cons, freeL_cons, ihl (fun q hq => h q (by simp [hq])), h y (by simp), Nat.testBit_or]
        cases acc.testBit j <;> cases (freeT y).testBit j <;> cases (freeL l).testBit j <;> cases ar.testBit j <;> rfl
    rw [foldV_eq, hl _ (fun q hq => ih q hq (hk q hq)), freeT_eq]
    unfold gFree
    by_cases h1 : t.k = 1
    · obtain ⟨e, i0, i1⟩ := shp_var hs h1
      rw [if_pos h1, e, freeL_nil, hasN_bit i0 i1, tb_with]
      simp only [Nat.zero_testBit, Bool.false_and, Bool.or_false, Bool.false_or]
      by_cases hj : inI t.i j = true
      · obtain ⟨e1, _⟩ := inI_eq hj
        have e2 : t.i.toNat = j := by omega
        rw [e2, hj]
        cases hb : ar.testBit j with
        | true => rw [if_neg (by simp)]; simp
        | false => rw [if_pos ⟨h1, rfl⟩, tb_with, hj]; simp
      · have hj' : inI t.i j = false := by simpa using hj
        rw [hj']
        split
        · rw [tb_with, hj']; simp
        · simp
    · rw [if_neg h1, if_neg (fun h => h1 h.1)]
      by_cases h : t.k = 7 ∨ t.k = 10
      · rw [if_pos h, if_pos h, tb_with, tb_without _ _ _ (freeL_U _)]
        cases acc.testBit j <;> cases (freeL t.ks).testBit j <;> cases ar.testBit j <;> cases inI t.i j <;> rfl
      · rw [if_neg h, if_neg h]
theorem code_free (t : Tr) (h : t.shp = true) : foldV gFree t 0 0 = freeT t := Nat.eq_of_testBit_eq fun j => by rw [fold_free t h]; simp
/-! ### Caught -/
/-- where something is caught, x is free -/
theorem cat_free (own : Nat) (x : Int) (t : Tr) (j : Nat) (h : (catT own x t).testBit j = true) : hasN (freeT t) x = true := by
  rw [catT_eq] at h
  by_cases hf : hasN (freeT t) x = true
  · exact hf
  · rw [if_neg hf] at h; simp at h
theorem catL_free (own : Nat) (x : Int) (h0 : 0 ≤ x) (h1 : x ≤ 63) : ∀ (l : List Tr) (j : Nat), (catL own x l).testBit j = true → (freeL l).testBit x.toNat = true
  | [], j, h => by rw [catL_nil] at h; simp at h
  | t :: r, j, h => by
    rw [catL_cons, Nat.testBit_or, Bool.or_eq_true] at h
    rw [freeL_cons, Nat.testBit_or, Bool.or_eq_true]
    rcases h with h | h
    · left; have := cat_free own x t j h; rwa [hasN_bit h0 h1] at this
    · exact .inr (catL_free own x h0 h1 r j h)
theorem fold_catch (own : Nat) (x : Int) (h0 : 0 ≤ x) (h1 : x ≤ 63) (j : Nat) (hown : own.testBit j = true) (t : Tr) : t.shp = true → ∀ ar acc, (foldV (gCatch x) t ar acc).testBit j = (acc.testBit j || (!ar.testBit x.toNat && ((freeT t).testBit x.toNat && ar.testBit j || (catT own x t).testBit j))) := by
  induction t using Tr.ind with
  | h t ih =>
    intro hs ar acc
    have hk := vok_kids hs
    have hl : ∀ (l : List Tr), (∀ q ∈ l, ∀ ar acc, (foldV (gCatch x) q ar acc).testBit j = (acc.testBit j || (!ar.testBit x.toNat && ((freeT q).testBit x.toNat && ar.testBit j || (catT own x q).testBit j)))) → ∀ ar acc, (foldVL (gCatch x) l ar acc).testBit j = (acc.testBit j || (!ar.testBit x.toNat && ((freeL l).testBit x.toNat && ar.testBit j || (catL own x l).testBit j))) := by
      intro l
      induction l with
      | nil => intro _ ar acc; rw [foldVL_nil, freeL_nil, catL_nil]; simp
      | cons y l ihl =>
        intro h ar acc
        rw [foldVL_cons, freeL_cons, catL_cons, ihl (fun q hq => h q (by simp [hq])), h y (by simp), Nat.testBit_or, Nat.testBit_or]
        cases acc.testBit j <;> cases (freeT y).testBit x.toNat <;> cases (freeL l).testBit x.toNat <;> cases ar.testBit x.toNat <;> cases ar.testBit j <;> cases (catT own x y).testBit j <;> cases (catL own x l).testBit j <;> rfl
    have hC := catL_free own x h0 h1 t.ks j
    rw [foldV_eq, hl _ (fun q hq => ih q hq (hk q hq)), catT_eq, hasN_bit h0 h1]
    unfold gCatch
    by_cases hv : t.k = 1
    · obtain ⟨e, i0, i1⟩ := shp_var hs hv
      have hf : (freeT t).testBit x.toNat = inI t.i x.toNat := by rw [freeT_eq, if_pos hv, tb_with]; simp
      rw [hf, e, freeL_nil, catL_nil, if_neg (show ¬ ((t.k = 7 ∨ t.k = 10) ∧ hasN own t.i = true) by omega), hasN_bit i0 i1]
      simp only [Nat.zero_testBit, Bool.false_and, Bool.or_false, Bool.and_false, Nat.or_zero, ite_self]
      by_cases hx : t.i = x
      · have hI : inI t.i x.toNat = true := by rw [hx]; exact inI_self h0 h1
        rw [hI, hx]
        cases hb : ar.testBit x.toNat with
        | true => rw [if_neg (by simp)]; simp
        | false => rw [if_pos ⟨hv, rfl, rfl⟩, Nat.testBit_or]; simp
      · have hI : inI t.i x.toNat = false := by unfold inI; rw [decide_eq_false_iff_not]; omega
        rw [hI, if_neg (fun h => hx h.2.2)]
        simp
    · rw [if_neg (fun h => hv h.1), freeT_eq, if_neg hv]
      by_cases h : t.k = 7 ∨ t.k = 10
      · obtain ⟨_, i0, i1⟩ := shp_quantified hs h
        rw [if_pos h, if_pos h, tb_with, tb_with, tb_without _ _ _ (freeL_U _)]
        have hq : ((if (t.k = 7 ∨ t.k = 10) ∧ hasN own t.i = true then withN 0 t.i else 0) : Nat).testBit j = inI t.i j := by
          by_cases hh : hasN own t.i = true
          · rw [if_pos ⟨h, hh⟩, tb_with]; simp
          · rw [if_neg (fun e => hh e.2)]
            cases hI : inI t.i j with
            | false => simp
            | true =>
              obtain ⟨e1, _⟩ := inI_eq hI
              rw [hasN_bit i0 i1, show t.i.toNat = j by omega, hown] at hh
              simp at hh
        cases hF : (freeL t.ks).testBit x.toNat with
        | false =>
          have hC0 : (catL own x t.ks).testBit j = false := by
            cases hc : (catL own x t.ks).testBit j with
            | false => rfl
            | true => rw [hC hc] at hF; cases hF
          rw [hC0]
          simp
        | true =>
          cases hI : inI t.i x.toNat with
          | true => simp
          | false =>
            simp only [Bool.not_false, Bool.and_true, if_true, Nat.testBit_or, hq]
            cases acc.testBit j <;> cases ar.testBit x.toNat <;> cases ar.testBit j <;> cases inI t.i j <;> cases (catL own x t.ks).testBit j <;> rfl
      · rw [if_neg h, if_neg h, if_neg (show ¬ ((t.k = 7 ∨ t.k = 10) ∧ hasN own t.i = true) from fun e => h e.1), Nat.zero_or]
        cases hF : (freeL t.ks).testBit x.toNat with
        | false =>
          have hC0 : (catL own x t.ks).testBit j = false := by
            cases hc : (catL own x t.ks).testBit j with
            | false => rfl
            | true => rw [hC hc] at hF; cases hF
          rw [hC0]
          simp
        | true => simp
theorem cat_own (own : Nat) (x : Int) (t : Tr) : ∀ j, (catT own x t).testBit j = true → own.testBit j = true := by
  induction t using Tr.ind with
  | h t ih =>
    intro j h
    have hl : ∀ (l : List Tr), (∀ q ∈ l, ∀ j, (catT own x q).testBit j = true → own.testBit j = true) → (catL own x l).testBit j = true → own.testBit j = true := by
      intro l
      induction l with
      | nil => intro _ h; rw [catL_nil] at h; simp at h
      | cons y l ihl =>
        intro hq h
        rw [catL_cons, Nat.testBit_or, Bool.or_eq_true] at h
        rcases h with h | h
        · exact hq y (by simp) j h
        · exact ihl (fun q hq' => hq q (by simp [hq'])) h
    rw [catT_eq] at h
    split at h
    · rw [Nat.testBit_or, Bool.or_eq_true] at h
      rcases h with h | h
      · split at h
        · rename_i _ hh
          rw [tb_with] at h
          simp at h
          obtain ⟨e, e2⟩ := inI_eq h
          have := hh.2
          rw [e] at this
          unfold hasN at this
          simp at this
          exact this.2
        · simp at h
      · exact hl t.ks ih h
    · simp at h
theorem code_catch (own : Nat) (x : Int) (h0 : 0 ≤ x) (h1 : x ≤ 63) (t : Tr) (hs : t.shp = true) : own &&& foldV (gCatch x) t 0 0 = catT own x t := by
  apply Nat.eq_of_testBit_eq
  intro j
  rw [Nat.testBit_and]
  cases ho : own.testBit j with
  | true => rw [fold_catch own x h0 h1 j ho t hs]; simp
  | false =>
    cases hc : (catT own x t).testBit j with
    | false => simp
    | true => rw [cat_own own x t j hc] at ho; cases ho
end Go.Proofs.YtgnfbhemkombaaaDoor
