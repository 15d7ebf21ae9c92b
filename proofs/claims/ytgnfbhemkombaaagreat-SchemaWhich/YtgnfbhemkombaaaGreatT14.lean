/- What is caught: plain mathematics. -/
import Derived.Test.YtgnfbhemkombaaaGreatT13
namespace Go.Proofs.YtgnfbhemkombaaaGreat
set_option linter.unusedVariables false
set_option linter.unusedSimpArgs false
/-- x itself is never caught -/
theorem cat_self (own : Nat) (x : Int) (h0 : 0 ≤ x) (h1 : x ≤ 63) (t : Tr) : (catT own x t).testBit x.toNat = false := by
  induction t using Tr.ind with
  | h t ih =>
    have hl : ∀ (l : List Tr), (∀ q ∈ l, (catT own x q).testBit x.toNat = false) → (catL own x l).testBit x.toNat = false := by
      intro l
      induction l with
      | nil => intro _; rw [catL_nil]; simp
      | cons y l ihl =>
        intro hq
        rw [catL_cons, Nat.testBit_or, hq y (by simp), ihl (fun q hq' => hq q (by simp [hq']))]
        rfl
    rw [catT_eq]
    split
    · rename_i hf
      rw [Nat.testBit_or, hl t.ks ih, Bool.or_false]
      split
      · rename_i hq
        rw [tb_with]
        simp only [Nat.zero_testBit, Bool.false_or]
        cases hI : inI t.i x.toNat with
        | false => rfl
        | true =>
          exfalso
          rw [hasN_bit h0 h1, freeT_eq, if_neg (by omega), if_pos hq.1, tb_without _ _ _ (freeL_U _), hI] at hf
          simp at hf
      · simp
    · simp
theorem cat_bound (own : Nat) (x : Int) (t : Tr) : ∀ j, (catT own x t).testBit j = true → (boundT t).testBit j = true := by
  induction t using Tr.ind with
  | h t ih =>
    intro j h
    have hl : ∀ (l : List Tr), (∀ q ∈ l, ∀ j, (catT own x q).testBit j = true → (boundT q).testBit j = true) → (catL own x l).testBit j = true → (boundL l).testBit j = true := by
      intro l
      induction l with
      | nil => intro _ h; rw [catL_nil] at h; simp at h
      | cons y l ihl =>
        intro hq h
        rw [catL_cons, Nat.testBit_or, Bool.or_eq_true] at h
        rw [boundL_cons, Nat.testBit_or, Bool.or_eq_true]
        rcases h with h | h
        · exact .inl (hq y (by simp) j h)
        · exact .inr (ihl (fun q hq' => hq q (by simp [hq'])) h)
    rw [catT_eq] at h
    rw [boundT_eq, Nat.testBit_or, Bool.or_eq_true]
    split at h
    · rw [Nat.testBit_or, Bool.or_eq_true] at h
      rcases h with h | h
      · left
        split at h
        · rename_i hq
          rw [if_pos hq.1]
          exact h
        · simp at h
      · exact .inr (hl t.ks ih h)
    · simp at h
theorem zero_of_bits {s : Nat} (h : ∀ j, s.testBit j = false) : s = 0 := Nat.eq_of_testBit_eq fun j => by rw [h j]; simp
theorem vars_var (x : Int) : varsT (.node 1 x []) = withN 0 x := by
  unfold varsT
  rw [occT_eq, boundT_eq, if_pos (show (Tr.node 1 x []).k = 1 from rfl), if_neg (show ¬ ((Tr.node 1 x []).k = 7 ∨ (Tr.node 1 x []).k = 10) by simp [Tr.k])]
  simp [Tr.i, Tr.ks, boundL_nil]
/-- a variable is free for itself -/
theorem cat_var (x : Int) (h0 : 0 ≤ x) (h1 : x ≤ 63) (a : Tr) : catT (varsT (.node 1 x [])) x a = 0 := by
  apply zero_of_bits
  intro j
  cases h : (catT (varsT (.node 1 x [])) x a).testBit j with
  | false => rfl
  | true =>
    exfalso
    have h2 := cat_own _ x a j h
    rw [vars_var, tb_with] at h2
    simp only [Nat.zero_testBit, Bool.false_or] at h2
    obtain ⟨e, _⟩ := inI_eq h2
    have h3 := cat_self (varsT (.node 1 x [])) x h0 h1 a
    rw [show x.toNat = j by omega, h] at h3
    cases h3
theorem cat_zero (x : Int) (a : Tr) : catT 0 x a = 0 := by
  apply zero_of_bits
  intro j
  cases h : (catT 0 x a).testBit j with
  | false => rfl
  | true => have := cat_own _ x a j h; simp at this
theorem right_var {x : Int} (h0 : 0 ≤ x) (h1 : x ≤ 63) : rightN (.node 1 x []) = 0 := by
  unfold rightN
  have hs : (Tr.node 1 x []).sz = 1 := by simp [Tr.sz, szL]
  have hd : (Tr.node 1 x []).dp = 1 := by simp [Tr.dp, dpL]
  have hp : (Tr.node 1 x []).shp = true := by
    rw [shp_eq]
    simp only [Tr.k, Tr.i, Tr.ks, List.length_nil, shpL, Bool.and_true]
    unfold kindOk
    simp
    omega
  rw [hs, hd, hp]
  rfl
theorem sub_and {s v : Nat} (h : ∀ j, s.testBit j = true → v.testBit j = true) : s &&& v = s := Nat.eq_of_testBit_eq fun j => by
  rw [Nat.testBit_and]
  cases hs : s.testBit j with
  | false => rfl
  | true => rw [h j hs]; rfl
open Go.RowKit in
/-- what is within a set, less that set, is nothing -/
theorem andNot_zero {s v : Nat} (hs : s < 2 ^ 64) (hv : v < 2 ^ 64) (h : ∀ j, s.testBit j = true → v.testBit j = true) : bits .andNot .u64 (s : Int) (v : Int) = 0 := by
  show IntKind.u64.wrap ((BitVec.ofInt 64 (s : Int) &&& ~~~ BitVec.ofInt 64 (v : Int)).toNat : Int) = _
  have key : (BitVec.ofInt 64 (s : Int) &&& ~~~ BitVec.ofInt 64 (v : Int)).toNat = 0 := by
    apply Nat.eq_of_testBit_eq
    intro i
    rw [BitVec.toNat_and, BitVec.toNat_not, ofInt_nat 64 s hs, ofInt_nat 64 v hv, Nat.testBit_and]
    rw [show 2 ^ 64 - 1 - v = 2 ^ 64 - (v + 1) from by omega, Nat.testBit_two_pow_sub_succ hv]
    cases hb : s.testBit i with
    | false => simp
    | true => simp [h i hb]
  rw [key]
  rfl
/-- free variables, and those that quantifiers name, are variables -/
theorem free_occ (t : Tr) : ∀ j, (freeT t).testBit j = true → (occT t).testBit j = true := by
  induction t using Tr.ind with
  | h t ih =>
    intro j h
    have hl : ∀ (l : List Tr), (∀ q ∈ l, ∀ j, (freeT q).testBit j = true → (occT q).testBit j = true) → (freeL l).testBit j = true → (occL l).testBit j = true := by
      intro l
      induction l with
      | nil => intro _ h; rw [freeL_nil] at h; simp at h
      | cons y l ihl =>
        intro hq h
        rw [freeL_cons, Nat.testBit_or, Bool.or_eq_true] at h
        rw [occL_cons, Nat.testBit_or, Bool.or_eq_true]
        rcases h with h | h
        · exact .inl (hq y (by simp) j h)
        · exact .inr (ihl (fun q hq' => hq q (by simp [hq'])) h)
    rw [freeT_eq] at h
    rw [occT_eq]
    split at h
    · rename_i hv; rw [if_pos hv]; exact h
    · rename_i hv
      rw [if_neg hv]
      split at h
      · rw [tb_without _ _ _ (freeL_U _), Bool.and_eq_true] at h
        exact hl t.ks ih h.1
      · exact hl t.ks ih h
theorem free_vars (t : Tr) (j : Nat) (h : (freeT t ||| boundT t).testBit j = true) : (varsT t).testBit j = true := by
  unfold varsT
  rw [Nat.testBit_or, Bool.or_eq_true] at h ⊢
  exact h.imp (free_occ t j) id
end Go.Proofs.YtgnfbhemkombaaaGreat
