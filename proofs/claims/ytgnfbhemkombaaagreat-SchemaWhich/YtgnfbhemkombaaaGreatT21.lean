/- How many free occurrences a variable has, and how large what comes of putting a term in for it is: plain mathematics. -/
import Derived.Test.YtgnfbhemkombaaaGreatT18
namespace Go.Proofs.YtgnfbhemkombaaaGreat
set_option linter.unusedVariables false
set_option linter.unusedSimpArgs false
mutual
def occN (x : Int) : Tr → Nat
  | .node k i ks => if k = 1 ∧ i = x then 1 else if (k = 7 ∨ k = 10) ∧ i = x then 0 else occNL x ks
def occNL (x : Int) : List Tr → Nat
  | [] => 0
  | t :: r => occN x t + occNL x r
end
theorem occN_eq (x : Int) (t : Tr) : occN x t = if t.k = 1 ∧ t.i = x then 1 else if (t.k = 7 ∨ t.k = 10) ∧ t.i = x then 0 else occNL x t.ks := by cases t; rw [occN]; rfl
theorem occNL_nil (x : Int) : occNL x [] = 0 := by rw [occNL]
theorem occNL_cons (x : Int) (t : Tr) (r : List Tr) : occNL x (t :: r) = occN x t + occNL x r := by rw [occNL]
theorem occNL_append (x : Int) : ∀ (a b : List Tr), occNL x (a ++ b) = occNL x a + occNL x b
  | [], b => by rw [occNL_nil, List.nil_append, Nat.zero_add]
  | t :: r, b => by rw [List.cons_append, occNL_cons, occNL_cons, occNL_append x r b]; omega
theorem occNL_take (x : Int) (ks : List Tr) (m : Nat) (h : m < ks.length) : occNL x (ks.take (m + 1)) = occNL x (ks.take m) + occN x ks[m] := by
  rw [List.take_succ_eq_append_getElem h, occNL_append, occNL_cons, occNL_nil, Nat.add_zero]
theorem occN_le (x : Int) (t : Tr) : occN x t ≤ t.sz := by
  induction t using Tr.ind with
  | h t ih =>
    have hl : ∀ (l : List Tr), (∀ q ∈ l, occN x q ≤ q.sz) → occNL x l ≤ szL l := by
      intro l
      induction l with
      | nil => intro _; rw [occNL_nil]; exact Nat.zero_le _
      | cons q r ihr => intro h; rw [occNL_cons]; have := h q (by simp); have := ihr fun y hy => h y (by simp [hy]); simp only [szL]; omega
    have := hl t.ks ih
    have := sz_eq t
    rw [occN_eq]
    split
    · omega
    · split <;> omega
theorem occNL_le (x : Int) (ks : List Tr) : occNL x ks ≤ szL ks := by
  induction ks with
  | nil => rw [occNL_nil]; exact Nat.zero_le _
  | cons q r ih => rw [occNL_cons]; have := occN_le x q; simp only [szL]; omega
theorem putX_sz {x : Int} (h0 : 0 ≤ x) (h1 : x ≤ 63) (u : Tr) (a : Tr) : a.shp = true → (putX x u a).sz = a.sz + occN x a * (u.sz - 1) := by
  have hu := sz_pos u
  induction a using Tr.ind with
  | h a ih =>
    intro hs
    by_cases hv : a.k = 1 ∧ a.i = x
    · rw [putX_var hv.1 hv.2, occN_eq, if_pos hv, Nat.one_mul, sz_eq a, (shp_varT hs hv.1).1]
      simp only [szL]
      omega
    · by_cases hq : (a.k = 7 ∨ a.k = 10) ∧ a.i = x
      · rw [putX_quant h0 h1 hq.1 hq.2, occN_eq, if_neg hv, if_pos hq]; omega
      · have hl : ∀ (l : List Tr), (∀ q ∈ l, (putX x u q).sz = q.sz + occN x q * (u.sz - 1)) → szL (l.map (putX x u)) = szL l + occNL x l * (u.sz - 1) := by
          intro l
          induction l with
          | nil => intro _; rw [occNL_nil]; simp [szL]
          | cons q r ihr =>
            intro h
            rw [List.map_cons, occNL_cons, Nat.add_mul]
            simp only [szL]
            rw [h q (by simp), ihr fun y hy => h y (by simp [hy])]
            omega
        rw [putX_else hv hq, occN_eq, if_neg hv, if_neg hq, sz_eq, node_ks, sz_eq a, hl a.ks fun q hq' => ih q hq' (shp_kid hs hq')]
        omega
end Go.Proofs.YtgnfbhemkombaaaGreat
