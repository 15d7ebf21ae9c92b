/- A formula closed: plain mathematics. -/
import Derived.Test.YtfleomamhkeiiaaT14
import Derived.Test.YtfleomamhkeiiaaMath2
namespace Go.Proofs.Ytfleomamhkeiiaa
set_option linter.unusedVariables false
set_option linter.unusedSimpArgs false
def closeL (l : List Nat) (t : Tr) : Tr := l.foldr (fun (x : Nat) (u : Tr) => Tr.node 7 (x : Int) [u]) t
def closeT (t : Tr) : Tr := closeL (listN (freeT t)) t
theorem closeL_nil (t : Tr) : closeL [] t = t := rfl
theorem closeL_cons (x : Nat) (l : List Nat) (t : Tr) : closeL (x :: l) t = .node 7 x [closeL l t] := rfl
/-- as the document makes it: from 63 down -/
def closeDn (s : Nat) (t : Tr) : Nat → Tr
  | 0 => t
  | m + 1 => if s.testBit (63 - m) then .node 7 (63 - m : Nat) [closeDn s t m] else closeDn s t m
theorem closeDn_eq (s : Nat) (t : Tr) : ∀ m, m ≤ 64 → closeDn s t m = closeL ((List.range' (64 - m) m).filter s.testBit) t := by
  intro m
  induction m with
  | zero => intro _; rfl
  | succ m ih =>
    intro h
    have e : List.range' (64 - (m + 1)) (m + 1) = (63 - m) :: List.range' (64 - m) m := by
      rw [List.range'_succ, show 64 - (m + 1) = 63 - m by omega, show 63 - m + 1 = 64 - m by omega]
    rw [e, List.filter_cons]
    simp only [closeDn]
    by_cases hb : s.testBit (63 - m) = true
    · rw [if_pos hb, if_pos hb, closeL_cons, ih (by omega)]
    · rw [if_neg hb, if_neg hb, ih (by omega)]
theorem closeDn_all (t : Tr) : closeDn (freeT t) t 64 = closeT t := by
  rw [closeDn_eq _ _ 64 (Nat.le_refl _)]
  unfold closeT listN listTo
  rw [List.range_eq_range']
theorem closeL_sz (l : List Nat) (t : Tr) : (closeL l t).sz = t.sz + l.length := by
  induction l with
  | nil => rfl
  | cons x l ih => rw [closeL_cons]; simp only [Tr.sz, szL, ih, List.length_cons]; omega
theorem closeL_dp (l : List Nat) (t : Tr) : (closeL l t).dp = t.dp + l.length := by
  induction l with
  | nil => rfl
  | cons x l ih => rw [closeL_cons]; simp only [Tr.dp, dpL, ih, List.length_cons]; omega
theorem closeL_shp (l : List Nat) (t : Tr) (hl : ∀ x ∈ l, x < 64) (h : t.shp = true) (hk : termB t.k = false) : (closeL l t).shp = true ∧ termB (closeL l t).k = false := by
  induction l with
  | nil => exact ⟨h, hk⟩
  | cons x l ih =>
    obtain ⟨h1, h2⟩ := ih (fun y hy => hl y (by simp [hy]))
    have hx := hl x (by simp)
    rw [closeL_cons]
    refine ⟨?_, rfl⟩
    rw [shp_eq]
    simp only [Tr.k, Tr.i, Tr.ks]
    rw [show kidsTerm 7 = false from rfl, shpL_cons, h1, h2]
    simp [shpL, kindOk]
    omega
theorem mem_listN {s x : Nat} (h : x ∈ listN s) : x < 64 ∧ s.testBit x = true := (mem_listTo s 64 x).1 h
/-- is what is closed right? -/
theorem close_right {t : Tr} (h : rightN t = 0) (hk : termB t.k = false) : rightN (closeT t) = if 1000 < t.sz + countN (freeT t) then 20 else if 100 < t.dp + countN (freeT t) then 21 else 0 := by
  have hs : t.shp = true := by
    unfold rightN at h
    split at h
    · cases h
    · split at h
      · cases h
      · split at h
        · assumption
        · cases h
  have := (closeL_shp (listN (freeT t)) t (fun x hx => (mem_listN hx).1) hs hk).1
  unfold rightN closeT
  rw [closeL_sz, closeL_dp, this]
  rfl
theorem tb_pow (x j : Nat) (hx : x < 64) : (withN 0 (x : Int)).testBit j = decide (x = j) := by
  rw [tb_with]
  simp only [Nat.zero_testBit, Bool.false_or]
  unfold inI
  rw [decide_eq_decide]
  omega
theorem closeL_free (l : List Nat) (t : Tr) (hl : ∀ x ∈ l, x < 64) (j : Nat) : (freeT (closeL l t)).testBit j = ((freeT t).testBit j && !decide (j ∈ l)) := by
  induction l with
  | nil => rw [closeL_nil]; simp
  | cons x l ih =>
    have hx := hl x (by simp)
    rw [closeL_cons, freeT_eq, if_neg (by simp [Tr.k]), if_pos (by simp [Tr.k])]
    simp only [Tr.ks, Tr.i, freeL_cons, freeL_nil, Nat.or_zero]
    rw [tb_without _ _ _ (freeT_U _), ih (fun y hy => hl y (by simp [hy]))]
    have e : inI (x : Int) j = decide (j = x) := by unfold inI; rw [decide_eq_decide]; omega
    rw [e]
    simp only [List.mem_cons]
    by_cases h1 : j = x <;> by_cases h2 : j ∈ l <;> simp [h1, h2]
theorem closeL_bound (l : List Nat) (t : Tr) (hl : ∀ x ∈ l, x < 64) (j : Nat) : (boundT (closeL l t)).testBit j = ((boundT t).testBit j || decide (j ∈ l)) := by
  induction l with
  | nil => rw [closeL_nil]; simp
  | cons x l ih =>
    have hx := hl x (by simp)
    rw [closeL_cons, boundT_eq, if_pos (by simp [Tr.k])]
    simp only [Tr.ks, Tr.i, boundL_cons, boundL_nil, Nat.or_zero]
    rw [Nat.testBit_or, ih (fun y hy => hl y (by simp [hy])), tb_pow x j hx]
    simp only [List.mem_cons]
    by_cases h1 : j = x
    · subst h1; simp
    · have : ¬ x = j := fun e => h1 e.symm
      by_cases h2 : j ∈ l <;> simp [h1, h2, this]
theorem close_free (t : Tr) : freeT (closeT t) = 0 := by
  apply zero_of_bits
  intro j
  unfold closeT
  rw [closeL_free _ _ (fun x hx => (mem_listN hx).1)]
  cases h : (freeT t).testBit j with
  | false => rfl
  | true =>
    have : j < 64 := by
      rcases Nat.lt_or_ge j 64 with h' | h'
      · exact h'
      · rw [tb_big (freeT_U t) h'] at h; cases h
    have : j ∈ listN (freeT t) := (mem_listTo _ 64 j).2 ⟨this, h⟩
    simp [this]
theorem close_bound (t : Tr) : boundT (closeT t) = boundT t ||| freeT t := by
  apply Nat.eq_of_testBit_eq
  intro j
  unfold closeT
  rw [closeL_bound _ _ (fun x hx => (mem_listN hx).1), Nat.testBit_or]
  congr 1
  cases h : (freeT t).testBit j with
  | false =>
    rw [decide_eq_false_iff_not]
    intro hm
    rw [(mem_listN hm).2] at h
    cases h
  | true =>
    rw [decide_eq_true_eq]
    have : j < 64 := by
      rcases Nat.lt_or_ge j 64 with h' | h'
      · exact h'
      · rw [tb_big (freeT_U t) h'] at h; cases h
    exact (mem_listTo _ 64 j).2 ⟨this, h⟩
theorem listN_zero : listN 0 = [] := by unfold listN listTo; simp
theorem close_again (t : Tr) : closeT (closeT t) = closeT t := by
  show closeL (listN (freeT (closeT t))) (closeT t) = closeT t
  rw [close_free, listN_zero]
  rfl
theorem close_form (t : Tr) (h : t.shp = true) (hk : termB t.k = false) : termB (closeT t).k = false := (closeL_shp _ _ (fun x hx => (mem_listN hx).1) h hk).2
end Go.Proofs.Ytfleomamhkeiiaa
