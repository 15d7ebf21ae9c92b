/- Terms put in for variables: as the document makes it, and what is answered: plain mathematics. -/
import Derived.Test.YtgnfbhemkombaaaGreatT16
namespace Go.Proofs.YtgnfbhemkombaaaGreat
set_option linter.unusedVariables false
set_option linter.unusedSimpArgs false
theorem hasN_withN (s : Nat) (i x : Int) : hasN (withN s i) x = (hasN s x || (decide (i = x) && decide (0 ≤ x ∧ x ≤ 63))) := by
  by_cases h : 0 ≤ x ∧ x ≤ 63
  · rw [hasN_bit h.1 h.2, hasN_bit h.1 h.2, tb_with, decide_eq_true h, Bool.and_true]
    congr 1
    unfold inI
    rw [decide_eq_decide]
    omega
  · have e : ∀ s, hasN s x = false := by
      intro s
      unfold hasN
      by_cases h0 : 0 ≤ x
      · rw [decide_eq_false (show ¬ x ≤ 63 by omega)]; simp
      · rw [decide_eq_false h0]; simp
    rw [e, e, decide_eq_false h]
    simp
theorem hasN_zero (x : Int) : hasN 0 x = false := by unfold hasN; simp
/-- the same variables are asked for -/
theorem lookE_congr {l : List (Int × Tr)} {bd bd' : Nat} (h : ∀ p ∈ l, hasN bd p.1 = hasN bd' p.1) (k i : Int) : lookE l bd k i = lookE l bd' k i := by
  unfold lookE
  cases hp : lookP l i with
  | none => split <;> split <;> rfl
  | some u => rw [h _ (lookP_mem hp)]
theorem bdB_congr {l : List (Int × Tr)} {bd bd' : Nat} (h : ∀ p ∈ l, hasN bd p.1 = hasN bd' p.1) (k i : Int) : ∀ p ∈ l, hasN (bdB k i bd) p.1 = hasN (bdB k i bd') p.1 := by
  intro p hp
  unfold bdB
  split
  · rw [hasN_withN, hasN_withN, h p hp]
  · exact h p hp
theorem putE_congr {l : List (Int × Tr)} (t : Tr) : ∀ {bd bd' : Nat}, (∀ p ∈ l, hasN bd p.1 = hasN bd' p.1) → putE l t bd = putE l t bd' := by
  induction t using Tr.ind with
  | h t ih =>
    intro bd bd' h
    cases hl : lookE l bd t.k t.i with
    | some u => rw [putE_some hl, putE_some (by rw [← lookE_congr h]; exact hl)]
    | none =>
      rw [putE_none hl, putE_none (by rw [← lookE_congr h]; exact hl)]
      congr 1
      exact List.map_congr_left fun q hq => ih q hq (bdB_congr h t.k t.i)
theorem map_same {f : Tr → Tr} {ks : List Tr} (h : ∀ q ∈ ks, f q = q) : ks.map f = ks := by
  induction ks with
  | nil => rfl
  | cons x r ih => simp [h x (by simp), ih (fun q hq => h q (by simp [hq]))]
/-- where all of them are named around, nothing is put in -/
theorem putE_bound {l : List (Int × Tr)} (t : Tr) : ∀ {bd : Nat}, (∀ p ∈ l, hasN bd p.1 = true) → putE l t bd = t := by
  induction t using Tr.ind with
  | h t ih =>
    intro bd h
    have hl : lookE l bd t.k t.i = none := by
      unfold lookE
      split
      · rename_i hh
        cases hp : lookP l t.i with
        | none => rfl
        | some u => have := h _ (lookP_mem hp); rw [hh.2] at this; cases this
      · rfl
    rw [putE_none hl, map_same]
    · exact (Tr.eta t).symm
    · intro q hq
      refine ih q hq fun p hp => ?_
      unfold bdB
      split
      · rw [hasN_withN, h p hp]; rfl
      · exact h p hp
theorem putE_nil (t : Tr) (bd : Nat) : putE [] t bd = t := by
  have := putE_congr (l := []) t (bd := bd) (bd' := 0) (by simp)
  rw [this]
  exact putE_bound t (by simp)
/-- the pairs but those of a variable -/
def dropP (l : List (Int × Tr)) (i : Int) : List (Int × Tr) := l.filter fun p => decide (p.1 ≠ i)
theorem lookP_drop (l : List (Int × Tr)) (i j : Int) : lookP (dropP l i) j = if i = j then none else lookP l j := by
  unfold lookP dropP
  rw [List.find?_filter]
  by_cases h : i = j
  · subst h
    rw [if_pos rfl]
    have : (l.find? fun a => decide (decide (a.1 ≠ i) = true ∧ decide (a.1 = i) = true)) = none := by
      rw [List.find?_eq_none]
      intro p _
      simp
    rw [this]
    rfl
  · rw [if_neg h]
    congr 1
    have e : (fun a : Int × Tr => decide (decide (a.1 ≠ i) = true ∧ decide (a.1 = j) = true)) = fun p => decide (p.1 = j) := by
      funext p
      rw [decide_eq_decide]
      simp only [decide_eq_true_eq]
      constructor
      · exact fun h => h.2
      · exact fun h' => ⟨fun e => h (by rw [← e, h']), h'⟩
    rw [e]
theorem putE_drop {l : List (Int × Tr)} {i : Int} (h0 : 0 ≤ i) (h1 : i ≤ 63) (t : Tr) : ∀ bd, putE (dropP l i) t bd = putE l t (withN bd i) := by
  induction t using Tr.ind with
  | h t ih =>
    intro bd
    have e : lookE (dropP l i) bd t.k t.i = lookE l (withN bd i) t.k t.i := by
      unfold lookE
      rw [lookP_drop, hasN_withN]
      by_cases hk : t.k = 1
      · by_cases hi : i = t.i
        · subst hi
          rw [if_pos rfl, decide_eq_true (show 0 ≤ t.i ∧ t.i ≤ 63 from ⟨h0, h1⟩)]
          simp
        · rw [if_neg hi, decide_eq_false hi]
          simp
      · rw [if_neg (fun h => hk h.1), if_neg (fun h => hk h.1)]
    have eb : ∀ q ∈ t.ks, putE (dropP l i) q (bdB t.k t.i bd) = putE l q (bdB t.k t.i (withN bd i)) := by
      intro q hq
      rw [ih q hq]
      refine putE_congr q fun p hp => ?_
      unfold bdB
      split
      · rw [hasN_withN, hasN_withN, hasN_withN, hasN_withN, Bool.or_assoc, Bool.or_assoc, Bool.or_comm (decide (i = p.1) && _)]
      · rfl
    cases hl : lookE l (withN bd i) t.k t.i with
    | some u => rw [putE_some (e.trans hl), putE_some hl]
    | none =>
      rw [putE_none (e.trans hl), putE_none hl]
      congr 1
      exact List.map_congr_left eb
/-! ### one term, as the document makes it -/
abbrev putX (x : Int) (u t : Tr) : Tr := putE [(x, u)] t 0
theorem lookP_one (x : Int) (u : Tr) (i : Int) : lookP [(x, u)] i = if x = i then some u else none := by
  unfold lookP
  by_cases h : x = i
  · subst h; simp
  · simp [h]
theorem lookE_one (x : Int) (u : Tr) (k i : Int) : lookE [(x, u)] 0 k i = if k = 1 ∧ i = x then some u else none := by
  unfold lookE
  rw [hasN_zero, lookP_one]
  by_cases hk : k = 1
  · by_cases hi : i = x
    · rw [if_pos ⟨hk, rfl⟩, if_pos hi.symm, if_pos ⟨hk, hi⟩]
    · rw [if_pos ⟨hk, rfl⟩, if_neg (fun e => hi e.symm), if_neg (fun h => hi h.2)]
  · rw [if_neg (fun h => hk h.1), if_neg (fun h => hk h.1)]
theorem putX_var {x : Int} {u t : Tr} (hk : t.k = 1) (hi : t.i = x) : putX x u t = u := putE_some (by rw [lookE_one, if_pos ⟨hk, hi⟩])
theorem putX_quant {x : Int} {u t : Tr} (h0 : 0 ≤ x) (h1 : x ≤ 63) (hk : t.k = 7 ∨ t.k = 10) (hi : t.i = x) : putX x u t = t := by
  have hl : lookE [(x, u)] 0 t.k t.i = none := by rw [lookE_one, if_neg (by omega)]
  rw [putX, putE_none hl, map_same]
  · exact (Tr.eta t).symm
  · intro q hq
    refine putE_bound q fun p hp => ?_
    simp only [List.mem_singleton] at hp
    subst hp
    unfold bdB
    rw [if_pos hk, hasN_withN, decide_eq_true hi, decide_eq_true (show 0 ≤ x ∧ x ≤ 63 from ⟨h0, h1⟩)]
    simp
theorem putX_else {x : Int} {u t : Tr} (h1 : ¬ (t.k = 1 ∧ t.i = x)) (h2 : ¬ ((t.k = 7 ∨ t.k = 10) ∧ t.i = x)) : putX x u t = .node t.k t.i (t.ks.map (putX x u)) := by
  have hl : lookE [(x, u)] 0 t.k t.i = none := by rw [lookE_one, if_neg h1]
  rw [putX, putE_none hl]
  congr 1
  refine List.map_congr_left fun q hq => putE_congr q fun p hp => ?_
  simp only [List.mem_singleton] at hp
  subst hp
  unfold bdB
  split
  · rename_i hk
    rw [hasN_withN, decide_eq_false (fun e => h2 ⟨hk, e⟩)]
    simp
  · rfl
/-! ### what is answered -/
/-- of all: the least error of pairs whose numbers are wrong, or met twice -/
def argE : List (Int × Tr) → Nat → Bool
  | [], _ => true
  | p :: r, vs => decide (0 ≤ p.1) && (decide (p.1 ≤ 63) && (!hasN vs p.1 && argE r (withN vs p.1)))
def rightL : List (Int × Tr) → Nat
  | [] => 0
  | p :: r => if rightN p.2 ≠ 0 then rightN p.2 else rightL r
def termL (l : List (Int × Tr)) : Bool := l.all fun p => termB p.2.k
def faultE (a : Tr) (l : List (Int × Tr)) : Nat := if argE l 0 = false then 1 else if rightN a ≠ 0 then rightN a else if rightL l ≠ 0 then rightL l else if termL l = false then 40 else 0
def capE (a : Tr) (l : List (Int × Tr)) : Bool := l.all fun p => ffB' p.1 p.2 a
where ffB' (x : Int) (t a : Tr) : Bool := decide (catT (varsT t) x a = 0)
def eachN (a : Tr) (l : List (Int × Tr)) : Nat := if faultE a l ≠ 0 then faultE a l else if capE a l = false then 50 else rightN (putE l a 0)
theorem rightL_all {l : List (Int × Tr)} (h : rightL l = 0) : ∀ p ∈ l, rightN p.2 = 0 := by
  induction l with
  | nil => simp
  | cons p r ih =>
    unfold rightL at h
    intro q hq
    by_cases hp : rightN p.2 = 0
    · rw [if_neg (by simp [hp])] at h
      rcases List.mem_cons.1 hq with rfl | hq
      · exact hp
      · exact ih h q hq
    · rw [if_pos hp] at h; exact absurd h hp
theorem right_shp' {t : Tr} (h : rightN t = 0) : t.shp = true ∧ t.sz ≤ 1000 ∧ t.dp ≤ 100 := by
  unfold rightN at h
  split at h
  · cases h
  · split at h
    · cases h
    · split at h
      · exact ⟨by assumption, by omega, by omega⟩
      · cases h
theorem faultE_zero {a : Tr} {l : List (Int × Tr)} (h : faultE a l = 0) : argE l 0 = true ∧ rightN a = 0 ∧ (∀ p ∈ l, rightN p.2 = 0) ∧ (∀ p ∈ l, termB p.2.k = true) := by
  unfold faultE at h
  split at h
  · cases h
  · rename_i h1
    split at h
    · rename_i h2; exact absurd h h2
    · rename_i h2
      split at h
      · rename_i h3; exact absurd h h3
      · rename_i h3
        split at h
        · cases h
        · rename_i h4
          refine ⟨by simpa using h1, by simpa using h2, rightL_all (by simpa using h3), fun p hp => ?_⟩
          have : termL l = true := by simpa using h4
          unfold termL at this
          rw [List.all_eq_true] at this
          exact this p hp
theorem argE_mem {l : List (Int × Tr)} : ∀ {vs : Nat}, argE l vs = true → ∀ p ∈ l, 0 ≤ p.1 ∧ p.1 ≤ 63 := by
  induction l with
  | nil => simp
  | cons q r ih =>
    intro vs h p hp
    simp only [argE, Bool.and_eq_true, decide_eq_true_eq] at h
    rcases List.mem_cons.1 hp with rfl | hp
    · exact ⟨h.1, h.2.1⟩
    · exact ih h.2.2.2 p hp
end Go.Proofs.YtgnfbhemkombaaaGreat
