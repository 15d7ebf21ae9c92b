/- The text of a unit, and what is known of a right one. -/
import Derived.Test.YtgnfbhemkombaaaDoorM7
import Derived.Test.YtgnfbhemkombaaaDoorY4
import Derived.Lib.ItoaLen
namespace Go.Proofs.YtgnfbhemkombaaaDoor
set_option linter.unusedVariables false
set_option linter.unusedSimpArgs false
def itB (n : Int) : List UInt8 := Lib.itoa n
/-- a justification's text -/
def whyT (y a b : Int) (q : ByteArray) : List UInt8 :=
  if y = 1 then [97, 120, 105, 111, 109, 32] ++ itB a else if y = 2 then [100, 101, 116, 97, 99, 104, 32] ++ itB a ++ [32] ++ itB b
  else if y = 3 then [103, 101, 110, 32] ++ itB a ++ [32, 120] ++ itB b else [99, 105, 116, 101, 32] ++ q.data.toList
/-- the line of the step behind i others -/
def lineT (i : Nat) (s : Stp) : List UInt8 := itB ((i : Int) + 1) ++ [32] ++ textT s.says ++ [32, 58, 32] ++ whyT s.why s.a s.b s.cite ++ [10]
def linesT (i : Nat) : List Stp → List UInt8
  | [] => []
  | s :: r => lineT i s ++ linesT (i + 1) r
def namesT : List ByteArray → List UInt8
  | [] => []
  | s :: r => ([32] ++ s.data.toList) ++ namesT r
def headT (u : Unt) : List UInt8 := [99, 105, 116, 101, 115] ++ namesT u.cites ++ ([10, 115, 116, 97, 116, 101, 115, 32] ++ textT u.states ++ [10])
def unitT (u : Unt) : List UInt8 := headT u ++ linesT 0 u.steps
theorem linesT_snoc (l : List Stp) (s : Stp) : ∀ i, linesT i (l ++ [s]) = linesT i l ++ lineT (i + l.length) s := by
  induction l with
  | nil => intro i; simp [linesT]
  | cons x l ih => intro i; simp only [List.cons_append, linesT, ih, List.length_cons, List.append_assoc]; rw [show i + 1 + l.length = i + (l.length + 1) by omega]
theorem namesT_snoc (l : List ByteArray) (s : ByteArray) : namesT (l ++ [s]) = namesT l ++ ([32] ++ s.data.toList) := by
  induction l with
  | nil => simp [namesT]
  | cons x l ih => simp only [List.cons_append, namesT, ih, List.append_assoc]
/-- what is known of a step of a right unit -/
structure StepOk (s : Stp) : Prop where
  right : rightN s.says = 0
  small : s.says.sz ≤ 300
  cite : s.cite.size ≤ 12
  a0 : 0 ≤ s.a
  a1 : s.a ≤ 999999999
  b0 : 0 ≤ s.b
  b1 : s.b ≤ 999999999
structure UnitOk (u : Unt) : Prop where
  few : u.cites.length ≤ 8
  names : ∀ s ∈ u.cites, s.size ≤ 12
  right : rightN u.states = 0
  small : u.states.sz ≤ 300
  steps : u.steps.length ≤ 60
  step : ∀ s ∈ u.steps, StepOk s
theorem writ_ok {t : Tr} (h : writN t = 0) : rightN t = 0 ∧ t.sz ≤ 300 := by
  by_cases hr : rightN t = 0
  · refine ⟨hr, ?_⟩
    unfold writN at h
    rw [if_pos hr] at h
    by_cases hk : termB t.k = true
    · rw [if_pos hk] at h; omega
    · rw [if_neg hk] at h
      by_cases hs : 300 < t.sz
      · rw [if_pos hs] at h; omega
      · omega
  · rw [writ_wrong hr] at h; exact absurd h hr
theorem name_size {s : ByteArray} (h : nameN (bytesN s) = true) : s.size ≤ 12 := by
  unfold nameN at h
  simp only [Bool.and_eq_true, decide_eq_true_eq] at h
  have := h.1.1.2
  rw [bytesN_len] at this
  exact this
theorem cites_ok : ∀ (l pre : List ByteArray), pre.length ≤ 8 → citesF pre l = 0 → pre.length + l.length ≤ 8 ∧ ∀ s ∈ l, s.size ≤ 12 := by
  intro l
  induction l with
  | nil => intro pre hp _; exact ⟨by simpa using hp, fun s hs => by simp at hs⟩
  | cons s r ih =>
    intro pre hp h
    rw [citesF] at h
    by_cases h1 : nameN (bytesN s) = false
    · rw [if_pos h1] at h; omega
    · rw [if_neg h1] at h
      by_cases h2 : Lib.containsS pre s = true
      · rw [if_pos h2] at h; omega
      · rw [if_neg h2] at h
        by_cases h3 : 8 ≤ pre.length
        · rw [if_pos h3] at h; omega
        · rw [if_neg h3] at h
          obtain ⟨g1, g2⟩ := ih (pre ++ [s]) (by simp; omega) h
          refine ⟨by simp at g1 ⊢; omega, fun x hx => ?_⟩
          rcases List.mem_cons.1 hx with rfl | hx
          · exact name_size (by simpa using h1)
          · exact g2 x hx
theorem reason_ok {y a b : Int} {q : ByteArray} (h : reasonN y a b q = 0) : q.size ≤ 12 ∧ 0 ≤ a ∧ a ≤ 999999999 ∧ 0 ≤ b ∧ b ≤ 999999999 := by
  unfold reasonN at h
  by_cases hj : justB y a b q = false
  · rw [if_pos hj] at h; omega
  · rw [if_neg hj] at h
    have hj' : justB y a b q = true := by simpa using hj
    unfold justB numB varB at hj'
    by_cases h1 : y = 1
    · rw [if_pos h1] at hj'
      simp only [Bool.and_eq_true, decide_eq_true_eq] at hj'
      omega
    · rw [if_neg h1] at hj'
      by_cases h2 : y = 2
      · rw [if_pos h2] at hj'
        simp only [Bool.and_eq_true, decide_eq_true_eq] at hj'
        omega
      · rw [if_neg h2] at hj'
        by_cases h3 : y = 3
        · rw [if_pos h3] at hj'
          simp only [Bool.and_eq_true, decide_eq_true_eq] at hj'
          omega
        · rw [if_neg h3] at hj'
          by_cases h4 : y = 4
          · rw [if_pos h4] at hj'
            simp only [Bool.and_eq_true, decide_eq_true_eq] at hj'
            have hn : nameN (bytesN q) = true := by
              by_cases hN : nameN (bytesN q) = false
              · rw [if_pos ⟨h4, hN⟩] at h; omega
              · simpa using hN
            have := name_size hn
            omega
          · rw [if_neg h4] at hj'; cases hj'
theorem ustep_ok {i : Nat} {s : Stp} (h : ustepN i s = 0) : i < 60 ∧ StepOk s := by
  unfold ustepN at h
  by_cases h1 : 60 ≤ i
  · rw [if_pos h1] at h; omega
  · rw [if_neg h1] at h
    by_cases h2 : reasonN s.why s.a s.b s.cite = 0
    · rw [if_neg (fun x => x h2)] at h
      obtain ⟨g1, g2, g3, g4, g5⟩ := reason_ok h2
      obtain ⟨w1, w2⟩ := writ_ok h
      exact ⟨by omega, w1, w2, g1, g2, g3, g4, g5⟩
    · rw [if_pos h2] at h; exact absurd h h2
theorem usteps_ok : ∀ (l : List Stp) (i : Nat), i ≤ 60 → ustepsF i l = 0 → i + l.length ≤ 60 ∧ ∀ s ∈ l, StepOk s := by
  intro l
  induction l with
  | nil => intro i hi _; exact ⟨by simpa using hi, fun s hs => by simp at hs⟩
  | cons s r ih =>
    intro i hi h
    rw [ustepsF] at h
    by_cases h1 : ustepN i s = 0
    · rw [if_neg (fun x => x h1)] at h
      obtain ⟨g1, g2⟩ := ustep_ok h1
      obtain ⟨g3, g4⟩ := ih (i + 1) (by omega) h
      refine ⟨by simp; omega, fun x hx => ?_⟩
      rcases List.mem_cons.1 hx with rfl | hx
      · exact g2
      · exact g4 x hx
    · rw [if_pos h1] at h; exact absurd h h1
theorem unit_ok {u : Unt} (h : rightU u = 0) : UnitOk u := by
  unfold rightU at h
  by_cases h1 : citesF [] u.cites = 0
  · rw [if_neg (fun x => x h1)] at h
    by_cases h2 : writN u.states = 0
    · rw [if_neg (fun x => x h2)] at h
      by_cases h3 : u.steps.length = 0
      · rw [if_pos h3] at h; omega
      · rw [if_neg h3] at h
        obtain ⟨a1, a2⟩ := cites_ok u.cites [] (by simp) h1
        obtain ⟨b1, b2⟩ := writ_ok h2
        obtain ⟨c1, c2⟩ := usteps_ok u.steps 0 (by omega) h
        exact ⟨by simpa using a1, a2, b1, b2, by omega, c2⟩
    · rw [if_pos h2] at h; exact absurd h h2
  · rw [if_pos h1] at h; exact absurd h h1
theorem itB_len {n : Int} (h0 : 0 ≤ n) (h1 : n ≤ 999999999) : (itB n).length ≤ 21 := Lib.itoa_length_le n (by omega) (by omega)
theorem why_len {s : Stp} (h : StepOk s) : (whyT s.why s.a s.b s.cite).length ≤ 60 := by
  have h1 := itB_len h.a0 h.a1
  have h2 := itB_len h.b0 h.b1
  have h3 : s.cite.data.toList.length ≤ 12 := by rw [Array.length_toList]; exact h.cite
  unfold whyT
  split
  · simp only [List.length_append, List.length_cons, List.length_nil]; omega
  · split
    · simp only [List.length_append, List.length_cons, List.length_nil]; omega
    · split
      · simp only [List.length_append, List.length_cons, List.length_nil]; omega
      · simp only [List.length_append, List.length_cons, List.length_nil]; omega
theorem text_short {t : Tr} (h : rightN t = 0) (hs : t.sz ≤ 300) : (textT t).length ≤ 1500 := by
  have := text_len t (right_shpY h).1
  omega
theorem line_len {i : Nat} {s : Stp} (h : StepOk s) (hi : i < 100000) : (lineT i s).length ≤ 1600 := by
  have h1 := why_len h
  have h2 := text_short h.right h.small
  have h3 : (itB ((i : Int) + 1)).length ≤ 21 := itB_len (by omega) (by omega)
  unfold lineT
  simp only [List.length_append, List.length_cons, List.length_nil]
  omega
theorem lines_len : ∀ (l : List Stp) (i : Nat), i + l.length ≤ 100 → (∀ s ∈ l, StepOk s) → (linesT i l).length ≤ 1600 * l.length := by
  intro l
  induction l with
  | nil => intro i _ _; simp [linesT]
  | cons s r ih =>
    intro i hi h
    have h1 := line_len (i := i) (h s (by simp)) (by simp at hi; omega)
    have h2 := ih (i + 1) (by simp at hi; omega) (fun x hx => h x (by simp [hx]))
    simp only [linesT, List.length_append, List.length_cons]
    omega
theorem names_len : ∀ (l : List ByteArray), (∀ s ∈ l, s.size ≤ 12) → (namesT l).length ≤ 13 * l.length := by
  intro l
  induction l with
  | nil => intro _; simp [namesT]
  | cons s r ih =>
    intro h
    have h1 := ih (fun x hx => h x (by simp [hx]))
    have h3 : s.data.toList.length ≤ 12 := by rw [Array.length_toList]; exact h s (by simp)
    simp only [namesT, List.length_append, List.length_cons, List.length_nil]
    omega
theorem head_len {u : Unt} (h : UnitOk u) : (headT u).length ≤ 2000 := by
  have h1 := names_len u.cites h.names
  have h2 := text_short h.right h.small
  have h3 := h.few
  unfold headT
  simp only [List.length_append, List.length_cons, List.length_nil]
  omega
end Go.Proofs.YtgnfbhemkombaaaDoor
