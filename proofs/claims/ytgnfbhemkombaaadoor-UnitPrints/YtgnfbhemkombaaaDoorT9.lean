/- Texts cut into tokens: plain mathematics. -/
namespace Go.Proofs.YtgnfbhemkombaaaDoor
set_option linter.unusedVariables false
structure Tok where
  k : Nat
  n : Nat
  p : Nat
inductive LexR where
  | ok (l : List Tok)
  | bad (code place : Nat)
def LexR.pre (a : List Tok) : LexR → LexR
  | .ok l => .ok (a ++ l)
  | .bad c i => .bad c i
theorem LexR.pre_nil (r : LexR) : r.pre [] = r := by cases r <;> rfl
theorem LexR.pre_pre (a b : List Tok) (r : LexR) : (r.pre b).pre a = r.pre (a ++ b) := by cases r <;> simp [LexR.pre]
def isDigN (c : Nat) : Bool := decide (48 ≤ c) && decide (c ≤ 57)
/-- how many digits stand first -/
def digsN : List Nat → Nat
  | [] => 0
  | c :: r => if isDigN c then digsN r + 1 else 0
theorem digsN_le (l : List Nat) : digsN l ≤ l.length := by
  induction l with
  | nil => simp [digsN]
  | cons c r ih => simp only [digsN, List.length_cons]; split <;> omega
theorem digsN_dig (l : List Nat) : ∀ j (h : j < digsN l) (h2 : j < l.length), isDigN l[j] = true := by
  induction l with
  | nil => intro j h; simp [digsN] at h
  | cons c r ih =>
    intro j h h2
    simp only [digsN] at h
    by_cases hc : isDigN c = true
    · rw [if_pos hc] at h
      cases j with
      | zero => simpa using hc
      | succ j => simpa using ih j (by omega) (by simpa using h2)
    · rw [if_neg hc] at h; omega
theorem digsN_ge (l : List Nat) : ∀ p, p ≤ l.length → (∀ j (h : j < p) (h2 : j < l.length), isDigN l[j] = true) → p ≤ digsN l := by
  induction l with
  | nil => intro p h _; simp at h; omega
  | cons c r ih =>
    intro p hp hd
    cases p with
    | zero => omega
    | succ p =>
      have h0 := hd 0 (by omega) (by simp)
      simp only [digsN]
      rw [if_pos (by simpa using h0)]
      have := ih p (by simpa using hp) (fun j h h2 => by have := hd (j + 1) (by omega) (by simp only [List.length_cons]; omega); rwa [List.getElem_cons_succ] at this)
      omega
theorem digsN_stop (l : List Nat) (p : Nat) (h : p < l.length) (hd : ∀ j (h : j < p) (h2 : j < l.length), isDigN l[j] = true) (hn : isDigN l[p] = false) : digsN l = p := by
  have h1 := digsN_ge l p (by omega) hd
  by_cases e : p < digsN l
  · have := digsN_dig l p e h; rw [hn] at this; cases this
  · omega
/-- the value of some digits -/
def valN (l : List Nat) : Nat := l.foldl (fun n d => n * 10 + (d - 48)) 0
/-- the number that some digits are, if it may be -/
def numN (l : List Nat) (most : Nat) : Option Nat :=
  if l.length = 0 ∨ 2 < l.length ∨ l.length = 2 ∧ l.head? = some 48 then none else if most < valN l then none else some (valN l)
/-- the kind of a letter, and its greatest number -/
def letterN (c : Nat) : Option (Nat × Nat) := if c = 120 then some (1, 63) else if c = 102 then some (2, 99) else if c = 80 then some (3, 99) else none
def isSignT (c : Nat) : Bool := c == 40 || c == 41 || c == 44 || c == 61 || c == 33 || c == 62 || c == 38 || c == 124 || c == 64 || c == 63
inductive Step where
  | blank
  | tok (k n z : Nat)
  | err (code : Nat)
/-- what stands first -/
def stepN (c : Nat) (r : List Nat) : Step :=
  if c = 32 ∨ c = 9 then .blank else if isSignT c then .tok 4 c 0 else
    match letterN c with
    | none => .err 30
    | some (k, most) => match numN (r.take (digsN r)) most with
      | none => .err 31
      | some n => .tok k n (digsN r)
def lexN (i : Nat) : List Nat → LexR
  | [] => .ok []
  | c :: r => match stepN c r with
    | .blank => lexN (i + 1) r
    | .tok k n z => (lexN (i + 1 + z) (r.drop z)).pre [⟨k, n, i⟩]
    | .err e => .bad e i
termination_by l => l.length
decreasing_by all_goals simp_wf; all_goals omega
theorem lexN_nil (i : Nat) : lexN i [] = .ok [] := by rw [lexN]
theorem lexN_blank {i c : Nat} {r : List Nat} (h : stepN c r = .blank) : lexN i (c :: r) = lexN (i + 1) r := by rw [lexN, h]
theorem lexN_tok {i c k n z : Nat} {r : List Nat} (h : stepN c r = .tok k n z) : lexN i (c :: r) = (lexN (i + 1 + z) (r.drop z)).pre [⟨k, n, i⟩] := by rw [lexN, h]
theorem lexN_err {i c e : Nat} {r : List Nat} (h : stepN c r = .err e) : lexN i (c :: r) = .bad e i := by rw [lexN, h]
/-- of a whole text -/
def lexAll (l : List Nat) : LexR := if 8000 < l.length then .bad 2 0 else lexN 0 l
/-! ### a number that grows no further than it may -/
def capN (most : Nat) (l : List Nat) : Nat := l.foldl (fun n d => if n ≤ most then 10 * n + (d - 48) else n) 0
theorem capN_snoc (most : Nat) (l : List Nat) (d : Nat) : capN most (l ++ [d]) = if capN most l ≤ most then 10 * capN most l + (d - 48) else capN most l := by unfold capN; rw [List.foldl_append]; rfl
theorem capN_le (most : Nat) (l : List Nat) (hd : ∀ d ∈ l, d ≤ 57) : capN most l ≤ 10 * most + 9 := by
  have : ∀ (l : List Nat) (n : Nat), (∀ d ∈ l, d ≤ 57) → n ≤ 10 * most + 9 → l.foldl (fun n d => if n ≤ most then 10 * n + (d - 48) else n) n ≤ 10 * most + 9 := by
    intro l
    induction l with
    | nil => intro n _ h; exact h
    | cons d l ih =>
      intro n hd h
      refine ih _ (fun x hx => hd x (by simp [hx])) ?_
      have := hd d (by simp)
      show (if n ≤ most then 10 * n + (d - 48) else n) ≤ _
      split <;> omega
  exact this l 0 hd (by omega)
theorem capN_big (most : Nat) (l : List Nat) (n : Nat) (h : most < n) : l.foldl (fun n d => if n ≤ most then 10 * n + (d - 48) else n) n = n := by
  induction l with
  | nil => rfl
  | cons d l ih => simp only [List.foldl_cons]; rw [if_neg (by omega)]; exact ih
theorem numN_nil (most : Nat) : numN [] most = none := by simp [numN]
/-- what the code asks of its number, and what the document does -/
theorem numN_cap (most : Nat) (hm : most ≤ 99) (l : List Nat) (hd : ∀ d ∈ l, isDigN d = true) : numN l most = if l = [] ∨ most < capN most l ∨ 1 < l.length ∧ l.head? = some 48 then none else some (capN most l) := by
  have dig : ∀ d ∈ l, 48 ≤ d ∧ d ≤ 57 := fun d h => by have := hd d h; simpa [isDigN] using this
  match l, dig with
  | [], _ => simp [numN]
  | [a], dig =>
    have := dig a (by simp)
    simp [numN, capN, valN]
  | [a, b], dig =>
    have h1 := dig a (by simp)
    have h2 := dig b (by simp)
    by_cases ha : a = 48
    · simp [numN, ha]
    · have e : capN most [a, b] = if a - 48 ≤ most then 10 * (a - 48) + (b - 48) else a - 48 := by simp [capN]
      have v : valN [a, b] = (a - 48) * 10 + (b - 48) := by simp [valN]
      unfold numN
      rw [if_neg (by simp [ha]), v, e]
      by_cases hq : a - 48 ≤ most
      · rw [if_pos hq]
        by_cases hg : most < (a - 48) * 10 + (b - 48)
        · rw [if_pos hg, if_pos (by right; left; omega)]
        · rw [if_neg hg, if_neg (by simp [ha]; omega), show (a - 48) * 10 + (b - 48) = 10 * (a - 48) + (b - 48) by omega]
      · rw [if_neg hq, if_pos (by omega), if_pos (by right; left; omega)]
  | a :: b :: c :: r, dig =>
    have h1 := dig a (by simp)
    have h2 := dig b (by simp)
    have h3 := dig c (by simp)
    unfold numN
    rw [if_pos (by simp)]
    by_cases ha : a = 48
    · rw [if_pos (by simp [ha])]
    · have e : most < capN most (a :: b :: c :: r) := by
        unfold capN
        simp only [List.foldl_cons]
        by_cases q1 : 10 * 0 + (a - 48) ≤ most
        · rw [if_pos (by omega : 0 ≤ most), if_pos q1]
          by_cases q2 : 10 * (10 * 0 + (a - 48)) + (b - 48) ≤ most
          · rw [if_pos q2, capN_big most r _ (by omega)]; omega
          · rw [if_neg q2, capN_big most r _ (by omega)]; omega
        · rw [if_pos (by omega : 0 ≤ most), if_neg q1, if_neg q1, capN_big most r _ (by omega)]; omega
      rw [if_pos (by right; left; exact e)]
end Go.Proofs.YtgnfbhemkombaaaDoor
