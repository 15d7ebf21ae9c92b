/- The variables of a tree, as sets of numbers: plain mathematics. -/
import Derived.Test.YtgnfbhemkombaaaDoorT2
import Derived.Test.YtgnfbhemkombaaaDoorMath
namespace Go.Proofs.YtgnfbhemkombaaaDoor
set_option linter.unusedVariables false
set_option linter.unusedSimpArgs false
/-- is the number i the place j of a word? -/
def inI (i : Int) (j : Nat) : Bool := decide (i = (j : Int) ∧ j < 64)
theorem tb_with (s : Nat) (i : Int) (j : Nat) : (withN s i).testBit j = (s.testBit j || inI i j) := by
  unfold withN inI
  by_cases h : 0 ≤ i ∧ i ≤ 63
  · rw [if_pos h, Nat.testBit_or, Nat.testBit_two_pow]
    congr 1
    rw [decide_eq_decide]
    omega
  · rw [if_neg h]
    have : decide (i = (j : Int) ∧ j < 64) = false := by rw [decide_eq_false_iff_not]; omega
    rw [this, Bool.or_false]
theorem tb_without (s : Nat) (i : Int) (j : Nat) (hs : s < 2 ^ 64) : (withoutN s i).testBit j = (s.testBit j && !inI i j) := by
  unfold withoutN inI
  by_cases h : 0 ≤ i ∧ i ≤ 63
  · rw [if_pos h]
    by_cases hb : s.testBit i.toNat = true
    · rw [if_pos hb]
      have hle := bit_le s i.toNat hb
      have e : s = (s - 2 ^ i.toNat) ||| 2 ^ i.toNat := by rw [or_pow_add _ _ (sub_pow_bit s _ hb)]; omega
      by_cases hj : i = (j : Int)
      · have : i.toNat = j := by omega
        rw [this] at hb ⊢
        rw [sub_pow_bit s j hb]
        have d : decide (i = (j : Int) ∧ j < 64) = true := by rw [decide_eq_true_eq]; omega
        rw [d]
        simp
      · have d : decide (i = (j : Int) ∧ j < 64) = false := by rw [decide_eq_false_iff_not]; omega
        rw [d]
        conv => rhs; rw [e]
        rw [Nat.testBit_or, Nat.testBit_two_pow]
        have : decide (i.toNat = j) = false := by rw [decide_eq_false_iff_not]; omega
        rw [this]
        simp
    · rw [if_neg hb]
      by_cases hj : i = (j : Int) ∧ j < 64
      · have : i.toNat = j := by omega
        rw [this] at hb
        rw [decide_eq_true hj]
        simp at hb
        simp [hb]
      · rw [decide_eq_false hj]
        simp
  · rw [if_neg h]
    have : decide (i = (j : Int) ∧ j < 64) = false := by rw [decide_eq_false_iff_not]; omega
    rw [this]
    simp
theorem withU {s : Nat} (i : Int) (hs : s < 2 ^ 64) : withN s i < 2 ^ 64 := by
  unfold withN
  split
  · rename_i h
    exact Nat.or_lt_two_pow hs (Nat.pow_lt_pow_right (by decide) (by omega))
  · exact hs
theorem withoutU {s : Nat} (i : Int) (hs : s < 2 ^ 64) : withoutN s i < 2 ^ 64 := withoutN_U s i hs
theorem tb_big {s j : Nat} (hs : s < 2 ^ 64) (hj : 64 ≤ j) : s.testBit j = false := Nat.testBit_lt_two_pow (Nat.lt_of_lt_of_le hs (Nat.pow_le_pow_right (by decide) hj))
mutual
def freeT : Tr → Nat
  | .node k i ks => if k = 1 then withN 0 i else if k = 7 ∨ k = 10 then withoutN (freeL ks) i else freeL ks
def freeL : List Tr → Nat
  | [] => 0
  | .node k i ks :: r => freeT (.node k i ks) ||| freeL r
end
mutual
def boundT : Tr → Nat
  | .node k i ks => (if k = 7 ∨ k = 10 then withN 0 i else 0) ||| boundL ks
def boundL : List Tr → Nat
  | [] => 0
  | .node k i ks :: r => boundT (.node k i ks) ||| boundL r
end
mutual
def occT : Tr → Nat
  | .node k i ks => if k = 1 then withN 0 i else occL ks
def occL : List Tr → Nat
  | [] => 0
  | .node k i ks :: r => occT (.node k i ks) ||| occL r
end
def varsT (t : Tr) : Nat := occT t ||| boundT t
mutual
def catT (own : Nat) (x : Int) : Tr → Nat
  | .node k i ks => if hasN (freeT (.node k i ks)) x then (if (k = 7 ∨ k = 10) ∧ hasN own i = true then withN 0 i else 0) ||| catL own x ks else 0
def catL (own : Nat) (x : Int) : List Tr → Nat
  | [] => 0
  | .node k i ks :: r => catT own x (.node k i ks) ||| catL own x r
end
mutual
/-- what a walk over the nodes gathers: each node with the set of those named around it -/
def foldV (g : Int → Int → Nat → Nat → Nat) : Tr → Nat → Nat → Nat
  | .node k i ks, ar, acc => foldVL g ks (if k = 7 ∨ k = 10 then withN ar i else ar) (g k i ar acc)
def foldVL (g : Int → Int → Nat → Nat → Nat) : List Tr → Nat → Nat → Nat
  | [], _, acc => acc
  | .node k i ks :: r, ar, acc => foldVL g r ar (foldV g (.node k i ks) ar acc)
end
theorem freeT_eq (t : Tr) : freeT t = if t.k = 1 then withN 0 t.i else if t.k = 7 ∨ t.k = 10 then withoutN (freeL t.ks) t.i else freeL t.ks := by cases t; rw [freeT]; rfl
theorem boundT_eq (t : Tr) : boundT t = (if t.k = 7 ∨ t.k = 10 then withN 0 t.i else 0) ||| boundL t.ks := by cases t; rw [boundT]; rfl
theorem occT_eq (t : Tr) : occT t = if t.k = 1 then withN 0 t.i else occL t.ks := by cases t; rw [occT]; rfl
theorem catT_eq (own : Nat) (x : Int) (t : Tr) : catT own x t = if hasN (freeT t) x then (if (t.k = 7 ∨ t.k = 10) ∧ hasN own t.i = true then withN 0 t.i else 0) ||| catL own x t.ks else 0 := by cases t; rw [catT]; rfl
theorem foldV_eq (g : Int → Int → Nat → Nat → Nat) (t : Tr) (ar acc : Nat) : foldV g t ar acc = foldVL g t.ks (if t.k = 7 ∨ t.k = 10 then withN ar t.i else ar) (g t.k t.i ar acc) := by cases t; rw [foldV]; rfl
theorem freeL_cons (t : Tr) (r : List Tr) : freeL (t :: r) = freeT t ||| freeL r := by cases t; simp [freeL]
theorem boundL_cons (t : Tr) (r : List Tr) : boundL (t :: r) = boundT t ||| boundL r := by cases t; simp [boundL]
theorem occL_cons (t : Tr) (r : List Tr) : occL (t :: r) = occT t ||| occL r := by cases t; simp [occL]
theorem catL_cons (own : Nat) (x : Int) (t : Tr) (r : List Tr) : catL own x (t :: r) = catT own x t ||| catL own x r := by cases t; simp [catL]
theorem foldVL_cons (g : Int → Int → Nat → Nat → Nat) (t : Tr) (r : List Tr) (ar acc : Nat) : foldVL g (t :: r) ar acc = foldVL g r ar (foldV g t ar acc) := by cases t; simp [foldVL]
theorem freeL_nil : freeL [] = 0 := by simp [freeL]
theorem boundL_nil : boundL [] = 0 := by simp [boundL]
theorem occL_nil : occL [] = 0 := by simp [occL]
theorem catL_nil (own : Nat) (x : Int) : catL own x [] = 0 := by simp [catL]
theorem foldVL_nil (g : Int → Int → Nat → Nat → Nat) (ar acc : Nat) : foldVL g [] ar acc = acc := by simp [foldVL]
theorem freeL_take (ks : List Tr) (m : Nat) (h : m < ks.length) : freeL (ks.take (m + 1)) = freeL (ks.take m) ||| freeT ks[m] := by
  have app : ∀ (l : List Tr) (t : Tr), freeL (l ++ [t]) = freeL l ||| freeT t := by
    intro l t
    induction l with
    | nil => simp [freeL_cons, freeL_nil]
    | cons y l ih => rw [List.cons_append, freeL_cons, freeL_cons, ih, Nat.or_assoc]
  rw [List.take_succ_eq_append_getElem h, app]
theorem boundL_take (ks : List Tr) (m : Nat) (h : m < ks.length) : boundL (ks.take (m + 1)) = boundL (ks.take m) ||| boundT ks[m] := by
  have app : ∀ (l : List Tr) (t : Tr), boundL (l ++ [t]) = boundL l ||| boundT t := by
    intro l t
    induction l with
    | nil => simp [boundL_cons, boundL_nil]
    | cons y l ih => rw [List.cons_append, boundL_cons, boundL_cons, ih, Nat.or_assoc]
  rw [List.take_succ_eq_append_getElem h, app]
theorem occL_take (ks : List Tr) (m : Nat) (h : m < ks.length) : occL (ks.take (m + 1)) = occL (ks.take m) ||| occT ks[m] := by
  have app : ∀ (l : List Tr) (t : Tr), occL (l ++ [t]) = occL l ||| occT t := by
    intro l t
    induction l with
    | nil => simp [occL_cons, occL_nil]
    | cons y l ih => rw [List.cons_append, occL_cons, occL_cons, ih, Nat.or_assoc]
  rw [List.take_succ_eq_append_getElem h, app]
theorem catL_take (own : Nat) (x : Int) (ks : List Tr) (m : Nat) (h : m < ks.length) : catL own x (ks.take (m + 1)) = catL own x (ks.take m) ||| catT own x ks[m] := by
  have app : ∀ (l : List Tr) (t : Tr), catL own x (l ++ [t]) = catL own x l ||| catT own x t := by
    intro l t
    induction l with
    | nil => simp [catL_cons, catL_nil]
    | cons y l ih => rw [List.cons_append, catL_cons, catL_cons, ih, Nat.or_assoc]
  rw [List.take_succ_eq_append_getElem h, app]
theorem foldVL_take (g : Int → Int → Nat → Nat → Nat) (ar : Nat) (ks : List Tr) (m : Nat) (h : m < ks.length) (acc : Nat) : foldVL g (ks.take (m + 1)) ar acc = foldV g ks[m] ar (foldVL g (ks.take m) ar acc) := by
  have app : ∀ (l : List Tr) (t : Tr) (acc : Nat), foldVL g (l ++ [t]) ar acc = foldV g t ar (foldVL g l ar acc) := by
    intro l t
    induction l with
    | nil => intro acc; simp [foldVL_cons, foldVL_nil]
    | cons y l ih => intro acc; rw [List.cons_append, foldVL_cons, foldVL_cons, ih]
  rw [List.take_succ_eq_append_getElem h, app]
theorem zero_U : (0 : Nat) < 2 ^ 64 := by decide
theorem freeT_U (t : Tr) : freeT t < 2 ^ 64 := by
  induction t using Tr.ind with
  | h t ih =>
    have hl : ∀ l : List Tr, (∀ q ∈ l, freeT q < 2 ^ 64) → freeL l < 2 ^ 64 := by
      intro l
      induction l with
      | nil => intro _; rw [freeL_nil]; exact zero_U
      | cons y l ihl => intro h; rw [freeL_cons]; exact Nat.or_lt_two_pow (h y (by simp)) (ihl (fun q hq => h q (by simp [hq])))
    have := hl t.ks ih
    rw [freeT_eq]
    split
    · exact withU _ zero_U
    · split
      · exact withoutU _ this
      · exact this
theorem freeL_U : ∀ l : List Tr, freeL l < 2 ^ 64
  | [] => by rw [freeL_nil]; exact zero_U
  | t :: r => by rw [freeL_cons]; exact Nat.or_lt_two_pow (freeT_U t) (freeL_U r)
theorem boundT_U (t : Tr) : boundT t < 2 ^ 64 := by
  induction t using Tr.ind with
  | h t ih =>
    have hl : ∀ l : List Tr, (∀ q ∈ l, boundT q < 2 ^ 64) → boundL l < 2 ^ 64 := by
      intro l
      induction l with
      | nil => intro _; rw [boundL_nil]; exact zero_U
      | cons y l ihl => intro h; rw [boundL_cons]; exact Nat.or_lt_two_pow (h y (by simp)) (ihl (fun q hq => h q (by simp [hq])))
    rw [boundT_eq]
    refine Nat.or_lt_two_pow ?_ (hl t.ks ih)
    split
    · exact withU _ zero_U
    · exact zero_U
theorem boundL_U : ∀ l : List Tr, boundL l < 2 ^ 64
  | [] => by rw [boundL_nil]; exact zero_U
  | t :: r => by rw [boundL_cons]; exact Nat.or_lt_two_pow (boundT_U t) (boundL_U r)
theorem occT_U (t : Tr) : occT t < 2 ^ 64 := by
  induction t using Tr.ind with
  | h t ih =>
    have hl : ∀ l : List Tr, (∀ q ∈ l, occT q < 2 ^ 64) → occL l < 2 ^ 64 := by
      intro l
      induction l with
      | nil => intro _; rw [occL_nil]; exact zero_U
      | cons y l ihl => intro h; rw [occL_cons]; exact Nat.or_lt_two_pow (h y (by simp)) (ihl (fun q hq => h q (by simp [hq])))
    rw [occT_eq]
    split
    · exact withU _ zero_U
    · exact hl t.ks ih
theorem occL_U : ∀ l : List Tr, occL l < 2 ^ 64
  | [] => by rw [occL_nil]; exact zero_U
  | t :: r => by rw [occL_cons]; exact Nat.or_lt_two_pow (occT_U t) (occL_U r)
theorem varsT_U (t : Tr) : varsT t < 2 ^ 64 := Nat.or_lt_two_pow (occT_U t) (boundT_U t)
theorem catT_U (own : Nat) (x : Int) (t : Tr) : catT own x t < 2 ^ 64 := by
  induction t using Tr.ind with
  | h t ih =>
    have hl : ∀ l : List Tr, (∀ q ∈ l, catT own x q < 2 ^ 64) → catL own x l < 2 ^ 64 := by
      intro l
      induction l with
      | nil => intro _; rw [catL_nil]; exact zero_U
      | cons y l ihl => intro h; rw [catL_cons]; exact Nat.or_lt_two_pow (h y (by simp)) (ihl (fun q hq => h q (by simp [hq])))
    rw [catT_eq]
    split
    · refine Nat.or_lt_two_pow ?_ (hl t.ks ih)
      split
      · exact withU _ zero_U
      · exact zero_U
    · exact zero_U
theorem catL_U (own : Nat) (x : Int) : ∀ l : List Tr, catL own x l < 2 ^ 64
  | [] => by rw [catL_nil]; exact zero_U
  | t :: r => by rw [catL_cons]; exact Nat.or_lt_two_pow (catT_U own x t) (catL_U own x r)
/-! ### the code's walks -/
def gVars (k i : Int) (ar acc : Nat) : Nat := if k = 1 ∨ k = 7 ∨ k = 10 then withN acc i else acc
def gBound (k i : Int) (ar acc : Nat) : Nat := if k = 7 ∨ k = 10 then withN acc i else acc
def gFree (k i : Int) (ar acc : Nat) : Nat := if k = 1 ∧ hasN ar i = false then withN acc i else acc
def gCatch (x : Int) (k i : Int) (ar acc : Nat) : Nat := if k = 1 ∧ hasN ar i = false ∧ i = x then acc ||| ar else acc
/-- a walk that stays within words of 64 bits -/
def StayU (g : Int → Int → Nat → Nat → Nat) : Prop := ∀ k i ar acc, ar < 2 ^ 64 → acc < 2 ^ 64 → g k i ar acc < 2 ^ 64
theorem foldV_U {g : Int → Int → Nat → Nat → Nat} (hg : StayU g) (t : Tr) : ∀ ar acc, ar < 2 ^ 64 → acc < 2 ^ 64 → foldV g t ar acc < 2 ^ 64 := by
  induction t using Tr.ind with
  | h t ih =>
    intro ar acc ha hc
    rw [foldV_eq]
    have hl : ∀ (l : List Tr), (∀ q ∈ l, ∀ ar acc, ar < 2 ^ 64 → acc < 2 ^ 64 → foldV g q ar acc < 2 ^ 64) → ∀ ar acc, ar < 2 ^ 64 → acc < 2 ^ 64 → foldVL g l ar acc < 2 ^ 64 := by
      intro l
      induction l with
      | nil => intro _ ar acc _ hc; rw [foldVL_nil]; exact hc
      | cons y l ihl => intro h ar acc ha hc; rw [foldVL_cons]; exact ihl (fun q hq => h q (by simp [hq])) _ _ ha (h y (by simp) _ _ ha hc)
    refine hl _ ih _ _ ?_ (hg _ _ _ _ ha hc)
    split
    · exact withU _ ha
    · exact ha
theorem foldVL_U {g : Int → Int → Nat → Nat → Nat} (hg : StayU g) : ∀ (l : List Tr) (ar acc : Nat), ar < 2 ^ 64 → acc < 2 ^ 64 → foldVL g l ar acc < 2 ^ 64
  | [], ar, acc, _, hc => by rw [foldVL_nil]; exact hc
  | t :: r, ar, acc, ha, hc => by rw [foldVL_cons]; exact foldVL_U hg r ar _ ha (foldV_U hg t ar acc ha hc)
theorem gVars_U : StayU gVars := fun k i ar acc _ hc => by unfold gVars; split; exact withU _ hc; exact hc
theorem gBound_U : StayU gBound := fun k i ar acc _ hc => by unfold gBound; split; exact withU _ hc; exact hc
theorem gFree_U : StayU gFree := fun k i ar acc _ hc => by unfold gFree; split; exact withU _ hc; exact hc
theorem gCatch_U (x : Int) : StayU (gCatch x) := fun k i ar acc ha hc => by unfold gCatch; split; exact Nat.or_lt_two_pow hc ha; exact hc
end Go.Proofs.YtgnfbhemkombaaaDoor
