/- What a node may be (the table), as the program has it and as the document has it: the two are one. No program is named. -/
import Derived.Test.YtgnfbhemkombaaaDoorT1
namespace Go.Proofs.YtgnfbhemkombaaaDoor
def termB (k : Int) : Bool := decide (k = 1) || decide (k = 2)
/-- the sort of a kind: 0 neither, 1 a term, 2 a formula -/
def sortN (k : Int) : Int := if 1 ≤ k ∧ k ≤ 2 then 1 else if 3 ≤ k ∧ k ≤ 10 then 2 else 0
/-- the row of the table for a kind: greatest Id, least and most kids, the kids' sort -/
def rowOf (k : Int) : Option (Int × Int × Int × Int) :=
  if k = 1 then some (63, 0, 0, 0) else if k = 2 ∨ k = 3 then some (99, 0, 4, 1) else if k = 4 then some (0, 2, 2, 1)
  else if k = 5 then some (0, 1, 1, 2) else if k = 6 ∨ k = 8 ∨ k = 9 then some (0, 2, 2, 2) else if k = 7 ∨ k = 10 then some (63, 1, 1, 2) else none
def allSort (s : Int) (l : List Tr) : Bool := l.all fun q => decide (sortN q.k = s)
/-- the root is as the table says; of the kids their sort alone -/
def confB (t : Tr) : Bool :=
  match rowOf t.k with
  | none => false
  | some (m, l, u, s) => decide (0 ≤ t.i) && decide (t.i ≤ m) && decide (l ≤ (t.ks.length : Int)) && decide ((t.ks.length : Int) ≤ u) && allSort s t.ks
/-- how the document says it -/
def kindOk (k i n : Int) : Bool :=
  decide (0 ≤ i) && (
  if k = 1 then decide (i ≤ 63) && decide (n = 0) else if k = 2 ∨ k = 3 then decide (i ≤ 99) && decide (n ≤ 4) else if k = 4 then decide (i = 0) && decide (n = 2)
  else if k = 5 then decide (i = 0) && decide (n = 1) else if k = 6 ∨ k = 8 ∨ k = 9 then decide (i = 0) && decide (n = 2) else if k = 7 ∨ k = 10 then decide (i ≤ 63) && decide (n = 1) else false)
/-- are the kids to be terms? -/
def kidsTerm (k : Int) : Bool := decide (k ≤ 4)
mutual
def Tr.shp : Tr → Bool
  | .node k i ks => kindOk k i ks.length && shpL (kidsTerm k) ks
def shpL (b : Bool) : List Tr → Bool
  | [] => true
  | .node k i ks :: r => (termB k == b) && Tr.shp (.node k i ks) && shpL b r
end
theorem shp_eq (t : Tr) : t.shp = (kindOk t.k t.i t.ks.length && shpL (kidsTerm t.k) t.ks) := by cases t; simp [Tr.shp, Tr.k, Tr.i, Tr.ks]
theorem shpL_cons (b : Bool) (t : Tr) (r : List Tr) : shpL b (t :: r) = ((termB t.k == b) && t.shp && shpL b r) := by cases t; simp [shpL, Tr.k]
theorem shpL_append (b : Bool) (l r : List Tr) : shpL b (l ++ r) = (shpL b l && shpL b r) := by
  induction l with
  | nil => simp [shpL]
  | cons t l ih => simp only [List.cons_append, shpL_cons, ih, Bool.and_assoc]
theorem shpL_all (b : Bool) (l : List Tr) : shpL b l = l.all fun q => (termB q.k == b) && q.shp := by
  induction l with
  | nil => simp [shpL]
  | cons t l ih => simp only [shpL_cons, ih, List.all_cons]
theorem kind_of_ok {k i n : Int} (h : kindOk k i n = true) : 1 ≤ k ∧ k ≤ 10 ∧ 0 ≤ i ∧ i ≤ 99 ∧ n ≤ 4 := by
  unfold kindOk at h
  simp only [Bool.and_eq_true, decide_eq_true_eq] at h
  obtain ⟨h0, h⟩ := h
  split at h
  · simp at h; omega
  · split at h
    · simp at h; omega
    · split at h
      · simp at h; omega
      · split at h
        · simp at h; omega
        · split at h
          · simp at h; omega
          · split at h
            · simp at h; omega
            · simp at h
theorem kind_of_shp (t : Tr) (h : t.shp = true) : 1 ≤ t.k ∧ t.k ≤ 10 ∧ 0 ≤ t.i ∧ t.i ≤ 99 ∧ t.ks.length ≤ 4 := by
  rw [shp_eq, Bool.and_eq_true] at h
  have := kind_of_ok h.1
  omega
/-- all the nodes conform -/
def allConf (l : List (Nat × Tr)) : Bool := l.all fun x => confB x.2
theorem allConf_append (a b : List (Nat × Tr)) : allConf (a ++ b) = (allConf a && allConf b) := by simp [allConf]
theorem sort_term (k : Int) : sortN k = 1 ↔ termB k = true := by
  unfold sortN termB
  simp only [Bool.or_eq_true, decide_eq_true_eq]
  split
  · omega
  · split <;> omega
theorem sort_formula (k : Int) : sortN k = 2 ↔ termB k = false ∧ 1 ≤ k ∧ k ≤ 10 := by
  unfold sortN termB
  simp only [Bool.or_eq_false_iff, decide_eq_false_iff_not]
  split
  · omega
  · split <;> omega
theorem row_some (k : Int) : (∃ m l u s, rowOf k = some (m, l, u, s) ∧ 1 ≤ k ∧ k ≤ 10 ∧
    ∀ (i n : Int), 0 ≤ n → (decide (0 ≤ i) && decide (i ≤ m) && decide (l ≤ n) && decide (n ≤ u)) = kindOk k i n ∧ (kindOk k i n = true → (s = 1 ∧ kidsTerm k = true) ∨ (s = 2 ∧ kidsTerm k = false) ∨ n = 0)) ∨ (rowOf k = none ∧ ∀ i n : Int, kindOk k i n = false) := by
  by_cases hk : 1 ≤ k ∧ k ≤ 10
  · left
    obtain ⟨m, hm⟩ : ∃ m : Nat, k = (m : Int) := ⟨k.toNat, by omega⟩
    have : m = 1 ∨ m = 2 ∨ m = 3 ∨ m = 4 ∨ m = 5 ∨ m = 6 ∨ m = 7 ∨ m = 8 ∨ m = 9 ∨ m = 10 := by omega
    subst hm
    rcases this with rfl | rfl | rfl | rfl | rfl | rfl | rfl | rfl | rfl | rfl
    all_goals
      refine ⟨_, _, _, _, rfl, by omega, by omega, fun i n hn => ⟨?_, fun h => ?_⟩⟩
      · rw [Bool.eq_iff_iff]
        simp [kindOk]
        try omega
      · simp [kindOk] at h
        first
          | exact .inl ⟨rfl, by decide⟩
          | exact .inr (.inl ⟨rfl, by decide⟩)
          | exact .inr (.inr (by omega))
  · right
    refine ⟨?_, fun i n => ?_⟩
    · unfold rowOf
      repeat (first | rw [if_neg (by omega)])
    · unfold kindOk
      repeat (first | rw [if_neg (by omega)])
      simp
theorem sorts_term (l : List Tr) : allSort 1 l = l.all fun q => termB q.k == true := by
  unfold allSort
  rw [Bool.eq_iff_iff, List.all_eq_true, List.all_eq_true]
  refine forall_congr' fun q => forall_congr' fun hq => ?_
  simp [sort_term q.k]
theorem sorts_formula (l : List Tr) (hk : ∀ q, q ∈ l → 1 ≤ q.k ∧ q.k ≤ 10) : allSort 2 l = l.all fun q => termB q.k == false := by
  unfold allSort
  rw [Bool.eq_iff_iff, List.all_eq_true, List.all_eq_true]
  refine forall_congr' fun q => forall_congr' fun hq => ?_
  have := hk q hq
  simp [sort_formula q.k]
  omega
/-- the node's own row, both ways -/
theorem conf_iff (t : Tr) (hk : ∀ q, q ∈ t.ks → 1 ≤ q.k ∧ q.k ≤ 10) : confB t = (kindOk t.k t.i t.ks.length && t.ks.all fun q => termB q.k == kidsTerm t.k) := by
  unfold confB
  rcases row_some t.k with ⟨m, l, u, s, hr, _, _, h⟩ | ⟨hr, h⟩
  · rw [hr]
    obtain ⟨h1, h2⟩ := h t.i t.ks.length (by omega)
    simp only [h1]
    cases hko : kindOk t.k t.i t.ks.length with
    | false => rfl
    | true =>
      rcases h2 hko with ⟨rfl, e⟩ | ⟨rfl, e⟩ | e
      · rw [e, sorts_term]
      · rw [e, sorts_formula _ hk]
      · have : t.ks = [] := List.eq_nil_of_length_eq_zero (by omega)
        rw [this]; rfl
  · rw [hr, h]; rfl
theorem conf_kind (t : Tr) (h : confB t = true) : 1 ≤ t.k ∧ t.k ≤ 10 := by
  unfold confB at h
  rcases row_some t.k with ⟨m, l, u, s, hr, h1, h2, _⟩ | ⟨hr, _⟩
  · exact ⟨h1, h2⟩
  · rw [hr] at h; cases h
theorem allConf_cons (x : Nat × Tr) (l : List (Nat × Tr)) : allConf (x :: l) = (confB x.2 && allConf l) := by simp [allConf]
theorem preL_kinds (d : Nat) (l : List Tr) (h : allConf (preL d l) = true) : ∀ q, q ∈ l → confB q = true := by
  induction l with
  | nil => simp
  | cons t r ih =>
    simp only [preL, allConf_append, Bool.and_eq_true] at h
    intro q hq
    rcases List.mem_cons.1 hq with rfl | hq
    · have := h.1
      rw [pre_eq, allConf_cons, Bool.and_eq_true] at this
      exact this.1
    · exact ih h.2 q hq
mutual
theorem allConf_pre (d : Nat) : (t : Tr) → allConf (t.pre d) = t.shp
  | .node k i ks => by
    have ih := allConf_preL (d + 1) ks
    rw [pre_eq, allConf_cons, shp_eq, shpL_all]
    show (confB (.node k i ks) && allConf (preL (d + 1) ks)) = (kindOk k i ks.length && ks.all fun q => (termB q.k == kidsTerm k) && q.shp)
    rw [Bool.eq_iff_iff]
    constructor
    · intro h
      rw [Bool.and_eq_true] at h
      have hk : ∀ q, q ∈ ks → 1 ≤ q.k ∧ q.k ≤ 10 := fun q hq => conf_kind q (preL_kinds _ _ h.2 q hq)
      have h1 := h.1
      rw [conf_iff (.node k i ks) hk, Bool.and_eq_true] at h1
      rw [ih, List.all_eq_true] at h
      refine Bool.and_eq_true _ _ ▸ ⟨h1.1, List.all_eq_true.2 fun q hq => ?_⟩
      rw [Bool.and_eq_true]
      exact ⟨List.all_eq_true.1 h1.2 q hq, h.2 q hq⟩
    · intro h
      rw [Bool.and_eq_true] at h
      have h2 := List.all_eq_true.1 h.2
      have hs : ∀ q, q ∈ ks → q.shp = true := fun q hq => (Bool.and_eq_true _ _ ▸ h2 q hq : _ ∧ _).2
      have hk : ∀ q, q ∈ ks → 1 ≤ q.k ∧ q.k ≤ 10 := fun q hq => by have := kind_of_shp q (hs q hq); omega
      rw [conf_iff (.node k i ks) hk, ih, Bool.and_eq_true, Bool.and_eq_true]
      exact ⟨⟨h.1, List.all_eq_true.2 fun q hq => (Bool.and_eq_true _ _ ▸ h2 q hq : _ ∧ _).1⟩, List.all_eq_true.2 hs⟩
theorem allConf_preL (d : Nat) : (l : List Tr) → allConf (preL d l) = l.all fun q => q.shp
  | [] => by simp [preL, allConf]
  | t :: r => by
    simp only [preL, allConf_append, List.all_cons]
    rw [allConf_pre d t, allConf_preL d r]
end
/-- the number of Right's error: 0, 20, 21, 22 -/
def rightN (t : Tr) : Nat := if 1000 < t.sz then 20 else if 100 < t.dp then 21 else if t.shp then 0 else 22
def okT (t : Tr) : Bool := decide (t.sz ≤ 1000) && decide (t.dp ≤ 100) && t.shp
theorem ok_iff (t : Tr) : okT t = true ↔ rightN t = 0 := by
  unfold okT rightN
  by_cases h1 : 1000 < t.sz
  · rw [if_pos h1]; simp; omega
  · rw [if_neg h1]
    by_cases h2 : 100 < t.dp
    · rw [if_pos h2]; simp; omega
    · rw [if_neg h2]
      cases h3 : t.shp
      · simp
      · simp; omega
end Go.Proofs.YtgnfbhemkombaaaDoor
