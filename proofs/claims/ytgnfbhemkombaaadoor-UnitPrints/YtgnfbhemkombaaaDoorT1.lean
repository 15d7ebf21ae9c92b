/- Trees of nodes, as plain mathematics: size, depth, nodes in their order, what a node may be, which trees are right. No program is named. -/
import Derived.Lib.Hide
namespace Go.Proofs.YtgnfbhemkombaaaDoor
inductive Tr where
  | node (k i : Int) (ks : List Tr)
instance : Inhabited Tr := ⟨.node 0 0 []⟩
def Tr.k : Tr → Int | .node k _ _ => k
def Tr.i : Tr → Int | .node _ i _ => i
def Tr.ks : Tr → List Tr | .node _ _ ks => ks
theorem Tr.eta (t : Tr) : t = .node t.k t.i t.ks := by cases t; rfl
mutual
def Tr.sz : Tr → Nat
  | .node _ _ ks => 1 + szL ks
def szL : List Tr → Nat
  | [] => 0
  | t :: r => t.sz + szL r
end
mutual
def Tr.dp : Tr → Nat
  | .node _ _ ks => 1 + dpL ks
def dpL : List Tr → Nat
  | [] => 0
  | t :: r => max t.dp (dpL r)
end
theorem sz_eq (t : Tr) : t.sz = 1 + szL t.ks := by cases t; simp [Tr.sz, Tr.ks]
theorem dp_eq (t : Tr) : t.dp = 1 + dpL t.ks := by cases t; simp [Tr.dp, Tr.ks]
theorem szL_append (a b : List Tr) : szL (a ++ b) = szL a + szL b := by
  induction a with
  | nil => simp [szL]
  | cons x a ih => simp [szL, ih]; omega
theorem dpL_append (a b : List Tr) : dpL (a ++ b) = max (dpL a) (dpL b) := by
  induction a with
  | nil => simp [dpL]
  | cons x a ih => simp only [List.cons_append, dpL, ih]; omega
theorem szL_take (ks : List Tr) (m : Nat) (h : m < ks.length) : szL (ks.take (m + 1)) = szL (ks.take m) + ks[m].sz := by
  rw [List.take_succ_eq_append_getElem h, szL_append]; simp [szL]
theorem dpL_take (ks : List Tr) (m : Nat) (h : m < ks.length) : dpL (ks.take (m + 1)) = max (dpL (ks.take m)) ks[m].dp := by
  rw [List.take_succ_eq_append_getElem h, dpL_append]; simp [dpL]
theorem szL_take_le (ks : List Tr) (m : Nat) : szL (ks.take m) ≤ szL ks := by
  conv => rhs; rw [← List.take_append_drop m ks, szL_append]
  omega
theorem dpL_take_le (ks : List Tr) (m : Nat) : dpL (ks.take m) ≤ dpL ks := by
  conv => rhs; rw [← List.take_append_drop m ks, dpL_append]
  omega
theorem sz_pos (t : Tr) : 1 ≤ t.sz := by rw [sz_eq]; omega
theorem dp_pos (t : Tr) : 1 ≤ t.dp := by rw [dp_eq]; omega
theorem kid_sz (t : Tr) (m : Nat) (h : m < t.ks.length) : t.ks[m].sz < t.sz := by
  rw [sz_eq t]
  have := szL_take t.ks m h
  have := szL_take_le t.ks (m + 1)
  omega
theorem kid_dp (t : Tr) (m : Nat) (h : m < t.ks.length) : t.ks[m].dp < t.dp := by
  rw [dp_eq t]
  have := dpL_take t.ks m h
  have := dpL_take_le t.ks (m + 1)
  omega
mutual
theorem dp_le_sz : (t : Tr) → t.dp ≤ t.sz
  | .node _ _ ks => by simp only [Tr.dp, Tr.sz]; have := dpL_le_szL ks; omega
theorem dpL_le_szL : (l : List Tr) → dpL l ≤ szL l
  | [] => by simp [dpL]
  | t :: r => by simp only [dpL, szL]; have := dp_le_sz t; have := dpL_le_szL r; omega
end
theorem len_le_szL (l : List Tr) : l.length ≤ szL l := by
  induction l with
  | nil => simp
  | cons t r ih => simp only [szL, List.length_cons]; have := sz_pos t; omega
/-- induction over the kids -/
theorem Tr.ind {p : Tr → Prop} (h : ∀ t : Tr, (∀ q, q ∈ t.ks → p q) → p t) (t : Tr) : p t := by
  have : ∀ n (t : Tr), t.sz ≤ n → p t := by
    intro n
    induction n with
    | zero => intro t ht; have := sz_pos t; omega
    | succ n ih =>
      intro t ht
      refine h t fun q hq => ih q ?_
      obtain ⟨m, hm, rfl⟩ := List.getElem_of_mem hq
      have := kid_sz t m hm
      omega
  exact this _ t (Nat.le_refl _)
/-! ### the nodes, each ahead of its kids, with its depth -/
mutual
def Tr.pre (d : Nat) : Tr → List (Nat × Tr)
  | .node k i ks => (d, .node k i ks) :: preL (d + 1) ks
def preL (d : Nat) : List Tr → List (Nat × Tr)
  | [] => []
  | t :: r => t.pre d ++ preL d r
end
theorem pre_eq (d : Nat) (t : Tr) : t.pre d = (d, t) :: preL (d + 1) t.ks := by cases t; simp [Tr.pre, Tr.ks]
theorem preL_append (d : Nat) (a b : List Tr) : preL d (a ++ b) = preL d a ++ preL d b := by
  induction a with
  | nil => simp [preL]
  | cons x a ih => simp [preL, ih]
theorem preL_take (d : Nat) (ks : List Tr) (m : Nat) (h : m < ks.length) : preL d (ks.take (m + 1)) = preL d (ks.take m) ++ ks[m].pre d := by
  rw [List.take_succ_eq_append_getElem h, preL_append]; simp [preL]
mutual
theorem pre_len (d : Nat) : (t : Tr) → (t.pre d).length = t.sz
  | .node _ _ ks => by simp only [Tr.pre, Tr.sz, List.length_cons]; have := preL_len (d + 1) ks; omega
theorem preL_len (d : Nat) : (l : List Tr) → (preL d l).length = szL l
  | [] => by simp [preL, szL]
  | t :: r => by simp only [preL, szL, List.length_append]; have := pre_len d t; have := preL_len d r; omega
end
/-- the greatest depth among some -/
def deepest (l : List (Nat × Tr)) : Nat := l.foldl (fun s x => max s x.1) 0
theorem deepest_snoc (l : List (Nat × Tr)) (x : Nat × Tr) : deepest (l ++ [x]) = max (deepest l) x.1 := by simp [deepest]
theorem foldl_max (l : List (Nat × Tr)) : ∀ s, l.foldl (fun s x => max s x.1) s = max s (deepest l) := by
  induction l with
  | nil => intro s; simp [deepest]
  | cons a l ih => intro s; simp only [deepest, List.foldl_cons]; rw [ih, ih (max 0 a.1)]; omega
theorem deepest_append (a b : List (Nat × Tr)) : deepest (a ++ b) = max (deepest a) (deepest b) := by
  simp only [deepest, List.foldl_append]; rw [foldl_max b]; rfl
mutual
theorem pre_deepest (d : Nat) : (t : Tr) → deepest (t.pre d) + 1 = d + t.dp
  | .node k i ks => by
    have := preL_deepest (d + 1) ks
    have e : deepest ((d, Tr.node k i ks) :: preL (d + 1) ks) = max d (deepest (preL (d + 1) ks)) := by
      have := deepest_append [(d, Tr.node k i ks)] (preL (d + 1) ks)
      simpa [deepest] using this
    simp only [Tr.pre, Tr.dp, e]
    rcases this with ⟨h1, h2⟩ | h2 <;> omega
theorem preL_deepest (d : Nat) : (l : List Tr) → (dpL l = 0 ∧ deepest (preL d l) = 0) ∨ (1 ≤ dpL l ∧ deepest (preL d l) + 1 = d + dpL l)
  | [] => .inl (by simp [preL, dpL, deepest])
  | t :: r => by
    have h1 := pre_deepest d t
    have h2 := preL_deepest d r
    have := dp_pos t
    refine .inr ?_
    simp only [preL, dpL, deepest_append]
    rcases h2 with ⟨a, b⟩ | ⟨a, b⟩ <;> omega
end
theorem deepest_pre (t : Tr) : deepest (t.pre 1) = t.dp := by have := pre_deepest 1 t; omega
/-- the depth of the node at a place is no more than its place says -/
def InStep (d : Nat) (l : List (Nat × Tr)) : Prop := ∀ (p : List (Nat × Tr)) x (q : List (Nat × Tr)), l = p ++ x :: q → x.1 ≤ d + p.length
mutual
theorem pre_step (d : Nat) : (t : Tr) → InStep d (t.pre d)
  | .node k i ks => by
    intro p x q h
    simp only [Tr.pre] at h
    cases p with
    | nil => simp at h; rw [← h.1]; simp
    | cons y p =>
      simp at h
      have := preL_step (d + 1) ks p x q h.2
      simp; omega
theorem preL_step (d : Nat) : (l : List Tr) → InStep d (preL d l)
  | [] => by intro p x q h; simp [preL] at h
  | t :: r => by
    intro p x q h
    simp only [preL] at h
    rw [List.append_eq_append_iff] at h
    rcases h with ⟨c, h1, h2⟩ | ⟨c, h1, h2⟩
    · have := preL_step d r c x q h2
      rw [h1]; simp; omega
    · cases c with
      | nil =>
        simp at h2
        have := preL_step d r [] x q (by simpa using h2.symm)
        simp at this; omega
      | cons y c =>
        simp at h2
        have := pre_step d t p x c (by rw [h1, h2.1])
        exact this
end
end Go.Proofs.YtgnfbhemkombaaaDoor
