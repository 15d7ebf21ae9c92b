/- The bytes of a tree. -/
import Derived.Test.YtfleomamhkeiiaaT2
import Derived.Test.YtfleomamhkeiiaaMath3
namespace Go.Proofs.Ytfleomamhkeiiaa
def headN (t : Tr) : Nat := (t.k * 16777216 + t.i * 256 + (t.ks.length : Int)).toNat
mutual
def Tr.enc : Tr → List Nat
  | .node k i ks => putN (headN (.node k i ks)) ++ encL ks
def encL : List Tr → List Nat
  | [] => []
  | t :: r => t.enc ++ encL r
end
theorem enc_eq (t : Tr) : t.enc = putN (headN t) ++ encL t.ks := by cases t; simp [Tr.enc, Tr.ks]
theorem encL_append (a b : List Tr) : encL (a ++ b) = encL a ++ encL b := by
  induction a with
  | nil => simp [encL]
  | cons x r ih => simp [encL, ih]
theorem encL_take (ks : List Tr) (m : Nat) (h : m < ks.length) : encL (ks.take (m + 1)) = encL (ks.take m) ++ ks[m].enc := by
  rw [List.take_succ_eq_append_getElem h, encL_append]; simp [encL]
mutual
theorem enc_len : (t : Tr) → 1 ≤ t.enc.length ∧ t.enc.length ≤ 10 * t.sz
  | .node k i ks => by
    have h1 := putN_len (headN (.node k i ks))
    have h2 := encL_len ks
    rw [enc_eq, sz_eq]
    simp only [List.length_append, Tr.ks]
    omega
theorem encL_len : (l : List Tr) → (encL l).length ≤ 10 * szL l
  | [] => by simp [encL]
  | t :: r => by
    have h1 := enc_len t
    have h2 := encL_len r
    simp only [encL, szL, List.length_append]
    omega
end
theorem encL_take_len (ks : List Tr) (m : Nat) : (encL (ks.take m)).length ≤ 10 * szL ks := Nat.le_trans (encL_len _) (Nat.mul_le_mul_left _ (szL_take_le ks m))
def encOf (l : List (Nat × Tr)) : List Nat := l.flatMap fun x => putN (headN x.2)
theorem encOf_snoc (l : List (Nat × Tr)) (x : Nat × Tr) : encOf (l ++ [x]) = encOf l ++ putN (headN x.2) := by simp [encOf]
theorem encOf_append (a b : List (Nat × Tr)) : encOf (a ++ b) = encOf a ++ encOf b := by simp [encOf]
theorem encOf_len (l : List (Nat × Tr)) : (encOf l).length ≤ 10 * l.length := by
  induction l with
  | nil => simp [encOf]
  | cons x r ih =>
    have := (putN_len (headN x.2)).2
    rw [show x :: r = [x] ++ r from rfl, encOf_append]
    simp only [List.length_append, List.length_cons, List.length_nil]
    have e : encOf [x] = putN (headN x.2) := by simp [encOf]
    rw [e]; omega
mutual
theorem encOf_pre (d : Nat) : (t : Tr) → encOf (t.pre d) = t.enc
  | .node k i ks => by
    rw [pre_eq, enc_eq, show (d, Tr.node k i ks) :: preL (d + 1) (Tr.node k i ks).ks = [(d, Tr.node k i ks)] ++ preL (d + 1) (Tr.node k i ks).ks from rfl, encOf_append]
    simp only [Tr.ks]
    rw [encOf_preL (d + 1) ks]
    simp [encOf]
theorem encOf_preL (d : Nat) : (l : List Tr) → encOf (preL d l) = encL l
  | [] => by simp [encOf, preL, encL]
  | t :: r => by
    rw [preL, encOf_append, encOf_pre d t, encOf_preL d r, encL]
end
/-- what is shaped has a head, and its kids are shaped -/
theorem shp_kid (t : Tr) (h : t.shp = true) (m : Nat) (hm : m < t.ks.length) : t.ks[m].shp = true := by
  rw [shp_eq, shpL_all] at h
  simp only [Bool.and_eq_true, List.all_eq_true] at h
  exact (h.2 _ (List.getElem_mem hm)).2
def HeadOk (t : Tr) : Prop := (0 ≤ t.k ∧ t.k ≤ 255) ∧ (0 ≤ t.i ∧ t.i ≤ 65535) ∧ (0 ≤ (t.ks.length : Int) ∧ (t.ks.length : Int) ≤ 255)
theorem head_of (t : Tr) (h : HeadOk t) : t.k * 16777216 + t.i * 256 + (t.ks.length : Int) = ((headN t : Nat) : Int) ∧ headN t < 4294967296 := by
  obtain ⟨h1, h2, h3⟩ := h
  unfold headN
  omega
theorem headOk_shp (t : Tr) (h : t.shp = true) : HeadOk t := by
  have := kind_of_shp t h
  refine ⟨?_, ?_, ?_⟩ <;> omega
instance (t : Tr) : Decidable (HeadOk t) := by unfold HeadOk; infer_instance
/-- the number that Pack answers, whatever it is asked -/
def headE (t : Tr) : Nat := if HeadOk t then headN t else 0
def encE (l : List (Nat × Tr)) : List Nat := l.flatMap fun x => putN (headE x.2)
theorem encE_snoc (l : List (Nat × Tr)) (x : Nat × Tr) : encE (l ++ [x]) = encE l ++ putN (headE x.2) := by simp [encE]
theorem encE_append (a b : List (Nat × Tr)) : encE (a ++ b) = encE a ++ encE b := by simp [encE]
theorem encE_len (l : List (Nat × Tr)) : (encE l).length ≤ 10 * l.length := by
  induction l with
  | nil => simp [encE]
  | cons x r ih =>
    have := (putN_len (headE x.2)).2
    rw [show x :: r = [x] ++ r from rfl, encE_append]
    simp only [List.length_append, List.length_cons, List.length_nil]
    have e : encE [x] = putN (headE x.2) := by simp [encE]
    rw [e]; omega
theorem headE_lt (t : Tr) : headE t < 4294967296 := by
  unfold headE
  split
  · exact (head_of t ‹_›).2
  · decide
mutual
theorem encE_pre (d : Nat) : (t : Tr) → t.shp = true → encE (t.pre d) = t.enc
  | .node k i ks, h => by
    rw [pre_eq, enc_eq, show (d, Tr.node k i ks) :: preL (d + 1) (Tr.node k i ks).ks = [(d, Tr.node k i ks)] ++ preL (d + 1) (Tr.node k i ks).ks from rfl, encE_append]
    simp only [Tr.ks]
    have hk : ∀ q, q ∈ ks → q.shp = true := fun q hq => by
      obtain ⟨m, hm, rfl⟩ := List.getElem_of_mem hq
      exact shp_kid (.node k i ks) h m hm
    rw [encE_preL (d + 1) ks hk]
    simp [encE, headE, headOk_shp _ h]
theorem encE_preL (d : Nat) : (l : List Tr) → (∀ q, q ∈ l → q.shp = true) → encE (preL d l) = encL l
  | [], _ => by simp [encE, preL, encL]
  | t :: r, h => by
    rw [preL, encE_append, encE_pre d t (h t (by simp)), encE_preL d r (fun q hq => h q (by simp [hq])), encL]
end
end Go.Proofs.Ytfleomamhkeiiaa
