/- The part of a tree at a path, and a tree with another part there. -/
import Derived.Test.YtgnfbhemkombaaaGreatT2
namespace Go.Proofs.YtgnfbhemkombaaaGreat
def partAt : Tr → List Int → Option Tr
  | t, [] => some t
  | t, i :: r => if h : 0 ≤ i ∧ i.toNat < t.ks.length then partAt t.ks[i.toNat] r else none
theorem partAt_nil (t : Tr) : partAt t [] = some t := by unfold partAt; rfl
theorem partAt_out (t : Tr) (i : Int) (r : List Int) (h : ¬ (0 ≤ i ∧ i.toNat < t.ks.length)) : partAt t (i :: r) = none := by rw [partAt, dif_neg h]
theorem partAt_in (t : Tr) (i : Int) (r : List Int) (h0 : 0 ≤ i) (h : i.toNat < t.ks.length) : partAt t (i :: r) = partAt t.ks[i.toNat] r := by rw [partAt, dif_pos ⟨h0, h⟩]
theorem partAt_sz (zs : List Int) : ∀ (t q : Tr), partAt t zs = some q → q.sz ≤ t.sz := by
  induction zs with
  | nil => intro t q h; rw [partAt_nil] at h; cases h; exact Nat.le_refl _
  | cons i r ih =>
    intro t q h
    by_cases hi : 0 ≤ i ∧ i.toNat < t.ks.length
    · rw [partAt_in t i r hi.1 hi.2] at h
      have := ih _ _ h
      have := kid_sz t i.toNat hi.2
      omega
    · rw [partAt_out t i r hi] at h; cases h
end Go.Proofs.YtgnfbhemkombaaaGreat
