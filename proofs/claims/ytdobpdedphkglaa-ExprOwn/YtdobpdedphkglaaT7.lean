/- A tree with another part at a path. -/
import Derived.Test.YtdobpdedphkglaaT6
namespace Go.Proofs.Ytdobpdedphkglaa
def putAt (x : Tr) : Tr → List Int → Tr
  | _, [] => x
  | t, i :: r => if h : 0 ≤ i ∧ i.toNat < t.ks.length then .node t.k t.i (t.ks.set i.toNat (putAt x t.ks[i.toNat] r)) else t
theorem putAt_nil (x t : Tr) : putAt x t [] = x := by unfold putAt; rfl
theorem putAt_in (x t : Tr) (m : Nat) (r : List Int) (h : m < t.ks.length) : putAt x t ((m : Int) :: r) = .node t.k t.i (t.ks.set m (putAt x t.ks[m] r)) := by
  rw [putAt, dif_pos ⟨by omega, by simpa using h⟩]; rfl
theorem partAt_some {t : Tr} {i : Int} {r : List Int} {q : Tr} (h : partAt t (i :: r) = some q) : ∃ m : Nat, i = (m : Int) ∧ ∃ hm : m < t.ks.length, partAt t.ks[m] r = some q := by
  by_cases hi : 0 ≤ i ∧ i.toNat < t.ks.length
  · rw [partAt_in t i r hi.1 hi.2] at h
    exact ⟨i.toNat, by omega, hi.2, h⟩
  · rw [partAt_out t i r hi] at h; cases h
end Go.Proofs.Ytdobpdedphkglaa
