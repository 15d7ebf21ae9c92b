/- The document's Find of layer 6: where a tree stands in a list. -/
import Derived.Test.YtjdhmfpkhijkeaaI18
import Derived.Test.YtjdhmfpkhijkeaaLK
import Derived.Test.YtjdhmfpkhijkeaaE6
namespace Go.Proofs.Ytjdhmfpkhijkeaa
open Go.RowKit
set_option linter.unusedVariables false
set_option linter.unusedSimpArgs false
theorem likeB_iff (a b : Tr) : likeB a b = true ↔ a = b := by unfold likeB; rw [decide_eq_true_iff]; exact cmpT_zero a b
theorem num_first {L : List Tr} {e : Tr} {m : Nat} (hm : m < L.length) (h : L[m] = e) (hn : ∀ j (hj : j < m), L[j]'(by omega) ≠ e) : num L e = m + 1 := by
  have hmem : e ∈ L := h ▸ List.getElem_mem hm
  unfold num
  rw [if_pos hmem]
  have h1 : L.idxOf e < L.length := List.idxOf_lt_length_of_mem hmem
  have h2 : L[L.idxOf e] = e := by simp
  rcases Nat.lt_trichotomy (L.idxOf e) m with h4 | h4 | h4
  · exact absurd h2 (hn _ h4)
  · omega
  · exfalso
    have := List.not_of_lt_findIdx (p := (· == e)) (xs := L) (i := m) (by simpa [List.idxOf] using h4)
    simp [h] at this
end Go.Proofs.Ytjdhmfpkhijkeaa
