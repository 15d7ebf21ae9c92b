/- The law ExprBytes, walked. -/
import Derived.Test.YtdobpdedphkglaaE15
namespace Go.Proofs.Ytdobpdedphkglaa
open Go.RowKit
theorem rd_own {w : World} {B : Nat} {v : Value} {l : List Nat} (h : w.ownsRow B 5 1 v l.length (bcells l)) : ∃ A c, v = .slice A l.length c ∧ Rd .u8 w w.heap.size A (bcast l) := by
  rcases own_form h with ⟨rfl, e⟩ | ⟨g, cap, rfl, _, _, _, hc⟩
  · have : l = [] := List.eq_nil_of_length_eq_zero e
    subst this
    exact ⟨none, 0, rfl, Rd.nil _ _ _ _⟩
  · refine ⟨_, cap, rfl, fun j hj => ⟨_, rfl, (h.lt g rfl).2, ?_⟩⟩
    rw [bcast_len] at hj
    rw [addr_add0, hc j hj, bcast_get]
    simp [bcells, List.getElem?_map, List.getElem?_eq_getElem hj, List.getD_eq_getElem?_getD]
end Go.Proofs.Ytdobpdedphkglaa
