/- The document's Bytes and Encode. -/
import Derived.Test.YtfleomamhkeiiaaE9
import Derived.Test.YtfleomamhkeiiaaT4
import Derived.Test.YtfleomamhkeiiaaW9
namespace Go.Proofs.Ytfleomamhkeiiaa
open Go.RowKit
theorem grown_keep {w w' : World} (h : Below w.heap.size w w') : w.grownBy w' none := ⟨h.os, h.tape, h.output, h.size, fun i hi _ => h.block i hi⟩
theorem own_keep {w w' : World} {B : Nat} {t : TypeId} {v : Value} {n : Nat} {xs : List Value} (h : w.ownsRow B t 1 v n xs) (hb : Below w.heap.size w w') : w'.ownsRow B t 1 v n xs :=
  h.kept (grown_keep hb) (by
    cases e : v.ownBlock with
    | none => exact .inl rfl
    | some g => exact .inr (by simp))
theorem addr_add0 (g j : Nat) : (⟨g, 0, none⟩ : Addr).add j = ⟨g, j, none⟩ := by
  unfold Addr.add
  split
  · simp_all
  · simp
theorem own_mono {w : World} {B B' : Nat} {t : TypeId} {v : Value} {n : Nat} {xs : List Value} (h : w.ownsRow B t 1 v n xs) (hb : B' ≤ B) : w.ownsRow B' t 1 v n xs := by
  obtain ⟨h0, h1⟩ := h
  refine ⟨h0, h1.imp id ?_⟩
  rintro ⟨g, cap, cur, e, hB, r⟩
  exact ⟨g, cap, cur, e, by omega, r⟩
/-- bytes that are owned, and not none: where they lie -/
theorem own_at {w : World} {B : Nat} {v : Value} {l : List Nat} (h : w.ownsRow B 5 1 v l.length (bcells l)) (h0 : 1 ≤ l.length) :
    ∃ g cap, v = .slice (some ⟨g, 0, none⟩) l.length cap ∧ B ≤ g ∧ g < w.heap.size ∧ ∀ j u, (bcells l)[j]? = some u → w.cell? ((⟨g, 0, none⟩ : Addr).add j) = some u := by
  rcases own_form h with ⟨_, e⟩ | ⟨g, cap, rfl, hB, hn, hm, hc⟩
  · omega
  · refine ⟨g, cap, rfl, hB, (h.lt g rfl).2, fun j u hj => ?_⟩
    have hl : j < l.length := by
      have := (List.getElem?_eq_some_iff.1 hj).1
      simpa [bcells] using this
    have := hc j hl
    rw [hj] at this
    rw [← this, addr_add0]
theorem bcells_one (l : List Nat) : ∀ u ∈ bcells l, u.oneCell' = true := by
  intro u hu
  simp only [bcells, List.mem_map] at hu
  obtain ⟨n, _, rfl⟩ := hu
  rfl
theorem bcells_len (l : List Nat) : (bcells l).length = l.length * 1 := by simp [bcells]
theorem U64_head (t : Tr) (h : HeadOk t) : U64 (headN t) := by
  have := (head_of t h).2
  unfold U64
  omega
end Go.Proofs.Ytfleomamhkeiiaa
