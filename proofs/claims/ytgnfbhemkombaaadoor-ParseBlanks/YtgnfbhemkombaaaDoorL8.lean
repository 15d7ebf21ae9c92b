/- The law ParseTokens, walked. -/
import Derived.Test.YtgnfbhemkombaaaDoorP8
namespace Go.Proofs.YtgnfbhemkombaaaDoor
open Go.RowKit
set_option linter.unusedVariables false
/-- the slice of a row that is owned, and what its cells are -/
theorem tok_rows {w : World} {B : Nat} {v : Value} {l : List Tok} (h : w.ownsRow B 37 3 v l.length (tokC l)) : ∃ A c, v = .slice A l.length c ∧ ∀ m (hm : m < l.length), ∃ g, A = some ⟨g, 0, none⟩ ∧ l.length ≤ c ∧ g < w.heap.size ∧ w.cell? ⟨g, m * 3, none⟩ = some (.int .i64 (l[m].k : Int)) ∧ w.cell? ⟨g, m * 3 + 1, none⟩ = some (.int .i64 (l[m].n : Int)) ∧ w.cell? ⟨g, m * 3 + 2, none⟩ = some (.int .i64 (l[m].p : Int)) := by
  rcases h.2 with ⟨rfl, h0⟩ | ⟨g, cap, cur, rfl, hb, hc, hcap, h3⟩
  · exact ⟨none, 0, by rw [h0], fun m hm => by omega⟩
  · refine ⟨_, cap, rfl, fun m hm => ?_⟩
    obtain ⟨r0, r1, r2⟩ := tokC_get l m hm
    exact ⟨g, rfl, hcap, (Array.getElem?_eq_some_iff.1 hc).1, by rw [h.cellAt (m * 3) (by omega), r0], by rw [h.cellAt (m * 3 + 1) (by omega), r1], by rw [h.cellAt (m * 3 + 2) (by omega), r2]⟩
/-- a list of tokens in memory -/
def IsToks (w : World) (A : Option Addr) (c : Nat) (l : List Tok) : Prop :=
  ∀ m (hm : m < l.length), ∃ g, A = some ⟨g, 0, none⟩ ∧ l.length ≤ c ∧ g < w.heap.size ∧ w.cell? ⟨g, m * 3, none⟩ = some (.int .i64 (l[m].k : Int)) ∧ w.cell? ⟨g, m * 3 + 1, none⟩ = some (.int .i64 (l[m].n : Int)) ∧ w.cell? ⟨g, m * 3 + 2, none⟩ = some (.int .i64 (l[m].p : Int))
theorem IsToks.keep {w w' : World} {A : Option Addr} {c : Nat} {l : List Tok} (h : IsToks w A c l) (hb : Below w.heap.size w w') : IsToks w' A c l := fun m hm => by
  obtain ⟨g, e, h1, h2, h3, h4, h5⟩ := h m hm
  exact ⟨g, e, h1, Nat.lt_of_lt_of_le h2 hb.size, (hb.cell h2).trans h3, (hb.cell h2).trans h4, (hb.cell h2).trans h5⟩
theorem IsToks.nil (w : World) (A : Option Addr) (c : Nat) : IsToks w A c [] := fun m hm => absurd hm (by simp)
theorem own_len {w : World} {B : Nat} {v : Value} {l : List Tok} (h : w.ownsRow B 37 3 v l.length (tokC l)) : l.length ≤ maxLen := by
  rcases h.2 with ⟨_, h0⟩ | ⟨g, cap, cur, _, _, _, hcap, hm, _⟩
  · rw [h0]; exact Nat.zero_le _
  · omega
end Go.Proofs.YtgnfbhemkombaaaDoor
