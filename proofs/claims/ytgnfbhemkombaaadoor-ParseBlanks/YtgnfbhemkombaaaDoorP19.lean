/- read of package parse, by any rule that reads as a function of the tokens. -/
import Derived.Test.YtgnfbhemkombaaaDoorP18
namespace Go.Proofs.YtgnfbhemkombaaaDoor
open Go.RowKit
set_option linter.unusedVariables false
theorem lexN_len : ∀ (k : Nat) (i : Nat) (b : List Nat) (l : List Tok), b.length ≤ k → lexN i b = .ok l → l.length ≤ b.length := by
  intro k
  induction k with
  | zero =>
    intro i b l hk h
    have : b = [] := List.length_eq_zero_iff.1 (by omega)
    subst this
    rw [lexN_nil] at h
    cases h
    simp
  | succ k ih =>
    intro i b l hk h
    cases b with
    | nil => rw [lexN_nil] at h; cases h; simp
    | cons c r =>
      simp only [List.length_cons] at hk ⊢
      cases hs : stepN c r with
      | blank => rw [lexN_blank hs] at h; have := ih _ _ _ (by omega) h; omega
      | err e => rw [lexN_err hs] at h; cases h
      | tok kk n z =>
        rw [lexN_tok hs] at h
        cases hq : lexN (i + 1 + z) (r.drop z) with
        | bad a b => rw [hq] at h; cases h
        | ok l' =>
          rw [hq] at h
          cases h
          have := ih _ _ _ (by rw [List.length_drop]; omega) hq
          rw [List.length_drop] at this
          simp only [List.length_append, List.length_cons, List.length_nil]
          omega
theorem lexAll_len {b : List Nat} {l : List Tok} (h : lexAll b = .ok l) : l.length ≤ 8000 := by
  unfold lexAll at h
  by_cases hb : 8000 < b.length
  · rw [if_pos hb] at h; cases h
  · rw [if_neg hb] at h
    have := lexN_len _ _ _ _ (Nat.le_refl _) h
    omega
/-- what a whole text is read as: a tree, or an error and its place -/
inductive WR where
  | ok (t : Tr)
  | bad (code place : Nat)
def wholeR (p : List Tok → PR) (len : Nat) : LexR → WR
  | .bad c i => .bad c i
  | .ok l => match p l with
    | .bad r' => .bad 32 (placeN len r')
    | .ok t r' => if r' = [] then (if excN t.sz (1 + dpL t.ks) = 0 then .ok t else .bad (excN t.sz (1 + dpL t.ks)) 0) else .bad 32 (placeN len r')
def WholeP (w : World) (r : WR) (e : Ending) (w' : World) : Prop :=
  Below w.heap.size w w' ∧ match r with
    | .ok t => ∃ A c, e = .returned (.agg #[.int .i64 t.k, .int .i64 t.i, .slice A t.ks.length c]) ∧ OwnT w' w.heap.size w'.heap.size t A c
    | .bad c i => e = raised c i
/-- the reader laid anew -/
theorem Rdr.start {w w2 : World} {B : Nat} {v : Value} {l : List Tok} {sl : Nat} (h : w2.ownsRow B 37 3 v l.length (tokC l)) :
    ∃ A c, v = .slice A l.length c ∧ Rdr (w2.alloc (.cells #[.slice A l.length c, .int .i64 0, .int .i64 (sl : Int), .int .i64 0, .int .i64 0] 101)) w2.heap.size A c l l sl 0 0 := by
  obtain ⟨A, c, rfl, hT⟩ := tok_rows h
  have hT : IsToks w2 A c l := hT
  have hob := h.lt
  refine ⟨A, c, rfl, ⟨?_, hT.keep ((Below.refl _ _).alloc (Nat.le_refl _) _), ?_, List.suffix_refl _⟩⟩
  · rw [World.alloc_heap_new]
    simp
  · intro g e
    subst e
    rcases h.2 with ⟨e0, _⟩ | ⟨g', cap, cur, e0, _, hc, _⟩
    · cases e0
    · cases e0
      have := (Array.getElem?_eq_some_iff.1 hc).1
      omega
end Go.Proofs.YtgnfbhemkombaaaDoor
