/- Encode of package expr, and the document's. -/
import Derived.Test.YtdobpdedphkglaaE13
import Derived.Test.YtdobpdedphkglaaR1
namespace Go.Proofs.Ytdobpdedphkglaa
open Go.RowKit Go.Shelf
attribute [local go_sem] Oper.semAt_some
theorem KB.grown {B hi : Nat} {W W' : World} {row : Option Nat} (hg : W.grownBy W' row) (hB : B ≤ W.heap.size) (hrow : ∀ k, row = some k → B ≤ k ∧ ∃ cs e, W.heap[k]? = some (.cells cs e (0, 0)) ∧ e ≠ 24) : KB B hi W W' :=
  ⟨(Below.refl _ _).grown hg hB (fun k hk => (hrow k hk).1), fun k cs _ h0 => by
    refine (hg.block k (Array.getElem?_eq_some_iff.1 h0).1 (fun e => ?_)).trans h0
    obtain ⟨_, cs', e', h1, hne⟩ := hrow k e.symm
    rw [h1] at h0
    cases h0
    exact hne rfl⟩
theorem own_row {w : World} {B : Nat} {e : TypeId} {v : Value} {n : Nat} {xs : List Value} (h : w.ownsRow B e 1 v n xs) : ∀ k, v.ownBlock = some k → B ≤ k ∧ ∃ cs, w.heap[k]? = some (.cells cs e (0, 0)) := by
  intro k hk
  rcases h.2 with ⟨rfl, _⟩ | ⟨g, cap, cur, rfl, hB, hh, _⟩
  · cases hk
  · simp [Value.ownBlock] at hk
    subst hk
    exact ⟨hB, cur, hh⟩
/-- what Encode answers: the bytes, in new memory, or none, and the fault -/
def EncPost (w : World) (t : Tr) (e : Ending) (w' : World) : Prop :=
  ∃ v l, e = .returned (.tuple #[v, .int .i64 (rightN t : Nat)]) ∧ l = (if rightN t = 0 then t.enc else []) ∧ w'.ownsRow w.heap.size 5 1 v l.length (bcells l) ∧ Below w.heap.size w w'
theorem right_zero (t : Tr) (h : rightN t = 0) : t.sz ≤ 1000 ∧ t.shp = true := by
  have := (ok_iff t).2 h
  simp only [okT, Bool.and_eq_true, decide_eq_true_eq] at this
  exact ⟨this.1.1, this.2⟩
theorem ret_v2 {v : Value} {a b : Int} (h : a = b) : Ending.returned (.tuple #[v, .int .i64 a]) = .returned (.tuple #[v, .int .i64 b]) := by rw [h]
end Go.Proofs.Ytdobpdedphkglaa
