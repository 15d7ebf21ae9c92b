/- distinct of layer 6's laws. -/
import Derived.Test.YtmmdhlemkcddmaaI20
namespace Go.Proofs.Ytmmdhlemkcddmaa
open Go.RowKit
set_option linter.unusedVariables false
set_option linter.unusedSimpArgs false
theorem IsEs.isT {w0 : World} {B : Nat} {wr : World} {lo : Nat} {ts : List Tr} {A : Option Addr} {c : Nat} {cs : List (Option Addr × Nat)} (h : IsEs w0 B wr lo ts A c cs) (hb : Below B w0 wr) (hB : B ≤ wr.heap.size) (hc : ts.length ≤ 100000) : IsT wr wr.heap.size (.node 0 0 ts) A c := by
  have hl := h.len
  refine IsT.mk ?_ (by show Cap ts.length; unfold Cap; omega) (fun m hm => ?_)
  · show ts.length ≤ c
    rcases h.own.2 with ⟨e, h0⟩ | ⟨g, cap, cur, e, _, _, hc', _⟩
    · omega
    · cases e; exact hc'
  · have hm' : m < ts.length := hm
    show KidAt wr wr.heap.size A m ts[m]
    have own := h.own
    obtain ⟨g, cap, hv, hg1, hg2⟩ := own.form (by omega)
    cases hv
    obtain ⟨r0, r1, r2⟩ := rowC_get ts cs m hm' hl
    refine ⟨g, 0, (cs[m]'(by omega)).1, (cs[m]'(by omega)).2, rfl, hg2, ?_, ?_, ?_, IsT.keep hb hB _ (h.tree m hm')⟩
    · rw [Nat.zero_add, own.cellAt (m * 3) (by omega), r0]
    · rw [Nat.zero_add, own.cellAt (m * 3 + 1) (by omega), r1]
    · rw [Nat.zero_add, own.cellAt (m * 3 + 2) (by omega), r2]
theorem IsEs.grown {w0 : World} {B : Nat} {wr wx : World} {lo : Nat} {ts : List Tr} {A : Option Addr} {c : Nat} {cs : List (Option Addr × Nat)} {row : Option Nat} (h : IsEs w0 B wr lo ts A c cs) (hg : wr.grownBy wx row) (hn : ∀ g, row = some g → (Value.slice A ts.length c).ownBlock ≠ some g) : IsEs w0 B wx lo ts A c cs := by
  have hlt := h.own.lt
  refine ⟨h.len, ?_, h.tree⟩
  obtain ⟨h1, h2⟩ := h.own
  refine ⟨h1, ?_⟩
  rcases h2 with h2 | ⟨g, cap, cur, e, hb, hc, h3⟩
  · exact .inl h2
  · refine .inr ⟨g, cap, cur, e, hb, (hg.block g (hlt g (by rw [e]; rfl)).2 (fun e2 => hn g e2.symm (by rw [e]; rfl))).trans hc, h3⟩
theorem uniq_app : ∀ (a all b : List Tr), uniq all (a ++ b) = uniq (uniq all a) b
  | [], all, b => by simp [uniq]
  | k :: a, all, b => by
    simp only [List.cons_append, uniq]
    split
    · exact uniq_app a all b
    · exact uniq_app a _ b
theorem uniq_len : ∀ (a all : List Tr), (uniq all a).length ≤ all.length + a.length
  | [], all => by simp [uniq]
  | k :: a, all => by
    simp only [uniq]
    split
    · have := uniq_len a all; simp; omega
    · have := uniq_len a (all ++ [k]); simp at *; omega
/-- one more, if it is new -/
theorem uniq_one (all : List Tr) (q : Tr) : uniq all [q] = if num all q = 0 then all ++ [q] else all := by
  simp only [uniq]
  by_cases h : q ∈ all
  · rw [if_pos h, if_neg (num_mem.2 h)]
  · rw [if_neg h, if_pos (num_zero.2 h)]
def distL (l : List Tr) : List Tr := uniq [] (l.flatMap partsT)
end Go.Proofs.Ytmmdhlemkcddmaa
