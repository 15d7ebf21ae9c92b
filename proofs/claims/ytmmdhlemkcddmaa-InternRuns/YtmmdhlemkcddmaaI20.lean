/- The document's Parts. -/
import Derived.Test.YtmmdhlemkcddmaaI19
import Derived.Test.YtmmdhlemkcddmaaE6
import Derived.Deep.WholeRow
import Derived.Deep.AppendLies
namespace Go.Proofs.Ytmmdhlemkcddmaa
open Go.RowKit
set_option linter.unusedVariables false
set_option linter.unusedSimpArgs false
/-- a list of expressions in a row of one's own, their trees where they lay -/
structure IsEs (w0 : World) (B : Nat) (wr : World) (lo : Nat) (ts : List Tr) (A : Option Addr) (c : Nat) (cs : List (Option Addr × Nat)) : Prop where
  len : cs.length = ts.length
  own : wr.ownsRow lo 24 3 (.slice A ts.length c) ts.length (rowC ts cs)
  tree : ∀ m (h : m < ts.length), IsT w0 B ts[m] (cs[m]'(by omega)).1 (cs[m]'(by omega)).2
theorem IsEs.keep {w0 : World} {B : Nat} {wr wx : World} {lo : Nat} {ts : List Tr} {A : Option Addr} {c : Nat} {cs : List (Option Addr × Nat)} (h : IsEs w0 B wr lo ts A c cs) (hb : Below wr.heap.size wr wx) : IsEs w0 B wx lo ts A c cs :=
  ⟨h.len, ownsRow_same (hi := wr.heap.size) h.own (fun k _ k2 => hb.block k k2) (fun g e => (h.own.lt g e).2), h.tree⟩
theorem rowC_app : ∀ (l : List Tr) (cs : List (Option Addr × Nat)) (r : List Tr) (ds : List (Option Addr × Nat)), cs.length = l.length → rowC (l ++ r) (cs ++ ds) = rowC l cs ++ rowC r ds
  | [], [], r, ds, _ => by simp [rowC]
  | t :: l, (A, c) :: cs, r, ds, h => by simp only [List.cons_append, rowC]; rw [rowC_app l cs r ds (by simpa using h)]
theorem rowC_one : ∀ (l : List Tr) (cs : List (Option Addr × Nat)), ∀ u ∈ rowC l cs, u.oneCell' = true
  | [], _, u, h => by simp [rowC] at h
  | t :: l, [], u, h => by simp [rowC] at h
  | t :: l, (A, c) :: cs, u, h => by
    simp only [rowC, List.mem_cons] at h
    rcases h with rfl | rfl | rfl | h
    · rfl
    · rfl
    · rfl
    · exact rowC_one l cs u h
theorem parts_sz : ∀ (t : Tr), (partsT t).length = t.sz := by
  intro t
  induction t using Tr.ind with
  | h t ih =>
    have hk : ∀ (ks : List Tr), (∀ q ∈ ks, q ∈ t.ks) → (partsL ks).length = szL ks := by
      intro ks
      induction ks with
      | nil => intro _; rfl
      | cons q r ihr => intro h; simp only [partsL, List.length_append, szL]; rw [ih q (h q (by simp)), ihr (fun x hx => h x (by simp [hx]))]
    rw [partsT_eq, sz_eq, List.length_cons, hk t.ks (fun _ h => h)]
    omega
theorem partsL_snoc (l : List Tr) (q : Tr) : partsL (l ++ [q]) = partsL l ++ partsT q := by
  induction l with
  | nil => simp [partsL]
  | cons t r ih => simp only [List.cons_append, partsL, ih, List.append_assoc]
theorem partsL_len (l : List Tr) : (partsL l).length = szL l := by
  induction l with
  | nil => rfl
  | cons t r ih => simp only [partsL, List.length_append, szL, ih, parts_sz]
end Go.Proofs.Ytmmdhlemkcddmaa
