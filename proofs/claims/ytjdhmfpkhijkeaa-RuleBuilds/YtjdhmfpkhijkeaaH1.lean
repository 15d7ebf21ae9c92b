/- Trees in memory beside blocks that are written (FrT); nodes of package schema: imp, not, all, equality. -/
import Derived.Test.YtjdhmfpkhijkeaaEV
import Derived.Test.YtjdhmfpkhijkeaaF1
import Derived.Deep.RegionHeld3
import Derived.Deep.DeepCutAuto
namespace Go.Proofs.Ytjdhmfpkhijkeaa
open Go.RowKit
set_option linter.unusedVariables false
set_option linter.unusedSimpArgs false
abbrev impT (a b : Tr) : Tr := .node 6 0 [a, b]
abbrev notT (a : Tr) : Tr := .node 5 0 [a]
abbrev allT (x : Int) (a : Tr) : Tr := .node 7 x [a]
abbrev eqT (a b : Tr) : Tr := .node 4 0 [a, b]
theorem IsT.keepH {w w' : World} {B B' : Nat} (hb : ∀ k, k < B → w'.heap[k]? = w.heap[k]?) (hB : B ≤ B') : ∀ (t : Tr) {A : Option Addr} {c : Nat}, IsT w B t A c → IsT w' B' t A c := by
  intro t
  induction t using Tr.ind with
  | h t ih =>
    intro A c h
    refine IsT.mk h.len.1 h.len.2 fun m hm => ?_
    obtain ⟨b, o, A', c', hA, hlt, h0, h1, h2, ht⟩ := h.kid m hm
    have e : ∀ o', w'.cell? ⟨b, o', none⟩ = w.cell? ⟨b, o', none⟩ := fun o' => World.cell?_of_block (a := ⟨b, o', none⟩) (hb b hlt)
    exact ⟨b, o, A', c', hA, by omega, (e _).trans h0, (e _).trans h1, (e _).trans h2, ih _ (List.getElem_mem hm) ht⟩
/-- a tree none of whose blocks is one of X: it stays whatever becomes of those -/
def FrT (X : Nat → Prop) (W : World) (t : Tr) (A : Option Addr) (c : Nat) : Prop :=
  ∀ W' : World, (∀ k, k < W.heap.size → ¬ X k → W'.heap[k]? = W.heap[k]?) → W.heap.size ≤ W'.heap.size → IsT W' W'.heap.size t A c
section
variable {X : Nat → Prop} {W W1 w w' : World} {t a b : Tr} {A B : Option Addr} {c ca cb : Nat}
theorem FrT.isT (h : FrT X W t A c) : IsT W W.heap.size t A c := h W (fun _ _ _ => rfl) (Nat.le_refl _)
theorem FrT.move (h : FrT X W t A c) (hs : ∀ k, k < W.heap.size → ¬ X k → W1.heap[k]? = W.heap[k]?) (hz : W.heap.size ≤ W1.heap.size) : FrT X W1 t A c :=
  fun W' h1 h2 => h W' (fun k hk hn => (h1 k (by omega) hn).trans (hs k hk hn)) (by omega)
theorem FrT.keep (h : FrT X W t A c) (hb : Below W.heap.size W W1) : FrT X W1 t A c := h.move (fun k hk _ => hb.block k hk) hb.size
theorem FrT.set3 (h : FrT X W t A c) {p : Nat} (hp : X p) (x y z : Value) : FrT X (((W.setCell ⟨p, 0, none⟩ x).setCell ⟨p, 1, none⟩ y).setCell ⟨p, 2, none⟩ z) t A c :=
  h.move (fun k hk hn => by
    have hne : k ≠ p := fun e => hn (e ▸ hp)
    rw [heap_setCell_other _ _ _ _ hne, heap_setCell_other _ _ _ _ hne, heap_setCell_other _ _ _ _ hne]) (by simp)
theorem FrT.of (h : IsT w w.heap.size t A c) (hX : ∀ k, X k → w.heap.size ≤ k) (hb : ∀ k, k < w.heap.size → W.heap[k]? = w.heap[k]?) (hz : w.heap.size ≤ W.heap.size) : FrT X W t A c :=
  fun W' h1 h2 => IsT.keepH (fun k hk => (h1 k (by omega) (fun hx => by have := hX k hx; omega)).trans (hb k hk)) (by omega) t h
theorem FrT.ofB (h : IsT w w.heap.size t A c) (hX : ∀ k, X k → w.heap.size ≤ k) (hb : Below w.heap.size w W) : FrT X W t A c := FrT.of h hX (fun k hk => hb.block k hk) hb.size
theorem FrT.two {r : Nat} (k i : Int) (ha : FrT X W a A ca) (hb : FrT X W b B cb) (hr : W.heap[r]? = some (.cells #[.int .i64 a.k, .int .i64 a.i, .slice A a.ks.length ca, .int .i64 b.k, .int .i64 b.i, .slice B b.ks.length cb] 24 (0, 0))) (hX : ¬ X r) : FrT X W (.node k i [a, b]) (some ⟨r, 0, none⟩) 2 :=
  fun W' h1 h2 => isT_two2 ((h1 r (Array.getElem?_eq_some_iff.1 hr).1 hX).trans hr) (ha W' h1 h2) (hb W' h1 h2)
theorem FrT.one {r : Nat} (k i : Int) (ha : FrT X W a A ca) (hr : W.heap[r]? = some (.cells #[.int .i64 a.k, .int .i64 a.i, .slice A a.ks.length ca] 24 (0, 0))) (hX : ¬ X r) : FrT X W (.node k i [a]) (some ⟨r, 0, none⟩) 1 :=
  fun W' h1 h2 => isT_one1 ((h1 r (Array.getElem?_eq_some_iff.1 hr).1 hX).trans hr) (ha W' h1 h2)
end
/-- a tree that is answered, in memory that may lie where it lay -/
def TreeX (X : Nat → Prop) (w : World) (t : Tr) (e : Ending) (w' : World) : Prop := ∃ A c, e = .returned (.agg #[.int .i64 t.k, .int .i64 t.i, .slice A t.ks.length c]) ∧ FrT X w' t A c ∧ Below w.heap.size w w'
theorem boxes2 (w : World) (x y z x' y' z' : Value) : Below w.heap.size w ((w.alloc (.cells #[x, y, z] 24)).alloc (.cells #[x', y', z'] 24)) ∧ Box3 ((w.alloc (.cells #[x, y, z] 24)).alloc (.cells #[x', y', z'] 24)) w.heap.size x y z ∧ Box3 ((w.alloc (.cells #[x, y, z] 24)).alloc (.cells #[x', y', z'] 24)) (w.heap.size + 1) x' y' z' := by
  have h2 := Box3.new (w.alloc (.cells #[x, y, z] 24)) x' y' z'
  rw [World.size_alloc] at h2
  exact ⟨(alB w _).trans ((alB _ _).mono (by simp)), (Box3.new w x y z).keep (alB _ _) (by simp), h2⟩
end Go.Proofs.Ytjdhmfpkhijkeaa
