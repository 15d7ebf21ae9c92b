/- Trees in memory beside blocks that are written (FrT); nodes of package schema: imp, not, all, equality. -/
import Derived.Test.YtgnfbhemkombaaaGreatEV
import Derived.Test.YtgnfbhemkombaaaGreatF1
import Derived.Deep.RegionHeld3
import Derived.Deep.DeepCutAuto
namespace Go.Proofs.YtgnfbhemkombaaaGreat
open Go.RowKit
set_option linter.unusedVariables false
set_option linter.unusedSimpArgs false
abbrev impT (a b : Tr) : Tr := .node 6 0 [a, b]
abbrev notT (a : Tr) : Tr := .node 5 0 [a]
abbrev allT (x : Int) (a : Tr) : Tr := .node 7 x [a]
abbrev eqT (a b : Tr) : Tr := .node 4 0 [a, b]
theorem IsT.keepH {w w' : World} {B B' : Nat} (hb : ∀ k, k < B → w'.heap[k]? = w.heap[k]?) (hB : B ≤ B') : ∀ (t : Tr) {A : Option Addr} {c : Nat}, IsT w B t A c → IsT w' B' t A c := by
  intro t
  induction t using Tr.ind with
  | h t ih =>
    intro A c h
    refine IsT.mk h.len.1 h.len.2 fun m hm => ?_
    obtain ⟨b, o, A', c', hA, hlt, h0, h1, h2, ht⟩ := h.kid m hm
    have e : ∀ o', w'.cell? ⟨b, o', none⟩ = w.cell? ⟨b, o', none⟩ := fun o' => World.cell?_of_block (a := ⟨b, o', none⟩) (hb b hlt)
    exact ⟨b, o, A', c', hA, by omega, (e _).trans h0, (e _).trans h1, (e _).trans h2, ih _ (List.getElem_mem hm) ht⟩
/-- a tree none of whose blocks is one of X: it stays whatever becomes of those -/
def FrT (X : Nat → Prop) (W : World) (t : Tr) (A : Option Addr) (c : Nat) : Prop :=
  ∀ W' : World, (∀ k, k < W.heap.size → ¬ X k → W'.heap[k]? = W.heap[k]?) → W.heap.size ≤ W'.heap.size → IsT W' W'.heap.size t A c
section
variable {X : Nat → Prop} {W W1 w w' : World} {t a b : Tr} {A B : Option Addr} {c ca cb : Nat}
theorem FrT.isT (h : FrT X W t A c) : IsT W W.heap.size t A c := h W (fun _ _ _ => rfl) (Nat.le_refl _)
theorem FrT.move (h : FrT X W t A c) (hs : ∀ k, k < W.heap.size → ¬ X k → W1.heap[k]? = W.heap[k]?) (hz : W.heap.size ≤ W1.heap.size) : FrT X W1 t A c :=
  fun W' h1 h2 => h W' (fun k hk hn => (h1 k (by omega) hn).trans (hs k hk hn)) (by omega)
theorem FrT.keep (h : FrT X W t A c) (hb : Below W.heap.size W W1) : FrT X W1 t A c := h.move (fun k hk _ => hb.block k hk) hb.size
theorem FrT.set3 (h : FrT X W t A c) {p : Nat} (hp : X p) (x y z : Value) : FrT X (((W.setCell ⟨p, 0, none⟩ x).setCell ⟨p, 1, none⟩ y).setCell ⟨p, 2, none⟩ z) t A c :=
  h.move (fun k hk hn => by
    have hne : k ≠ p := fun e => hn (e ▸ hp)
    rw [heap_setCell_other _ _ _ _ hne, heap_setCell_other _ _ _ _ hne, heap_setCell_other _ _ _ _ hne]) (by simp)
theorem FrT.of (h : IsT w w.heap.size t A c) (hX : ∀ k, X k → w.heap.size ≤ k) (hb : ∀ k, k < w.heap.size → W.heap[k]? = w.heap[k]?) (hz : w.heap.size ≤ W.heap.size) : FrT X W t A c :=
  fun W' h1 h2 => IsT.keepH (fun k hk => (h1 k (by omega) (fun hx => by have := hX k hx; omega)).trans (hb k hk)) (by omega) t h
theorem FrT.ofB (h : IsT w w.heap.size t A c) (hX : ∀ k, X k → w.heap.size ≤ k) (hb : Below w.heap.size w W) : FrT X W t A c := FrT.of h hX (fun k hk => hb.block k hk) hb.size
theorem FrT.two {r : Nat} (k i : Int) (ha : FrT X W a A ca) (hb : FrT X W b B cb) (hr : W.heap[r]? = some (.cells #[.int .i64 a.k, .int .i64 a.i, .slice A a.ks.length ca, .int .i64 b.k, .int .i64 b.i, .slice B b.ks.length cb] 24 (0, 0))) (hX : ¬ X r) : FrT X W (.node k i [a, b]) (some ⟨r, 0, none⟩) 2 :=
  fun W' h1 h2 => isT_two2 ((h1 r (Array.getElem?_eq_some_iff.1 hr).1 hX).trans hr) (ha W' h1 h2) (hb W' h1 h2)
theorem FrT.one {r : Nat} (k i : Int) (ha : FrT X W a A ca) (hr : W.heap[r]? = some (.cells #[.int .i64 a.k, .int .i64 a.i, .slice A a.ks.length ca] 24 (0, 0))) (hX : ¬ X r) : FrT X W (.node k i [a]) (some ⟨r, 0, none⟩) 1 :=
  fun W' h1 h2 => isT_one1 ((h1 r (Array.getElem?_eq_some_iff.1 hr).1 hX).trans hr) (ha W' h1 h2)
end
/-- a tree that is answered, in memory that may lie where it lay -/
def TreeX (X : Nat → Prop) (w : World) (t : Tr) (e : Ending) (w' : World) : Prop := ∃ A c, e = .returned (.agg #[.int .i64 t.k, .int .i64 t.i, .slice A t.ks.length c]) ∧ FrT X w' t A c ∧ Below w.heap.size w w'
theorem boxes2 (w : World) (x y z x' y' z' : Value) : Below w.heap.size w ((w.alloc (.cells #[x, y, z] 24)).alloc (.cells #[x', y', z'] 24)) ∧ Box3 ((w.alloc (.cells #[x, y, z] 24)).alloc (.cells #[x', y', z'] 24)) w.heap.size x y z ∧ Box3 ((w.alloc (.cells #[x, y, z] 24)).alloc (.cells #[x', y', z'] 24)) (w.heap.size + 1) x' y' z' := by
  have h2 := Box3.new (w.alloc (.cells #[x, y, z] 24)) x' y' z'
  rw [World.size_alloc] at h2
  exact ⟨(alB w _).trans ((alB _ _).mono (by simp)), (Box3.new w x y z).keep (alB _ _) (by simp), h2⟩
set_option maxHeartbeats 1000000 in
theorem imp_any (X : Nat → Prop) (a b : Tr) (A B : Option Addr) (ca cb : Nat) (w : World) (hX : ∀ k, X k → k < w.heap.size) (ha : FrT X w a A ca) (hb : FrT X w b B cb) :
    Calls Tryz.prog 76 #[.agg #[.int .i64 a.k, .int .i64 a.i, .slice A a.ks.length ca], .agg #[.int .i64 b.k, .int .i64 b.i, .slice B b.ks.length cb]] w (TreeX X w (impT a b)) := by
  obtain ⟨e0, e1, e2⟩ := boxes2 w (.int .i64 a.k) (.int .i64 a.i) (.slice A a.ks.length ca) (.int .i64 b.k) (.int .i64 b.i) (.slice B b.ks.length cb)
  have HA := Lib.hid ha
  have HB := Lib.hid hb
  have HX := Lib.hid hX
  obtain ⟨W2, hW2⟩ : ∃ W2, W2 = (w.alloc (.cells #[.int .i64 a.k, .int .i64 a.i, .slice A a.ks.length ca] 24)).alloc (.cells #[.int .i64 b.k, .int .i64 b.i, .slice B b.ks.length cb] 24) := ⟨_, rfl⟩
  have hz : W2.heap.size = w.heap.size + 2 := by rw [hW2]; simp
  have H2 := Lib.hid (And.intro e0 (And.intro e1 e2))
  rw [← hW2] at H2
  have e3 := alB W2 (.cells #[.int .i64 0, .int .i64 0, .slice none 0 0] 24)
  obtain ⟨a0, a1, a2⟩ := (H2.out.2.1.keep e3 (by omega)).cells
  obtain ⟨b0, b1, b2⟩ := (H2.out.2.2.keep e3 (by omega)).cells
  have HW := Lib.hid hW2
  rw [hW2] at a0 a1 a2 b0 b1 b2
  clear ha hb hX e0 e1 e2 e3 hW2
  go_enter Tryz.func76, Tryz.ntmps76
  go_wp2_with fail
  rw [← HW.out]
  have n1 := Box3.new W2 (.int .i64 6) (.int .i64 0) (.slice (some ⟨w.heap.size + 1 + 1 + 1, 0, none⟩) 2 2)
  obtain ⟨W3, hW3⟩ : ∃ W3, W3 = W2.alloc (.cells #[.int .i64 6, .int .i64 0, .slice (some ⟨w.heap.size + 1 + 1 + 1, 0, none⟩) 2 2] 24) := ⟨_, rfl⟩
  rw [← hW3] at n1 ⊢
  have hz3 : W3.heap.size = w.heap.size + 3 := by rw [hW3]; simp; omega
  have b3 : Below w.heap.size w W3 := by rw [hW3]; exact H2.out.1.trans ((alB W2 _).mono (by omega))
  have r := new_at W3 (.cells #[.int .i64 a.k, .int .i64 a.i, .slice A a.ks.length ca, .int .i64 b.k, .int .i64 b.i, .slice B b.ks.length cb] 24)
  have n2 := n1.keep (alB W3 (.cells #[.int .i64 a.k, .int .i64 a.i, .slice A a.ks.length ca, .int .i64 b.k, .int .i64 b.i, .slice B b.ks.length cb] 24)) (by omega)
  rw [hz] at n2
  rw [hz3] at r
  obtain ⟨r0, r1, r2⟩ := n2.cells
  have b4 := b3.trans ((alB W3 (.cells #[.int .i64 a.k, .int .i64 a.i, .slice A a.ks.length ca, .int .i64 b.k, .int .i64 b.i, .slice B b.ks.length cb] 24)).mono (by omega))
  exact bodyPost_ret (v := .agg #[.int .i64 6, .int .i64 0, .slice (some ⟨w.heap.size + 1 + 1 + 1, 0, none⟩) 2 2]) (by simp [results, Tryz.results76, go_sem, r0, r1, r2]) rfl
    ⟨_, _, rfl, FrT.two 6 0 (HA.out.keep b4) (HB.out.keep b4) r (fun h => by have := HX.out _ h; omega), b4⟩
set_option maxHeartbeats 1000000 in
theorem equality_any (X : Nat → Prop) (a b : Tr) (A B : Option Addr) (ca cb : Nat) (w : World) (hX : ∀ k, X k → k < w.heap.size) (ha : FrT X w a A ca) (hb : FrT X w b B cb) :
    Calls Tryz.prog 86 #[.agg #[.int .i64 a.k, .int .i64 a.i, .slice A a.ks.length ca], .agg #[.int .i64 b.k, .int .i64 b.i, .slice B b.ks.length cb]] w (TreeX X w (eqT a b)) := by
  obtain ⟨e0, e1, e2⟩ := boxes2 w (.int .i64 a.k) (.int .i64 a.i) (.slice A a.ks.length ca) (.int .i64 b.k) (.int .i64 b.i) (.slice B b.ks.length cb)
  have HA := Lib.hid ha
  have HB := Lib.hid hb
  have HX := Lib.hid hX
  obtain ⟨W2, hW2⟩ : ∃ W2, W2 = (w.alloc (.cells #[.int .i64 a.k, .int .i64 a.i, .slice A a.ks.length ca] 24)).alloc (.cells #[.int .i64 b.k, .int .i64 b.i, .slice B b.ks.length cb] 24) := ⟨_, rfl⟩
  have hz : W2.heap.size = w.heap.size + 2 := by rw [hW2]; simp
  have H2 := Lib.hid (And.intro e0 (And.intro e1 e2))
  rw [← hW2] at H2
  have e3 := alB W2 (.cells #[.int .i64 0, .int .i64 0, .slice none 0 0] 24)
  obtain ⟨a0, a1, a2⟩ := (H2.out.2.1.keep e3 (by omega)).cells
  obtain ⟨b0, b1, b2⟩ := (H2.out.2.2.keep e3 (by omega)).cells
  have HW := Lib.hid hW2
  rw [hW2] at a0 a1 a2 b0 b1 b2
  clear ha hb hX e0 e1 e2 e3 hW2
  go_enter Tryz.func86, Tryz.ntmps86
  go_wp2_with fail
  rw [← HW.out]
  have n1 := Box3.new W2 (.int .i64 4) (.int .i64 0) (.slice (some ⟨w.heap.size + 1 + 1 + 1, 0, none⟩) 2 2)
  obtain ⟨W3, hW3⟩ : ∃ W3, W3 = W2.alloc (.cells #[.int .i64 4, .int .i64 0, .slice (some ⟨w.heap.size + 1 + 1 + 1, 0, none⟩) 2 2] 24) := ⟨_, rfl⟩
  rw [← hW3] at n1 ⊢
  have hz3 : W3.heap.size = w.heap.size + 3 := by rw [hW3]; simp; omega
  have b3 : Below w.heap.size w W3 := by rw [hW3]; exact H2.out.1.trans ((alB W2 _).mono (by omega))
  have r := new_at W3 (.cells #[.int .i64 a.k, .int .i64 a.i, .slice A a.ks.length ca, .int .i64 b.k, .int .i64 b.i, .slice B b.ks.length cb] 24)
  have n2 := n1.keep (alB W3 (.cells #[.int .i64 a.k, .int .i64 a.i, .slice A a.ks.length ca, .int .i64 b.k, .int .i64 b.i, .slice B b.ks.length cb] 24)) (by omega)
  rw [hz] at n2
  rw [hz3] at r
  obtain ⟨r0, r1, r2⟩ := n2.cells
  have b4 := b3.trans ((alB W3 (.cells #[.int .i64 a.k, .int .i64 a.i, .slice A a.ks.length ca, .int .i64 b.k, .int .i64 b.i, .slice B b.ks.length cb] 24)).mono (by omega))
  exact bodyPost_ret (v := .agg #[.int .i64 4, .int .i64 0, .slice (some ⟨w.heap.size + 1 + 1 + 1, 0, none⟩) 2 2]) (by simp [results, Tryz.results86, go_sem, r0, r1, r2]) rfl
    ⟨_, _, rfl, FrT.two 4 0 (HA.out.keep b4) (HB.out.keep b4) r (fun h => by have := HX.out _ h; omega), b4⟩
set_option maxHeartbeats 1000000 in
theorem not_any (X : Nat → Prop) (a : Tr) (A : Option Addr) (ca : Nat) (w : World) (hX : ∀ k, X k → k < w.heap.size) (ha : FrT X w a A ca) :
    Calls Tryz.prog 78 #[.agg #[.int .i64 a.k, .int .i64 a.i, .slice A a.ks.length ca]] w (TreeX X w (notT a)) := by
  have HA := Lib.hid ha
  have HX := Lib.hid hX
  obtain ⟨W2, hW2⟩ : ∃ W2, W2 = w.alloc (.cells #[.int .i64 a.k, .int .i64 a.i, .slice A a.ks.length ca] 24) := ⟨_, rfl⟩
  have hz : W2.heap.size = w.heap.size + 1 := by rw [hW2]; simp
  have H2 := Lib.hid (show Below w.heap.size w W2 ∧ Box3 W2 w.heap.size (.int .i64 a.k) (.int .i64 a.i) (.slice A a.ks.length ca) by rw [hW2]; exact ⟨alB w _, Box3.new w _ _ _⟩)
  have e3 := alB W2 (.cells #[.int .i64 0, .int .i64 0, .slice none 0 0] 24)
  obtain ⟨a0, a1, a2⟩ := (H2.out.2.keep e3 (by omega)).cells
  have HW := Lib.hid hW2
  rw [hW2] at a0 a1 a2
  clear ha hX e3 hW2
  go_enter Tryz.func78, Tryz.ntmps78
  go_wp2_with fail
  rw [← HW.out]
  have n1 := Box3.new W2 (.int .i64 5) (.int .i64 0) (.slice (some ⟨w.heap.size + 1 + 1, 0, none⟩) 1 1)
  obtain ⟨W3, hW3⟩ : ∃ W3, W3 = W2.alloc (.cells #[.int .i64 5, .int .i64 0, .slice (some ⟨w.heap.size + 1 + 1, 0, none⟩) 1 1] 24) := ⟨_, rfl⟩
  rw [← hW3] at n1 ⊢
  have hz3 : W3.heap.size = w.heap.size + 2 := by rw [hW3]; simp; omega
  have b3 : Below w.heap.size w W3 := by rw [hW3]; exact H2.out.1.trans ((alB W2 _).mono (by omega))
  have r := new_at W3 (.cells #[.int .i64 a.k, .int .i64 a.i, .slice A a.ks.length ca] 24)
  have n2 := n1.keep (alB W3 (.cells #[.int .i64 a.k, .int .i64 a.i, .slice A a.ks.length ca] 24)) (by omega)
  rw [hz] at n2
  rw [hz3] at r
  obtain ⟨r0, r1, r2⟩ := n2.cells
  have b4 := b3.trans ((alB W3 (.cells #[.int .i64 a.k, .int .i64 a.i, .slice A a.ks.length ca] 24)).mono (by omega))
  exact bodyPost_ret (v := .agg #[.int .i64 5, .int .i64 0, .slice (some ⟨w.heap.size + 1 + 1, 0, none⟩) 1 1]) (by simp [results, Tryz.results78, go_sem, r0, r1, r2]) rfl
    ⟨_, _, rfl, FrT.one 5 0 (HA.out.keep b4) r (fun h => by have := HX.out _ h; omega), b4⟩
set_option maxHeartbeats 1000000 in
theorem all_any (X : Nat → Prop) (x : Int) (a : Tr) (A : Option Addr) (ca : Nat) (w : World) (hX : ∀ k, X k → k < w.heap.size) (ha : FrT X w a A ca) :
    Calls Tryz.prog 82 #[.int .i64 x, .agg #[.int .i64 a.k, .int .i64 a.i, .slice A a.ks.length ca]] w (TreeX X w (allT x a)) := by
  have HA := Lib.hid ha
  have HX := Lib.hid hX
  obtain ⟨W2, hW2⟩ : ∃ W2, W2 = w.alloc (.cells #[.int .i64 a.k, .int .i64 a.i, .slice A a.ks.length ca] 24) := ⟨_, rfl⟩
  have hz : W2.heap.size = w.heap.size + 1 := by rw [hW2]; simp
  have H2 := Lib.hid (show Below w.heap.size w W2 ∧ Box3 W2 w.heap.size (.int .i64 a.k) (.int .i64 a.i) (.slice A a.ks.length ca) by rw [hW2]; exact ⟨alB w _, Box3.new w _ _ _⟩)
  have e3 := alB W2 (.cells #[.int .i64 0, .int .i64 0, .slice none 0 0] 24)
  obtain ⟨a0, a1, a2⟩ := (H2.out.2.keep e3 (by omega)).cells
  have HW := Lib.hid hW2
  rw [hW2] at a0 a1 a2
  clear ha hX e3 hW2
  go_enter Tryz.func82, Tryz.ntmps82
  go_wp2_with fail
  rw [← HW.out]
  have n1 := Box3.new W2 (.int .i64 7) (.int .i64 x) (.slice (some ⟨w.heap.size + 1 + 1, 0, none⟩) 1 1)
  obtain ⟨W3, hW3⟩ : ∃ W3, W3 = W2.alloc (.cells #[.int .i64 7, .int .i64 x, .slice (some ⟨w.heap.size + 1 + 1, 0, none⟩) 1 1] 24) := ⟨_, rfl⟩
  rw [← hW3] at n1 ⊢
  have hz3 : W3.heap.size = w.heap.size + 2 := by rw [hW3]; simp; omega
  have b3 : Below w.heap.size w W3 := by rw [hW3]; exact H2.out.1.trans ((alB W2 _).mono (by omega))
  have r := new_at W3 (.cells #[.int .i64 a.k, .int .i64 a.i, .slice A a.ks.length ca] 24)
  have n2 := n1.keep (alB W3 (.cells #[.int .i64 a.k, .int .i64 a.i, .slice A a.ks.length ca] 24)) (by omega)
  rw [hz] at n2
  rw [hz3] at r
  obtain ⟨r0, r1, r2⟩ := n2.cells
  have b4 := b3.trans ((alB W3 (.cells #[.int .i64 a.k, .int .i64 a.i, .slice A a.ks.length ca] 24)).mono (by omega))
  exact bodyPost_ret (v := .agg #[.int .i64 7, .int .i64 x, .slice (some ⟨w.heap.size + 1 + 1, 0, none⟩) 1 1]) (by simp [results, Tryz.results82, go_sem, r0, r1, r2]) rfl
    ⟨_, _, rfl, FrT.one 7 x (HA.out.keep b4) r (fun h => by have := HX.out _ h; omega), b4⟩
end Go.Proofs.YtgnfbhemkombaaaGreat
