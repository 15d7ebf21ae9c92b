/- Trees in boxes; trees put together of trees in rows of their own. -/
import Derived.Test.YtgnfbhemkombaaaGreatE6
namespace Go.Proofs.YtgnfbhemkombaaaGreat
open Go.RowKit
set_option linter.unusedVariables false
set_option linter.unusedSimpArgs false
/-- a tree that a box holds -/
structure Bt (W : World) (b : Nat) (t : Tr) (A : Option Addr) (c : Nat) : Prop where
  c0 : W.cell? ⟨b, 0, none⟩ = some (.int .i64 t.k)
  c1 : W.cell? ⟨b, 1, none⟩ = some (.int .i64 t.i)
  c2 : W.cell? ⟨b, 2, none⟩ = some (.slice A t.ks.length c)
  tree : IsT W W.heap.size t A c
theorem Bt.new {W : World} {t : Tr} {A : Option Addr} {c : Nat} (h : IsT W W.heap.size t A c) : Bt (W.alloc (.cells #[.int .i64 t.k, .int .i64 t.i, .slice A t.ks.length c] 24)) W.heap.size t A c := by
  obtain ⟨x0, x1, x2⟩ := (Box3.new W (.int .i64 t.k) (.int .i64 t.i) (.slice A t.ks.length c)).cells
  exact ⟨x0, x1, x2, h.keep ((Below.refl _ _).alloc (Nat.le_refl _) _) (by simp)⟩
theorem Bt.keep {W W' : World} {b : Nat} {t : Tr} {A : Option Addr} {c : Nat} (h : Bt W b t A c) (hb : Below W.heap.size W W') : Bt W' b t A c := by
  have e : ∀ {p : Addr} {v : Value}, W.cell? p = some v → W'.cell? p = some v := fun hv => (hb.cell (block_lt_of_cell hv)).trans hv
  exact ⟨e h.c0, e h.c1, e h.c2, h.tree.keep hb hb.size⟩
theorem alB (W : World) (o : Obj) : Below W.heap.size W (W.alloc o) := (Below.refl _ _).alloc (Nat.le_refl _) _
theorem own1 {W : World} {lo hi g : Nat} {k i : Int} {a : Tr} {A : Option Addr} {c : Nat} (ho : OwnT W lo hi a A c) (hg : W.heap[g]? = some (.cells #[.int .i64 a.k, .int .i64 a.i, .slice A a.ks.length c] 24 (0, 0))) (hlo : hi ≤ g) : OwnT W lo (g + 1) (.node k i [a]) (some ⟨g, 0, none⟩) 1 := by
  have hl := ho.le
  refine ownT_eq.2 ⟨[(A, c)], rfl, ⟨rfl, .inr ⟨g, 1, #[.int .i64 a.k, .int .i64 a.i, .slice A a.ks.length c], rfl, by omega, hg, Nat.le_refl _, by unfold maxLen; omega, rfl, rfl⟩⟩, fun g' e => ?_, ?_⟩
  · simp [Value.ownBlock, Tr.ks] at e; omega
  · refine ownL_cons.2 ⟨lo, hi, Nat.le_refl _, hl, ?_, ho, by simp [OwnL]; omega⟩
    intro g' e hin
    simp [Value.ownBlock, Tr.ks] at e
    omega
theorem own2 {W : World} {lo mid hi g : Nat} {k i : Int} {a b : Tr} {A B : Option Addr} {c d : Nat} (ha : OwnT W lo mid a A c) (hb : OwnT W mid hi b B d) (hg : W.heap[g]? = some (.cells #[.int .i64 a.k, .int .i64 a.i, .slice A a.ks.length c, .int .i64 b.k, .int .i64 b.i, .slice B b.ks.length d] 24 (0, 0))) (hlo : hi ≤ g) : OwnT W lo (g + 1) (.node k i [a, b]) (some ⟨g, 0, none⟩) 2 := by
  have hl := ha.le
  have hl2 := hb.le
  refine ownT_eq.2 ⟨[(A, c), (B, d)], rfl, ⟨rfl, .inr ⟨g, 2, #[.int .i64 a.k, .int .i64 a.i, .slice A a.ks.length c, .int .i64 b.k, .int .i64 b.i, .slice B b.ks.length d], rfl, by omega, hg, Nat.le_refl _, by unfold maxLen; omega, rfl, rfl⟩⟩, fun g' e => ?_, ?_⟩
  · simp [Value.ownBlock, Tr.ks] at e; omega
  · refine ownL_cons.2 ⟨lo, mid, Nat.le_refl _, hl, ?_, ha, ownL_cons.2 ⟨mid, hi, Nat.le_refl _, hl2, ?_, hb, by simp [OwnL]; omega⟩⟩
    all_goals
      intro g' e hin
      simp [Value.ownBlock, Tr.ks] at e
      omega
theorem fit_node1 {k i : Int} {a : Tr} (h : a.fit) : (Tr.node k i [a]).fit := (fit_eq _).2 ⟨by simp [Tr.ks, Cap], fun q hq => by simp [Tr.ks] at hq; subst hq; exact h⟩
theorem fit_node2 {k i : Int} {a b : Tr} (h : a.fit) (h' : b.fit) : (Tr.node k i [a, b]).fit := (fit_eq _).2 ⟨by simp [Tr.ks, Cap], fun q hq => by simp [Tr.ks] at hq; rcases hq with rfl | rfl; exact h; exact h'⟩
theorem drew_sz (W : World) : W.drew.heap.size = W.heap.size := rfl
theorem new_at (W : World) (o : Obj) : (W.alloc o).heap[W.heap.size]? = some o := by
  show (W.heap.push o)[W.heap.size]? = _
  simp
theorem cell_at {Y : World} {r : Nat} {cs : Array Value} (h : Y.heap[r]? = some (.cells cs 24 (0, 0))) (j : Nat) : Y.cell? ⟨r, j, none⟩ = cs[j]? := by
  unfold World.cell?
  rw [h]
  rfl
theorem isT_two2 {Y : World} {r : Nat} {k i : Int} {a b : Tr} {A B : Option Addr} {c d : Nat} (hrow : Y.heap[r]? = some (.cells #[.int .i64 a.k, .int .i64 a.i, .slice A a.ks.length c, .int .i64 b.k, .int .i64 b.i, .slice B b.ks.length d] 24 (0, 0))) (ia : IsT Y Y.heap.size a A c) (ib : IsT Y Y.heap.size b B d) : IsT Y Y.heap.size (.node k i [a, b]) (some ⟨r, 0, none⟩) 2 := by
  have hr : r < Y.heap.size := (Array.getElem?_eq_some_iff.1 hrow).1
  refine IsT.mk (by simp [Tr.ks]) (by simp [Tr.ks, Cap]) fun m hm => ?_
  have hm2 : m < 2 := hm
  rcases Nat.lt_or_ge m 1 with h | h
  · obtain rfl : m = 0 := by omega
    exact ⟨r, 0, A, c, rfl, hr, (cell_at hrow 0).trans rfl, (cell_at hrow 1).trans rfl, (cell_at hrow 2).trans rfl, ia⟩
  · obtain rfl : m = 1 := by omega
    exact ⟨r, 0, B, d, rfl, hr, (cell_at hrow 3).trans rfl, (cell_at hrow 4).trans rfl, (cell_at hrow 5).trans rfl, ib⟩
theorem isT_one1 {Y : World} {r : Nat} {k i : Int} {a : Tr} {A : Option Addr} {c : Nat} (hrow : Y.heap[r]? = some (.cells #[.int .i64 a.k, .int .i64 a.i, .slice A a.ks.length c] 24 (0, 0))) (ia : IsT Y Y.heap.size a A c) : IsT Y Y.heap.size (.node k i [a]) (some ⟨r, 0, none⟩) 1 := by
  have hr : r < Y.heap.size := (Array.getElem?_eq_some_iff.1 hrow).1
  refine IsT.mk (by simp [Tr.ks]) (by simp [Tr.ks, Cap]) fun m hm => ?_
  have hm2 : m < 1 := hm
  obtain rfl : m = 0 := by omega
  exact ⟨r, 0, A, c, rfl, hr, (cell_at hrow 0).trans rfl, (cell_at hrow 1).trans rfl, (cell_at hrow 2).trans rfl, ia⟩
theorem ownIs {X Y : World} {lo hi : Nat} {t : Tr} {A : Option Addr} {c : Nat} (ho : OwnT X lo hi t A c) (hs : ∀ k, lo ≤ k → k < hi → Y.heap[k]? = X.heap[k]?) (hh : hi ≤ Y.heap.size) (hf : t.fit) : IsT Y Y.heap.size t A c := (OwnT.same _ hs ho).isT t hh hf
/-- three stores into a box behind an allocation -/
theorem set3a_far (W : World) (o : Obj) {b : Nat} (x y z : Value) {k : Nat} (h : k < W.heap.size) (h2 : k ≠ b) : ((((W.alloc o).setCell ⟨b, 0, none⟩ x).setCell ⟨b, 1, none⟩ y).setCell ⟨b, 2, none⟩ z).heap[k]? = W.heap[k]? := by
  rw [heap_setCell_other _ _ _ _ h2, heap_setCell_other _ _ _ _ h2, heap_setCell_other _ _ _ _ h2]
  exact Below.heap_alloc W o k h
theorem set3a_new (W : World) (cs : Array Value) {b : Nat} (x y z : Value) (h2 : W.heap.size ≠ b) : ((((W.alloc (.cells cs 24)).setCell ⟨b, 0, none⟩ x).setCell ⟨b, 1, none⟩ y).setCell ⟨b, 2, none⟩ z).heap[W.heap.size]? = some (.cells cs 24 (0, 0)) := by
  rw [heap_setCell_other _ _ _ _ h2, heap_setCell_other _ _ _ _ h2, heap_setCell_other _ _ _ _ h2]
  exact new_at W _
theorem set3a_size (W : World) (o : Obj) (b : Nat) (x y z : Value) : ((((W.alloc o).setCell ⟨b, 0, none⟩ x).setCell ⟨b, 1, none⟩ y).setCell ⟨b, 2, none⟩ z).heap.size = W.heap.size + 1 := by simp
theorem Box3.setall {w : World} {b : Nat} {x y z : Value} (h : Box3 w b x y z) (x' y' z' : Value) : Box3 (((w.setCell ⟨b, 0, none⟩ x').setCell ⟨b, 1, none⟩ y').setCell ⟨b, 2, none⟩ z') b x' y' z' := by
  unfold Box3 at *
  unfold World.setCell
  simp [Array.getElem?_modify, h]
theorem bt_set3 {W : World} {o : Obj} {b : Nat} {u v y : Value} (zb : Box3 W b u v y) {t : Tr} {A : Option Addr} {c : Nat} (hI : IsT ((((W.alloc o).setCell ⟨b, 0, none⟩ (.int .i64 t.k)).setCell ⟨b, 1, none⟩ (.int .i64 t.i)).setCell ⟨b, 2, none⟩ (.slice A t.ks.length c)) ((((W.alloc o).setCell ⟨b, 0, none⟩ (.int .i64 t.k)).setCell ⟨b, 1, none⟩ (.int .i64 t.i)).setCell ⟨b, 2, none⟩ (.slice A t.ks.length c)).heap.size t A c) : Bt ((((W.alloc o).setCell ⟨b, 0, none⟩ (.int .i64 t.k)).setCell ⟨b, 1, none⟩ (.int .i64 t.i)).setCell ⟨b, 2, none⟩ (.slice A t.ks.length c)) b t A c := by
  obtain ⟨x0, x1, x2⟩ := ((zb.keep (alB W o) zb.lt).setall (.int .i64 t.k) (.int .i64 t.i) (.slice A t.ks.length c)).cells
  exact ⟨x0, x1, x2, hI⟩
/-- a box laid ahead of the row that it leads to -/
theorem bt_ahead {W : World} {o : Obj} {t : Tr} {A : Option Addr} {c : Nat} (hI : IsT ((W.alloc (.cells #[.int .i64 t.k, .int .i64 t.i, .slice A t.ks.length c] 24)).alloc o) ((W.alloc (.cells #[.int .i64 t.k, .int .i64 t.i, .slice A t.ks.length c] 24)).alloc o).heap.size t A c) : Bt ((W.alloc (.cells #[.int .i64 t.k, .int .i64 t.i, .slice A t.ks.length c] 24)).alloc o) W.heap.size t A c := by
  obtain ⟨x0, x1, x2⟩ := ((Box3.new W (.int .i64 t.k) (.int .i64 t.i) (.slice A t.ks.length c)).keep (alB _ o) (by simp)).cells
  exact ⟨x0, x1, x2, hI⟩
theorem al2_far (W : World) (o o' : Obj) {k : Nat} (h : k < W.heap.size) : ((W.alloc o).alloc o').heap[k]? = W.heap[k]? := (Below.heap_alloc _ _ _ (by simp; omega)).trans (Below.heap_alloc _ _ _ h)
end Go.Proofs.YtgnfbhemkombaaaGreat
