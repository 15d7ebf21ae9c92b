/- The document's OfFree, OfBound, occurring, OfVars. -/
import Derived.Test.YtgnfbhemkombaaaDoorF1
import Derived.Test.YtgnfbhemkombaaaDoorE6
import Derived.Deep.RegionHeld3
namespace Go.Proofs.YtgnfbhemkombaaaDoor
open Go.RowKit
set_option linter.unusedVariables false
set_option linter.unusedSimpArgs false
/-- the box of a tree that was handed in -/
def Box3' (W : World) (b : Nat) (t : Tr) (A : Option Addr) (c : Nat) : Prop := Box3 W b (.int .i64 t.k) (.int .i64 t.i) (.slice A t.ks.length c)
theorem Box3'.keep {W W' : World} {b : Nat} {t : Tr} {A : Option Addr} {c : Nat} (h : Box3' W b t A c) (hb : Below W.heap.size W W') : Box3' W' b t A c := Box3.keep h hb (Box3.lt h)
theorem Box3'.new (W : World) (t : Tr) (A : Option Addr) (c : Nat) : Box3' (W.alloc (.cells #[.int .i64 t.k, .int .i64 t.i, .slice A t.ks.length c] 24)) W.heap.size t A c := Box3.new _ _ _ _
structure Start (w wr : World) (t : Tr) (A : Option Addr) (c : Nat) : Prop where
  below : Below w.heap.size w wr
  box : Box3' wr w.heap.size t A c
theorem Start.new (w : World) (t : Tr) (A : Option Addr) (c : Nat) : Start w (w.alloc (.cells #[.int .i64 t.k, .int .i64 t.i, .slice A t.ks.length c] 24)) t A c := ⟨(Below.refl _ _).alloc (Nat.le_refl _) _, Box3'.new _ _ _ _⟩
theorem Start.keep {w wr w1 : World} {t : Tr} {A : Option Addr} {c : Nat} (h : Start w wr t A c) (hb : Below wr.heap.size wr w1) : Start w w1 t A c := ⟨h.below.trans (hb.mono h.below.size), h.box.keep hb⟩
/-- a tree that was handed in: its box, the tree, in a later world -/
structure One (w wr : World) (t : Tr) (A : Option Addr) (c : Nat) : Prop where
  b0 : wr.cell? ⟨w.heap.size, 0, none⟩ = some (.int .i64 t.k)
  b1 : wr.cell? ⟨w.heap.size, 1, none⟩ = some (.int .i64 t.i)
  b2 : wr.cell? ⟨w.heap.size, 2, none⟩ = some (.slice A t.ks.length c)
  tree : IsT wr wr.heap.size t A c
  below : Below w.heap.size w wr
  size : w.heap.size + 1 ≤ wr.heap.size
theorem One.new {w : World} {t : Tr} {A : Option Addr} {c : Nat} (h : IsT w w.heap.size t A c) : One w (w.alloc (.cells #[.int .i64 t.k, .int .i64 t.i, .slice A t.ks.length c] 24)) t A c := by
  have hb : Below w.heap.size w (w.alloc (.cells #[.int .i64 t.k, .int .i64 t.i, .slice A t.ks.length c] 24)) := (Below.refl _ _).alloc (Nat.le_refl _) _
  obtain ⟨x0, x1, x2⟩ := box_new w (.int .i64 t.k) (.int .i64 t.i) (.slice A t.ks.length c) 24
  exact ⟨x0, x1, x2, h.keep hb hb.size, hb, by simp⟩
theorem One.keep {w wr w1 : World} {t : Tr} {A : Option Addr} {c : Nat} (h : One w wr t A c) (hb : Below wr.heap.size wr w1) : One w w1 t A c := by
  have e : ∀ {p : Addr} {v : Value}, wr.cell? p = some v → w1.cell? p = some v := fun hv => (hb.cell (block_lt_of_cell hv)).trans hv
  exact ⟨e h.b0, e h.b1, e h.b2, h.tree.keep hb hb.size, h.below.trans (hb.mono h.below.size), Nat.le_trans h.size hb.size⟩
theorem One.drew {w wr : World} {t : Tr} {A : Option Addr} {c : Nat} (h : One w wr t A c) : One w wr.drew t A c := h.keep (Below.refl _ _).drew
end Go.Proofs.YtgnfbhemkombaaaDoor
