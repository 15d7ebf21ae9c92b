/- build of package expr. -/
import Derived.Test.YtfleomamhkeiiaaE17
import Derived.Test.YtfleomamhkeiiaaE18
namespace Go.Proofs.Ytfleomamhkeiiaa
open Go.RowKit
/-- heads in memory, one behind the other -/
def HdR (w : World) (B : Nat) (A : Option Addr) (hs : List Hd) : Prop :=
  ∀ j (h : j < hs.length), ∃ b o, A = some ⟨b, o, none⟩ ∧ b < B ∧ w.cell? ⟨b, o + j * 3, none⟩ = some (.int .i64 hs[j].k) ∧ w.cell? ⟨b, o + j * 3 + 1, none⟩ = some (.int .i64 hs[j].i) ∧ w.cell? ⟨b, o + j * 3 + 2, none⟩ = some (.int .i64 (hs[j].n : Int))
theorem HdR.keep {w w' : World} {B B' : Nat} {A : Option Addr} {hs : List Hd} (h : HdR w B A hs) (hb : Below B w w') (hB : B ≤ B') : HdR w' B' A hs := fun j hj => by
  obtain ⟨b, o, e, hlt, c0, c1, c2⟩ := h j hj
  exact ⟨b, o, e, by omega, (hb.cell hlt).trans c0, (hb.cell hlt).trans c1, (hb.cell hlt).trans c2⟩
theorem HdR.tail {w : World} {B b o : Nat} {x : Hd} {hs : List Hd} (h : HdR w B (some ⟨b, o, none⟩) (x :: hs)) : HdR w B (some ⟨b, o + 3, none⟩) hs := fun j hj => by
  obtain ⟨b', o', e, hlt, c0, c1, c2⟩ := h (j + 1) (by simp; omega)
  cases e
  refine ⟨b, o + 3, rfl, hlt, ?_, ?_, ?_⟩
  · rw [show o + 3 + j * 3 = o + (j + 1) * 3 by omega]; exact c0
  · rw [show o + 3 + j * 3 = o + (j + 1) * 3 by omega]; exact c1
  · rw [show o + 3 + j * 3 = o + (j + 1) * 3 by omega]; exact c2
theorem HdR.nil {w : World} {B : Nat} (A : Option Addr) : HdR w B A [] := fun j hj => by simp at hj
theorem hdsL_drop (ks : List Tr) (m : Nat) (h : m < ks.length) : hdsL (ks.drop m) = ks[m].hds ++ hdsL (ks.drop (m + 1)) := by rw [List.drop_eq_getElem_cons h, hdsL]
theorem three_blocks (w : World) (o0 o1 o2 : Obj) :
    (((w.alloc o0).alloc o1).alloc o2).heap[w.heap.size]? = some o0 ∧ (((w.alloc o0).alloc o1).alloc o2).heap[w.heap.size + 1]? = some o1 ∧ (((w.alloc o0).alloc o1).alloc o2).heap[w.heap.size + 2]? = some o2 ∧
    Below w.heap.size w (((w.alloc o0).alloc o1).alloc o2) := by
  refine ⟨?_, ?_, ?_, (((Below.refl _ w).alloc (Nat.le_refl _) _).alloc (by simp) _).alloc (by simp; omega) _⟩
  · show (((w.heap.push _).push _).push _)[w.heap.size]? = _
    rw [Array.getElem?_push, if_neg (by simp; omega), Array.getElem?_push, if_neg (by simp), Array.getElem?_push, if_pos rfl]
  · show (((w.heap.push _).push _).push _)[w.heap.size + 1]? = _
    rw [Array.getElem?_push, if_neg (by simp), Array.getElem?_push, if_pos (by simp)]
  · show (((w.heap.push _).push _).push _)[w.heap.size + 2]? = _
    rw [Array.getElem?_push, if_pos (by simp)]
theorem two_keep (w : World) (o0 o1 : Obj) (p : Addr) (h : p.block < w.heap.size) : (((w.alloc o0).alloc o1).drew).cell? p = w.cell? p :=
  (((Below.refl w.heap.size w).alloc (Nat.le_refl _) o0).alloc (by simp) o1).drew.cell h
structure Bk (B : Nat) (wr W : World) (lo g b : Nat) (x y : Value) (R : List Hd) (A : Option Addr) (ks : List Tr) (n m : Nat) (cs : List (Option Addr × Nat)) : Prop where
  box : Box3 W b x y (.slice (some ⟨g, 0, none⟩) n n)
  fill : Fill W lo g n ks m cs
  hds : HdR W B A R
  lb : B ≤ W.heap.size
  below : Below wr.heap.size wr W
theorem Bk.keep {B : Nat} {wr W W' : World} {lo g b : Nat} {x y : Value} {R : List Hd} {A : Option Addr} {ks : List Tr} {n m : Nat} {cs : List (Option Addr × Nat)} (h : Bk B wr W lo g b x y R A ks n m cs) (hb : Below W.heap.size W W') : Bk B wr W' lo g b x y R A ks n m cs :=
  ⟨h.box.keep hb h.box.lt, h.fill.keep hb, h.hds.keep (hb.mono h.lb) (Nat.le_refl _), Nat.le_trans h.lb hb.size, h.below.trans (hb.mono h.below.size)⟩
/-- what build answers -/
def Built (B : Nat) (w : World) (t : Tr) (more : List Hd) (cap : Nat) (e : Ending) (w' : World) : Prop :=
  ∃ A' c' A2 cap2, e = .returned (.tuple #[.agg #[.int .i64 t.k, .int .i64 t.i, .slice A' t.ks.length c'], .slice A2 more.length cap2]) ∧ OwnT w' w.heap.size w'.heap.size t A' c' ∧ HdR w' B A2 more ∧ more.length ≤ cap2 ∧ cap2 ≤ cap ∧ Below w.heap.size w w'
end Go.Proofs.Ytfleomamhkeiiaa
