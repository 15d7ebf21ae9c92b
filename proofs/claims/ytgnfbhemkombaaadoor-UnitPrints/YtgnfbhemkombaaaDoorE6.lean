/- The document's Copy. -/
import Derived.Test.YtgnfbhemkombaaaDoorE3
import Derived.Test.YtgnfbhemkombaaaDoorE5
namespace Go.Proofs.YtgnfbhemkombaaaDoor
open Go.RowKit
theorem infoE : (Tryd.prog.info? 24).map (fun i => (i.zero, i.size, i.bytes)) = some (some (.agg #[.int .i64 0, .int .i64 0, .slice none 0 0]), 3, 40) := by kernel_rfl
/-- block b is a box of three cells -/
def Box3 (w : World) (b : Nat) (x y z : Value) : Prop := w.heap[b]? = some (.cells #[x, y, z] 24 (0, 0))
theorem Box3.cells {w : World} {b : Nat} {x y z : Value} (h : Box3 w b x y z) : w.cell? ⟨b, 0, none⟩ = some x ∧ w.cell? ⟨b, 1, none⟩ = some y ∧ w.cell? ⟨b, 2, none⟩ = some z := by
  unfold Box3 at h
  simp [World.cell?, h]
theorem Box3.frozen {w : World} {b : Nat} {x y z : Value} (h : Box3 w b x y z) (o : Nat) : w.frozen? ⟨b, o, none⟩ = false := by
  unfold Box3 at h
  simp [World.frozen?, h]
theorem Box3.lt {w : World} {b : Nat} {x y z : Value} (h : Box3 w b x y z) : b < w.heap.size := (Array.getElem?_eq_some_iff.1 h).1
theorem Box3.keep {w w' : World} {b B : Nat} {x y z : Value} (h : Box3 w b x y z) (hb : Below B w w') (hB : b < B) : Box3 w' b x y z := (hb.block b hB).trans h
theorem Box3.grown {w w' : World} {b : Nat} {row : Option Nat} {x y z : Value} (h : Box3 w b x y z) (hg : w.grownBy w' row) (hne : some b ≠ row) : Box3 w' b x y z := (hg.block b h.lt hne).trans h
theorem Box3.new (w : World) (x y z : Value) : Box3 (w.alloc (.cells #[x, y, z] 24)) w.heap.size x y z := by
  show (w.heap.push _)[w.heap.size]? = _
  simp
theorem heap_setCell_other (w : World) (p : Addr) (v : Value) (b : Nat) (h : b ≠ p.block) : (w.setCell p v).heap[b]? = w.heap[b]? := by
  unfold World.setCell
  rw [Array.getElem?_modify, if_neg (fun e => h e.symm)]
theorem Box3.set_other {w : World} {b : Nat} {x y z : Value} (h : Box3 w b x y z) (p : Addr) (v : Value) (hne : b ≠ p.block) : Box3 (w.setCell p v) b x y z := (heap_setCell_other w p v b hne).trans h
theorem Box3.set2 {w : World} {b : Nat} {x y z : Value} (h : Box3 w b x y z) (v : Value) : Box3 (w.setCell ⟨b, 2, none⟩ v) b x y v := by
  unfold Box3 at *
  unfold World.setCell
  simp [Array.getElem?_modify, h]
theorem grown_setCell {w : World} (p : Addr) (v : Value) : w.grownBy (w.setCell p v) (some p.block) :=
  ⟨rfl, rfl, rfl, by simp, fun k _ hk => heap_setCell_other w p v k (fun e => hk (by rw [e]))⟩
/-- how far a list of kids has been laid: m of them, behind the slice (A1, c1), which box b holds -/
structure Laid (w wr : World) (S b : Nat) (x y : Value) (ks : List Tr) (m : Nat) (A1 : Option Addr) (c1 : Nat) (cs : List (Option Addr × Nat)) : Prop where
  below : Below S w wr
  len : cs.length = m
  box : Box3 wr b x y (.slice A1 m c1)
  lb : b < S + 3
  own : wr.ownsRow (S + 3) 24 3 (.slice A1 m c1) m (rowC (ks.take m) cs)
  kids : OwnL wr (Value.slice A1 m c1).ownBlock (S + 3) wr.heap.size (ks.take m) cs
theorem Laid.step {w wr w1 w4 : World} {S b : Nat} {x y : Value} {ks : List Tr} {m : Nat} {A1 : Option Addr} {c1 : Nat} {cs : List (Option Addr × Nat)} (h : Laid w wr S b x y ks m A1 c1 cs) (hm : m < ks.length) {o1 o2 o3 : Obj}
    (hS : S ≤ b) (hw1 : Below (wr.heap.size + 1) (wr.alloc o1) w1) {A2 : Option Addr} {c2 : Nat} (hq : OwnT w1 (wr.heap.size + 1) w1.heap.size ks[m] A2 c2) {g cap : Nat}
    (hown : w4.ownsRow (S + 3) 24 3 (.slice (some ⟨g, 0, none⟩) (m + 1) cap) (m + 1) (rowC (ks.take m) cs ++ [.int .i64 ks[m].k, .int .i64 ks[m].i, .slice A2 ks[m].ks.length c2])) (hg : ((w1.alloc o2).alloc o3).grownBy w4 (Value.slice A1 m c1).ownBlock)
    (hat : (Value.slice A1 m c1).ownBlock = some g ∨ g = w1.heap.size + 2) :
    Laid w (w4.setCell ⟨b, 2, none⟩ (.slice (some ⟨g, 0, none⟩) (m + 1) cap)) S b x y ks (m + 1) (some ⟨g, 0, none⟩) cap (cs ++ [(A2, c2)]) := by
  have hlt := h.own.lt
  have hsz1 := hw1.size
  have hsz4 := hg.size
  have hbl := h.box.lt
  have hSle : S ≤ wr.heap.size := by omega
  simp at hsz1 hsz4
  have hg3 : S + 3 ≤ g := (hown.lt g rfl).1
  have hne : ∀ k, (Value.slice A1 m c1).ownBlock = some k → S + 3 ≤ k ∧ k < wr.heap.size := hlt
  have lb := h.lb
  -- every old block but the row's own is as it was
  have old : ∀ k, k < w1.heap.size → (Value.slice A1 m c1).ownBlock ≠ some k → k ≠ b → (w4.setCell ⟨b, 2, none⟩ (.slice (some ⟨g, 0, none⟩) (m + 1) cap)).heap[k]? = w1.heap[k]? := by
    intro k hk h1 h2
    rw [heap_setCell_other _ _ _ _ h2, hg.block k (by simp; omega) (fun e => h1 e.symm), Below.heap_alloc _ _ _ (by simp; omega), Below.heap_alloc _ _ _ hk]
  have old0 : ∀ k, k < wr.heap.size → w1.heap[k]? = wr.heap[k]? := fun k hk => by rw [hw1.block k (by omega), Below.heap_alloc _ _ _ hk]
  refine ⟨?_, by simp [h.len], ?_, h.lb, ?_, ?_⟩
  · refine ⟨?_, ?_, ?_, ?_, ?_⟩
    · exact (show w4.os = _ from hg.os).trans ((show _ = _ from hw1.os).trans h.below.os)
    · exact (show w4.tape = _ from hg.tape).trans ((show _ = _ from hw1.tape).trans h.below.tape)
    · exact (show w4.output = _ from hg.output).trans ((show _ = _ from hw1.output).trans h.below.output)
    · have := h.below.size; simp; omega
    · intro k hk
      rw [old k (by omega) (fun e => by have := hne k e; omega) (by omega), old0 k (by omega), h.below.block k hk]
  · have b1 : Box3 w1 b x y (.slice A1 m c1) := (old0 b hbl).trans h.box
    have b2 : Box3 w4 b x y (.slice A1 m c1) := by
      refine (hg.block b (by simp; omega) (fun e => ?_)).trans ?_
      · have := hne b e.symm; omega
      · rw [Below.heap_alloc _ _ _ (by simp; omega), Below.heap_alloc _ _ _ (by omega)]; exact b1
    exact b2.set2 _
  · rw [List.take_succ_eq_append_getElem hm, rowC_snoc _ _ _ _ _ (by rw [h.len]; simp; omega)]
    exact ownsRow_same (hi := w4.heap.size) hown (fun k k1 k2 => heap_setCell_other _ _ _ _ (by show k ≠ b; omega)) (fun k e => (hown.lt k e).2)
  · rw [List.take_succ_eq_append_getElem hm]
    have k1 : OwnL (w4.setCell ⟨b, 2, none⟩ (.slice (some ⟨g, 0, none⟩) (m + 1) cap)) (Value.slice (some ⟨g, 0, none⟩) (m + 1) cap).ownBlock (S + 3) wr.heap.size (ks.take m) cs := by
      refine OwnL.same _ _ (fun k k1 k2 k3 => ?_) (fun l1 h1 hl hh ha => ?_) h.kids
      · rw [old k (by omega) k3 (by omega), old0 k k2]
      · intro g' e
        obtain rfl : g = g' := by simpa [Value.ownBlock] using e
        rcases hat with e | e
        · exact ha g e
        · omega
    have k2 : OwnT (w4.setCell ⟨b, 2, none⟩ (.slice (some ⟨g, 0, none⟩) (m + 1) cap)) (wr.heap.size + 1) w1.heap.size ks[m] A2 c2 :=
      OwnT.same _ (fun k k1 k2 => old k k2 (fun e => by have := hne k e; omega) (by omega)) hq
    refine (OwnL.snoc (by rw [h.len]; simp; omega) (k1.widen (Nat.le_succ _)) hsz1 ?_ k2).widen (by simp; omega)
    intro g' e
    obtain rfl : g = g' := by simpa [Value.ownBlock] using e
    rcases hat with e | e
    · have := hne g e; omega
    · omega
/-- all are laid: the tree is one's own -/
theorem Laid.done {w wr : World} {S b : Nat} {x y : Value} {t : Tr} {A1 : Option Addr} {c1 : Nat} {cs : List (Option Addr × Nat)} (h : Laid w wr S b x y t.ks t.ks.length A1 c1 cs) : OwnT wr (S + 3) wr.heap.size t A1 c1 := by
  have h1 := h.own
  have h2 := h.kids
  rw [List.take_length] at h1 h2
  exact ownT_eq.2 ⟨cs, h.len, h1, fun g e => (h1.lt g e).2, h2⟩
theorem news3 (w : World) (o : Obj) (x y z : Value) (t : TypeId) (j : Nat) (u : Value) (h : [x, y, z][j]? = some u) : ((w.alloc o).alloc (.cells #[x, y, z] t)).cell? ((⟨w.heap.size + 1, 0, none⟩ : Addr).add j) = some u := by
  have e : ((w.alloc o).alloc (.cells #[x, y, z] t)).heap[w.heap.size + 1]? = some (.cells #[x, y, z] t (0, 0)) := by
    show ((w.heap.push o).push _)[w.heap.size + 1]? = _
    rw [Array.getElem?_push]
    simp
  have e2 : (⟨w.heap.size + 1, 0, none⟩ : Addr).add j = ⟨w.heap.size + 1, j, none⟩ := by unfold Addr.add; split <;> simp_all
  rw [e2]
  unfold World.cell?
  rw [e]
  simpa using h
theorem same_set3 {lo hi : Nat} (w : World) (b : Nat) (x y z : Value) (h : b < lo) : SameIn lo hi w (((w.setCell ⟨b, 0, none⟩ x).setCell ⟨b, 1, none⟩ y).setCell ⟨b, 2, none⟩ z) := fun k k1 _ => by
  rw [heap_setCell_other _ _ _ _ (by show k ≠ b; omega), heap_setCell_other _ _ _ _ (by show k ≠ b; omega), heap_setCell_other _ _ _ _ (by show k ≠ b; omega)]
theorem below_set3 {B : Nat} {w w' : World} {b : Nat} (h : Below B w w') (x y z : Value) (hb : B ≤ b) : Below B w (((w'.setCell ⟨b, 0, none⟩ x).setCell ⟨b, 1, none⟩ y).setCell ⟨b, 2, none⟩ z) :=
  ((h.setCell (p := ⟨b, 0, none⟩) hb _).setCell (p := ⟨b, 1, none⟩) hb _).setCell (p := ⟨b, 2, none⟩) hb _
end Go.Proofs.YtgnfbhemkombaaaDoor
