/- A list of kids laid by appending. -/
import Derived.Test.YtgnfbhemkombaaaDoorE6
namespace Go.Proofs.YtgnfbhemkombaaaDoor
open Go.RowKit
/-- a list of kids laid by appending, box b holding it; its rows lie from block base on -/
structure Lay (w wr : World) (S base b : Nat) (x y : Value) (ts : List Tr) (A1 : Option Addr) (c1 : Nat) (cs : List (Option Addr × Nat)) : Prop where
  below : Below S w wr
  len : cs.length = ts.length
  box : Box3 wr b x y (.slice A1 ts.length c1)
  lo : S ≤ b
  lb : b < base
  own : wr.ownsRow base 24 3 (.slice A1 ts.length c1) ts.length (rowC ts cs)
  kids : OwnL wr (Value.slice A1 ts.length c1).ownBlock base wr.heap.size ts cs
theorem Lay.step {w wr w1 w4 : World} {S base b : Nat} {x y : Value} {ts : List Tr} {q : Tr} {A1 : Option Addr} {c1 : Nat} {cs : List (Option Addr × Nat)} (h : Lay w wr S base b x y ts A1 c1 cs) {o2 o3 : Obj}
    (hw1 : Below wr.heap.size wr w1) {A2 : Option Addr} {c2 : Nat} (hq : OwnT w1 wr.heap.size w1.heap.size q A2 c2) {g cap : Nat}
    (hown : w4.ownsRow base 24 3 (.slice (some ⟨g, 0, none⟩) (ts.length + 1) cap) (ts.length + 1) (rowC ts cs ++ [.int .i64 q.k, .int .i64 q.i, .slice A2 q.ks.length c2])) (hg : ((w1.alloc o2).alloc o3).grownBy w4 (Value.slice A1 ts.length c1).ownBlock)
    (hat : (Value.slice A1 ts.length c1).ownBlock = some g ∨ g = w1.heap.size + 2) :
    Lay w (w4.setCell ⟨b, 2, none⟩ (.slice (some ⟨g, 0, none⟩) (ts.length + 1) cap)) S base b x y (ts ++ [q]) (some ⟨g, 0, none⟩) cap (cs ++ [(A2, c2)]) := by
  have hlt := h.own.lt
  have hsz1 := hw1.size
  have hsz4 := hg.size
  have hbl := h.box.lt
  have hlo := h.lo
  simp only [World.size_alloc] at hsz4
  have hne : ∀ k, (Value.slice A1 ts.length c1).ownBlock = some k → base ≤ k ∧ k < wr.heap.size := hlt
  have lb := h.lb
  have hgb := (hown.lt g rfl).1
  have old : ∀ k, k < w1.heap.size → (Value.slice A1 ts.length c1).ownBlock ≠ some k → k ≠ b → (w4.setCell ⟨b, 2, none⟩ (.slice (some ⟨g, 0, none⟩) (ts.length + 1) cap)).heap[k]? = w1.heap[k]? := by
    intro k hk h1 h2
    rw [heap_setCell_other _ _ _ _ h2, hg.block k (by simp; omega) (fun e => h1 e.symm), Below.heap_alloc _ _ _ (by simp; omega), Below.heap_alloc _ _ _ hk]
  have old0 : ∀ k, k < wr.heap.size → w1.heap[k]? = wr.heap[k]? := fun k hk => hw1.block k hk
  have el : (ts ++ [q]).length = ts.length + 1 := by simp
  refine ⟨?_, by simp [h.len], ?_, h.lo, h.lb, ?_, ?_⟩
  · refine ⟨?_, ?_, ?_, ?_, ?_⟩
    · exact (show w4.os = _ from hg.os).trans ((show _ = _ from hw1.os).trans h.below.os)
    · exact (show w4.tape = _ from hg.tape).trans ((show _ = _ from hw1.tape).trans h.below.tape)
    · exact (show w4.output = _ from hg.output).trans ((show _ = _ from hw1.output).trans h.below.output)
    · have := h.below.size; simp; omega
    · intro k hk
      rw [old k (by omega) (fun e => by have := hne k e; omega) (by omega), old0 k (by omega), h.below.block k hk]
  · have b1 : Box3 w1 b x y (.slice A1 ts.length c1) := (old0 b hbl).trans h.box
    have b2 : Box3 w4 b x y (.slice A1 ts.length c1) := by
      refine (hg.block b (by simp; omega) (fun e => ?_)).trans ?_
      · have := hne b e.symm; omega
      · rw [Below.heap_alloc _ _ _ (by simp; omega), Below.heap_alloc _ _ _ (by omega)]; exact b1
    rw [el]
    exact b2.set2 _
  · rw [el, rowC_snoc _ _ _ _ _ h.len]
    exact ownsRow_same (hi := w4.heap.size) hown (fun k k1 k2 => heap_setCell_other _ _ _ _ (by show k ≠ b; omega)) (fun k e => (hown.lt k e).2)
  · rw [el]
    have k1 : OwnL (w4.setCell ⟨b, 2, none⟩ (.slice (some ⟨g, 0, none⟩) (ts.length + 1) cap)) (Value.slice (some ⟨g, 0, none⟩) (ts.length + 1) cap).ownBlock base wr.heap.size ts cs := by
      refine OwnL.same _ _ (fun k k1 k2 k3 => ?_) (fun l1 h1 hl hh ha => ?_) h.kids
      · rw [old k (by omega) k3 (by omega), old0 k k2]
      · intro g' e
        obtain rfl : g = g' := by simpa [Value.ownBlock] using e
        rcases hat with e | e
        · exact ha g e
        · omega
    have k2 : OwnT (w4.setCell ⟨b, 2, none⟩ (.slice (some ⟨g, 0, none⟩) (ts.length + 1) cap)) wr.heap.size w1.heap.size q A2 c2 :=
      OwnT.same _ (fun k k1 k2 => old k k2 (fun e => by have := hne k e; omega) (by omega)) hq
    refine (OwnL.snoc h.len k1 hsz1 ?_ k2).widen (by simp; omega)
    intro g' e
    obtain rfl : g = g' := by simpa [Value.ownBlock] using e
    rcases hat with e | e
    · have := hne g e; omega
    · omega
theorem Lay.done {w wr : World} {S base b : Nat} {x y : Value} {t : Tr} {A1 : Option Addr} {c1 : Nat} {cs : List (Option Addr × Nat)} (h : Lay w wr S base b x y t.ks A1 c1 cs) : OwnT wr base wr.heap.size t A1 c1 :=
  ownT_eq.2 ⟨cs, h.len, h.own, fun g e => (h.own.lt g e).2, h.kids⟩
/-- one more kid is laid, whatever was made between -/
theorem Lay.stepG {w wr w1 wx w4 : World} {S base b : Nat} {x y : Value} {ts : List Tr} {q : Tr} {A1 : Option Addr} {c1 : Nat} {cs : List (Option Addr × Nat)} (h : Lay w wr S base b x y ts A1 c1 cs)
    (hw1 : Below wr.heap.size wr w1) {A2 : Option Addr} {c2 : Nat} (hq : OwnT w1 wr.heap.size w1.heap.size q A2 c2) (hwx : Below w1.heap.size w1 wx) {g cap : Nat}
    (hown : w4.ownsRow base 24 3 (.slice (some ⟨g, 0, none⟩) (ts.length + 1) cap) (ts.length + 1) (rowC ts cs ++ [.int .i64 q.k, .int .i64 q.i, .slice A2 q.ks.length c2])) (hg : wx.grownBy w4 (Value.slice A1 ts.length c1).ownBlock)
    (hat : (Value.slice A1 ts.length c1).ownBlock = some g ∨ g = wx.heap.size) :
    Lay w (w4.setCell ⟨b, 2, none⟩ (.slice (some ⟨g, 0, none⟩) (ts.length + 1) cap)) S base b x y (ts ++ [q]) (some ⟨g, 0, none⟩) cap (cs ++ [(A2, c2)]) := by
  have hlt := h.own.lt
  have hsz1 := hw1.size
  have hszx := hwx.size
  have hsz4 := hg.size
  have hbl := h.box.lt
  have hlo := h.lo
  have hne : ∀ k, (Value.slice A1 ts.length c1).ownBlock = some k → base ≤ k ∧ k < wr.heap.size := hlt
  have lb := h.lb
  have hgb := (hown.lt g rfl).1
  have old : ∀ k, k < w1.heap.size → (Value.slice A1 ts.length c1).ownBlock ≠ some k → k ≠ b → (w4.setCell ⟨b, 2, none⟩ (.slice (some ⟨g, 0, none⟩) (ts.length + 1) cap)).heap[k]? = w1.heap[k]? := by
    intro k hk h1 h2
    rw [heap_setCell_other _ _ _ _ h2, hg.block k (by omega) (fun e => h1 e.symm), hwx.block k hk]
  have old0 : ∀ k, k < wr.heap.size → w1.heap[k]? = wr.heap[k]? := fun k hk => hw1.block k hk
  have el : (ts ++ [q]).length = ts.length + 1 := by simp
  refine ⟨?_, by simp [h.len], ?_, h.lo, h.lb, ?_, ?_⟩
  · refine ⟨?_, ?_, ?_, ?_, ?_⟩
    · exact (show w4.os = _ from hg.os).trans (hwx.os.trans (hw1.os.trans h.below.os))
    · exact (show w4.tape = _ from hg.tape).trans (hwx.tape.trans (hw1.tape.trans h.below.tape))
    · exact (show w4.output = _ from hg.output).trans (hwx.output.trans (hw1.output.trans h.below.output))
    · have := h.below.size; simp; omega
    · intro k hk
      rw [old k (by omega) (fun e => by have := hne k e; omega) (by omega), old0 k (by omega), h.below.block k hk]
  · have b1 : Box3 w1 b x y (.slice A1 ts.length c1) := (old0 b hbl).trans h.box
    have b2 : Box3 w4 b x y (.slice A1 ts.length c1) := by
      refine (hg.block b (by omega) (fun e => ?_)).trans ?_
      · have := hne b e.symm; omega
      · rw [hwx.block b (by omega)]; exact b1
    rw [el]
    exact b2.set2 _
  · rw [el, rowC_snoc _ _ _ _ _ h.len]
    exact ownsRow_same (hi := w4.heap.size) hown (fun k k1 k2 => heap_setCell_other _ _ _ _ (by show k ≠ b; omega)) (fun k e => (hown.lt k e).2)
  · rw [el]
    have k1 : OwnL (w4.setCell ⟨b, 2, none⟩ (.slice (some ⟨g, 0, none⟩) (ts.length + 1) cap)) (Value.slice (some ⟨g, 0, none⟩) (ts.length + 1) cap).ownBlock base wr.heap.size ts cs := by
      refine OwnL.same _ _ (fun k k1 k2 k3 => ?_) (fun l1 h1 hl hh ha => ?_) h.kids
      · rw [old k (by omega) k3 (by omega), old0 k k2]
      · intro g' e
        obtain rfl : g = g' := by simpa [Value.ownBlock] using e
        rcases hat with e | e
        · exact ha g e
        · omega
    have k2 : OwnT (w4.setCell ⟨b, 2, none⟩ (.slice (some ⟨g, 0, none⟩) (ts.length + 1) cap)) wr.heap.size w1.heap.size q A2 c2 :=
      OwnT.same _ (fun k k1 k2 => old k k2 (fun e => by have := hne k e; omega) (by omega)) hq
    refine (OwnL.snoc h.len k1 hsz1 ?_ k2).widen (by simp; omega)
    intro g' e
    obtain rfl : g = g' := by simpa [Value.ownBlock] using e
    rcases hat with e | e
    · have := hne g e; omega
    · omega
end Go.Proofs.YtgnfbhemkombaaaDoor
