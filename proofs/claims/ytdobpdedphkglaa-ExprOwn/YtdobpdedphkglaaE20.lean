/- The document's read. -/
import Derived.Test.YtdobpdedphkglaaE19
namespace Go.Proofs.Ytdobpdedphkglaa
open Go.RowKit
/-- a list of kids laid by appending, box b holding it; its rows lie from block base on -/
structure Lay (w wr : World) (S base b : Nat) (x y : Value) (ts : List Tr) (A1 : Option Addr) (c1 : Nat) (cs : List (Option Addr × Nat)) : Prop where
  below : Below S w wr
  len : cs.length = ts.length
  box : Box3 wr b x y (.slice A1 ts.length c1)
  lo : S ≤ b
  lb : b < base
  own : wr.ownsRow base 24 3 (.slice A1 ts.length c1) ts.length (rowC ts cs)
  kids : OwnL wr (Value.slice A1 ts.length c1).ownBlock base wr.heap.size ts cs
theorem Lay.step {w wr w1 w4 : World} {S base b : Nat} {x y : Value} {ts : List Tr} {q : Tr} {A1 : Option Addr} {c1 : Nat} {cs : List (Option Addr × Nat)} (h : Lay w wr S base b x y ts A1 c1 cs) {o2 o3 : Obj}
    (hw1 : Below wr.heap.size wr w1) {A2 : Option Addr} {c2 : Nat} (hq : OwnT w1 wr.heap.size w1.heap.size q A2 c2) {g cap : Nat}
    (hown : w4.ownsRow base 24 3 (.slice (some ⟨g, 0, none⟩) (ts.length + 1) cap) (ts.length + 1) (rowC ts cs ++ [.int .i64 q.k, .int .i64 q.i, .slice A2 q.ks.length c2])) (hg : ((w1.alloc o2).alloc o3).grownBy w4 (Value.slice A1 ts.length c1).ownBlock)
    (hat : (Value.slice A1 ts.length c1).ownBlock = some g ∨ g = w1.heap.size + 2) :
    Lay w (w4.setCell ⟨b, 2, none⟩ (.slice (some ⟨g, 0, none⟩) (ts.length + 1) cap)) S base b x y (ts ++ [q]) (some ⟨g, 0, none⟩) cap (cs ++ [(A2, c2)]) := by
  have hlt := h.own.lt
  have hsz1 := hw1.size
  have hsz4 := hg.size
  have hbl := h.box.lt
  have hlo := h.lo
  simp only [World.size_alloc] at hsz4
  have hne : ∀ k, (Value.slice A1 ts.length c1).ownBlock = some k → base ≤ k ∧ k < wr.heap.size := hlt
  have lb := h.lb
  have hgb := (hown.lt g rfl).1
  have old : ∀ k, k < w1.heap.size → (Value.slice A1 ts.length c1).ownBlock ≠ some k → k ≠ b → (w4.setCell ⟨b, 2, none⟩ (.slice (some ⟨g, 0, none⟩) (ts.length + 1) cap)).heap[k]? = w1.heap[k]? := by
    intro k hk h1 h2
    rw [heap_setCell_other _ _ _ _ h2, hg.block k (by simp; omega) (fun e => h1 e.symm), Below.heap_alloc _ _ _ (by simp; omega), Below.heap_alloc _ _ _ hk]
  have old0 : ∀ k, k < wr.heap.size → w1.heap[k]? = wr.heap[k]? := fun k hk => hw1.block k hk
  have el : (ts ++ [q]).length = ts.length + 1 := by simp
  refine ⟨?_, by simp [h.len], ?_, h.lo, h.lb, ?_, ?_⟩
  · refine ⟨?_, ?_, ?_, ?_, ?_⟩
    · exact (show w4.os = _ from hg.os).trans ((show _ = _ from hw1.os).trans h.below.os)
    · exact (show w4.tape = _ from hg.tape).trans ((show _ = _ from hw1.tape).trans h.below.tape)
    · exact (show w4.output = _ from hg.output).trans ((show _ = _ from hw1.output).trans h.below.output)
    · have := h.below.size; simp; omega
    · intro k hk
      rw [old k (by omega) (fun e => by have := hne k e; omega) (by omega), old0 k (by omega), h.below.block k hk]
  · have b1 : Box3 w1 b x y (.slice A1 ts.length c1) := (old0 b hbl).trans h.box
    have b2 : Box3 w4 b x y (.slice A1 ts.length c1) := by
      refine (hg.block b (by simp; omega) (fun e => ?_)).trans ?_
      · have := hne b e.symm; omega
      · rw [Below.heap_alloc _ _ _ (by simp; omega), Below.heap_alloc _ _ _ (by omega)]; exact b1
    rw [el]
    exact b2.set2 _
  · rw [el, rowC_snoc _ _ _ _ _ h.len]
    exact ownsRow_same (hi := w4.heap.size) hown (fun k k1 k2 => heap_setCell_other _ _ _ _ (by show k ≠ b; omega)) (fun k e => (hown.lt k e).2)
  · rw [el]
    have k1 : OwnL (w4.setCell ⟨b, 2, none⟩ (.slice (some ⟨g, 0, none⟩) (ts.length + 1) cap)) (Value.slice (some ⟨g, 0, none⟩) (ts.length + 1) cap).ownBlock base wr.heap.size ts cs := by
      refine OwnL.same _ _ (fun k k1 k2 k3 => ?_) (fun l1 h1 hl hh ha => ?_) h.kids
      · rw [old k (by omega) k3 (by omega), old0 k k2]
      · intro g' e
        obtain rfl : g = g' := by simpa [Value.ownBlock] using e
        rcases hat with e | e
        · exact ha g e
        · omega
    have k2 : OwnT (w4.setCell ⟨b, 2, none⟩ (.slice (some ⟨g, 0, none⟩) (ts.length + 1) cap)) wr.heap.size w1.heap.size q A2 c2 :=
      OwnT.same _ (fun k k1 k2 => old k k2 (fun e => by have := hne k e; omega) (by omega)) hq
    refine (OwnL.snoc h.len k1 hsz1 ?_ k2).widen (by simp; omega)
    intro g' e
    obtain rfl : g = g' := by simpa [Value.ownBlock] using e
    rcases hat with e | e
    · have := hne g e; omega
    · omega
theorem Lay.done {w wr : World} {S base b : Nat} {x y : Value} {t : Tr} {A1 : Option Addr} {c1 : Nat} {cs : List (Option Addr × Nat)} (h : Lay w wr S base b x y t.ks A1 c1 cs) : OwnT wr base wr.heap.size t A1 c1 :=
  ownT_eq.2 ⟨cs, h.len, h.own, fun g e => (h.own.lt g e).2, h.kids⟩
theorem rdH_bounds {bs : List Nat} (hb : ∀ b ∈ bs, b < 256) {r m p : Nat} {hs : List Hd} {q : Nat} (h : rdH bs r m p = .ok (hs, q)) (hp : p ≤ bs.length) : q ≤ bs.length ∧ hs.length ≤ r := by
  obtain ⟨ts, _, e2, _, e4, e5⟩ := rdH_trees bs hb r m p hs q h
  refine ⟨(e5 hp).1, ?_⟩
  rw [← e2, hdsL_len]
  exact e4
/-- what read answers, r being how many heads may still come, nn how many came -/
def ReadPost (w : World) (bs : List Nat) (r p nn : Nat) (e : Ending) (w' : World) : Prop :=
  Below w.heap.size w w' ∧ match rdH bs r 1 p with
    | .error f => f ≠ 0 ∧ ∃ a m : Nat, e = .returned (.tuple #[.agg #[.int .i64 0, .int .i64 0, .slice none 0 0], .int .i64 (a : Int), .int .i64 (m : Int), .int .i64 (f : Int)])
    | .ok (hs, q) => ∃ t A' c', t.hds = hs ∧ OwnT w' w.heap.size w'.heap.size t A' c' ∧ e = .returned (.tuple #[.agg #[.int .i64 t.k, .int .i64 t.i, .slice A' t.ks.length c'], .int .i64 (q : Int), .int .i64 ((nn + hs.length : Nat) : Int), .int .i64 0])
/-- kids ts have been read; z are asked for -/
def KInv (bs : List Nat) (r z p1 : Nat) (ts : List Tr) (p : Nat) : Prop :=
  rdH bs r z p1 = match rdH bs (r - (hdsL ts).length) (z - ts.length) p with
    | .error e => .error e
    | .ok (hs', q) => .ok (hdsL ts ++ hs', q)
theorem KInv.start (bs : List Nat) (r z p1 : Nat) : KInv bs r z p1 [] p1 := by
  unfold KInv
  simp only [hdsL, List.length_nil, Nat.sub_zero, List.nil_append]
  cases rdH bs r z p1 with
  | error e => rfl
  | ok x => rfl
theorem KInv.err {bs : List Nat} {r z p1 : Nat} {ts : List Tr} {p f : Nat} (h : KInv bs r z p1 ts p) (hz : ts.length < z) (he : rdH bs (r - (hdsL ts).length) 1 p = .error f) : rdH bs r z p1 = .error f := by
  unfold KInv at h
  rw [h, show z - ts.length = 1 + (z - ts.length - 1) by omega, rdH_split, he]
theorem KInv.step {bs : List Nat} {r z p1 : Nat} {ts : List Tr} {p q : Nat} {t : Tr} (h : KInv bs r z p1 ts p) (hz : ts.length < z) (he : rdH bs (r - (hdsL ts).length) 1 p = .ok (t.hds, q)) : KInv bs r z p1 (ts ++ [t]) q := by
  unfold KInv at *
  rw [h, show z - ts.length = 1 + (z - (ts ++ [t]).length) by simp; omega, rdH_split, he]
  have e : hdsL (ts ++ [t]) = hdsL ts ++ t.hds := by rw [hdsL_append]; simp [hdsL]
  simp only [e, List.length_append, Nat.sub_sub]
  cases rdH bs (r - ((hdsL ts).length + t.hds.length)) (z - (ts.length + [t].length)) q with
  | error e => rfl
  | ok x => obtain ⟨a, b⟩ := x; simp
theorem KInv.done {bs : List Nat} {r z p1 : Nat} {ts : List Tr} {p : Nat} (h : KInv bs r z p1 ts p) (hz : ts.length = z) : rdH bs r z p1 = .ok (hdsL ts, p) := by
  unfold KInv at h
  rw [h, hz, Nat.sub_self, rdH_zero]
  simp
end Go.Proofs.Ytdobpdedphkglaa
