/- Couples in memory. -/
import Derived.Test.YtfdggmmibgbfnaaA6
namespace Go.Proofs.Ytfdggmmibgbfnaa
open Go.RowKit
set_option linter.unusedVariables false
set_option linter.unusedSimpArgs false
theorem infoCpS : (Try.prog.info? 120).map (fun i => (i.size, i.bytes)) = some (135, 1112) := by kernel_rfl
theorem strCp : (Try.prog.underlying 120).map (·.isRow) = some true := by kernel_rfl
/-- the couples lie in a row of one's own; their trees lie where they lay -/
structure IsCs (w wr : World) (st : List Cp) (A : Option Addr) (c : Nat) (cs : List Pl) : Prop where
  below : Below w.heap.size w wr
  len : cs.length = st.length
  own : wr.ownsRow (w.heap.size + 2) 120 135 (.slice A st.length c) st.length (rowCs st cs)
  ta : ∀ m (h : m < st.length), IsT w w.heap.size st[m].a (cs[m]'(by omega)).A (cs[m]'(by omega)).c
  tb : ∀ m (h : m < st.length), IsT w w.heap.size st[m].b (cs[m]'(by omega)).A' (cs[m]'(by omega)).c'
  good : ∀ s ∈ st, goodC s
theorem IsCs.keep {w wr wr' : World} {st : List Cp} {A : Option Addr} {c : Nat} {cs : List Pl} (h : IsCs w wr st A c cs) (hb : Below wr.heap.size wr wr') : IsCs w wr' st A c cs :=
  ⟨h.below.trans (hb.mono h.below.size), h.len, ownsRow_same (hi := wr.heap.size) h.own (fun k _ k2 => hb.block k k2) (fun g e => (h.own.lt g e).2), h.ta, h.tb, h.good⟩
theorem IsCs.pop {w wr : World} {st : List Cp} {s : Cp} {A : Option Addr} {c : Nat} {cs : List Pl} (h : IsCs w wr (st ++ [s]) A c cs) :
    ∃ g cs0 p, A = some ⟨g, 0, none⟩ ∧ w.heap.size + 2 ≤ g ∧ g < wr.heap.size ∧ st.length + 1 ≤ c ∧ IsCs w wr st (some ⟨g, 0, none⟩) c cs0 ∧ IsT w w.heap.size s.a p.A p.c ∧ IsT w w.heap.size s.b p.A' p.c' ∧ goodC s ∧
      wr.rangeAt g (st.length * 135) (s.row p) := by
  have hl := h.len
  have e : (st ++ [s]).length = st.length + 1 := by simp
  obtain ⟨cs0, x, rfl⟩ : ∃ cs0 x, cs = cs0 ++ [x] := by
    have : cs ≠ [] := by intro e'; rw [e'] at hl; simp at hl
    exact ⟨cs.dropLast, cs.getLast this, (List.dropLast_concat_getLast this).symm⟩
  have hl0 : cs0.length = st.length := by simpa using hl
  have own := h.own
  rw [rowCs_append st cs0 s x hl0] at own
  obtain ⟨g, cap, hv, hg1, hg2⟩ := own.form (by omega)
  cases hv
  have hlen := rowCs_len st cs0 hl0
  have hc : wr.rangeAt g (st.length * 135) (s.row x) := by
    intro j u hj
    have hjl : j < 135 := by
      have := (List.getElem?_eq_some_iff.1 hj).1
      rw [Cp.row_len] at this
      exact this
    have := own.cellAt (st.length * 135 + j) (by rw [e]; omega)
    rw [this, List.getElem?_append_right (by omega), hlen]
    rw [show st.length * 135 + j - st.length * 135 = j by omega]
    exact hj
  have hcap : st.length + 1 ≤ c := by
    rcases own.2 with ⟨e', _⟩ | ⟨g', cap', cur, e', _, _, hc', _⟩
    · cases e'
    · cases e'; rw [e] at hc'; exact hc'
  have ha := h.ta st.length (by rw [e]; omega)
  have hb := h.tb st.length (by rw [e]; omega)
  refine ⟨g, cs0, x, rfl, hg1, hg2, hcap, ⟨h.below, hl0, ?_, fun m hm => ?_, fun m hm => ?_, fun s' hs' => h.good s' (by simp [hs'])⟩, ?_, ?_, h.good s (by simp), hc⟩
  · refine ownsRow_pop hlen (last := s.row x) ?_
    rw [e] at own
    exact own
  · have := h.ta m (by rw [e]; omega)
    simpa [List.getElem_append_left hm, List.getElem_append_left (show m < cs0.length by omega)] using this
  · have := h.tb m (by rw [e]; omega)
    simpa [List.getElem_append_left hm, List.getElem_append_left (show m < cs0.length by omega)] using this
  · simpa [hl0, List.getElem_append_right] using ha
  · simpa [hl0, List.getElem_append_right] using hb
theorem IsCs.push {w wr w4 : World} {st : List Cp} {s : Cp} {A : Option Addr} {c : Nat} {cs : List Pl} {p : Pl} {g cap : Nat} {wx : World} (h : IsCs w wr st A c cs) (ha : IsT w w.heap.size s.a p.A p.c) (hb : IsT w w.heap.size s.b p.A' p.c') (hgd : goodC s) (hx : Below wr.heap.size wr wx)
    (hown : w4.ownsRow (w.heap.size + 2) 120 135 (.slice (some ⟨g, 0, none⟩) (st.length + 1) cap) (st.length + 1) (rowCs st cs ++ s.row p)) (hg : wx.grownBy w4 (Value.slice A st.length c).ownBlock) :
    IsCs w w4 (st ++ [s]) (some ⟨g, 0, none⟩) cap (cs ++ [p]) := by
  have e : (st ++ [s]).length = st.length + 1 := by simp
  have hlt := h.own.lt
  have hz := h.below.size
  refine ⟨?_, by simp [h.len], by rw [e, rowCs_append _ _ _ _ h.len]; exact hown, fun m hm => ?_, fun m hm => ?_, fun s' hs' => ?_⟩
  · refine (h.below.trans (hx.mono h.below.size)).trans ⟨hg.os, hg.tape, hg.output, hg.size, fun k hk => hg.block k ?_ ?_⟩
    · have := hx.size; omega
    · intro e'
      have := (hlt k e'.symm).1
      omega
  · rcases Nat.lt_or_ge m st.length with h1 | h1
    · have := h.ta m h1
      simpa [List.getElem_append_left h1, List.getElem_append_left (show m < cs.length by rw [h.len]; exact h1)] using this
    · obtain rfl : m = st.length := by rw [e] at hm; omega
      simpa [h.len, List.getElem_append_right] using ha
  · rcases Nat.lt_or_ge m st.length with h1 | h1
    · have := h.tb m h1
      simpa [List.getElem_append_left h1, List.getElem_append_left (show m < cs.length by rw [h.len]; exact h1)] using this
    · obtain rfl : m = st.length := by rw [e] at hm; omega
      simpa [h.len, List.getElem_append_right] using hb
  · rcases List.mem_append.1 hs' with h1 | h1
    · exact h.good s' h1
    · simp at h1; rw [h1]; exact hgd
/-- the first couple, in a row of its own -/
theorem IsCs.start {w W : World} {s : Cp} {p : Pl} (hb : Below w.heap.size w W) (hz : w.heap.size + 2 ≤ W.heap.size) (ha : IsT w w.heap.size s.a p.A p.c) (hb' : IsT w w.heap.size s.b p.A' p.c') (hg : goodC s) :
    IsCs w (W.alloc (.cells (s.row p).toArray 120)) [s] (some ⟨W.heap.size, 0, none⟩) 1 [p] := by
  refine ⟨hb.alloc (by omega) _, rfl, ⟨by rw [rowCs_len _ _ rfl], .inr ⟨W.heap.size, 1, (s.row p).toArray, rfl, hz, ?_, Nat.le_refl _, by unfold maxLen; omega, ?_, ?_⟩⟩, fun m hm => ?_, fun m hm => ?_, fun s' hs => ?_⟩
  · exact heap_alloc_last W _
  · simp [Cp.row_len]
  · simp only [rowCs, List.append_nil, List.length_singleton]; exact List.take_of_length_le (by simp [Cp.row_len])
  · obtain rfl : m = 0 := by simpa using hm
    exact ha
  · obtain rfl : m = 0 := by simpa using hm
    exact hb'
  · simp at hs; rw [hs]; exact hg
end Go.Proofs.Ytfdggmmibgbfnaa
