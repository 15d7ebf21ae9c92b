/- spoil of layer 2's law: it writes over a tree of one's own, and nowhere else. -/
import Derived.Test.YtmmdhlemkcddmaaE16
namespace Go.Proofs.Ytmmdhlemkcddmaa
open Go.RowKit
/-- nothing but the blocks lo, .., hi - 1 has turned, of those that there were -/
structure Spo (lo hi : Nat) (w w' : World) : Prop where
  below : Below lo w w'
  rest : ∀ b, hi ≤ b → b < w.heap.size → w'.heap[b]? = w.heap[b]?
theorem Spo.trans {lo hi : Nat} {a b c : World} (h : Spo lo hi a b) (k : Spo lo hi b c) : Spo lo hi a c :=
  ⟨h.below.trans k.below, fun x h1 h2 => (k.rest x h1 (Nat.lt_of_lt_of_le h2 h.below.size)).trans (h.rest x h1 h2)⟩
theorem Spo.of_below {lo hi : Nat} {w w' : World} (h : Below w.heap.size w w') (hl : lo ≤ w.heap.size) : Spo lo hi w w' := ⟨h.mono hl, fun b _ h2 => h.block b h2⟩
theorem Spo.mono {lo hi lo' hi' : Nat} {w w' : World} (h : Spo lo hi w w') (h1 : lo' ≤ lo) (h2 : hi ≤ hi') : Spo lo' hi' w w' := ⟨h.below.mono h1, fun b h3 h4 => h.rest b (by omega) h4⟩
theorem Spo.out {lo hi : Nat} {w w' : World} (h : Spo lo hi w w') {b : Nat} (hb : b < w.heap.size) (hn : ¬ (lo ≤ b ∧ b < hi)) : w'.heap[b]? = w.heap[b]? := by
  by_cases e : b < lo
  · exact h.below.block b e
  · exact h.rest b (by omega) hb
/-- a store into one of the blocks, or into one that is new -/
theorem Spo.set {lo hi : Nat} {w w' : World} (h : Spo lo hi w w') (p : Addr) (v : Value) (h1 : lo ≤ p.block) (h2 : p.block < hi ∨ w.heap.size ≤ p.block) : Spo lo hi w (w'.setCell p v) :=
  ⟨h.below.setCell h1 v, fun b h3 h4 => (heap_setCell_other _ _ _ _ (by omega)).trans (h.rest b h3 h4)⟩
theorem Box3.spo {lo hi : Nat} {w w' : World} {b : Nat} {x y z : Value} (h : Box3 w b x y z) (s : Spo lo hi w w') (hn : ¬ (lo ≤ b ∧ b < hi)) : Box3 w' b x y z := (s.out h.lt hn).trans h
theorem ownsRow_spo {w w' : World} {l1 h1 lo : Nat} {e : TypeId} {size : Nat} {v : Value} {n : Nat} {xs : List Value} (h : w.ownsRow lo e size v n xs) (hs : Spo l1 h1 w w') (hg : Avoid v.ownBlock l1 h1) : w'.ownsRow lo e size v n xs := by
  have hlt := h.lt
  obtain ⟨e1, h2⟩ := h
  refine ⟨e1, ?_⟩
  rcases h2 with h2 | ⟨g, cap, cur, rfl, hb, hc, h3⟩
  · exact .inl h2
  · exact .inr ⟨g, cap, cur, rfl, hb, (hs.out (hlt g rfl).2 (hg g rfl)).trans hc, h3⟩
theorem Spo.grown {lo hi : Nat} {w wr w4 : World} {ob : Option Nat} (h : Spo lo hi w wr) (hl : lo ≤ w.heap.size) (hg : wr.grownBy w4 ob) (ho : ∀ g, ob = some g → lo ≤ g ∧ g < hi) : Spo lo hi w w4 := by
  have hsz := h.below.size
  refine ⟨h.below.grown hg (by omega) (fun k e => (ho k e).1), fun b h1 h2 => ?_⟩
  exact (hg.block b (by omega) (fun e => by have := ho b e.symm; omega)).trans (h.rest b h1 h2)
theorem new3a (w : World) (x y z : Value) (t : TypeId) (j : Nat) (u : Value) (h : [x, y, z][j]? = some u) : (w.alloc (.cells #[x, y, z] t)).cell? ((⟨w.heap.size, 0, none⟩ : Addr).add j) = some u := by
  have e : (w.alloc (.cells #[x, y, z] t)).heap[w.heap.size]? = some (.cells #[x, y, z] t (0, 0)) := by
    show (w.heap.push _)[w.heap.size]? = _
    rw [Array.getElem?_push]
    simp
  have e2 : (⟨w.heap.size, 0, none⟩ : Addr).add j = ⟨w.heap.size, j, none⟩ := by unfold Addr.add; split <;> simp_all
  rw [e2]
  unfold World.cell?
  rw [e]
  simpa using h
/-- m of the kids are written over -/
structure Spl (w wr : World) (lo hi : Nat) (t : Tr) (A : Option Addr) (c : Nat) (cs : List (Option Addr × Nat)) (m : Nat) : Prop where
  box : Box3 wr w.heap.size (.int .i64 t.k) (.int .i64 t.i) (.slice A t.ks.length c)
  own : ∃ xs, wr.ownsRow lo 24 3 (.slice A t.ks.length c) t.ks.length xs ∧ ∀ j, m * 3 ≤ j → xs[j]? = (rowC t.ks cs)[j]?
  kids : ∃ lo', lo ≤ lo' ∧ OwnL wr (Value.slice A t.ks.length c).ownBlock lo' hi (t.ks.drop m) (cs.drop m)
  spo : Spo lo hi w wr
theorem Spl.start {w : World} {lo hi : Nat} {t : Tr} {A : Option Addr} {c : Nat} (h : OwnT w lo hi t A c) (hh : hi ≤ w.heap.size) : ∃ cs : List (Option Addr × Nat), cs.length = t.ks.length ∧ (∀ g, (Value.slice A t.ks.length c).ownBlock = some g → lo ≤ g ∧ g < hi) ∧ Spl w (w.alloc (.cells #[.int .i64 t.k, .int .i64 t.i, .slice A t.ks.length c] 24)) lo hi t A c cs 0 := by
  obtain ⟨cs, h1, h2, h3, h4⟩ := ownT_eq.1 h
  have hle := h.le
  have hb : Below w.heap.size w (w.alloc (.cells #[.int .i64 t.k, .int .i64 t.i, .slice A t.ks.length c] 24)) := (Below.refl _ _).alloc (Nat.le_refl _) _
  refine ⟨cs, h1, fun g e => ⟨(h2.lt g e).1, h3 g e⟩, Box3.new _ _ _ _, ⟨_, ownsRow_same (hi := hi) h2 (SameIn.of_below hb hh) h3, fun _ _ => rfl⟩, ⟨lo, Nat.le_refl _, ?_⟩, Spo.of_below hb (by omega)⟩
  simpa using OwnL.same _ _ (fun b _ hb2 _ => hb.block b (by omega)) (fun _ _ _ _ ha => ha) h4
/-- the next kid: where it lies; what is left when it, too, is written over -/
theorem Spl.kid {w wr : World} {lo hi : Nat} {t : Tr} {A : Option Addr} {c : Nat} {cs : List (Option Addr × Nat)} {m : Nat} (h : Spl w wr lo hi t A c cs m) (hh : hi ≤ w.heap.size) (hc : cs.length = t.ks.length) (hob : ∀ g, (Value.slice A t.ks.length c).ownBlock = some g → lo ≤ g ∧ g < hi) (hm : m < t.ks.length) :
    ∃ g A' c' l1 h1, A = some ⟨g, 0, none⟩ ∧ OwnT wr l1 h1 t.ks[m] A' c' ∧ h1 ≤ hi ∧ lo ≤ l1 ∧ wr.cell? ⟨g, m * 3, none⟩ = some (.int .i64 t.ks[m].k) ∧ wr.cell? ⟨g, m * 3 + 1, none⟩ = some (.int .i64 t.ks[m].i) ∧ wr.cell? ⟨g, m * 3 + 2, none⟩ = some (.slice A' t.ks[m].ks.length c') ∧ t.ks.length ≤ c ∧
      (∀ w1, Spo l1 h1 wr w1 → (∀ x y z : Value, Spl w (((w1.setCell ⟨g, m * 3, none⟩ x).setCell ⟨g, m * 3 + 1, none⟩ y).setCell ⟨g, m * 3 + 2, none⟩ z) lo hi t A c cs (m + 1)) ∧ w1.cell? ⟨w.heap.size, 2, none⟩ = some (.slice A t.ks.length c) ∧ (∀ j, w1.frozen? ⟨g, j, none⟩ = false) ∧ ∃ u0 u1 u2, w1.cell? ⟨g, m * 3, none⟩ = some u0 ∧ w1.cell? ⟨g, m * 3 + 1, none⟩ = some u1 ∧ w1.cell? ⟨g, m * 3 + 2, none⟩ = some u2) := by
  obtain ⟨xs, ho, hx⟩ := h.own
  obtain ⟨lo', hl', hk⟩ := h.kids
  obtain ⟨r0, r1, r2⟩ := rowC_get t.ks cs m hm hc
  rw [List.drop_eq_getElem_cons hm, List.drop_eq_getElem_cons (show m < cs.length by omega)] at hk
  generalize hq : t.ks[m] = q at hk r0 r1 r2 ⊢
  generalize hcm : cs[m] = p at hk r2
  obtain ⟨A', c'⟩ := p
  obtain ⟨l1, h1, a1, a2, a3, a4, a5⟩ := ownL_cons.1 hk
  have hl5 := a5.le
  rcases ho.2 with ⟨e, hn⟩ | ⟨g, cap, cur, e, hb, hcur, hcap, h3⟩
  · omega
  · obtain ⟨rfl, _, rfl⟩ := by simpa using e
    have hgo := hob g rfl
    refine ⟨g, A', c', l1, h1, rfl, a4, hl5, by omega, ?_, ?_, ?_, hcap, ?_⟩
    · rw [ho.cellAt (m * 3) (by omega), hx _ (by omega), r0]
    · rw [ho.cellAt (m * 3 + 1) (by omega), hx _ (by omega), r1]
    · rw [ho.cellAt (m * 3 + 2) (by omega), hx _ (by omega), r2]
    · intro w1 hs
      have ho1 := ownsRow_spo ho hs a3
      have hxl : xs.length = t.ks.length * 3 := ho.1
      have hbx : Box3 w1 w.heap.size (.int .i64 t.k) (.int .i64 t.i) (.slice (some ⟨g, 0, none⟩) t.ks.length c) := h.box.spo hs (by omega)
      have other : ∀ (x y z : Value) (b : Nat), b ≠ g → (((w1.setCell ⟨g, m * 3, none⟩ x).setCell ⟨g, m * 3 + 1, none⟩ y).setCell ⟨g, m * 3 + 2, none⟩ z).heap[b]? = w1.heap[b]? := fun x y z b hbg => by
        rw [heap_setCell_other _ _ _ _ hbg, heap_setCell_other _ _ _ _ hbg, heap_setCell_other _ _ _ _ hbg]
      refine ⟨fun x y z => ⟨?_, ?_, ?_, ?_⟩, hbx.cells.2.2, fun j => ho1.frozenAt j, ?_⟩
      · exact (other x y z _ (by omega)).trans hbx
      · refine ⟨_, (((ho1.stored (m * 3) x).1.stored (m * 3 + 1) y).1.stored (m * 3 + 2) z).1, fun j hj => ?_⟩
        rw [List.getElem?_set_ne (by omega), List.getElem?_set_ne (by omega), List.getElem?_set_ne (by omega), hx j (by omega)]
      · refine ⟨h1, by omega, OwnL.same _ _ (fun b b1 b2 b3 => ?_) (fun _ _ _ _ ha => ha) a5⟩
        rw [other x y z b (fun e => b3 (by rw [e]; rfl))]
        exact hs.out (by have := h.spo.below.size; omega) (by omega)
      · exact (((h.spo.trans (hs.mono (by omega) hl5)).set ⟨g, m * 3, none⟩ x hgo.1 (.inl hgo.2)).set ⟨g, m * 3 + 1, none⟩ y hgo.1 (.inl hgo.2)).set ⟨g, m * 3 + 2, none⟩ z hgo.1 (.inl hgo.2)
      · refine ⟨xs[m * 3], xs[m * 3 + 1], xs[m * 3 + 2], ?_, ?_, ?_⟩
        · rw [ho1.cellAt (m * 3) (by omega), List.getElem?_eq_getElem]
        · rw [ho1.cellAt (m * 3 + 1) (by omega), List.getElem?_eq_getElem]
        · rw [ho1.cellAt (m * 3 + 2) (by omega), List.getElem?_eq_getElem]
end Go.Proofs.Ytmmdhlemkcddmaa
