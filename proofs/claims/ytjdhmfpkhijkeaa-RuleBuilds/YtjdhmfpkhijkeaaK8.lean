/- The document's Unfolded. -/
import Derived.Test.YtjdhmfpkhijkeaaK6
import Derived.Test.YtjdhmfpkhijkeaaE6
namespace Go.Proofs.Ytjdhmfpkhijkeaa
open Go.RowKit
set_option linter.unusedVariables false
set_option linter.unusedSimpArgs false
/-- a box for what comes out, cells that stay, new trees -/
structure VO (w W : World) (ps : List (Addr × Value)) (os : List (Tr × Option Addr × Nat)) : Prop where
  rb : ∃ u v y, Box3 W (w.heap.size + 1) u v y
  cel : ∀ p ∈ ps, W.cell? p.1 = some p.2 ∧ p.1.block ≠ w.heap.size + 1
  own : ∀ q ∈ os, FrT (fun k => k < w.heap.size + 3) W q.1 q.2.1 q.2.2
  bel : Below w.heap.size w W
  size : w.heap.size + 3 ≤ W.heap.size
section
variable {w W W' : World} {ps : List (Addr × Value)} {os : List (Tr × Option Addr × Nat)}
theorem VO.keep (h : VO w W ps os) (hb : Below W.heap.size W W') : VO w W' ps os :=
  ⟨by obtain ⟨u, v, y, hr⟩ := h.rb; exact ⟨u, v, y, hr.keep hb hr.lt⟩, fun p hp => ⟨(hb.cell (block_lt_of_cell (h.cel p hp).1)).trans (h.cel p hp).1, (h.cel p hp).2⟩,
   fun q hq => (h.own q hq).keep hb, h.bel.trans (hb.mono h.bel.size), Nat.le_trans h.size hb.size⟩
theorem VO.drew (h : VO w W ps os) : VO w W.drew ps os := h.keep (Below.refl _ _).drew
theorem VO.ce (h : VO w W ps os) (a : Addr) (v : Value) (hx : (a, v) ∈ ps) : W.cell? a = some v := (h.cel _ hx).1
theorem VO.set (h : VO w W ps os) (u v y : Value) : VO w (((W.setCell ⟨w.heap.size + 1, 0, none⟩ u).setCell ⟨w.heap.size + 1, 1, none⟩ v).setCell ⟨w.heap.size + 1, 2, none⟩ y) ps os := by
  have far : ∀ k, k ≠ w.heap.size + 1 → (((W.setCell ⟨w.heap.size + 1, 0, none⟩ u).setCell ⟨w.heap.size + 1, 1, none⟩ v).setCell ⟨w.heap.size + 1, 2, none⟩ y).heap[k]? = W.heap[k]? := fun k hk => by
    rw [heap_setCell_other _ _ _ _ hk, heap_setCell_other _ _ _ _ hk, heap_setCell_other _ _ _ _ hk]
  refine ⟨?_, fun p hp => ⟨(World.cell?_of_block (far _ (h.cel p hp).2)).trans (h.cel p hp).1, (h.cel p hp).2⟩, fun q hq => (h.own q hq).set3 (by omega) _ _ _, below_set3 h.bel _ _ _ (by omega), by have := h.size; simpa using this⟩
  obtain ⟨u', v', y', hr⟩ := h.rb
  exact ⟨_, _, _, hr.setall u v y⟩
theorem VO.res (h : VO w W ps os) (u v y : Value) : Box3 (((W.setCell ⟨w.heap.size + 1, 0, none⟩ u).setCell ⟨w.heap.size + 1, 1, none⟩ v).setCell ⟨w.heap.size + 1, 2, none⟩ y) (w.heap.size + 1) u v y := by
  obtain ⟨u', v', y', hr⟩ := h.rb
  exact hr.setall u v y
theorem VO.froz (h : VO w W ps os) (o : Nat) : W.frozen? ⟨w.heap.size + 1, o, none⟩ = false := by
  obtain ⟨u', v', y', hr⟩ := h.rb
  exact hr.frozen o
theorem VO.one (h : VO w W ps os) {k i : Int} {a : Tr} {A : Option Addr} {c : Nat} {e : Ending} (hr : RowX W k i [.int .i64 a.k, .int .i64 a.i, .slice A a.ks.length c] 1 e W') (hm : (a, A, c) ∈ os) :
    ∃ B d, e = .returned (.agg #[.int .i64 k, .int .i64 i, .slice B 1 d]) ∧ VO w W' ps ((.node k i [a], B, d) :: os) ∧ Below W.heap.size W W' := by
  obtain ⟨B, d, he, hf, hb⟩ := row_tree1 hr (X := fun k => k < w.heap.size + 3) (fun k hk => by have := h.size; omega) (h.own _ hm)
  have h' := h.keep hb
  exact ⟨B, d, he, ⟨h'.rb, h'.cel, fun q hq => by rcases List.mem_cons.1 hq with rfl | hq; exact hf; exact h'.own q hq, h'.bel, h'.size⟩, hb⟩
theorem VO.two (h : VO w W ps os) {k i : Int} {a b : Tr} {A B : Option Addr} {c d : Nat} {e : Ending} (hr : RowX W k i [.int .i64 a.k, .int .i64 a.i, .slice A a.ks.length c, .int .i64 b.k, .int .i64 b.i, .slice B b.ks.length d] 2 e W') (hm : (a, A, c) ∈ os) (hn : (b, B, d) ∈ os) :
    ∃ D f, e = .returned (.agg #[.int .i64 k, .int .i64 i, .slice D 2 f]) ∧ VO w W' ps ((.node k i [a, b], D, f) :: os) ∧ Below W.heap.size W W' := by
  obtain ⟨D, f, he, hf, hb⟩ := row_tree2 hr (X := fun k => k < w.heap.size + 3) (fun k hk => by have := h.size; omega) (h.own _ hm) (h.own _ hn)
  have h' := h.keep hb
  exact ⟨D, f, he, ⟨h'.rb, h'.cel, fun q hq => by rcases List.mem_cons.1 hq with rfl | hq; exact hf; exact h'.own q hq, h'.bel, h'.size⟩, hb⟩
end
/-- a tree that is answered, all of it in new blocks -/
def NewF (w : World) (t : Tr) (e : Ending) (w' : World) : Prop := ∃ A c, e = .returned (.agg #[.int .i64 t.k, .int .i64 t.i, .slice A t.ks.length c]) ∧ FrT (fun k => k < w.heap.size) w' t A c ∧ Below w.heap.size w w'
theorem vo_new {w W : World} {ps : List (Addr × Value)} {os : List (Tr × Option Addr × Nat)} {t : Tr} {A : Option Addr} {c : Nat} (h : VO w W ps os) (hm : (t, A, c) ∈ os) (e : Ending) (he : e = .returned (.agg #[.int .i64 t.k, .int .i64 t.i, .slice A t.ks.length c])) : NewF w t e W :=
  ⟨A, c, he, (h.own _ hm).less (fun k hk => by omega), h.bel⟩
theorem FrT.step {X : Nat → Prop} {W W' : World} {t : Tr} {A : Option Addr} {c : Nat} (h : FrT X W t A c) (hs : ∀ k, k < W.heap.size → ¬ X k → W'.heap[k]? = W.heap[k]?) (hz : W.heap.size ≤ W'.heap.size) : FrT (fun k => X k ∨ W.heap.size ≤ k) W' t A c :=
  fun W'' h1 h2 => h W'' (fun k hk hn => (h1 k (by omega) (fun hx => by rcases hx with hx | hx; exact hn hx; omega)).trans (hs k hk hn)) (by omega)
/-- kids laid by appending: the row is one's own, each kid in new blocks away from it -/
structure LF (w wr : World) (S b : Nat) (x y : Value) (ks : List Tr) (m : Nat) (A1 : Option Addr) (c1 : Nat) (cs : List (Option Addr × Nat)) : Prop where
  below : Below S w wr
  len : cs.length = m
  box : Box3 wr b x y (.slice A1 m c1)
  lb : b < S + 3
  size : S + 3 ≤ wr.heap.size
  own : wr.ownsRow (S + 3) 24 3 (.slice A1 m c1) m (rowC (ks.take m) cs)
  kids : ∀ j (hj : j < ks.length) (hc : j < cs.length), FrT (fun k => k < S + 3 ∨ (Value.slice A1 m c1).ownBlock = some k) wr ks[j] cs[j].1 cs[j].2
theorem LF.step {w wr w1 w4 : World} {S b : Nat} {x y : Value} {ks : List Tr} {m : Nat} {A1 : Option Addr} {c1 : Nat} {cs : List (Option Addr × Nat)} (h : LF w wr S b x y ks m A1 c1 cs) (hm : m < ks.length) {o1 o2 o3 : Obj}
    (hS : S ≤ b) (hw1 : Below (wr.heap.size + 1) (wr.alloc o1) w1) {A2 : Option Addr} {c2 : Nat} (hq : FrT (fun k => k < wr.heap.size + 1) w1 ks[m] A2 c2) {g cap : Nat}
    (hown : w4.ownsRow (S + 3) 24 3 (.slice (some ⟨g, 0, none⟩) (m + 1) cap) (m + 1) (rowC (ks.take m) cs ++ [.int .i64 ks[m].k, .int .i64 ks[m].i, .slice A2 ks[m].ks.length c2])) (hg : ((w1.alloc o2).alloc o3).grownBy w4 (Value.slice A1 m c1).ownBlock)
    (hat : (Value.slice A1 m c1).ownBlock = some g ∨ g = w1.heap.size + 2) :
    LF w (w4.setCell ⟨b, 2, none⟩ (.slice (some ⟨g, 0, none⟩) (m + 1) cap)) S b x y ks (m + 1) (some ⟨g, 0, none⟩) cap (cs ++ [(A2, c2)]) := by
  have hlt := h.own.lt
  have hsz1 := hw1.size
  have hsz4 := hg.size
  have hbl := h.box.lt
  have hSle : S ≤ wr.heap.size := by omega
  simp at hsz1 hsz4
  have hg3 : S + 3 ≤ g := (hown.lt g rfl).1
  have hne : ∀ k, (Value.slice A1 m c1).ownBlock = some k → S + 3 ≤ k ∧ k < wr.heap.size := hlt
  have lb := h.lb
  have hz := h.size
  have old : ∀ k, k < w1.heap.size → (Value.slice A1 m c1).ownBlock ≠ some k → k ≠ b → (w4.setCell ⟨b, 2, none⟩ (.slice (some ⟨g, 0, none⟩) (m + 1) cap)).heap[k]? = w1.heap[k]? := by
    intro k hk h1 h2
    rw [heap_setCell_other _ _ _ _ h2, hg.block k (by simp; omega) (fun e => h1 e.symm), Below.heap_alloc _ _ _ (by simp; omega), Below.heap_alloc _ _ _ hk]
  have old0 : ∀ k, k < wr.heap.size → w1.heap[k]? = wr.heap[k]? := fun k hk => by rw [hw1.block k (by omega), Below.heap_alloc _ _ _ hk]
  refine ⟨?_, by simp [h.len], ?_, h.lb, by simp; omega, ?_, ?_⟩
  · refine ⟨?_, ?_, ?_, ?_, ?_⟩
    · exact (show w4.os = _ from hg.os).trans ((show _ = _ from hw1.os).trans h.below.os)
    · exact (show w4.tape = _ from hg.tape).trans ((show _ = _ from hw1.tape).trans h.below.tape)
    · exact (show w4.output = _ from hg.output).trans ((show _ = _ from hw1.output).trans h.below.output)
    · have := h.below.size; simp; omega
    · intro k hk
      rw [old k (by omega) (fun e => by have := hne k e; omega) (by omega), old0 k (by omega), h.below.block k hk]
  · have b1 : Box3 w1 b x y (.slice A1 m c1) := (old0 b hbl).trans h.box
    have b2 : Box3 w4 b x y (.slice A1 m c1) := by
      refine (hg.block b (by simp; omega) (fun e => ?_)).trans ?_
      · have := hne b e.symm; omega
      · rw [Below.heap_alloc _ _ _ (by simp; omega), Below.heap_alloc _ _ _ (by omega)]; exact b1
    exact b2.set2 _
  · rw [List.take_succ_eq_append_getElem hm, rowC_snoc _ _ _ _ _ (by rw [h.len]; simp; omega)]
    exact ownsRow_same (hi := w4.heap.size) hown (fun k k1 k2 => heap_setCell_other _ _ _ _ (by show k ≠ b; omega)) (fun k e => (hown.lt k e).2)
  · intro j hj hc
    by_cases hjm : j < m
    · have hc0 : j < cs.length := by rw [h.len]; exact hjm
      have f := h.kids j hj hc0
      rw [List.getElem_append_left hc0]
      refine (f.step (W' := w4.setCell ⟨b, 2, none⟩ (.slice (some ⟨g, 0, none⟩) (m + 1) cap)) (fun k hk hn => ?_) (by simp; omega)).less (fun k hk => ?_)
      · exact (old k (by omega) (fun e => hn (.inr e)) (fun e => hn (.inl (by omega)))).trans (old0 k hk)
      · rcases hk with hk | hk
        · exact .inl (.inl hk)
        · have e : g = k := by simpa [Value.ownBlock] using hk
          rcases hat with e' | e'
          · exact .inl (.inr (by rw [← e]; exact e'))
          · exact .inr (by omega)
    · have ej : j = m := by simp [h.len] at hc; omega
      subst ej
      have e1 : (cs ++ [(A2, c2)])[j]'hc = (A2, c2) := by rw [List.getElem_append_right (by rw [h.len]; exact Nat.le_refl _)]; simp [h.len]
      rw [e1]
      refine (hq.step (W' := w4.setCell ⟨b, 2, none⟩ (.slice (some ⟨g, 0, none⟩) (j + 1) cap)) (fun k hk hn => ?_) (by simp; omega)).less (fun k hk => ?_)
      · exact old k hk (fun e => by have := hne k e; omega) (by omega)
      · rcases hk with hk | hk
        · exact .inl (by omega)
        · have e : g = k := by simpa [Value.ownBlock] using hk
          rcases hat with e' | e'
          · have := hne g e'; exact .inl (by omega)
          · exact .inr (by omega)
theorem LF.done {w wr : World} {S b : Nat} {x y : Value} {k i : Int} {ks : List Tr} {m : Nat} {A1 : Option Addr} {c1 : Nat} {cs : List (Option Addr × Nat)} (h : LF w wr S b x y ks m A1 c1 cs) (hm : m = ks.length) (hcap : Cap ks.length) : FrT (fun k => k < S + 3) wr (.node k i ks) A1 c1 := by
  subst hm
  intro W' h1 h2
  have hn : ks.length ≤ c1 := by
    rcases h.own.2 with ⟨_, hn⟩ | ⟨g, cap, cur, e, _, _, hc, _⟩
    · omega
    · cases e; exact hc
  refine IsT.mk hn hcap fun j hj => ?_
  have hj' : j < ks.length := hj
  have hc : j < cs.length := by rw [h.len]; exact hj'
  have ow := h.own
  rw [List.take_length] at ow
  obtain ⟨r0, r1, r2⟩ := rowC_get ks cs j hj' h.len
  have kid := h.kids j hj' hc
  rcases ow.2 with ⟨e, hn'⟩ | ⟨g, cap, cur, e', hb, _, hcc, _⟩
  · omega
  · cases e'
    have hg := h.own.lt g rfl
    have same : ∀ o, W'.cell? ⟨g, o, none⟩ = wr.cell? ⟨g, o, none⟩ := fun o => World.cell?_of_block (a := ⟨g, o, none⟩) (h1 g hg.2 (by omega))
    have q0 := ow.cellAt (j * 3) (by omega)
    have q1 := ow.cellAt (j * 3 + 1) (by omega)
    have q2 := ow.cellAt (j * 3 + 2) (by omega)
    refine ⟨g, 0, cs[j].1, cs[j].2, rfl, by omega, ?_, ?_, ?_, kid W' (fun k hk hx => h1 k hk (fun h => hx (.inl h))) h2⟩
    · rw [Nat.zero_add, same, q0, r0]; rfl
    · rw [Nat.zero_add, same, q1, r1]; rfl
    · rw [Nat.zero_add, same, q2, r2]; rfl
/-- what lies in memory when all kids are there -/
structure UF (w W : World) (t : Tr) (A : Option Addr) (c : Nat) (A1 : Option Addr) (c1 : Nat) : Prop where
  par : Box3 W w.heap.size (.int .i64 t.k) (.int .i64 t.i) (.slice A t.ks.length c)
  res : Box3 W (w.heap.size + 1) (.int .i64 0) (.int .i64 0) (.slice none 0 0)
  lay : ∃ cs, LF w W w.heap.size (w.heap.size + 2) (.int .i64 t.k) (.int .i64 t.i) (plainL t.ks) t.ks.length A1 c1 cs

/-- the two kids laid out: where each lies -/
theorem UF.two {w W : World} {k i : Int} {a b : Tr} {A : Option Addr} {c : Nat} {A1 : Option Addr} {c1 : Nat} (h : UF w W (.node k i [a, b]) A c A1 c1) :
    ∃ g Aa ca Ab cb, A1 = some ⟨g, 0, none⟩ ∧ 2 ≤ c1 ∧
      VO w W [(⟨w.heap.size + 2, 2, none⟩, .slice (some ⟨g, 0, none⟩) 2 c1), (⟨g, 0, none⟩, .int .i64 (plainT a).k), (⟨g, 1, none⟩, .int .i64 (plainT a).i), (⟨g, 2, none⟩, .slice Aa (plainT a).ks.length ca), (⟨g, 3, none⟩, .int .i64 (plainT b).k), (⟨g, 3 + 1, none⟩, .int .i64 (plainT b).i), (⟨g, 3 + 2, none⟩, .slice Ab (plainT b).ks.length cb)]
        [(plainT a, Aa, ca), (plainT b, Ab, cb)] := by
  obtain ⟨cs, hL⟩ := h.lay
  have hc : cs.length = 2 := hL.len
  obtain ⟨x, y, rfl⟩ : ∃ x y, cs = [x, y] := len_two hc
  obtain ⟨Aa, ca⟩ := x
  obtain ⟨Ab, cb⟩ := y
  have ka := hL.kids 0 (by simp [nod_ks, plainL]) (by simp)
  have kb := hL.kids 1 (by simp [nod_ks, plainL]) (by simp)
  have hr' : W.ownsRow (w.heap.size + 3) 24 3 (.slice A1 2 c1) 2 (rowC [plainT a, plainT b] [(Aa, ca), (Ab, cb)]) := hL.own
  rcases hr'.2 with ⟨_, hn⟩ | ⟨g, cap, cur, e', hb, _, hcur, _⟩
  · simp at hn
  · cases e'
    have ce := fun j (hj : j < 2 * 3) => hr'.cellAt j hj
    refine ⟨g, Aa, ca, Ab, cb, rfl, hcur, ⟨⟨_, _, _, h.res⟩, fun p hp => ?_, fun q hq => ?_, hL.below, hL.size⟩⟩
    · simp only [List.mem_cons, List.mem_nil_iff, or_false] at hp
      rcases hp with rfl | rfl | rfl | rfl | rfl | rfl | rfl
      · exact ⟨hL.box.cells.2.2, by show w.heap.size + 2 ≠ w.heap.size + 1; omega⟩
      · exact ⟨ce 0 (by omega), by show g ≠ w.heap.size + 1; omega⟩
      · exact ⟨ce 1 (by omega), by show g ≠ w.heap.size + 1; omega⟩
      · exact ⟨ce 2 (by omega), by show g ≠ w.heap.size + 1; omega⟩
      · exact ⟨ce 3 (by omega), by show g ≠ w.heap.size + 1; omega⟩
      · exact ⟨ce 4 (by omega), by show g ≠ w.heap.size + 1; omega⟩
      · exact ⟨ce 5 (by omega), by show g ≠ w.heap.size + 1; omega⟩
    · simp only [List.mem_cons, List.mem_nil_iff, or_false] at hq
      rcases hq with rfl | rfl
      · exact FrT.less ka (fun k hk => .inl hk)
      · exact FrT.less kb (fun k hk => .inl hk)
theorem UF.one {w W : World} {k i : Int} {a : Tr} {A : Option Addr} {c : Nat} {A1 : Option Addr} {c1 : Nat} (h : UF w W (.node k i [a]) A c A1 c1) :
    ∃ g Aa ca, A1 = some ⟨g, 0, none⟩ ∧ 1 ≤ c1 ∧
      VO w W [(⟨w.heap.size, 1, none⟩, .int .i64 i), (⟨w.heap.size + 2, 2, none⟩, .slice (some ⟨g, 0, none⟩) 1 c1), (⟨g, 0, none⟩, .int .i64 (plainT a).k), (⟨g, 1, none⟩, .int .i64 (plainT a).i), (⟨g, 2, none⟩, .slice Aa (plainT a).ks.length ca)]
        [(plainT a, Aa, ca)] := by
  obtain ⟨cs, hL⟩ := h.lay
  have hc : cs.length = 1 := hL.len
  obtain ⟨x, rfl⟩ : ∃ x, cs = [x] := len_one hc
  obtain ⟨Aa, ca⟩ := x
  have ka := hL.kids 0 (by simp [nod_ks, plainL]) (by simp)
  have hr' : W.ownsRow (w.heap.size + 3) 24 3 (.slice A1 1 c1) 1 (rowC [plainT a] [(Aa, ca)]) := hL.own
  rcases hr'.2 with ⟨_, hn⟩ | ⟨g, cap, cur, e', hb, _, hcur, _⟩
  · simp at hn
  · cases e'
    have ce := fun j (hj : j < 1 * 3) => hr'.cellAt j hj
    refine ⟨g, Aa, ca, rfl, hcur, ⟨⟨_, _, _, h.res⟩, fun p hp => ?_, fun q hq => ?_, hL.below, hL.size⟩⟩
    · simp only [List.mem_cons, List.mem_nil_iff, or_false] at hp
      rcases hp with rfl | rfl | rfl | rfl | rfl
      · exact ⟨h.par.cells.2.1, by show w.heap.size ≠ w.heap.size + 1; omega⟩
      · exact ⟨hL.box.cells.2.2, by show w.heap.size + 2 ≠ w.heap.size + 1; omega⟩
      · exact ⟨ce 0 (by omega), by show g ≠ w.heap.size + 1; omega⟩
      · exact ⟨ce 1 (by omega), by show g ≠ w.heap.size + 1; omega⟩
      · exact ⟨ce 2 (by omega), by show g ≠ w.heap.size + 1; omega⟩
    · simp only [List.mem_cons, List.mem_nil_iff, or_false] at hq
      rcases hq with rfl
      exact FrT.less ka (fun k hk => .inl hk)
set_option maxHeartbeats 16000000 in
set_option maxRecDepth 100000 in
theorem runfolded_any : ∀ (N : Nat) (t : Tr) (A : Option Addr) (c : Nat) (w : World), t.sz ≤ N → t.shp = true → IsT w w.heap.size t A c →
    Calls Try.prog 69 #[.agg #[.int .i64 t.k, .int .i64 t.i, .slice A t.ks.length c]] w (NewF w (plainT t)) := by
  intro N
  induction N with
  | zero => intro t A c w h; have := sz_pos t; omega
  | succ N ih =>
    intro t A c w hN hshp ht
    have IH := Lib.hid ih
    have HT := Lib.hid ht
    have hl := ht.len
    have SH := Lib.hid hshp
    clear ih ht hshp
    obtain ⟨i0, hi, hz0, hz1, hz2⟩ := info_parts infoE
    have HI := Lib.hid (And.intro hi (And.intro hz0 (And.intro hz1 hz2)))
    clear hi hz0 hz1 hz2
    go_enter Try.func69, Try.ntmps69
    go_wp2_with fail
    go_loopw [15] (fun i wr => ∃ m : Nat, m ≤ t.ks.length ∧ i = .int .i64 m ∧ Box3 wr w.heap.size (.int .i64 t.k) (.int .i64 t.i) (.slice A t.ks.length c) ∧ Box3 wr (w.heap.size + 1) (.int .i64 0) (.int .i64 0) (.slice none 0 0) ∧ ∃ A1 c1 cs, LF w wr w.heap.size (w.heap.size + 2) (.int .i64 t.k) (.int .i64 t.i) (plainL t.ks) m A1 c1 cs) (fun i _ => t.ks.length - (intOf i).toNat)
    case atStart =>
      have e0 := Box3.new w (.int .i64 t.k) (.int .i64 t.i) (.slice A t.ks.length c)
      have e2 := Box3.new ((w.alloc (.cells #[.int .i64 t.k, .int .i64 t.i, .slice A t.ks.length c] 24)).alloc (.cells #[.int .i64 0, .int .i64 0, .slice none 0 0] 24)) (.int .i64 t.k) (.int .i64 t.i) (.slice none 0 0)
      have e1 := Box3.new (w.alloc (.cells #[.int .i64 t.k, .int .i64 t.i, .slice A t.ks.length c] 24)) (.int .i64 0) (.int .i64 0) (.slice none 0 0)
      simp only [World.size_alloc] at e1 e2
      refine ⟨0, Nat.zero_le _, rfl, (e0.keep ((Below.refl (w.heap.size + 1) _).alloc (by simp) _) (by omega)).keep ((Below.refl (w.heap.size + 2) _).alloc (by simp) _) (by omega), e1.keep ((Below.refl (w.heap.size + 2) _).alloc (by simp) _) (by omega), none, 0, [], ?_⟩
      exact ⟨(((Below.refl _ w).alloc (Nat.le_refl _) _).alloc (by simp) _).alloc (by simp; omega) _, rfl, e2, by omega, by simp, by simpa [rowC] using World.ownsRow_nil _ _ _ _, fun j hj hc => by simp at hc⟩
    case round =>
      obtain ⟨m, hm', rfl, hb0, hb1, A1, c1, cs, hL⟩ := hrel
      have HB0 := Lib.hid hb0
      have HB1 := Lib.hid hb1
      have HL := Lib.hid hL
      clear hb0 hb1 hL
      by_cases hlt : m < t.ks.length
      · obtain ⟨b, o, A', c', rfl, hlt', p0, p1, p2, hk⟩ := HT.out.kid m hlt
        have kz := kid_sz t m hlt
        have ksh := vok_kids SH.out _ (List.getElem_mem hlt)
        have hbr := HL.out.below
        have hlp : m < (plainL t.ks).length := by rw [plainL_len]; exact hlt
        have STEP := Lib.hid (fun w1 w4 o1 o2 o3 => @LF.step _ _ w1 w4 _ _ _ _ _ _ _ _ _ HL.out hlp o1 o2 o3 (by omega))
        have PG := Lib.hid (plainL_get t.ks m hlt)
        rw [PG.out] at STEP
        obtain ⟨q, hq⟩ : ∃ q, q = t.ks[m] := ⟨_, rfl⟩
        rw [← hq] at p0 p1 p2 hk kz ksh STEP
        clear hq PG
        have d0 := (hbr.cell hlt').trans p0
        have d1 := (hbr.cell hlt').trans p1
        have d2 := (hbr.cell hlt').trans p2
        have ha : Below wr.heap.size wr (wr.alloc (.cells #[.int .i64 q.k, .int .i64 q.i, .slice A' q.ks.length c'] 24)) := (Below.refl _ _).alloc (Nat.le_refl _) _
        have HK := Lib.hid ((hk.keep hbr hbr.size).keep ha ha.size)
        clear p0 p1 p2 hk
        go_wp2_with fail
        refine (IH.out q A' c' _ (by omega) ksh (by exact HK.out)).mono ?_
        rintro e w1 ⟨A2, c2, rfl, ho, hb2⟩
        obtain ⟨z, hz⟩ : ∃ z, z = plainT q := ⟨_, rfl⟩
        rw [← hz] at ho STEP ⊢
        clear hz
        have hsz1 := hb2.size
        simp at hsz1 hb2 ho
        have bx : Box3 w1 (w.heap.size + 2) (.int .i64 t.k) (.int .i64 t.i) (.slice A1 m c1) := (HL.out.box.keep ha HL.out.box.lt).keep hb2 (by have := HL.out.box.lt; omega)
        have bx2 : ∀ o, (w1.alloc o).cell? ⟨w.heap.size + 1 + 1, 2, none⟩ = some (.slice A1 m c1) := fun o => (((Below.refl w1.heap.size w1).alloc (Nat.le_refl _) o).cell bx.lt).trans bx.cells.2.2
        have own1 := Lib.hid (ownsRow_same (hi := wr.heap.size) HL.out.own (fun k k1 k2 => (hb2.block k (by omega)).trans (Below.heap_alloc _ _ _ k2)) (fun g e => (HL.out.own.lt g e).2))
        have OWN := Lib.hid (fun o o' => (own1.out.alloc o).alloc o')
        have BX := Lib.hid bx
        have HO := Lib.hid ho
        have HB2 := Lib.hid hb2
        have HB1' := Lib.hid ((HB1.out.keep ha HB1.out.lt).keep hb2 (by have := HB1.out.lt; omega))
        have HB0' := Lib.hid ((HB0.out.keep ha HB0.out.lt).keep hb2 (by have := HB0.out.lt; omega))
        have OB := Lib.hid (fun g e => (HL.out.own.lt g e))
        have hbig : w.heap.size + 2 < w1.heap.size := by have := HL.out.box.lt; omega
        clear bx ho hb2 own1
        go_wp2_with (at_builtin; refine wpList_append_lies _ (by rfl) _ _ _ (by rfl) (w.heap.size + 3) 24 i0 _ 3 40 Try.underlying22 HI.out.1 HI.out.2.1 HI.out.2.2.1 HI.out.2.2.2 (by rfl) (by omega) (.slice A1 m c1) m (rowC ((plainL t.ks).take m) cs) (by rfl) (by exact OWN.out _ _) ⟨w1.heap.size + 1, 0, none⟩ 1 1 [.int .i64 z.k, .int .i64 z.i, .slice A2 z.ks.length c2] (by rfl) (by rfl) (by exact news3 _ _ _ _ _ _) (by simp [Value.oneCell']) (by omega) (by unfold maxLen; omega) (by omega) (by simp; omega) (w1.heap.size + 2) (by simp) ?_; intro g cap w4 hown4 hgrow hat hlt4; have bx4 := Lib.hid (Box3.grown (w := (w1.alloc (.cells #[.int .i64 z.k, .int .i64 z.i, .slice A2 z.ks.length c2] 24)).alloc (.cells #[.int .i64 z.k, .int .i64 z.i, .slice A2 z.ks.length c2] 24)) ((BX.out.keep ((Below.refl (w.heap.size + 3) w1).alloc (by omega) _) (by omega)).keep ((Below.refl (w.heap.size + 3) _).alloc (by simp; omega) _) (by omega)) hgrow (fun e => by have := OB.out _ e.symm; omega)); have c4 : w4.cell? ⟨w.heap.size + 1 + 1, 2, none⟩ = some (.slice A1 m c1) := bx4.out.cells.2.2; have f4 : w4.frozen? ⟨w.heap.size + 1 + 1, 2, none⟩ = false := bx4.out.frozen 2; have HO4 := Lib.hid hown4; have HG4 := Lib.hid hgrow; have HAT := Lib.hid hat; clear hown4 hgrow hat)
        have NL := Lib.hid (STEP.out w1 w4 _ _ _ HB2.out HO.out HO4.out HG4.out HAT.out)
        have rb := Lib.hid (Box3.grown (w := (w1.alloc (.cells #[.int .i64 z.k, .int .i64 z.i, .slice A2 z.ks.length c2] 24)).alloc (.cells #[.int .i64 z.k, .int .i64 z.i, .slice A2 z.ks.length c2] 24)) ((HB1'.out.keep ((Below.refl (w.heap.size + 3) w1).alloc (by omega) _) (by omega)).keep ((Below.refl (w.heap.size + 3) _).alloc (by simp; omega) _) (by omega)) HG4.out (fun e => by have := OB.out _ e.symm; omega))
        have rb0 := Lib.hid (Box3.grown (w := (w1.alloc (.cells #[.int .i64 z.k, .int .i64 z.i, .slice A2 z.ks.length c2] 24)).alloc (.cells #[.int .i64 z.k, .int .i64 z.i, .slice A2 z.ks.length c2] 24)) ((HB0'.out.keep ((Below.refl (w.heap.size + 3) w1).alloc (by omega) _) (by omega)).keep ((Below.refl (w.heap.size + 3) _).alloc (by simp; omega) _) (by omega)) HG4.out (fun e => by have := OB.out _ e.symm; omega))
        go_roundw
        case rel => exact ⟨m + 1, by omega, by go_num, rb0.out.set_other _ _ (by show w.heap.size ≠ w.heap.size + 2; omega), rb.out.set_other _ _ (by show w.heap.size + 1 ≠ w.heap.size + 2; omega), _, _, _, NL.out⟩
        case measure => simp [intOf]; omega
      · obtain rfl : m = t.ks.length := by omega
        have PAR := Lib.hid HB0.out
        have U := Lib.hid (show UF w wr t A c A1 c1 from ⟨HB0.out, HB1.out, cs, HL.out⟩)
        have DN := Lib.hid (LF.done (k := t.k) (i := t.i) HL.out (plainL_len _).symm (by rw [plainL_len]; exact hl.2))
        have XB := Lib.hid HL.out.box
        have BL := Lib.hid HL.out.below
        clear HL HB0 HB1 HT IH hl
        rcases short_cases SH.out with ⟨i, a, b, hT0⟩ | ⟨i, a, b, hT0⟩ | ⟨i, a, hT0⟩ | hT0
        · have hT := hT0
          have k8 : (t.k == 8) = true := by rw [hT]; rfl
          obtain ⟨g, Aa, ca, Ab, cb, rfl, hcc, E0⟩ := UF.two (show UF w wr (.node 8 i [a, b]) A c A1 c1 by rw [← hT]; exact U.out)
          have PT := Lib.hid (show plainT t = notT (impT (plainT a) (notT (plainT b))) by rw [hT]; rfl)
          have E := Lib.hid E0.drew
          have f0 := E.out.froz 0
          have f1 := E.out.froz 1
          have f2 := E.out.froz 2
          have HTT := Lib.hid hT
          have p0 := PAR.out.cells.1
          clear hT E0 U
          go_wp2_with fail
          go_region_held3 (fun w' => w'.cell? ⟨w.heap.size + 2, 2, none⟩ = some (.slice (some ⟨g, 0, none⟩) 2 c1) ∧ ((w'.cell? ⟨g, 0, none⟩ = some (.int .i64 (plainT a).k) ∧ w'.cell? ⟨g, 0 + 1, none⟩ = some (.int .i64 (plainT a).i) ∧ w'.cell? ⟨g, 0 + 2, none⟩ = some (.slice Aa (plainT a).ks.length ca)) ∧ (w'.cell? ⟨g, 3, none⟩ = some (.int .i64 (plainT b).k) ∧ w'.cell? ⟨g, 3 + 1, none⟩ = some (.int .i64 (plainT b).i) ∧ w'.cell? ⟨g, 3 + 2, none⟩ = some (.slice Ab (plainT b).ks.length cb))))
            (first | exact ⟨E.out.ce _ _ (by simp), ⟨E.out.ce _ _ (by simp), E.out.ce _ _ (by simp), E.out.ce _ _ (by simp)⟩, E.out.ce _ _ (by simp), E.out.ce _ _ (by simp), E.out.ce _ _ (by simp)⟩ | exact ⟨(E.out.set _ _ _).ce _ _ (by simp), ⟨(E.out.set _ _ _).ce _ _ (by simp), (E.out.set _ _ _).ce _ _ (by simp), (E.out.set _ _ _).ce _ _ (by simp)⟩, (E.out.set _ _ _).ce _ _ (by simp), (E.out.set _ _ _).ce _ _ (by simp), (E.out.set _ _ _).ce _ _ (by simp)⟩)
            (first
              | (go_at_call 111; refine (((dnot_row (plainT b).k (plainT b).i Ab (plainT b).ks.length cb _).mono fun _ _ h => VO.one (a := plainT b) (A := Ab) (c := cb) E.out h (by simp))).mono ?_; rintro e5 w5 ⟨R0, r0, rfl, h5, hb5⟩; replace E := Lib.hid h5; have f0 := E.out.froz 0; have f1 := E.out.froz 1; have f2 := E.out.froz 2; obtain ⟨u5, v5, y5, hr5⟩ := E.out.rb; obtain ⟨s0, s1, s2⟩ := hr5.cells; clear hb5 h5 hr5)
              | (go_at_call 112; refine (((dimp_row (plainT a).k (plainT a).i Aa (plainT a).ks.length ca (notT (plainT b)).k (notT (plainT b)).i R0 (notT (plainT b)).ks.length r0 _).mono fun _ _ h => VO.two (a := plainT a) (A := Aa) (c := ca) (b := notT (plainT b)) (B := R0) (d := r0) E.out h (by simp) (by simp))).mono ?_; rintro e5 w5 ⟨R1, r1, rfl, h5, hb5⟩; replace E := Lib.hid h5; have f0 := E.out.froz 0; have f1 := E.out.froz 1; have f2 := E.out.froz 2; obtain ⟨u5, v5, y5, hr5⟩ := E.out.rb; obtain ⟨s0, s1, s2⟩ := hr5.cells; clear hb5 h5 hr5)
              | (go_at_call 111; refine (((dnot_row (impT (plainT a) (notT (plainT b))).k (impT (plainT a) (notT (plainT b))).i R1 (impT (plainT a) (notT (plainT b))).ks.length r1 _).mono fun _ _ h => VO.one (a := impT (plainT a) (notT (plainT b))) (A := R1) (c := r1) E.out h (by simp))).mono ?_; rintro e5 w5 ⟨R2, r2, rfl, h5, hb5⟩; replace E := Lib.hid h5; have f0 := E.out.froz 0; have f1 := E.out.froz 1; have f2 := E.out.froz 2; obtain ⟨u5, v5, y5, hr5⟩ := E.out.rb; obtain ⟨s0, s1, s2⟩ := hr5.cells; clear hb5 h5 hr5))
          all_goals
            have E2 := Lib.hid (E.out.set (.int .i64 5) (.int .i64 0) (.slice R2 1 r2))
            have RS := Lib.hid (E.out.res (.int .i64 5) (.int .i64 0) (.slice R2 1 r2))
            obtain ⟨q0, q1, q2⟩ := RS.out.cells
            go_wp2_with fail
            exact bodyPost_ret (v := .agg #[.int .i64 5, .int .i64 0, .slice R2 1 r2]) (by simp [results, Try.results69, go_sem, q0, q1, q2]) rfl (by rw [PT.out]; exact vo_new (t := notT (impT (plainT a) (notT (plainT b)))) (A := R2) (c := r2) E2.out (by simp) _ rfl)
        · have hT := hT0
          have k8 : (t.k == 8) = false := by rw [hT]; rfl
          have k9 : (t.k == 9) = true := by rw [hT]; rfl
          obtain ⟨g, Aa, ca, Ab, cb, rfl, hcc, E0⟩ := UF.two (show UF w wr (.node 9 i [a, b]) A c A1 c1 by rw [← hT]; exact U.out)
          have PT := Lib.hid (show plainT t = impT (notT (plainT a)) (plainT b) by rw [hT]; rfl)
          have E := Lib.hid E0.drew
          have f0 := E.out.froz 0
          have f1 := E.out.froz 1
          have f2 := E.out.froz 2
          have HTT := Lib.hid hT
          have p0 := PAR.out.cells.1
          clear hT E0 U
          go_wp2_with fail
          go_region_held3 (fun w' => w'.cell? ⟨w.heap.size + 2, 2, none⟩ = some (.slice (some ⟨g, 0, none⟩) 2 c1) ∧ ((w'.cell? ⟨g, 0, none⟩ = some (.int .i64 (plainT a).k) ∧ w'.cell? ⟨g, 0 + 1, none⟩ = some (.int .i64 (plainT a).i) ∧ w'.cell? ⟨g, 0 + 2, none⟩ = some (.slice Aa (plainT a).ks.length ca)) ∧ (w'.cell? ⟨g, 3, none⟩ = some (.int .i64 (plainT b).k) ∧ w'.cell? ⟨g, 3 + 1, none⟩ = some (.int .i64 (plainT b).i) ∧ w'.cell? ⟨g, 3 + 2, none⟩ = some (.slice Ab (plainT b).ks.length cb))))
            (first | exact ⟨E.out.ce _ _ (by simp), ⟨E.out.ce _ _ (by simp), E.out.ce _ _ (by simp), E.out.ce _ _ (by simp)⟩, E.out.ce _ _ (by simp), E.out.ce _ _ (by simp), E.out.ce _ _ (by simp)⟩ | exact ⟨(E.out.set _ _ _).ce _ _ (by simp), ⟨(E.out.set _ _ _).ce _ _ (by simp), (E.out.set _ _ _).ce _ _ (by simp), (E.out.set _ _ _).ce _ _ (by simp)⟩, (E.out.set _ _ _).ce _ _ (by simp), (E.out.set _ _ _).ce _ _ (by simp), (E.out.set _ _ _).ce _ _ (by simp)⟩)
            (first
              | (go_at_call 111; refine (((dnot_row (plainT a).k (plainT a).i Aa (plainT a).ks.length ca _).mono fun _ _ h => VO.one (a := plainT a) (A := Aa) (c := ca) E.out h (by simp))).mono ?_; rintro e5 w5 ⟨R0, r0, rfl, h5, hb5⟩; replace E := Lib.hid h5; have f0 := E.out.froz 0; have f1 := E.out.froz 1; have f2 := E.out.froz 2; obtain ⟨u5, v5, y5, hr5⟩ := E.out.rb; obtain ⟨s0, s1, s2⟩ := hr5.cells; clear hb5 h5 hr5)
              | (go_at_call 112; refine (((dimp_row (notT (plainT a)).k (notT (plainT a)).i R0 (notT (plainT a)).ks.length r0 (plainT b).k (plainT b).i Ab (plainT b).ks.length cb _).mono fun _ _ h => VO.two (a := notT (plainT a)) (A := R0) (c := r0) (b := plainT b) (B := Ab) (d := cb) E.out h (by simp) (by simp))).mono ?_; rintro e5 w5 ⟨R1, r1, rfl, h5, hb5⟩; replace E := Lib.hid h5; have f0 := E.out.froz 0; have f1 := E.out.froz 1; have f2 := E.out.froz 2; obtain ⟨u5, v5, y5, hr5⟩ := E.out.rb; obtain ⟨s0, s1, s2⟩ := hr5.cells; clear hb5 h5 hr5))
          all_goals
            have E2 := Lib.hid (E.out.set (.int .i64 6) (.int .i64 0) (.slice R1 2 r1))
            have RS := Lib.hid (E.out.res (.int .i64 6) (.int .i64 0) (.slice R1 2 r1))
            obtain ⟨q0, q1, q2⟩ := RS.out.cells
            go_wp2_with fail
            exact bodyPost_ret (v := .agg #[.int .i64 6, .int .i64 0, .slice R1 2 r1]) (by simp [results, Try.results69, go_sem, q0, q1, q2]) rfl (by rw [PT.out]; exact vo_new (t := impT (notT (plainT a)) (plainT b)) (A := R1) (c := r1) E2.out (by simp) _ rfl)
        · have hT := hT0
          have k8 : (t.k == 8) = false := by rw [hT]; rfl
          have k9 : (t.k == 9) = false := by rw [hT]; rfl
          have k10 : (t.k == 10) = true := by rw [hT]; rfl
          obtain ⟨g, Aa, ca, rfl, hcc, E0⟩ := UF.one (show UF w wr (.node 10 i [a]) A c A1 c1 by rw [← hT]; exact U.out)
          have PT := Lib.hid (show plainT t = notT (allT i (notT (plainT a))) by rw [hT]; rfl)
          have E := Lib.hid E0.drew
          have f0 := E.out.froz 0
          have f1 := E.out.froz 1
          have f2 := E.out.froz 2
          have HTT := Lib.hid hT
          have p0 := PAR.out.cells.1
          clear hT E0 U
          go_wp2_with fail
          go_region_held3 (fun w' => w'.cell? ⟨w.heap.size, 1, none⟩ = some (.int .i64 i) ∧ (w'.cell? ⟨w.heap.size + 2, 2, none⟩ = some (.slice (some ⟨g, 0, none⟩) 1 c1) ∧ (w'.cell? ⟨g, 0, none⟩ = some (.int .i64 (plainT a).k) ∧ w'.cell? ⟨g, 0 + 1, none⟩ = some (.int .i64 (plainT a).i) ∧ w'.cell? ⟨g, 0 + 2, none⟩ = some (.slice Aa (plainT a).ks.length ca))))
            (first | exact ⟨E.out.ce _ _ (by simp), E.out.ce _ _ (by simp), E.out.ce _ _ (by simp), E.out.ce _ _ (by simp), E.out.ce _ _ (by simp)⟩ | exact ⟨(E.out.set _ _ _).ce _ _ (by simp), (E.out.set _ _ _).ce _ _ (by simp), (E.out.set _ _ _).ce _ _ (by simp), (E.out.set _ _ _).ce _ _ (by simp), (E.out.set _ _ _).ce _ _ (by simp)⟩)
            (first
              | (go_at_call 111; refine (((dnot_row (plainT a).k (plainT a).i Aa (plainT a).ks.length ca _).mono fun _ _ h => VO.one (a := plainT a) (A := Aa) (c := ca) E.out h (by simp))).mono ?_; rintro e5 w5 ⟨R0, r0, rfl, h5, hb5⟩; replace E := Lib.hid h5; have f0 := E.out.froz 0; have f1 := E.out.froz 1; have f2 := E.out.froz 2; obtain ⟨u5, v5, y5, hr5⟩ := E.out.rb; obtain ⟨s0, s1, s2⟩ := hr5.cells; clear hb5 h5 hr5)
              | (go_at_call 80; refine (((dall_row i (notT (plainT a)).k (notT (plainT a)).i R0 (notT (plainT a)).ks.length r0 _).mono fun _ _ h => VO.one (a := notT (plainT a)) (A := R0) (c := r0) E.out h (by simp))).mono ?_; rintro e5 w5 ⟨R1, r1, rfl, h5, hb5⟩; replace E := Lib.hid h5; have f0 := E.out.froz 0; have f1 := E.out.froz 1; have f2 := E.out.froz 2; obtain ⟨u5, v5, y5, hr5⟩ := E.out.rb; obtain ⟨s0, s1, s2⟩ := hr5.cells; clear hb5 h5 hr5)
              | (go_at_call 111; refine (((dnot_row (allT i (notT (plainT a))).k (allT i (notT (plainT a))).i R1 (allT i (notT (plainT a))).ks.length r1 _).mono fun _ _ h => VO.one (a := allT i (notT (plainT a))) (A := R1) (c := r1) E.out h (by simp))).mono ?_; rintro e5 w5 ⟨R2, r2, rfl, h5, hb5⟩; replace E := Lib.hid h5; have f0 := E.out.froz 0; have f1 := E.out.froz 1; have f2 := E.out.froz 2; obtain ⟨u5, v5, y5, hr5⟩ := E.out.rb; obtain ⟨s0, s1, s2⟩ := hr5.cells; clear hb5 h5 hr5))
          all_goals
            have E2 := Lib.hid (E.out.set (.int .i64 5) (.int .i64 0) (.slice R2 1 r2))
            have RS := Lib.hid (E.out.res (.int .i64 5) (.int .i64 0) (.slice R2 1 r2))
            obtain ⟨q0, q1, q2⟩ := RS.out.cells
            go_wp2_with fail
            exact bodyPost_ret (v := .agg #[.int .i64 5, .int .i64 0, .slice R2 1 r2]) (by simp [results, Try.results69, go_sem, q0, q1, q2]) rfl (by rw [PT.out]; exact vo_new (t := notT (allT i (notT (plainT a)))) (A := R2) (c := r2) E2.out (by simp) _ rfl)
        · have k8 : (t.k == 8) = false := by have := (shortB_no hT0).1; simpa using this
          have k9 : (t.k == 9) = false := by have := (shortB_no hT0).2.1; simpa using this
          have k10 : (t.k == 10) = false := by have := (shortB_no hT0).2.2; simpa using this
          have PT := Lib.hid (show plainT t = .node t.k t.i (plainL t.ks) by rw [plainT_eq, unf_id hT0])
          clear hT0
          obtain ⟨p0, p1, p2⟩ := PAR.out.cells
          have x0 : wr.cell? ⟨w.heap.size + 1 + 1, 0, none⟩ = some (.int .i64 t.k) := XB.out.cells.1
          have x1 : wr.cell? ⟨w.heap.size + 1 + 1, 1, none⟩ = some (.int .i64 t.i) := XB.out.cells.2.1
          have x2 : wr.cell? ⟨w.heap.size + 1 + 1, 2, none⟩ = some (.slice A1 t.ks.length c1) := XB.out.cells.2.2
          obtain ⟨y0, y1, y2⟩ := U.out.res.cells
          have f0 := U.out.res.frozen 0
          have f1 := U.out.res.frozen 1
          have f2 := U.out.res.frozen 2
          obtain ⟨q0, q1, q2⟩ := (U.out.res.setall (.int .i64 t.k) (.int .i64 t.i) (.slice A1 t.ks.length c1)).cells
          go_wp2_with fail
          refine bodyPost_ret (v := .agg #[.int .i64 t.k, .int .i64 t.i, .slice A1 t.ks.length c1]) (by simp [results, Try.results69, go_sem, q0, q1, q2]) rfl (show NewF w (plainT t) _ _ from ⟨A1, c1, ?_, ?_, below_set3 BL.out _ _ _ (by omega)⟩)
          · rw [PT.out]; simp only [nod_k, nod_i, nod_ks, plainL_len]
          · rw [PT.out]
            exact (DN.out.set3 (by show w.heap.size + 1 < w.heap.size + 3; omega) _ _ _).less (fun k hk => by show k < w.heap.size + 3; omega)
end Go.Proofs.Ytjdhmfpkhijkeaa
