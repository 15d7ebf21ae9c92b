/- A table in memory; nodeOf of package intern. -/
import Derived.Test.YtmmdhlemkcddmaaI1
import Derived.Test.YtmmdhlemkcddmaaI2
import Derived.Test.YtmmdhlemkcddmaaT12
import Derived.Test.YtmmdhlemkcddmaaE28
import Derived.WalkMore
import Derived.Deep.RegionHeld3
import Derived.Deep.AppendLies
import Derived.Deep.MidRow
import Derived.Deep.WholeRow
namespace Go.Proofs.Ytmmdhlemkcddmaa
open Go.RowKit
set_option linter.unusedVariables false
set_option linter.unusedSimpArgs false
theorem below_al (w : World) (o : Obj) : Below w.heap.size w (w.alloc o) := (Below.refl _ _).alloc (Nat.le_refl _) _
/-- the cells of an entry -/
def rowE1 (L : List Tr) (t : Tr) : List Value := (nodeT L t).map (Value.int .i64) ++ [.int .u64 (freeT t : Int), .int .i64 (t.sz : Int)]
def rowEn (L M : List Tr) : List Value := M.flatMap (rowE1 L)
structure Tab (w : World) (lo P M room : Nat) (L : List Tr) (A : Option Addr) (c : Nat) : Prop where
  box : w.heap[P]? = some (.cells #[.int .i64 (room : Int), .map (some M), .slice A L.length c] 75 (0, 0))
  own : w.ownsRow lo 116 8 (.slice A L.length c) L.length (rowEn L L)
  mp : ∃ f, IsMp w M L.length f ∧ MapOf L f
  ok : Ok L
  le : L.length ≤ room
  rm : room ≤ 20000
  loP : lo ≤ P
  loM : lo ≤ M
/-- the blocks of a table -/
def TB (P M : Nat) (A : Option Addr) (k : Nat) : Prop := k = P ∨ k = M ∨ (Value.slice A 0 0).ownBlock = some k
structure Kp (w w' : World) (S : Nat → Prop) : Prop where
  os : w'.os = w.os
  tape : w'.tape = w.tape
  output : w'.output = w.output
  size : w.heap.size ≤ w'.heap.size
  block : ∀ k, k < w.heap.size → ¬ S k → w'.heap[k]? = w.heap[k]?
theorem Kp.of_below {w w' : World} (h : Below w.heap.size w w') (S : Nat → Prop) : Kp w w' S := ⟨h.os, h.tape, h.output, h.size, fun k hk _ => h.block k hk⟩
theorem ownB {A : Option Addr} {n c n' c' : Nat} : (Value.slice A n c).ownBlock = (Value.slice A n' c').ownBlock := by cases A <;> rfl
theorem Tab.lt {w : World} {lo P M room : Nat} {L : List Tr} {A : Option Addr} {c : Nat} (h : Tab w lo P M room L A c) : ∀ k, TB P M A k → lo ≤ k ∧ k < w.heap.size := by
  rintro k (rfl | rfl | hk)
  · exact ⟨h.loP, (Array.getElem?_eq_some_iff.1 h.box).1⟩
  · obtain ⟨f, hf, _⟩ := h.mp; exact ⟨h.loM, hf.lt⟩
  · exact h.own.lt k (ownB.trans hk)
/-- a block of another type is none of the table's -/
theorem Tab.ne {w : World} {lo P M room : Nat} {L : List Tr} {A : Option Addr} {c : Nat} (h : Tab w lo P M room L A c) {b : Nat} {X : Array Value} {ty : TypeId} {fr : Nat × Nat} (hb : w.heap[b]? = some (.cells X ty fr)) (h1 : ty ≠ 75) (h2 : ty ≠ 116) : ¬ TB P M A b := by
  rintro (rfl | rfl | hk)
  · rw [h.box] at hb; simp at hb; exact h1 hb.2.1.symm
  · obtain ⟨f, hf, _⟩ := h.mp
    obtain ⟨es, cl, he⟩ := hf.isMap
    rw [he] at hb; simp at hb
  · rcases h.own.2 with ⟨e, _⟩ | ⟨g, cap, cur, e, _, hg, _⟩
    · have : (Value.slice A L.length c).ownBlock = none := by rw [e]; rfl
      rw [ownB (n' := 0) (c' := 0), hk] at this
      cases this
    · have : (Value.slice A L.length c).ownBlock = some g := by rw [e]; rfl
      rw [ownB (n' := 0) (c' := 0), hk] at this
      cases this
      rw [hg] at hb; simp at hb; exact h2 hb.2.1.symm
theorem Tab.same {w w' : World} {lo P M room : Nat} {L : List Tr} {A : Option Addr} {c : Nat} (h : Tab w lo P M room L A c) (hs : ∀ k, TB P M A k → w'.heap[k]? = w.heap[k]?) : Tab w' lo P M room L A c := by
  refine ⟨(hs P (.inl rfl)).trans h.box, ?_, ?_, h.ok, h.le, h.rm, h.loP, h.loM⟩
  · obtain ⟨h1, h2⟩ := h.own
    refine ⟨h1, ?_⟩
    rcases h2 with h2 | ⟨g, cap, cur, e, hb, hg, h3⟩
    · exact .inl h2
    · exact .inr ⟨g, cap, cur, e, hb, (hs g (.inr (.inr (by rw [← ownB (n := L.length) (c := c), e]; rfl)))).trans hg, h3⟩
  · obtain ⟨f, hf, hm⟩ := h.mp
    exact ⟨f, hf.kept (hs M (.inr (.inl rfl))), hm⟩
theorem Tab.keep {w w' : World} {lo P M room : Nat} {L : List Tr} {A : Option Addr} {c : Nat} (h : Tab w lo P M room L A c) (hb : Below w.heap.size w w') : Tab w' lo P M room L A c := h.same fun k hk => hb.block k (h.lt k hk).2
theorem Tab.set {w : World} {lo P M room : Nat} {L : List Tr} {A : Option Addr} {c : Nat} (h : Tab w lo P M room L A c) {b : Nat} {X : Array Value} {ty : TypeId} {fr : Nat × Nat} (hb : w.heap[b]? = some (.cells X ty fr)) (h1 : ty ≠ 75) (h2 : ty ≠ 116) (i : Nat) (v : Value) : Tab (w.setCell ⟨b, i, none⟩ v) lo P M room L A c :=
  h.same fun k hk => heap_setCell_other _ _ _ _ (fun e => h.ne hb h1 h2 (by have : k = b := e; rw [← this]; exact hk))
/-- what is so behind a call that may add to the table -/
structure Aft (tl lo P M room : Nat) (w w' : World) (A : Option Addr) (L' : List Tr) (A' : Option Addr) (c' : Nat) : Prop where
  tab : Tab w' lo P M room L' A' c'
  bel : Below tl w w'
  kp : Kp w w' (TB P M A)
  own : (Value.slice A' 0 0).ownBlock = (Value.slice A 0 0).ownBlock ∨ ∀ k, (Value.slice A' 0 0).ownBlock = some k → w.heap.size ≤ k
theorem Aft.refl {tl lo P M room : Nat} {w : World} {L : List Tr} {A : Option Addr} {c : Nat} (h : Tab w lo P M room L A c) : Aft tl lo P M room w w A L A c :=
  ⟨h, Below.refl _ _, ⟨rfl, rfl, rfl, Nat.le_refl _, fun _ _ _ => rfl⟩, .inl rfl⟩
theorem Aft.trans {tl lo P M room : Nat} {w w1 w2 : World} {A A1 A2 : Option Addr} {L1 L2 : List Tr} {c1 c2 : Nat} (h : Aft tl lo P M room w w1 A L1 A1 c1) (k : Aft tl lo P M room w1 w2 A1 L2 A2 c2) : Aft tl lo P M room w w2 A L2 A2 c2 := by
  refine ⟨k.tab, h.bel.trans k.bel, ⟨k.kp.os.trans h.kp.os, k.kp.tape.trans h.kp.tape, k.kp.output.trans h.kp.output, Nat.le_trans h.kp.size k.kp.size, fun b hb hn => ?_⟩, ?_⟩
  · refine (k.kp.block b (Nat.lt_of_lt_of_le hb h.kp.size) ?_).trans (h.kp.block b hb hn)
    rintro (e | e | e)
    · exact hn (.inl e)
    · exact hn (.inr (.inl e))
    · rcases h.own with ho | ho
      · exact hn (.inr (.inr (ho ▸ e)))
      · have := ho b e; omega
  · rcases k.own with ho | ho
    · rw [ho]; exact h.own
    · exact .inr fun b hb => Nat.le_trans h.kp.size (ho b hb)
theorem Aft.keep {tl lo P M room : Nat} {w w1 w2 : World} {A A1 : Option Addr} {L1 : List Tr} {c1 : Nat} (h : Aft tl lo P M room w w1 A L1 A1 c1) (hb : Below w1.heap.size w1 w2) (ht : tl ≤ w1.heap.size) : Aft tl lo P M room w w2 A L1 A1 c1 :=
  h.trans ⟨h.tab.keep hb, hb.mono ht, Kp.of_below hb _, .inl rfl⟩
/-- a cell of a block of one's own is set -/
theorem Aft.set {tl lo P M room : Nat} {w w1 : World} {A A1 : Option Addr} {L1 : List Tr} {c1 : Nat} (h : Aft tl lo P M room w w1 A L1 A1 c1) {b : Nat} {X : Array Value} {ty : TypeId} {fr : Nat × Nat} (hb : w1.heap[b]? = some (.cells X ty fr)) (h1 : ty ≠ 75) (h2 : ty ≠ 116) (hw : w.heap.size ≤ b) (ht : tl ≤ b) (i : Nat) (v : Value) : Aft tl lo P M room w (w1.setCell ⟨b, i, none⟩ v) A L1 A1 c1 :=
  ⟨h.tab.set hb h1 h2 i v, h.bel.setCell ht v, ⟨h.kp.os, h.kp.tape, h.kp.output, by have := h.kp.size; simpa [World.setCell] using this, fun k hk hn => (heap_setCell_other _ _ _ _ (by show k ≠ b; omega)).trans (h.kp.block k hk hn)⟩, h.own⟩
/-- a call that answers a tree's number, and may add to the table -/
def Acts (fn : Nat) (nf : Tr → List Tr → Nat) (nx : Tr → List Tr → List Tr) (w0 : World) (tl lo P M room : Nat) (q : Tr) : Prop :=
  ∀ (w : World) (L : List Tr) (A : Option Addr) (c : Nat) (Aq : Option Addr) (cq : Nat), Below tl w0 w → tl ≤ w.heap.size → Tab w lo P M room L A c → IsT w0 tl q Aq cq →
    Calls Try.prog fn #[.pointer (some ⟨P, 0, none⟩), .agg #[.int .i64 q.k, .int .i64 q.i, .slice Aq q.ks.length cq]] w fun e w' => e = .returned (.int .i64 (nf q L : Int)) ∧ ∃ A' c', Aft tl lo P M room w w' A (nx q L) A' c'
/-- a box of a node -/
def BoxN (w : World) (b : Nat) (cs : List Int) : Prop := w.heap[b]? = some (.cells (keyA cs) 112 (0, 0))
theorem BoxN.lt {w : World} {b : Nat} {cs : List Int} (h : BoxN w b cs) : b < w.heap.size := (Array.getElem?_eq_some_iff.1 h).1
theorem BoxN.cell {w : World} {b : Nat} {cs : List Int} (h : BoxN w b cs) (j : Nat) (v : Int) (hj : cs[j]? = some v) : w.cell? ⟨b, j, none⟩ = some (.int .i64 v) := by
  rw [cell_of_row _ _ j _ _ _ h]; simp [keyA, hj]
theorem BoxN.froz {w : World} {b : Nat} {cs : List Int} (h : BoxN w b cs) (j : Nat) : w.frozen? ⟨b, j, none⟩ = false := by
  unfold BoxN at h; simp [World.frozen?, h]
theorem BoxN.set {w : World} {b : Nat} {cs : List Int} (h : BoxN w b cs) (j : Nat) (v : Int) : BoxN (w.setCell ⟨b, j, none⟩ (.int .i64 v)) b (cs.set j v) := by
  unfold BoxN at *
  rw [heap_setCell_same _ _ _ _ _ _ h]
  simp [keyA, List.map_set]
/-- six cells are set -/
def set6 (w : World) (b : Nat) (x0 x1 x2 x3 x4 x5 : Int) : World := (((((w.setCell ⟨b, 0, none⟩ (.int .i64 x0)).setCell ⟨b, 1, none⟩ (.int .i64 x1)).setCell ⟨b, 2, none⟩ (.int .i64 x2)).setCell ⟨b, 3, none⟩ (.int .i64 x3)).setCell ⟨b, 4, none⟩ (.int .i64 x4)).setCell ⟨b, 5, none⟩ (.int .i64 x5)
theorem BoxN.set6 {w : World} {b : Nat} {cs : List Int} (h : BoxN w b cs) (hl : cs.length = 6) (x0 x1 x2 x3 x4 x5 : Int) : BoxN (set6 w b x0 x1 x2 x3 x4 x5) b [x0, x1, x2, x3, x4, x5] := by
  have := (((((h.set 0 x0).set 1 x1).set 2 x2).set 3 x3).set 4 x4).set 5 x5
  match cs, hl with
  | [a, b, c, d, e, f], _ => exact this
theorem Aft.set6 {tl lo P M room : Nat} {w w1 : World} {A A1 : Option Addr} {L1 : List Tr} {c1 : Nat} (h : Aft tl lo P M room w w1 A L1 A1 c1) {b : Nat} {cs : List Int} (hb : BoxN w1 b cs) (hw : w.heap.size ≤ b) (ht : tl ≤ b) (x0 x1 x2 x3 x4 x5 : Int) : Aft tl lo P M room w (set6 w1 b x0 x1 x2 x3 x4 x5) A L1 A1 c1 :=
  have d1 : 112 ≠ 75 := by decide
  have d2 : 112 ≠ 116 := by decide
  (((((h.set hb d1 d2 hw ht 0 _).set (hb.set 0 x0) d1 d2 hw ht 1 _).set ((hb.set 0 x0).set 1 x1) d1 d2 hw ht 2 _).set (((hb.set 0 x0).set 1 x1).set 2 x2) d1 d2 hw ht 3 _).set ((((hb.set 0 x0).set 1 x1).set 2 x2).set 3 x3) d1 d2 hw ht 4 _).set (((((hb.set 0 x0).set 1 x1).set 2 x2).set 3 x3).set 4 x4) d1 d2 hw ht 5 _
theorem BoxN.cells6 {w : World} {b : Nat} {x0 x1 x2 x3 x4 x5 : Int} (h : BoxN w b [x0, x1, x2, x3, x4, x5]) : w.cell? ⟨b, 0, none⟩ = some (.int .i64 x0) ∧ w.cell? ⟨b, 1, none⟩ = some (.int .i64 x1) ∧ w.cell? ⟨b, 2, none⟩ = some (.int .i64 x2) ∧ w.cell? ⟨b, 3, none⟩ = some (.int .i64 x3) ∧ w.cell? ⟨b, 4, none⟩ = some (.int .i64 x4) ∧ w.cell? ⟨b, 5, none⟩ = some (.int .i64 x5) :=
  ⟨h.cell 0 _ rfl, h.cell 1 _ rfl, h.cell 2 _ rfl, h.cell 3 _ rfl, h.cell 4 _ rfl, h.cell 5 _ rfl⟩
def zeros6 : List Int := [0, 0, 0, 0, 0, 0]
/-- what nodeOf answers -/
def nodR (t : Tr) (x : List Tr × List Nat × Bool) : Value := .tuple #[.agg (keyA (if x.2.2 = true then t.k :: t.i :: pad4 x.2.1 else zeros6)), .bool x.2.2]
/-- the state of nodeOf -/
structure NdS (tl lo P M room : Nat) (w wr : World) (A : Option Addr) (t : Tr) (At : Option Addr) (ct : Nat) (ns : List Nat) (Lm : List Tr) (Am : Option Addr) (cm : Nat) : Prop where
  aft : Aft tl lo P M room w wr A Lm Am cm
  be : Box3 wr w.heap.size (.int .i64 t.k) (.int .i64 t.i) (.slice At t.ks.length ct)
  br : BoxN wr (w.heap.size + 1) zeros6
  bn : BoxN wr (w.heap.size + 2) (t.k :: t.i :: pad4 ns)
theorem NdS.keep {tl lo P M room : Nat} {w wr w1 : World} {A : Option Addr} {t : Tr} {At : Option Addr} {ct : Nat} {ns : List Nat} {Lm : List Tr} {Am : Option Addr} {cm : Nat} (h : NdS tl lo P M room w wr A t At ct ns Lm Am cm) (hb : Below wr.heap.size wr w1) (ht : tl ≤ w.heap.size) : NdS tl lo P M room w w1 A t At ct ns Lm Am cm :=
  ⟨h.aft.keep hb (Nat.le_trans ht h.aft.kp.size), h.be.keep hb h.be.lt, (hb.block _ h.br.lt).trans h.br, (hb.block _ h.bn.lt).trans h.bn⟩
theorem NdS.aft_ {tl lo P M room : Nat} {w wr w1 : World} {A : Option Addr} {t : Tr} {At : Option Addr} {ct : Nat} {ns : List Nat} {Lm L1 : List Tr} {Am A1 : Option Addr} {cm c1 : Nat} (h : NdS tl lo P M room w wr A t At ct ns Lm Am cm) (ha : Aft tl lo P M room wr w1 Am L1 A1 c1) : NdS tl lo P M room w w1 A t At ct ns L1 A1 c1 :=
  ⟨h.aft.trans ha, (ha.kp.block _ h.be.lt (h.aft.tab.ne h.be (by decide) (by decide))).trans h.be, (ha.kp.block _ h.br.lt (h.aft.tab.ne h.br (by decide) (by decide))).trans h.br, (ha.kp.block _ h.bn.lt (h.aft.tab.ne h.bn (by decide) (by decide))).trans h.bn⟩
theorem NdS.put {tl lo P M room : Nat} {w wr : World} {A : Option Addr} {t : Tr} {At : Option Addr} {ct : Nat} {ns : List Nat} {Lm : List Tr} {Am : Option Addr} {cm : Nat} (h : NdS tl lo P M room w wr A t At ct ns Lm Am cm) (ht : tl ≤ w.heap.size) (hn : ns.length < 4) (v : Nat) : NdS tl lo P M room w (wr.setCell ⟨w.heap.size + 2, 2 + ns.length, none⟩ (.int .i64 (v : Int))) A t At ct (ns ++ [v]) Lm Am cm := by
  refine ⟨h.aft.set h.bn (by decide) (by decide) (by omega) (by omega) _ _, ?_, ?_, ?_⟩
  · exact h.be.set_other _ _ (by show w.heap.size ≠ w.heap.size + 2; omega)
  · exact (heap_setCell_other _ _ _ _ (by show w.heap.size + 1 ≠ w.heap.size + 2; omega)).trans h.br
  · have := h.bn.set (2 + ns.length) (v : Int)
    have e : (t.k :: t.i :: pad4 ns).set (2 + ns.length) (v : Int) = t.k :: t.i :: pad4 (ns ++ [v]) := by
      rw [show 2 + ns.length = ns.length + 1 + 1 by omega, List.set_cons_succ, List.set_cons_succ]
      congr 2
      unfold pad4
      rw [List.set_append_right _ _ (by simp)]
      obtain ⟨z, hz⟩ : ∃ z, 4 - ns.length = z + 1 := ⟨3 - ns.length, by omega⟩
      have hz2 : 4 - (ns ++ [v]).length = z := by simp; omega
      rw [hz, hz2, List.replicate_succ]
      simp
    rw [e] at this
    exact this
theorem preK_end (ns : List Nat) (L : List Tr) : preK ns (L, [], true) = (L, ns, true) := by simp [preK]
theorem preK_zero (nf : Tr → List Tr → Nat) (nx : Tr → List Tr → List Tr) (ns : List Nat) (q : Tr) (r : List Tr) (L : List Tr) (h : nf q L = 0) : preK ns (nodK nf nx (q :: r) L) = (nx q L, [], false) := by simp [preK, nodK, h]
theorem preK_step (nf : Tr → List Tr → Nat) (nx : Tr → List Tr → List Tr) (ns : List Nat) (q : Tr) (r : List Tr) (L : List Tr) (h : nf q L ≠ 0) : preK ns (nodK nf nx (q :: r) L) = preK (ns ++ [nf q L]) (nodK nf nx r (nx q L)) := by simp [preK, nodK, h]
end Go.Proofs.Ytmmdhlemkcddmaa
