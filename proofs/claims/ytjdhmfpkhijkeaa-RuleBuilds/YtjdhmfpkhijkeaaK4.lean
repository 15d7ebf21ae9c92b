/- unfolded of package rule, of whatever has the shape of an expression; extentOf, fault. -/
import Derived.Test.YtjdhmfpkhijkeaaK3
namespace Go.Proofs.Ytjdhmfpkhijkeaa
open Go.RowKit
set_option linter.unusedVariables false
set_option linter.unusedSimpArgs false
set_option maxHeartbeats 4000000 in
set_option maxRecDepth 100000 in
theorem unfold_none (t : Tr) (A : Option Addr) (c B : Nat) (w : World) (hB : B ≤ w.heap.size) (ht : IsT w B t A c) (hk : shortB t.k = false) :
    Calls Try.prog 110 #[.agg #[.int .i64 t.k, .int .i64 t.i, .slice A t.ks.length c]] w (UnfP B w t) := by
  have htn1 : ∀ (w : World), (Instr.typeAssert .nilIface 128 131 true).run Try.prog w = .ok (.tuple #[.agg #[.int .i64 0, .int .i64 0, .slice none 0 0, .int .i64 0, .int .i64 0, .slice none 0 0], .bool false]) w := fun w => by rfl
  have htn2 : ∀ (w : World), (Instr.typeAssert .nilIface 128 132 true).run Try.prog w = .ok (.tuple #[.agg #[.int .i64 0, .int .i64 0, .slice none 0 0, .int .i64 0, .int .i64 0, .slice none 0 0], .bool false]) w := fun w => by rfl
  have htn3 : ∀ (w : World), (Instr.typeAssert .nilIface 128 134 true).run Try.prog w = .ok (.tuple #[.agg #[.int .i64 0, .int .i64 0, .int .i64 0, .slice none 0 0], .bool false]) w := fun w => by rfl
  have Z := Lib.hid (zero_box w (.int .i64 t.k) (.int .i64 t.i) (.slice A t.ks.length c))
  have HT := Lib.hid ht
  obtain ⟨p0, p1, p2⟩ := Z.out.2.1.cells
  clear ht
  go_enter Try.func110, Try.ntmps110
  go_wp2_with fail
  refine (abbr_none t.k t.i A t.ks.length c _ hk).mono ?_
  rintro e1 w1 ⟨rfl, hb1⟩
  have zz := Z.out.2.2.lt
  have X := Lib.hid (Z.out.2.1.keep hb1 Z.out.2.1.lt)
  have Y := Lib.hid (Z.out.2.2.keep hb1 Z.out.2.2.lt)
  have B1 := Lib.hid (Z.out.1.trans (hb1.mono Z.out.1.size))
  have FR := Lib.hid (FrT.ofLow (X := RU B w) HT.out (fun k hk => by unfold RU at hk; omega) (fun k hk => B1.out.block k (by omega)) (by have := B1.out.size; omega))
  clear p0 p1 p2 hb1 hk zz
  obtain ⟨p0, p1, p2⟩ := X.out.cells
  obtain ⟨s0, s1, s2⟩ := Y.out.cells
  have f0 := Y.out.frozen 0
  have f1 := Y.out.frozen 1
  have f2 := Y.out.frozen 2
  obtain ⟨q0, q1, q2⟩ := (Y.out.setall (.int .i64 t.k) (.int .i64 t.i) (.slice A t.ks.length c)).cells
  go_wp2_with fail
  exact bodyPost_ret (v := .agg #[.int .i64 t.k, .int .i64 t.i, .slice A t.ks.length c]) (by simp [results, Try.results110, go_sem, q0, q1, q2]) rfl ⟨A, c, rfl, (FR.out.set3 (.inr rfl) _ _ _).less (fun k hk => .inl hk), below_set3 B1.out _ _ _ (by omega)⟩
theorem short_cases {t : Tr} (h : t.shp = true) : (∃ i a b, t = .node 8 i [a, b]) ∨ (∃ i a b, t = .node 9 i [a, b]) ∨ (∃ i a, t = .node 10 i [a]) ∨ shortB t.k = false := by
  obtain ⟨k, i, ks⟩ := t
  rw [nod_shp, Bool.and_eq_true] at h
  cases hb : shortB k with
  | false => exact .inr (.inr (.inr hb))
  | true =>
    simp [shortB] at hb
    rcases hb with (rfl | rfl) | rfl
    · have hk := h.1
      simp [kindOk] at hk
      obtain ⟨a, b, rfl⟩ := len_two (by omega : ks.length = 2)
      exact .inl ⟨i, a, b, rfl⟩
    · have hk := h.1
      simp [kindOk] at hk
      obtain ⟨a, b, rfl⟩ := len_two (by omega : ks.length = 2)
      exact .inr (.inl ⟨i, a, b, rfl⟩)
    · have hk := h.1
      simp [kindOk] at hk
      obtain ⟨a, rfl⟩ := len_one (by omega : ks.length = 1)
      exact .inr (.inr (.inl ⟨i, a, rfl⟩))
theorem unfT_none {t : Tr} (h : shortB t.k = false) : unfT t = t := by unfold unfT; rw [unf_id h, ← Tr.eta]
theorem cunf_any (t : Tr) (A : Option Addr) (c B : Nat) (w : World) (hB : B ≤ w.heap.size) (ht : IsT w B t A c) (hs : t.shp = true) :
    Calls Try.prog 110 #[.agg #[.int .i64 t.k, .int .i64 t.i, .slice A t.ks.length c]] w (UnfP B w (unfT t)) := by
  rcases short_cases hs with ⟨i, a, b, rfl⟩ | ⟨i, a, b, rfl⟩ | ⟨i, a, rfl⟩ | h
  · exact unfold_and i a b A c B w hB ht
  · exact unfold_or i a b A c B w hB ht
  · exact unfold_some i a A c B w hB ht
  · rw [unfT_none h]; exact unfold_none t A c B w hB ht h
/-! ### extentOf -/
/-- a box of an extent -/
def BoxE (W : World) (b : Nat) (x y : Value) : Prop := W.heap[b]? = some (.cells #[x, y] 68 (0, 0))
theorem BoxE.lt {W : World} {b : Nat} {x y : Value} (h : BoxE W b x y) : b < W.heap.size := (Array.getElem?_eq_some_iff.1 h).1
theorem BoxE.cells {W : World} {b : Nat} {x y : Value} (h : BoxE W b x y) : W.cell? ⟨b, 0, none⟩ = some x ∧ W.cell? ⟨b, 1, none⟩ = some y := by
  unfold BoxE at h
  simp [World.cell?, h]
theorem BoxE.frozen {W : World} {b : Nat} {x y : Value} (h : BoxE W b x y) (o : Nat) : W.frozen? ⟨b, o, none⟩ = false := by
  unfold BoxE at h
  simp [World.frozen?, h]
theorem BoxE.keep {W W' : World} {b B : Nat} {x y : Value} (h : BoxE W b x y) (hb : Below B W W') (hB : b < B) : BoxE W' b x y := (hb.block b hB).trans h
theorem BoxE.new (W : World) (x y : Value) : BoxE (W.alloc (.cells #[x, y] 68)) W.heap.size x y := new_at W _
theorem BoxE.set {W : World} {b : Nat} {x y : Value} (h : BoxE W b x y) (x' y' : Value) : BoxE ((W.setCell ⟨b, 0, none⟩ x').setCell ⟨b, 1, none⟩ y') b x' y' := by
  unfold BoxE at *
  unfold World.setCell
  simp [Array.getElem?_modify, h]
theorem BoxE.set_other {W : World} {b : Nat} {x y : Value} (h : BoxE W b x y) (p : Addr) (q : Value) (hne : b ≠ p.block) : BoxE (W.setCell p q) b x y := (heap_setCell_other W p q b hne).trans h
theorem fault_any (n d : Int) (w : World) :
    Calls Try.prog 67 #[.agg #[.int .i64 n, .int .i64 d]] w fun e w' => e = .returned (.int .i64 ((if 1000 < n then 20 else if 100 < d then 21 else 0 : Nat) : Int)) ∧ Below w.heap.size w w' := by
  have B0 := Lib.hid (alB w (.cells #[.int .i64 n, .int .i64 d] 68))
  obtain ⟨c0, c1⟩ := (BoxE.new w (.int .i64 n) (.int .i64 d)).cells
  by_cases h1 : 1000 < n
  · have F := Lib.hid (show (if 1000 < n then 20 else if 100 < d then 21 else 0 : Nat) = 20 by rw [if_pos h1])
    go_enter Try.func67, Try.ntmps67
    go_wp2_with fail
    go_ret
    exact ⟨by first | rfl | (rw [F.out]; rfl), B0.out⟩
  · by_cases h2 : 100 < d
    · have F := Lib.hid (show (if 1000 < n then 20 else if 100 < d then 21 else 0 : Nat) = 21 by rw [if_neg h1, if_pos h2])
      go_enter Try.func67, Try.ntmps67
      go_wp2_with fail
      go_ret
      exact ⟨by first | rfl | (rw [F.out]; rfl), B0.out⟩
    · have F := Lib.hid (show (if 1000 < n then 20 else if 100 < d then 21 else 0 : Nat) = 0 by rw [if_neg h1, if_neg h2])
      go_enter Try.func67, Try.ntmps67
      go_wp2_with fail
      go_ret
      exact ⟨by first | rfl | (rw [F.out]; rfl), B0.out⟩
end Go.Proofs.Ytjdhmfpkhijkeaa
