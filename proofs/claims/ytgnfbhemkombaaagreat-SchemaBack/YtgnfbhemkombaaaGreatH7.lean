/- Nodes of the document's layer 7: Imp, Not, All, Eq. -/
import Derived.Test.YtgnfbhemkombaaaGreatH1
namespace Go.Proofs.YtgnfbhemkombaaaGreat
open Go.RowKit
set_option linter.unusedVariables false
set_option linter.unusedSimpArgs false
set_option maxHeartbeats 1000000 in
theorem rimp_any (X : Nat → Prop) (a b : Tr) (A B : Option Addr) (ca cb : Nat) (w : World) (hX : ∀ k, X k → k < w.heap.size) (ha : FrT X w a A ca) (hb : FrT X w b B cb) :
    Calls Tryz.prog 56 #[.agg #[.int .i64 a.k, .int .i64 a.i, .slice A a.ks.length ca], .agg #[.int .i64 b.k, .int .i64 b.i, .slice B b.ks.length cb]] w (TreeX X w (impT a b)) := by
  obtain ⟨e0, e1, e2⟩ := boxes2 w (.int .i64 a.k) (.int .i64 a.i) (.slice A a.ks.length ca) (.int .i64 b.k) (.int .i64 b.i) (.slice B b.ks.length cb)
  have HA := Lib.hid ha
  have HB := Lib.hid hb
  have HX := Lib.hid hX
  obtain ⟨W2, hW2⟩ : ∃ W2, W2 = (w.alloc (.cells #[.int .i64 a.k, .int .i64 a.i, .slice A a.ks.length ca] 24)).alloc (.cells #[.int .i64 b.k, .int .i64 b.i, .slice B b.ks.length cb] 24) := ⟨_, rfl⟩
  have hz : W2.heap.size = w.heap.size + 2 := by rw [hW2]; simp
  have H2 := Lib.hid (And.intro e0 (And.intro e1 e2))
  rw [← hW2] at H2
  have e3 := alB W2 (.cells #[.int .i64 0, .int .i64 0, .slice none 0 0] 24)
  obtain ⟨a0, a1, a2⟩ := (H2.out.2.1.keep e3 (by omega)).cells
  obtain ⟨b0, b1, b2⟩ := (H2.out.2.2.keep e3 (by omega)).cells
  have HW := Lib.hid hW2
  rw [hW2] at a0 a1 a2 b0 b1 b2
  clear ha hb hX e0 e1 e2 e3 hW2
  go_enter Tryz.func56, Tryz.ntmps56
  go_wp2_with fail
  rw [← HW.out]
  have n1 := Box3.new W2 (.int .i64 6) (.int .i64 0) (.slice (some ⟨w.heap.size + 1 + 1 + 1, 0, none⟩) 2 2)
  obtain ⟨W3, hW3⟩ : ∃ W3, W3 = W2.alloc (.cells #[.int .i64 6, .int .i64 0, .slice (some ⟨w.heap.size + 1 + 1 + 1, 0, none⟩) 2 2] 24) := ⟨_, rfl⟩
  rw [← hW3] at n1 ⊢
  have hz3 : W3.heap.size = w.heap.size + 3 := by rw [hW3]; simp; omega
  have b3 : Below w.heap.size w W3 := by rw [hW3]; exact H2.out.1.trans ((alB W2 _).mono (by omega))
  have r := new_at W3 (.cells #[.int .i64 a.k, .int .i64 a.i, .slice A a.ks.length ca, .int .i64 b.k, .int .i64 b.i, .slice B b.ks.length cb] 24)
  have n2 := n1.keep (alB W3 (.cells #[.int .i64 a.k, .int .i64 a.i, .slice A a.ks.length ca, .int .i64 b.k, .int .i64 b.i, .slice B b.ks.length cb] 24)) (by omega)
  rw [hz] at n2
  rw [hz3] at r
  obtain ⟨r0, r1, r2⟩ := n2.cells
  have b4 := b3.trans ((alB W3 (.cells #[.int .i64 a.k, .int .i64 a.i, .slice A a.ks.length ca, .int .i64 b.k, .int .i64 b.i, .slice B b.ks.length cb] 24)).mono (by omega))
  exact bodyPost_ret (v := .agg #[.int .i64 6, .int .i64 0, .slice (some ⟨w.heap.size + 1 + 1 + 1, 0, none⟩) 2 2]) (by simp [results, Tryz.results56, go_sem, r0, r1, r2]) rfl
    ⟨_, _, rfl, FrT.two 6 0 (HA.out.keep b4) (HB.out.keep b4) r (fun h => by have := HX.out _ h; omega), b4⟩
set_option maxHeartbeats 1000000 in
theorem req_any (X : Nat → Prop) (a b : Tr) (A B : Option Addr) (ca cb : Nat) (w : World) (hX : ∀ k, X k → k < w.heap.size) (ha : FrT X w a A ca) (hb : FrT X w b B cb) :
    Calls Tryz.prog 60 #[.agg #[.int .i64 a.k, .int .i64 a.i, .slice A a.ks.length ca], .agg #[.int .i64 b.k, .int .i64 b.i, .slice B b.ks.length cb]] w (TreeX X w (eqT a b)) := by
  obtain ⟨e0, e1, e2⟩ := boxes2 w (.int .i64 a.k) (.int .i64 a.i) (.slice A a.ks.length ca) (.int .i64 b.k) (.int .i64 b.i) (.slice B b.ks.length cb)
  have HA := Lib.hid ha
  have HB := Lib.hid hb
  have HX := Lib.hid hX
  obtain ⟨W2, hW2⟩ : ∃ W2, W2 = (w.alloc (.cells #[.int .i64 a.k, .int .i64 a.i, .slice A a.ks.length ca] 24)).alloc (.cells #[.int .i64 b.k, .int .i64 b.i, .slice B b.ks.length cb] 24) := ⟨_, rfl⟩
  have hz : W2.heap.size = w.heap.size + 2 := by rw [hW2]; simp
  have H2 := Lib.hid (And.intro e0 (And.intro e1 e2))
  rw [← hW2] at H2
  have e3 := alB W2 (.cells #[.int .i64 0, .int .i64 0, .slice none 0 0] 24)
  obtain ⟨a0, a1, a2⟩ := (H2.out.2.1.keep e3 (by omega)).cells
  obtain ⟨b0, b1, b2⟩ := (H2.out.2.2.keep e3 (by omega)).cells
  have HW := Lib.hid hW2
  rw [hW2] at a0 a1 a2 b0 b1 b2
  clear ha hb hX e0 e1 e2 e3 hW2
  go_enter Tryz.func60, Tryz.ntmps60
  go_wp2_with fail
  rw [← HW.out]
  have n1 := Box3.new W2 (.int .i64 4) (.int .i64 0) (.slice (some ⟨w.heap.size + 1 + 1 + 1, 0, none⟩) 2 2)
  obtain ⟨W3, hW3⟩ : ∃ W3, W3 = W2.alloc (.cells #[.int .i64 4, .int .i64 0, .slice (some ⟨w.heap.size + 1 + 1 + 1, 0, none⟩) 2 2] 24) := ⟨_, rfl⟩
  rw [← hW3] at n1 ⊢
  have hz3 : W3.heap.size = w.heap.size + 3 := by rw [hW3]; simp; omega
  have b3 : Below w.heap.size w W3 := by rw [hW3]; exact H2.out.1.trans ((alB W2 _).mono (by omega))
  have r := new_at W3 (.cells #[.int .i64 a.k, .int .i64 a.i, .slice A a.ks.length ca, .int .i64 b.k, .int .i64 b.i, .slice B b.ks.length cb] 24)
  have n2 := n1.keep (alB W3 (.cells #[.int .i64 a.k, .int .i64 a.i, .slice A a.ks.length ca, .int .i64 b.k, .int .i64 b.i, .slice B b.ks.length cb] 24)) (by omega)
  rw [hz] at n2
  rw [hz3] at r
  obtain ⟨r0, r1, r2⟩ := n2.cells
  have b4 := b3.trans ((alB W3 (.cells #[.int .i64 a.k, .int .i64 a.i, .slice A a.ks.length ca, .int .i64 b.k, .int .i64 b.i, .slice B b.ks.length cb] 24)).mono (by omega))
  exact bodyPost_ret (v := .agg #[.int .i64 4, .int .i64 0, .slice (some ⟨w.heap.size + 1 + 1 + 1, 0, none⟩) 2 2]) (by simp [results, Tryz.results60, go_sem, r0, r1, r2]) rfl
    ⟨_, _, rfl, FrT.two 4 0 (HA.out.keep b4) (HB.out.keep b4) r (fun h => by have := HX.out _ h; omega), b4⟩
set_option maxHeartbeats 1000000 in
theorem rnot_any (X : Nat → Prop) (a : Tr) (A : Option Addr) (ca : Nat) (w : World) (hX : ∀ k, X k → k < w.heap.size) (ha : FrT X w a A ca) :
    Calls Tryz.prog 57 #[.agg #[.int .i64 a.k, .int .i64 a.i, .slice A a.ks.length ca]] w (TreeX X w (notT a)) := by
  have HA := Lib.hid ha
  have HX := Lib.hid hX
  obtain ⟨W2, hW2⟩ : ∃ W2, W2 = w.alloc (.cells #[.int .i64 a.k, .int .i64 a.i, .slice A a.ks.length ca] 24) := ⟨_, rfl⟩
  have hz : W2.heap.size = w.heap.size + 1 := by rw [hW2]; simp
  have H2 := Lib.hid (show Below w.heap.size w W2 ∧ Box3 W2 w.heap.size (.int .i64 a.k) (.int .i64 a.i) (.slice A a.ks.length ca) by rw [hW2]; exact ⟨alB w _, Box3.new w _ _ _⟩)
  have e3 := alB W2 (.cells #[.int .i64 0, .int .i64 0, .slice none 0 0] 24)
  obtain ⟨a0, a1, a2⟩ := (H2.out.2.keep e3 (by omega)).cells
  have HW := Lib.hid hW2
  rw [hW2] at a0 a1 a2
  clear ha hX e3 hW2
  go_enter Tryz.func57, Tryz.ntmps57
  go_wp2_with fail
  rw [← HW.out]
  have n1 := Box3.new W2 (.int .i64 5) (.int .i64 0) (.slice (some ⟨w.heap.size + 1 + 1, 0, none⟩) 1 1)
  obtain ⟨W3, hW3⟩ : ∃ W3, W3 = W2.alloc (.cells #[.int .i64 5, .int .i64 0, .slice (some ⟨w.heap.size + 1 + 1, 0, none⟩) 1 1] 24) := ⟨_, rfl⟩
  rw [← hW3] at n1 ⊢
  have hz3 : W3.heap.size = w.heap.size + 2 := by rw [hW3]; simp; omega
  have b3 : Below w.heap.size w W3 := by rw [hW3]; exact H2.out.1.trans ((alB W2 _).mono (by omega))
  have r := new_at W3 (.cells #[.int .i64 a.k, .int .i64 a.i, .slice A a.ks.length ca] 24)
  have n2 := n1.keep (alB W3 (.cells #[.int .i64 a.k, .int .i64 a.i, .slice A a.ks.length ca] 24)) (by omega)
  rw [hz] at n2
  rw [hz3] at r
  obtain ⟨r0, r1, r2⟩ := n2.cells
  have b4 := b3.trans ((alB W3 (.cells #[.int .i64 a.k, .int .i64 a.i, .slice A a.ks.length ca] 24)).mono (by omega))
  exact bodyPost_ret (v := .agg #[.int .i64 5, .int .i64 0, .slice (some ⟨w.heap.size + 1 + 1, 0, none⟩) 1 1]) (by simp [results, Tryz.results57, go_sem, r0, r1, r2]) rfl
    ⟨_, _, rfl, FrT.one 5 0 (HA.out.keep b4) r (fun h => by have := HX.out _ h; omega), b4⟩
set_option maxHeartbeats 1000000 in
theorem rall_any (X : Nat → Prop) (x : Int) (a : Tr) (A : Option Addr) (ca : Nat) (w : World) (hX : ∀ k, X k → k < w.heap.size) (ha : FrT X w a A ca) :
    Calls Tryz.prog 59 #[.int .i64 x, .agg #[.int .i64 a.k, .int .i64 a.i, .slice A a.ks.length ca]] w (TreeX X w (allT x a)) := by
  have HA := Lib.hid ha
  have HX := Lib.hid hX
  obtain ⟨W2, hW2⟩ : ∃ W2, W2 = w.alloc (.cells #[.int .i64 a.k, .int .i64 a.i, .slice A a.ks.length ca] 24) := ⟨_, rfl⟩
  have hz : W2.heap.size = w.heap.size + 1 := by rw [hW2]; simp
  have H2 := Lib.hid (show Below w.heap.size w W2 ∧ Box3 W2 w.heap.size (.int .i64 a.k) (.int .i64 a.i) (.slice A a.ks.length ca) by rw [hW2]; exact ⟨alB w _, Box3.new w _ _ _⟩)
  have e3 := alB W2 (.cells #[.int .i64 0, .int .i64 0, .slice none 0 0] 24)
  obtain ⟨a0, a1, a2⟩ := (H2.out.2.keep e3 (by omega)).cells
  have HW := Lib.hid hW2
  rw [hW2] at a0 a1 a2
  clear ha hX e3 hW2
  go_enter Tryz.func59, Tryz.ntmps59
  go_wp2_with fail
  rw [← HW.out]
  have n1 := Box3.new W2 (.int .i64 7) (.int .i64 x) (.slice (some ⟨w.heap.size + 1 + 1, 0, none⟩) 1 1)
  obtain ⟨W3, hW3⟩ : ∃ W3, W3 = W2.alloc (.cells #[.int .i64 7, .int .i64 x, .slice (some ⟨w.heap.size + 1 + 1, 0, none⟩) 1 1] 24) := ⟨_, rfl⟩
  rw [← hW3] at n1 ⊢
  have hz3 : W3.heap.size = w.heap.size + 2 := by rw [hW3]; simp; omega
  have b3 : Below w.heap.size w W3 := by rw [hW3]; exact H2.out.1.trans ((alB W2 _).mono (by omega))
  have r := new_at W3 (.cells #[.int .i64 a.k, .int .i64 a.i, .slice A a.ks.length ca] 24)
  have n2 := n1.keep (alB W3 (.cells #[.int .i64 a.k, .int .i64 a.i, .slice A a.ks.length ca] 24)) (by omega)
  rw [hz] at n2
  rw [hz3] at r
  obtain ⟨r0, r1, r2⟩ := n2.cells
  have b4 := b3.trans ((alB W3 (.cells #[.int .i64 a.k, .int .i64 a.i, .slice A a.ks.length ca] 24)).mono (by omega))
  exact bodyPost_ret (v := .agg #[.int .i64 7, .int .i64 x, .slice (some ⟨w.heap.size + 1 + 1, 0, none⟩) 1 1]) (by simp [results, Tryz.results59, go_sem, r0, r1, r2]) rfl
    ⟨_, _, rfl, FrT.one 7 x (HA.out.keep b4) r (fun h => by have := HX.out _ h; omega), b4⟩
end Go.Proofs.YtgnfbhemkombaaaGreat
