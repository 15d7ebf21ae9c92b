/- Nodes of package rule (not, imp, all) and of the document's layer 7 (Not, Imp, All), each said by its row. -/
import Derived.Test.YtjdhmfpkhijkeaaEV
import Derived.Test.YtjdhmfpkhijkeaaLY
import Derived.Test.YtjdhmfpkhijkeaaF1
namespace Go.Proofs.Ytjdhmfpkhijkeaa
open Go.RowKit
set_option linter.unusedVariables false
set_option linter.unusedSimpArgs false
/-- a node whose kids lie in a new row -/
def RowX (w : World) (k i : Int) (cs : List Value) (n : Nat) (e : Ending) (w' : World) : Prop :=
  ∃ g, e = .returned (.agg #[.int .i64 k, .int .i64 i, .slice (some ⟨g, 0, none⟩) n n]) ∧ w.heap.size ≤ g ∧ g < w'.heap.size ∧ w'.heap[g]? = some (.cells cs.toArray 24 (0, 0)) ∧ Below w.heap.size w w'
set_option maxHeartbeats 1000000 in
theorem cnot_row (k i : Int) (A : Option Addr) (n c : Nat) (w : World) :
    Calls Try.prog 135 #[.agg #[.int .i64 k, .int .i64 i, .slice A n c]] w (RowX w 5 0 [.int .i64 k, .int .i64 i, .slice A n c] 1) := by
  obtain ⟨W2, hW2⟩ : ∃ W2, W2 = w.alloc (.cells #[.int .i64 k, .int .i64 i, .slice A n c] 24) := ⟨_, rfl⟩
  have hz : W2.heap.size = w.heap.size + 1 := by rw [hW2]; simp
  have H2 := Lib.hid (show Below w.heap.size w W2 ∧ Box3 W2 w.heap.size (.int .i64 k) (.int .i64 i) (.slice A n c) by rw [hW2]; exact ⟨(Below.refl _ _).alloc (Nat.le_refl _) _, Box3.new w _ _ _⟩)
  have e3 := (Below.refl W2.heap.size W2).alloc (Nat.le_refl _) (.cells #[.int .i64 0, .int .i64 0, .slice none 0 0] 24)
  obtain ⟨a0, a1, a2⟩ := (H2.out.2.keep e3 (by omega)).cells
  have HW := Lib.hid hW2
  rw [hW2] at a0 a1 a2
  clear e3 hW2
  go_enter Try.func135, Try.ntmps135
  go_wp2_with fail
  rw [← HW.out]
  have n1 := Box3.new W2 (.int .i64 5) (.int .i64 0) (.slice (some ⟨w.heap.size + 1 + 1, 0, none⟩) 1 1)
  obtain ⟨W3, hW3⟩ : ∃ W3, W3 = W2.alloc (.cells #[.int .i64 5, .int .i64 0, .slice (some ⟨w.heap.size + 1 + 1, 0, none⟩) 1 1] 24) := ⟨_, rfl⟩
  rw [← hW3] at n1 ⊢
  have hz3 : W3.heap.size = w.heap.size + 2 := by rw [hW3]; simp; omega
  have b3 : Below w.heap.size w W3 := by rw [hW3]; exact H2.out.1.trans (((Below.refl W2.heap.size W2).alloc (Nat.le_refl _) _).mono (by omega))
  have r := new_at W3 (.cells #[.int .i64 k, .int .i64 i, .slice A n c] 24)
  have n2 := n1.keep ((Below.refl W3.heap.size W3).alloc (Nat.le_refl _) (.cells #[.int .i64 k, .int .i64 i, .slice A n c] 24)) (by omega)
  rw [hz] at n2
  rw [hz3] at r
  obtain ⟨r0, r1, r2⟩ := n2.cells
  have b4 := b3.trans (((Below.refl W3.heap.size W3).alloc (Nat.le_refl _) (.cells #[.int .i64 k, .int .i64 i, .slice A n c] 24)).mono (by omega))
  exact bodyPost_ret (v := .agg #[.int .i64 5, .int .i64 0, .slice (some ⟨w.heap.size + 1 + 1, 0, none⟩) 1 1]) (by simp [results, Try.results135, go_sem, r0, r1, r2]) rfl
    ⟨w.heap.size + 1 + 1, rfl, by omega, by simp; omega, r, b4⟩
set_option maxHeartbeats 1000000 in
theorem cimp_row (k i : Int) (A : Option Addr) (n c : Nat) (k' i' : Int) (A' : Option Addr) (n' c' : Nat) (w : World) :
    Calls Try.prog 136 #[.agg #[.int .i64 k, .int .i64 i, .slice A n c], .agg #[.int .i64 k', .int .i64 i', .slice A' n' c']] w (RowX w 6 0 [.int .i64 k, .int .i64 i, .slice A n c, .int .i64 k', .int .i64 i', .slice A' n' c'] 2) := by
  obtain ⟨W1, hW1⟩ : ∃ W1, W1 = w.alloc (.cells #[.int .i64 k, .int .i64 i, .slice A n c] 24) := ⟨_, rfl⟩
  obtain ⟨W2, hW2⟩ : ∃ W2, W2 = W1.alloc (.cells #[.int .i64 k', .int .i64 i', .slice A' n' c'] 24) := ⟨_, rfl⟩
  have hz1 : W1.heap.size = w.heap.size + 1 := by rw [hW1]; simp
  have hz : W2.heap.size = w.heap.size + 2 := by rw [hW2]; simp; omega
  have H1 : Below w.heap.size w W1 ∧ Box3 W1 w.heap.size (.int .i64 k) (.int .i64 i) (.slice A n c) := by rw [hW1]; exact ⟨(Below.refl _ _).alloc (Nat.le_refl _) _, Box3.new w _ _ _⟩
  have H2 := Lib.hid (show Below w.heap.size w W2 ∧ Box3 W2 w.heap.size (.int .i64 k) (.int .i64 i) (.slice A n c) ∧ Box3 W2 (w.heap.size + 1) (.int .i64 k') (.int .i64 i') (.slice A' n' c') by
    have b := (Below.refl W1.heap.size W1).alloc (Nat.le_refl _) (.cells #[.int .i64 k', .int .i64 i', .slice A' n' c'] 24)
    have bn := Box3.new W1 (.int .i64 k') (.int .i64 i') (.slice A' n' c')
    rw [← hW2] at b bn
    rw [hz1] at bn
    exact ⟨H1.1.trans (b.mono (by omega)), H1.2.keep b H1.2.lt, bn⟩)
  have e3 := (Below.refl W2.heap.size W2).alloc (Nat.le_refl _) (.cells #[.int .i64 0, .int .i64 0, .slice none 0 0] 24)
  obtain ⟨a0, a1, a2⟩ := (H2.out.2.1.keep e3 (by omega)).cells
  obtain ⟨b0, b1, b2⟩ := (H2.out.2.2.keep e3 (by omega)).cells
  rw [hW1] at hW2
  have HW := Lib.hid hW2
  rw [hW2] at a0 a1 a2 b0 b1 b2
  clear e3 hW2 hW1 H1 hz1
  go_enter Try.func136, Try.ntmps136
  go_wp2_with fail
  rw [← HW.out]
  have n1 := Box3.new W2 (.int .i64 6) (.int .i64 0) (.slice (some ⟨w.heap.size + 1 + 1 + 1, 0, none⟩) 2 2)
  obtain ⟨W3, hW3⟩ : ∃ W3, W3 = W2.alloc (.cells #[.int .i64 6, .int .i64 0, .slice (some ⟨w.heap.size + 1 + 1 + 1, 0, none⟩) 2 2] 24) := ⟨_, rfl⟩
  rw [← hW3] at n1 ⊢
  have hz3 : W3.heap.size = w.heap.size + 3 := by rw [hW3]; simp; omega
  have b3 : Below w.heap.size w W3 := by rw [hW3]; exact H2.out.1.trans (((Below.refl W2.heap.size W2).alloc (Nat.le_refl _) _).mono (by omega))
  have r := new_at W3 (.cells #[.int .i64 k, .int .i64 i, .slice A n c, .int .i64 k', .int .i64 i', .slice A' n' c'] 24)
  have n2 := n1.keep ((Below.refl W3.heap.size W3).alloc (Nat.le_refl _) (.cells #[.int .i64 k, .int .i64 i, .slice A n c, .int .i64 k', .int .i64 i', .slice A' n' c'] 24)) (by omega)
  rw [hz] at n2
  rw [hz3] at r
  obtain ⟨r0, r1, r2⟩ := n2.cells
  have b4 := b3.trans (((Below.refl W3.heap.size W3).alloc (Nat.le_refl _) (.cells #[.int .i64 k, .int .i64 i, .slice A n c, .int .i64 k', .int .i64 i', .slice A' n' c'] 24)).mono (by omega))
  exact bodyPost_ret (v := .agg #[.int .i64 6, .int .i64 0, .slice (some ⟨w.heap.size + 1 + 1 + 1, 0, none⟩) 2 2]) (by simp [results, Try.results136, go_sem, r0, r1, r2]) rfl
    ⟨w.heap.size + 1 + 1 + 1, rfl, by omega, by simp; omega, r, b4⟩
set_option maxHeartbeats 1000000 in
theorem call_row (x : Int) (k i : Int) (A : Option Addr) (n c : Nat) (w : World) :
    Calls Try.prog 78 #[.int .i64 x, .agg #[.int .i64 k, .int .i64 i, .slice A n c]] w (RowX w 7 x [.int .i64 k, .int .i64 i, .slice A n c] 1) := by
  obtain ⟨W2, hW2⟩ : ∃ W2, W2 = w.alloc (.cells #[.int .i64 k, .int .i64 i, .slice A n c] 24) := ⟨_, rfl⟩
  have hz : W2.heap.size = w.heap.size + 1 := by rw [hW2]; simp
  have H2 := Lib.hid (show Below w.heap.size w W2 ∧ Box3 W2 w.heap.size (.int .i64 k) (.int .i64 i) (.slice A n c) by rw [hW2]; exact ⟨(Below.refl _ _).alloc (Nat.le_refl _) _, Box3.new w _ _ _⟩)
  have e3 := (Below.refl W2.heap.size W2).alloc (Nat.le_refl _) (.cells #[.int .i64 0, .int .i64 0, .slice none 0 0] 24)
  obtain ⟨a0, a1, a2⟩ := (H2.out.2.keep e3 (by omega)).cells
  have HW := Lib.hid hW2
  rw [hW2] at a0 a1 a2
  clear e3 hW2
  go_enter Try.func78, Try.ntmps78
  go_wp2_with fail
  rw [← HW.out]
  have n1 := Box3.new W2 (.int .i64 7) (.int .i64 x) (.slice (some ⟨w.heap.size + 1 + 1, 0, none⟩) 1 1)
  obtain ⟨W3, hW3⟩ : ∃ W3, W3 = W2.alloc (.cells #[.int .i64 7, .int .i64 x, .slice (some ⟨w.heap.size + 1 + 1, 0, none⟩) 1 1] 24) := ⟨_, rfl⟩
  rw [← hW3] at n1 ⊢
  have hz3 : W3.heap.size = w.heap.size + 2 := by rw [hW3]; simp; omega
  have b3 : Below w.heap.size w W3 := by rw [hW3]; exact H2.out.1.trans (((Below.refl W2.heap.size W2).alloc (Nat.le_refl _) _).mono (by omega))
  have r := new_at W3 (.cells #[.int .i64 k, .int .i64 i, .slice A n c] 24)
  have n2 := n1.keep ((Below.refl W3.heap.size W3).alloc (Nat.le_refl _) (.cells #[.int .i64 k, .int .i64 i, .slice A n c] 24)) (by omega)
  rw [hz] at n2
  rw [hz3] at r
  obtain ⟨r0, r1, r2⟩ := n2.cells
  have b4 := b3.trans (((Below.refl W3.heap.size W3).alloc (Nat.le_refl _) (.cells #[.int .i64 k, .int .i64 i, .slice A n c] 24)).mono (by omega))
  exact bodyPost_ret (v := .agg #[.int .i64 7, .int .i64 x, .slice (some ⟨w.heap.size + 1 + 1, 0, none⟩) 1 1]) (by simp [results, Try.results78, go_sem, r0, r1, r2]) rfl
    ⟨w.heap.size + 1 + 1, rfl, by omega, by simp; omega, r, b4⟩
set_option maxHeartbeats 1000000 in
theorem dnot_row (k i : Int) (A : Option Addr) (n c : Nat) (w : World) :
    Calls Try.prog 111 #[.agg #[.int .i64 k, .int .i64 i, .slice A n c]] w (RowX w 5 0 [.int .i64 k, .int .i64 i, .slice A n c] 1) := by
  obtain ⟨W2, hW2⟩ : ∃ W2, W2 = w.alloc (.cells #[.int .i64 k, .int .i64 i, .slice A n c] 24) := ⟨_, rfl⟩
  have hz : W2.heap.size = w.heap.size + 1 := by rw [hW2]; simp
  have H2 := Lib.hid (show Below w.heap.size w W2 ∧ Box3 W2 w.heap.size (.int .i64 k) (.int .i64 i) (.slice A n c) by rw [hW2]; exact ⟨(Below.refl _ _).alloc (Nat.le_refl _) _, Box3.new w _ _ _⟩)
  have e3 := (Below.refl W2.heap.size W2).alloc (Nat.le_refl _) (.cells #[.int .i64 0, .int .i64 0, .slice none 0 0] 24)
  obtain ⟨a0, a1, a2⟩ := (H2.out.2.keep e3 (by omega)).cells
  have HW := Lib.hid hW2
  rw [hW2] at a0 a1 a2
  clear e3 hW2
  go_enter Try.func111, Try.ntmps111
  go_wp2_with fail
  rw [← HW.out]
  have n1 := Box3.new W2 (.int .i64 5) (.int .i64 0) (.slice (some ⟨w.heap.size + 1 + 1, 0, none⟩) 1 1)
  obtain ⟨W3, hW3⟩ : ∃ W3, W3 = W2.alloc (.cells #[.int .i64 5, .int .i64 0, .slice (some ⟨w.heap.size + 1 + 1, 0, none⟩) 1 1] 24) := ⟨_, rfl⟩
  rw [← hW3] at n1 ⊢
  have hz3 : W3.heap.size = w.heap.size + 2 := by rw [hW3]; simp; omega
  have b3 : Below w.heap.size w W3 := by rw [hW3]; exact H2.out.1.trans (((Below.refl W2.heap.size W2).alloc (Nat.le_refl _) _).mono (by omega))
  have r := new_at W3 (.cells #[.int .i64 k, .int .i64 i, .slice A n c] 24)
  have n2 := n1.keep ((Below.refl W3.heap.size W3).alloc (Nat.le_refl _) (.cells #[.int .i64 k, .int .i64 i, .slice A n c] 24)) (by omega)
  rw [hz] at n2
  rw [hz3] at r
  obtain ⟨r0, r1, r2⟩ := n2.cells
  have b4 := b3.trans (((Below.refl W3.heap.size W3).alloc (Nat.le_refl _) (.cells #[.int .i64 k, .int .i64 i, .slice A n c] 24)).mono (by omega))
  exact bodyPost_ret (v := .agg #[.int .i64 5, .int .i64 0, .slice (some ⟨w.heap.size + 1 + 1, 0, none⟩) 1 1]) (by simp [results, Try.results111, go_sem, r0, r1, r2]) rfl
    ⟨w.heap.size + 1 + 1, rfl, by omega, by simp; omega, r, b4⟩
set_option maxHeartbeats 1000000 in
theorem dimp_row (k i : Int) (A : Option Addr) (n c : Nat) (k' i' : Int) (A' : Option Addr) (n' c' : Nat) (w : World) :
    Calls Try.prog 112 #[.agg #[.int .i64 k, .int .i64 i, .slice A n c], .agg #[.int .i64 k', .int .i64 i', .slice A' n' c']] w (RowX w 6 0 [.int .i64 k, .int .i64 i, .slice A n c, .int .i64 k', .int .i64 i', .slice A' n' c'] 2) := by
  obtain ⟨W1, hW1⟩ : ∃ W1, W1 = w.alloc (.cells #[.int .i64 k, .int .i64 i, .slice A n c] 24) := ⟨_, rfl⟩
  obtain ⟨W2, hW2⟩ : ∃ W2, W2 = W1.alloc (.cells #[.int .i64 k', .int .i64 i', .slice A' n' c'] 24) := ⟨_, rfl⟩
  have hz1 : W1.heap.size = w.heap.size + 1 := by rw [hW1]; simp
  have hz : W2.heap.size = w.heap.size + 2 := by rw [hW2]; simp; omega
  have H1 : Below w.heap.size w W1 ∧ Box3 W1 w.heap.size (.int .i64 k) (.int .i64 i) (.slice A n c) := by rw [hW1]; exact ⟨(Below.refl _ _).alloc (Nat.le_refl _) _, Box3.new w _ _ _⟩
  have H2 := Lib.hid (show Below w.heap.size w W2 ∧ Box3 W2 w.heap.size (.int .i64 k) (.int .i64 i) (.slice A n c) ∧ Box3 W2 (w.heap.size + 1) (.int .i64 k') (.int .i64 i') (.slice A' n' c') by
    have b := (Below.refl W1.heap.size W1).alloc (Nat.le_refl _) (.cells #[.int .i64 k', .int .i64 i', .slice A' n' c'] 24)
    have bn := Box3.new W1 (.int .i64 k') (.int .i64 i') (.slice A' n' c')
    rw [← hW2] at b bn
    rw [hz1] at bn
    exact ⟨H1.1.trans (b.mono (by omega)), H1.2.keep b H1.2.lt, bn⟩)
  have e3 := (Below.refl W2.heap.size W2).alloc (Nat.le_refl _) (.cells #[.int .i64 0, .int .i64 0, .slice none 0 0] 24)
  obtain ⟨a0, a1, a2⟩ := (H2.out.2.1.keep e3 (by omega)).cells
  obtain ⟨b0, b1, b2⟩ := (H2.out.2.2.keep e3 (by omega)).cells
  rw [hW1] at hW2
  have HW := Lib.hid hW2
  rw [hW2] at a0 a1 a2 b0 b1 b2
  clear e3 hW2 hW1 H1 hz1
  go_enter Try.func112, Try.ntmps112
  go_wp2_with fail
  rw [← HW.out]
  have n1 := Box3.new W2 (.int .i64 6) (.int .i64 0) (.slice (some ⟨w.heap.size + 1 + 1 + 1, 0, none⟩) 2 2)
  obtain ⟨W3, hW3⟩ : ∃ W3, W3 = W2.alloc (.cells #[.int .i64 6, .int .i64 0, .slice (some ⟨w.heap.size + 1 + 1 + 1, 0, none⟩) 2 2] 24) := ⟨_, rfl⟩
  rw [← hW3] at n1 ⊢
  have hz3 : W3.heap.size = w.heap.size + 3 := by rw [hW3]; simp; omega
  have b3 : Below w.heap.size w W3 := by rw [hW3]; exact H2.out.1.trans (((Below.refl W2.heap.size W2).alloc (Nat.le_refl _) _).mono (by omega))
  have r := new_at W3 (.cells #[.int .i64 k, .int .i64 i, .slice A n c, .int .i64 k', .int .i64 i', .slice A' n' c'] 24)
  have n2 := n1.keep ((Below.refl W3.heap.size W3).alloc (Nat.le_refl _) (.cells #[.int .i64 k, .int .i64 i, .slice A n c, .int .i64 k', .int .i64 i', .slice A' n' c'] 24)) (by omega)
  rw [hz] at n2
  rw [hz3] at r
  obtain ⟨r0, r1, r2⟩ := n2.cells
  have b4 := b3.trans (((Below.refl W3.heap.size W3).alloc (Nat.le_refl _) (.cells #[.int .i64 k, .int .i64 i, .slice A n c, .int .i64 k', .int .i64 i', .slice A' n' c'] 24)).mono (by omega))
  exact bodyPost_ret (v := .agg #[.int .i64 6, .int .i64 0, .slice (some ⟨w.heap.size + 1 + 1 + 1, 0, none⟩) 2 2]) (by simp [results, Try.results112, go_sem, r0, r1, r2]) rfl
    ⟨w.heap.size + 1 + 1 + 1, rfl, by omega, by simp; omega, r, b4⟩
set_option maxHeartbeats 1000000 in
theorem dall_row (x : Int) (k i : Int) (A : Option Addr) (n c : Nat) (w : World) :
    Calls Try.prog 80 #[.int .i64 x, .agg #[.int .i64 k, .int .i64 i, .slice A n c]] w (RowX w 7 x [.int .i64 k, .int .i64 i, .slice A n c] 1) := by
  obtain ⟨W2, hW2⟩ : ∃ W2, W2 = w.alloc (.cells #[.int .i64 k, .int .i64 i, .slice A n c] 24) := ⟨_, rfl⟩
  have hz : W2.heap.size = w.heap.size + 1 := by rw [hW2]; simp
  have H2 := Lib.hid (show Below w.heap.size w W2 ∧ Box3 W2 w.heap.size (.int .i64 k) (.int .i64 i) (.slice A n c) by rw [hW2]; exact ⟨(Below.refl _ _).alloc (Nat.le_refl _) _, Box3.new w _ _ _⟩)
  have e3 := (Below.refl W2.heap.size W2).alloc (Nat.le_refl _) (.cells #[.int .i64 0, .int .i64 0, .slice none 0 0] 24)
  obtain ⟨a0, a1, a2⟩ := (H2.out.2.keep e3 (by omega)).cells
  have HW := Lib.hid hW2
  rw [hW2] at a0 a1 a2
  clear e3 hW2
  go_enter Try.func80, Try.ntmps80
  go_wp2_with fail
  rw [← HW.out]
  have n1 := Box3.new W2 (.int .i64 7) (.int .i64 x) (.slice (some ⟨w.heap.size + 1 + 1, 0, none⟩) 1 1)
  obtain ⟨W3, hW3⟩ : ∃ W3, W3 = W2.alloc (.cells #[.int .i64 7, .int .i64 x, .slice (some ⟨w.heap.size + 1 + 1, 0, none⟩) 1 1] 24) := ⟨_, rfl⟩
  rw [← hW3] at n1 ⊢
  have hz3 : W3.heap.size = w.heap.size + 2 := by rw [hW3]; simp; omega
  have b3 : Below w.heap.size w W3 := by rw [hW3]; exact H2.out.1.trans (((Below.refl W2.heap.size W2).alloc (Nat.le_refl _) _).mono (by omega))
  have r := new_at W3 (.cells #[.int .i64 k, .int .i64 i, .slice A n c] 24)
  have n2 := n1.keep ((Below.refl W3.heap.size W3).alloc (Nat.le_refl _) (.cells #[.int .i64 k, .int .i64 i, .slice A n c] 24)) (by omega)
  rw [hz] at n2
  rw [hz3] at r
  obtain ⟨r0, r1, r2⟩ := n2.cells
  have b4 := b3.trans (((Below.refl W3.heap.size W3).alloc (Nat.le_refl _) (.cells #[.int .i64 k, .int .i64 i, .slice A n c] 24)).mono (by omega))
  exact bodyPost_ret (v := .agg #[.int .i64 7, .int .i64 x, .slice (some ⟨w.heap.size + 1 + 1, 0, none⟩) 1 1]) (by simp [results, Try.results80, go_sem, r0, r1, r2]) rfl
    ⟨w.heap.size + 1 + 1, rfl, by omega, by simp; omega, r, b4⟩
end Go.Proofs.Ytjdhmfpkhijkeaa
