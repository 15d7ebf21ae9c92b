/- Plain facts on sets as words: their numbers, how many there are, the least; a rotation keeps how many. No program is named here. -/
import Derived.Test.YtgnfbhemkombaaaGreatMath
namespace Go.Proofs.YtgnfbhemkombaaaGreat
/-! ### the numbers of a set -/
def listTo (s k : Nat) : List Nat := (List.range k).filter s.testBit
def listN (s : Nat) : List Nat := listTo s 64
theorem listTo_yes (s k : Nat) (h : s.testBit k = true) : listTo s (k + 1) = listTo s k ++ [k] := by
  unfold listTo; rw [List.range_succ, List.filter_append]; simp [h]
theorem listTo_no (s k : Nat) (h : s.testBit k = false) : listTo s (k + 1) = listTo s k := by
  unfold listTo; rw [List.range_succ, List.filter_append]; simp [h]
theorem listTo_le (s k : Nat) : (listTo s k).length ≤ k := by
  unfold listTo; have := List.length_filter_le s.testBit (List.range k); simpa using this
theorem mem_listTo (s k n : Nat) : n ∈ listTo s k ↔ n < k ∧ s.testBit n = true := by unfold listTo; simp
def countTo (s k : Nat) : Nat := (listTo s k).length
def countN (s : Nat) : Nat := countTo s 64
theorem countTo_le (s k : Nat) : countTo s k ≤ k := listTo_le s k
theorem countTo_yes (s k : Nat) (h : s.testBit k = true) : countTo s (k + 1) = countTo s k + 1 := by unfold countTo; rw [listTo_yes s k h]; simp
theorem countTo_no (s k : Nat) (h : s.testBit k = false) : countTo s (k + 1) = countTo s k := by unfold countTo; rw [listTo_no s k h]
theorem countTo_succ (s k : Nat) : countTo s (k + 1) = countTo s k + (s.testBit k).toNat := by
  cases h : s.testBit k with
  | true => rw [countTo_yes s k h]; rfl
  | false => rw [countTo_no s k h]; rfl
def leastI (s : Nat) : Int := match listN s with
  | [] => -1
  | a :: _ => (a : Int)
theorem leastI_at (s k : Nat) (hk : k < 64) (h0 : listTo s k = []) (h : s.testBit k = true) : leastI s = (k : Int) := by
  have e : ∀ j, k + 1 ≤ j → ∃ r, listTo s j = k :: r := by
    intro j hj
    induction j with
    | zero => omega
    | succ j ih =>
      by_cases e : j = k
      · subst e; exact ⟨[], by rw [listTo_yes s j h, h0]; rfl⟩
      · obtain ⟨r, hr⟩ := ih (by omega)
        cases hb : s.testBit j with
        | true => exact ⟨r ++ [j], by rw [listTo_yes s j hb, hr]; rfl⟩
        | false => exact ⟨r, by rw [listTo_no s j hb, hr]⟩
  obtain ⟨r, hr⟩ := e 64 (by omega)
  unfold leastI listN
  rw [hr]
theorem leastI_none (s : Nat) (h : listTo s 64 = []) : leastI s = -1 := by unfold leastI listN; rw [h]

/-! ### a rotation keeps how many there are -/
theorem rot1_bit0 (x : Nat) : (rot1 x).testBit 0 = x.testBit 63 := by
  rw [testBit_div, testBit_div]; unfold rot1
  congr 1
  simp only [Nat.pow_zero, Nat.div_one]
  apply propext
  omega
theorem rot1_bit (x k : Nat) (hx : U64 x) (hk : k < 63) : (rot1 x).testBit (k + 1) = x.testBit k := by
  have e : rot1 x = 2 * (x % 2 ^ 63) + x / 2 ^ 63 := by unfold rot1; unfold U64 at hx; omega
  have hd : x / 2 ^ 63 < 2 := by unfold U64 at hx; omega
  rw [Nat.testBit_add_one, e, show (2 * (x % 2 ^ 63) + x / 2 ^ 63) / 2 = x % 2 ^ 63 from by omega, Nat.testBit_mod_two_pow]
  simp [hk]
theorem count_shift (x y k : Nat) (h : ∀ j, j < k → y.testBit (j + 1) = x.testBit j) : countTo y (k + 1) = (y.testBit 0).toNat + countTo x k := by
  induction k with
  | zero => rw [countTo_succ]; simp [countTo, listTo]
  | succ k ih => rw [countTo_succ y (k + 1), ih (fun j hj => h j (by omega)), h k (by omega), countTo_succ x k]; omega
theorem count_rot1 (x : Nat) (hx : U64 x) : countN (rot1 x) = countN x := by
  unfold countN
  rw [count_shift x (rot1 x) 63 (fun j hj => rot1_bit x j hx hj), countTo_succ x 63, rot1_bit0 x]
  omega
theorem rot1_U (x : Nat) (hx : U64 x) : U64 (rot1 x) := by unfold rot1; unfold U64 at *; omega
theorem rots_U (u i : Nat) (hu : U64 u) : U64 (rots i u) := by
  induction i with
  | zero => exact hu
  | succ i ih => exact rot1_U _ ih
theorem count_rots (u i : Nat) (hu : U64 u) : countN (rots i u) = countN u := by
  induction i with
  | zero => rfl
  | succ i ih => show countN (rot1 (rots i u)) = _; rw [count_rot1 _ (rots_U u i hu), ih]
theorem count_turn (u : Nat) (n : Int) (hu : U64 u) : countN (turnN u n) = countN u := by
  unfold turnN; rw [rotN_rots u _ hu (by omega), count_rots u _ hu]
end Go.Proofs.YtgnfbhemkombaaaGreat
