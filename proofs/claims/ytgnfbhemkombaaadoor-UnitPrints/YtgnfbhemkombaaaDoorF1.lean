/- The document's Union and its sets of variables (layer 4). -/
import Derived.Test.YtgnfbhemkombaaaDoorT13
import Derived.Test.YtgnfbhemkombaaaDoorW2
import Derived.Test.YtgnfbhemkombaaaDoorE3
namespace Go.Proofs.YtgnfbhemkombaaaDoor
open Go.RowKit
set_option linter.unusedVariables false
set_option linter.unusedSimpArgs false
theorem or_step_yes (a b k : Nat) (h : b.testBit k = true) (hk : k < 64) : withN (a ||| b % 2 ^ k) (k : Int) = a ||| b % 2 ^ (k + 1) := by
  apply Nat.eq_of_testBit_eq
  intro j
  rw [tb_with, Nat.testBit_or, Nat.testBit_or, Nat.testBit_mod_two_pow, Nat.testBit_mod_two_pow]
  have e : inI (k : Int) j = decide (k = j) := by unfold inI; rw [decide_eq_decide]; omega
  rw [e]
  by_cases hj : k = j
  · subst hj; simp [h]
  · have : decide (j < k) = decide (j < k + 1) := by rw [decide_eq_decide]; omega
    rw [this]; simp [hj]
theorem has_in64 (s k : Nat) (h : k < 64) : hasN s (k : Int) = s.testBit k := by
  rw [hasN_in s k (by omega) (by omega)]; rfl
theorem or_step_no (b k : Nat) (h : b.testBit k = false) : b % 2 ^ (k + 1) = b % 2 ^ k := by rw [mod_step b k, h]; simp
end Go.Proofs.YtgnfbhemkombaaaDoor
