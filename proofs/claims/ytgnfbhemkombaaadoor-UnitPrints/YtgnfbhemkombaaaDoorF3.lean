/- The document's IsFree, caught, Vars, Free, Bound, NotFree (layer 4). -/
import Derived.Test.YtgnfbhemkombaaaDoorF2
namespace Go.Proofs.YtgnfbhemkombaaaDoor
open Go.RowKit
set_option linter.unusedVariables false
set_option linter.unusedSimpArgs false
/-- what is answered of a tree: the set, if it is right -/
def valR (f : Tr → Nat) (t : Tr) : Nat := if rightN t = 0 then f t else 0
theorem valR_ok {f : Tr → Nat} {t : Tr} (h : rightN t = 0) : valR f t = f t := by unfold valR; rw [if_pos h]
theorem valR_bad {f : Tr → Nat} {t : Tr} (h : ¬ rightN t = 0) : valR f t = 0 := by unfold valR; rw [if_neg h]
/-- what NotFree answers: the bool, the error -/
def nfB (x : Int) (t : Tr) : Bool := if 0 ≤ x ∧ x ≤ 63 then (if rightN t = 0 then !hasN (freeT t) x else false) else false
def nfE (x : Int) (t : Tr) : Nat := if 0 ≤ x ∧ x ≤ 63 then rightN t else 1
end Go.Proofs.YtgnfbhemkombaaaDoor
