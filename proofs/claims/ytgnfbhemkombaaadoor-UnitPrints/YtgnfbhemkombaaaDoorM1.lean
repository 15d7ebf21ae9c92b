/- Names of units, of the code and of the document; units in memory. -/
import Derived.Test.YtgnfbhemkombaaaDoorP2
import Derived.Test.YtgnfbhemkombaaaDoorE5
namespace Go.Proofs.YtgnfbhemkombaaaDoor
open Go.RowKit
set_option linter.unusedVariables false
set_option linter.unusedSimpArgs false
def isLetN (c : Nat) : Bool := decide (97 ≤ c) && decide (c ≤ 122)
def nameCN (c : Nat) : Bool := isLetN c || isDigN c || c == 45
/-- is it a name? by its bytes -/
def nameN (l : List Nat) : Bool := decide (1 ≤ l.length) && decide (l.length ≤ 12) && (l.head?.any isLetN) && l.all nameCN
theorem uisLetter_any (c : Nat) (w : World) : Calls Tryd.prog 116 #[.int .u8 (c : Int)] w fun e w' => e = .returned (.bool (isLetN c)) ∧ w = w' := by
  unfold isLetN
  by_cases h1 : 97 ≤ c
  · have h1' : (97 : Int) ≤ (c : Int) := by omega
    by_cases h2 : c ≤ 122
    · have h2' : (c : Int) ≤ 122 := by omega
      go_enter Tryd.func116, Tryd.ntmps116
      go_wp2
      go_ret
      exact ⟨by simp [h1, h2], rfl⟩
    · have h2' : ¬ (c : Int) ≤ 122 := by omega
      go_enter Tryd.func116, Tryd.ntmps116
      go_wp2
      go_ret
      exact ⟨by simp [h1, h2], rfl⟩
  · have h1' : ¬ (97 : Int) ≤ (c : Int) := by omega
    go_enter Tryd.func116, Tryd.ntmps116
    go_wp2
    go_ret
    exact ⟨by simp [h1], rfl⟩
theorem uisDigit_any (c : Nat) (w : World) : Calls Tryd.prog 117 #[.int .u8 (c : Int)] w fun e w' => e = .returned (.bool (isDigN c)) ∧ w = w' := by
  unfold isDigN
  by_cases h1 : 48 ≤ c
  · have h1' : (48 : Int) ≤ (c : Int) := by omega
    by_cases h2 : c ≤ 57
    · have h2' : (c : Int) ≤ 57 := by omega
      go_enter Tryd.func117, Tryd.ntmps117
      go_wp2
      go_ret
      exact ⟨by simp [h1, h2], rfl⟩
    · have h2' : ¬ (c : Int) ≤ 57 := by omega
      go_enter Tryd.func117, Tryd.ntmps117
      go_wp2
      go_ret
      exact ⟨by simp [h1, h2], rfl⟩
  · have h1' : ¬ (48 : Int) ≤ (c : Int) := by omega
    go_enter Tryd.func117, Tryd.ntmps117
    go_wp2
    go_ret
    exact ⟨by simp [h1], rfl⟩
theorem rsmall_any (c : Nat) (w : World) : Calls Tryd.prog 122 #[.int .u8 (c : Int)] w fun e w' => e = .returned (.bool (isLetN c)) ∧ w = w' := by
  unfold isLetN
  by_cases h1 : 97 ≤ c
  · have h1' : (97 : Int) ≤ (c : Int) := by omega
    by_cases h2 : c ≤ 122
    · have h2' : (c : Int) ≤ 122 := by omega
      go_enter Tryd.func122, Tryd.ntmps122
      go_wp2
      go_ret
      exact ⟨by simp [h1, h2], rfl⟩
    · have h2' : ¬ (c : Int) ≤ 122 := by omega
      go_enter Tryd.func122, Tryd.ntmps122
      go_wp2
      go_ret
      exact ⟨by simp [h1, h2], rfl⟩
  · have h1' : ¬ (97 : Int) ≤ (c : Int) := by omega
    go_enter Tryd.func122, Tryd.ntmps122
    go_wp2
    go_ret
    exact ⟨by simp [h1], rfl⟩
theorem rdigit9_any (c : Nat) (w : World) : Calls Tryd.prog 123 #[.int .u8 (c : Int)] w fun e w' => e = .returned (.bool (isDigN c)) ∧ w = w' := by
  unfold isDigN
  by_cases h1 : 48 ≤ c
  · have h1' : (48 : Int) ≤ (c : Int) := by omega
    by_cases h2 : c ≤ 57
    · have h2' : (c : Int) ≤ 57 := by omega
      go_enter Tryd.func123, Tryd.ntmps123
      go_wp2
      go_ret
      exact ⟨by simp [h1, h2], rfl⟩
    · have h2' : ¬ (c : Int) ≤ 57 := by omega
      go_enter Tryd.func123, Tryd.ntmps123
      go_wp2
      go_ret
      exact ⟨by simp [h1, h2], rfl⟩
  · have h1' : ¬ (48 : Int) ≤ (c : Int) := by omega
    go_enter Tryd.func123, Tryd.ntmps123
    go_wp2
    go_ret
    exact ⟨by simp [h1], rfl⟩
end Go.Proofs.YtgnfbhemkombaaaDoor
