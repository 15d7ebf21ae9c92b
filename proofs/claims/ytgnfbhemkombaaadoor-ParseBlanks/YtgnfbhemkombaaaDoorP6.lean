/- The document's most, kindOf, isDigit, isSign, digits, number of layer 3. -/
import Derived.Test.YtgnfbhemkombaaaDoorP5
import Derived.Lib.SmallJoins
namespace Go.Proofs.YtgnfbhemkombaaaDoor
open Go.RowKit
set_option linter.unusedVariables false
set_option linter.unusedSimpArgs false
set_option linter.unnecessarySimpa false
/-- a letter's greatest number, or -1 -/
def mostV (c : Nat) : Int := if c = 120 then 63 else if c = 102 ∨ c = 80 then 99 else -1
theorem mostV_some {c k m : Nat} (h : letterN c = some (k, m)) : mostV c = (m : Int) := by
  unfold letterN at h
  unfold mostV
  by_cases h1 : c = 120
  · rw [if_pos h1] at h ⊢; cases h; rfl
  · rw [if_neg h1] at h ⊢
    by_cases h2 : c = 102
    · rw [if_pos h2] at h; rw [if_pos (Or.inl h2)]; cases h; rfl
    · rw [if_neg h2] at h
      by_cases h3 : c = 80
      · rw [if_pos h3] at h; rw [if_pos (Or.inr h3)]; cases h; rfl
      · rw [if_neg h3] at h; cases h
theorem mostV_none {c : Nat} (h : letterN c = none) : mostV c = -1 := by
  unfold letterN at h
  unfold mostV
  by_cases h1 : c = 120
  · rw [if_pos h1] at h; cases h
  · rw [if_neg h1] at h ⊢
    by_cases h2 : c = 102
    · rw [if_pos h2] at h; cases h
    · rw [if_neg h2] at h
      by_cases h3 : c = 80
      · rw [if_pos h3] at h; cases h
      · rw [if_neg (by omega)]
theorem rmost_any (c : Nat) (w : World) (hc : c < 256) : Calls Tryd.prog 60 #[.int .u8 (c : Int)] w fun e w' => e = .returned (.int .i64 (mostV c)) ∧ w' = w := by
  unfold mostV
  by_cases h1 : c = 120
  · subst h1
    go_enter Tryd.func60, Tryd.ntmps60
    go_wp2
    go_ret
    exact ⟨rfl, rfl⟩
  · have e1 : ((c : Int) == 120) = false := by simp; omega
    rw [if_neg h1]
    by_cases h2 : c = 102
    · subst h2
      go_enter Tryd.func60, Tryd.ntmps60
      go_wp2
      go_ret
      exact ⟨rfl, rfl⟩
    · have e2 : ((c : Int) == 102) = false := by simp; omega
      by_cases h3 : c = 80
      · subst h3
        go_enter Tryd.func60, Tryd.ntmps60
        go_wp2
        go_ret
        exact ⟨rfl, rfl⟩
      · have e3 : ((c : Int) == 80) = false := by simp; omega
        rw [if_neg (by omega)]
        clear h1 h2 h3
        go_enter Tryd.func60, Tryd.ntmps60
        go_wp2
        go_ret
        exact ⟨rfl, rfl⟩
theorem rkindOf_any (c k m : Nat) (w : World) (h : letterN c = some (k, m)) : Calls Tryd.prog 63 #[.int .u8 (c : Int)] w fun e w' => e = .returned (.int .i64 (k : Int)) ∧ w' = w := by
  unfold letterN at h
  by_cases h1 : c = 120
  · subst h1
    rw [if_pos rfl] at h
    cases h
    go_enter Tryd.func63, Tryd.ntmps63
    go_wp2
    go_ret
    exact ⟨rfl, rfl⟩
  · rw [if_neg h1] at h
    have e1 : ((c : Int) == 120) = false := by simp; omega
    by_cases h2 : c = 102
    · subst h2
      rw [if_pos rfl] at h
      cases h
      go_enter Tryd.func63, Tryd.ntmps63
      go_wp2
      go_ret
      exact ⟨rfl, rfl⟩
    · rw [if_neg h2] at h
      have e2 : ((c : Int) == 102) = false := by simp; omega
      by_cases h3 : c = 80
      · rw [if_pos h3] at h
        cases h
        clear h1 h2 h3
        go_enter Tryd.func63, Tryd.ntmps63
        go_wp2
        go_ret
        exact ⟨rfl, rfl⟩
      · rw [if_neg h3] at h; cases h
theorem risDigit_any (c : Nat) (w : World) : Calls Tryd.prog 97 #[.int .u8 (c : Int)] w fun e w' => e = .returned (.bool (isDigN c)) ∧ w = w' := by
  unfold isDigN
  by_cases h1 : 48 ≤ c
  · have h1' : (48 : Int) ≤ (c : Int) := by omega
    by_cases h2 : c ≤ 57
    · have h2' : (c : Int) ≤ 57 := by omega
      go_enter Tryd.func97, Tryd.ntmps97
      go_wp2
      go_ret
      exact ⟨by simp [h1, h2], rfl⟩
    · have h2' : ¬ (c : Int) ≤ 57 := by omega
      go_enter Tryd.func97, Tryd.ntmps97
      go_wp2
      go_ret
      exact ⟨by simp [h1, h2], rfl⟩
  · have h1' : ¬ (48 : Int) ≤ (c : Int) := by omega
    go_enter Tryd.func97, Tryd.ntmps97
    go_wp2
    go_ret
    exact ⟨by simp [h1], rfl⟩
/-! ### the signs, in a list -/
def signL : List Nat := [40, 41, 44, 61, 33, 62, 38, 124, 64, 63]
theorem sign_any (c : Nat) : isSignT c = signL.any (fun x => c == x) := by
  simp only [isSignT, signL, List.any_cons, List.any_nil, Bool.or_false, Bool.or_assoc]
theorem sign_cell (w : World) (t : TypeId) (fr : Nat × Nat) (i : Nat) (h : i < signL.length) : (w.alloc (.cells #[.int .u8 40, .int .u8 41, .int .u8 44, .int .u8 61, .int .u8 33, .int .u8 62, .int .u8 38, .int .u8 124, .int .u8 64, .int .u8 63] t fr)).cell? ⟨w.heap.size, i, none⟩ = some (.int .u8 (signL[i] : Int)) := by
  rw [World.cell?_alloc_mark]
  have hi : i < 10 := h
  have : ∀ j : Fin 10, (#[.int .u8 40, .int .u8 41, .int .u8 44, .int .u8 61, .int .u8 33, .int .u8 62, .int .u8 38, .int .u8 124, .int .u8 64, .int .u8 63] : Array Value)[j.1]? = some (.int .u8 ((signL[j.1]'(by have := j.2; simpa [signL] using this) : Nat) : Int)) := by
    intro j
    match j with
    | ⟨0, _⟩ => rfl
    | ⟨1, _⟩ => rfl
    | ⟨2, _⟩ => rfl
    | ⟨3, _⟩ => rfl
    | ⟨4, _⟩ => rfl
    | ⟨5, _⟩ => rfl
    | ⟨6, _⟩ => rfl
    | ⟨7, _⟩ => rfl
    | ⟨8, _⟩ => rfl
    | ⟨9, _⟩ => rfl
  exact this ⟨i, hi⟩
set_option maxHeartbeats 1000000 in
set_option maxRecDepth 100000 in
theorem risSign_any (c : Nat) (w : World) : Calls Tryd.prog 59 #[.int .u8 (c : Int)] w fun e w' => e = .returned (.bool (isSignT c)) ∧ Below w.heap.size w w' := by
  have SA := Lib.hid (sign_any c)
  have SC := Lib.hid (fun i h => sign_cell w 5 (10, 11) i h)
  have hcv := Lib.run_convert_bytes_const (P := Tryd.prog) w 49 5 #[.int .u8 40, .int .u8 41, .int .u8 44, .int .u8 61, .int .u8 33, .int .u8 62, .int .u8 38, .int .u8 124, .int .u8 64, .int .u8 63] 10 10 Tryd.underlying49 Tryd.underlying5
  have hL : signL.length = 10 := rfl
  have HL := Lib.hid hL
  clear hL
  go_enter Tryd.func59, Tryd.ntmps59
  go_wp2_with fail
  go_loop [8] (fun i => ∃ k : Nat, k ≤ 10 ∧ i = .int .i64 (k : Int) ∧ signL.any (fun x => c == x) = (signL.drop k).any (fun x => c == x)) (fun i => 10 - (intOf i).toNat)
  case atStart => exact ⟨0, by omega, rfl, rfl⟩
  case round =>
    obtain ⟨k, hk, rfl, he⟩ := hrel
    have HE := Lib.hid he
    clear he
    by_cases hlt : k < 10
    · have h10 : k < signL.length := by rw [HL.out]; exact hlt
      have cc := SC.out k h10
      have DR := Lib.hid (List.drop_eq_getElem_cons h10)
      obtain ⟨x, hx⟩ : ∃ x, x = signL[k] := ⟨_, rfl⟩
      rw [← hx] at cc DR
      clear hx h10
      by_cases hxc : x = c
      · have R := Lib.hid (show isSignT c = true by rw [SA.out, HE.out, DR.out, List.any_cons, hxc]; simp)
        have hb : ((x : Int) == (c : Int)) = true := by simp [hxc]
        clear hxc
        go_wp2_with fail
        go_ret
        exact ⟨by rw [R.out]; rfl, (Below.refl _ w).alloc (Nat.le_refl _) _⟩
      · have R := Lib.hid (show signL.any (fun x => c == x) = (signL.drop (k + 1)).any (fun x => c == x) by rw [HE.out, DR.out, List.any_cons, show (c == x) = false by simpa using Ne.symm hxc]; rfl)
        have hb : ((x : Int) == (c : Int)) = false := by simp; omega
        clear hxc
        go_wp2_with fail
        go_round
        case rel => exact ⟨k + 1, by omega, by go_num, R.out⟩
        case measure => simp [intOf]; omega
    · obtain rfl : k = 10 := by omega
      have R := Lib.hid (show isSignT c = false by rw [SA.out, HE.out]; rfl)
      go_wp2_with fail
      go_ret
      exact ⟨by rw [R.out]; rfl, (Below.refl _ w).alloc (Nat.le_refl _) _⟩
end Go.Proofs.YtgnfbhemkombaaaDoor
