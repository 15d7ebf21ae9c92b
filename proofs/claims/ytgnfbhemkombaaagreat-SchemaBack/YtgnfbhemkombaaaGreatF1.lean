/- The document's Union and its sets of variables (layer 4). -/
import Derived.Test.YtgnfbhemkombaaaGreatT13
import Derived.Test.YtgnfbhemkombaaaGreatW2
import Derived.Test.YtgnfbhemkombaaaGreatE3
namespace Go.Proofs.YtgnfbhemkombaaaGreat
open Go.RowKit
set_option linter.unusedVariables false
set_option linter.unusedSimpArgs false
theorem or_step_yes (a b k : Nat) (h : b.testBit k = true) (hk : k < 64) : withN (a ||| b % 2 ^ k) (k : Int) = a ||| b % 2 ^ (k + 1) := by
  apply Nat.eq_of_testBit_eq
  intro j
  rw [tb_with, Nat.testBit_or, Nat.testBit_or, Nat.testBit_mod_two_pow, Nat.testBit_mod_two_pow]
  have e : inI (k : Int) j = decide (k = j) := by unfold inI; rw [decide_eq_decide]; omega
  rw [e]
  by_cases hj : k = j
  · subst hj; simp [h]
  · have : decide (j < k) = decide (j < k + 1) := by rw [decide_eq_decide]; omega
    rw [this]; simp [hj]
theorem has_in64 (s k : Nat) (h : k < 64) : hasN s (k : Int) = s.testBit k := by
  rw [hasN_in s k (by omega) (by omega)]; rfl
theorem or_step_no (b k : Nat) (h : b.testBit k = false) : b % 2 ^ (k + 1) = b % 2 ^ k := by rw [mod_step b k, h]; simp
set_option maxHeartbeats 1000000 in
theorem runion_any (a b : Nat) (w : World) (ha : U64 a) (hb : U64 b) :
    Calls Tryz.prog 53 #[.int .u64 a, .int .u64 b] w fun e w' => e = .returned (.int .u64 (a ||| b : Nat)) ∧ w = w' := by
  have HA := Lib.hid ha
  have HB := Lib.hid hb
  clear ha hb
  go_enter Tryz.func53, Tryz.ntmps53
  go_wp2_with fail
  go_loop [5, 6] (fun s n => ∃ k : Nat, k ≤ 64 ∧ n = .int .i64 (k : Int) ∧ s = .int .u64 ((a ||| b % 2 ^ k : Nat) : Int)) (fun _ n => 64 - (intOf n).toNat)
  case atStart => exact ⟨0, by omega, rfl, by simp [Nat.mod_one]⟩
  case round =>
    obtain ⟨k, hk, rfl, rfl⟩ := hrel
    have hU := Lib.hid (show U64 (a ||| b % 2 ^ k) from Nat.or_lt_two_pow HA.out (Nat.lt_of_le_of_lt (Nat.mod_le _ _) HB.out))
    obtain ⟨s, hs⟩ : ∃ s, s = a ||| b % 2 ^ k := ⟨_, rfl⟩
    by_cases hlt : k < 64
    · have g1 : (k : Int) < 64 := by omega
      have hh := has_in64 b k hlt
      cases hbit : b.testBit k with
      | true =>
        rw [hbit] at hh
        have ST := Lib.hid (or_step_yes a b k hbit hlt)
        rw [← hs] at hU ST ⊢
        clear hs
        go_wp2_with fail
        refine (rhas_any b (k : Int) _ HB.out).mono ?_
        rintro e w' ⟨rfl, rfl⟩
        rw [hh]
        go_wp2_with fail
        refine (rwith_any s (k : Int) _ hU.out).mono ?_
        rintro e w' ⟨rfl, rfl⟩
        rw [ST.out]
        go_wp2_with fail
        go_round
        case rel => exact ⟨k + 1, by omega, by go_num, rfl⟩
        case measure => simp [intOf]; omega
      | false =>
        rw [hbit] at hh
        have ST := Lib.hid (or_step_no b k hbit)
        rw [← hs]
        have HS := Lib.hid (show s = a ||| b % 2 ^ (k + 1) by rw [ST.out]; exact hs)
        clear hs
        go_wp2_with fail
        refine (rhas_any b (k : Int) _ HB.out).mono ?_
        rintro e w' ⟨rfl, rfl⟩
        rw [hh]
        go_wp2_with fail
        go_round
        case rel => exact ⟨k + 1, by omega, by go_num, by rw [HS.out]⟩
        case measure => simp [intOf]; omega
    · obtain rfl : k = 64 := by omega
      have E := Lib.hid (show a ||| b % 2 ^ 64 = a ||| b by rw [Nat.mod_eq_of_lt HB.out])
      rw [← hs] at E ⊢
      clear hs hU
      go_wp2_with fail
      go_ret
      exact ⟨ret_intw (by rw [E.out]), rfl⟩
set_option maxHeartbeats 400000 in
theorem rquantified_any (k i : Int) (A : Option Addr) (n c : Nat) (w : World) :
    Calls Tryz.prog 95 #[.agg #[.int .i64 k, .int .i64 i, .slice A n c]] w fun e w' => e = .returned (.bool (decide (k = 7 ∨ k = 10))) ∧ Below w.heap.size w w' := by
  have hb : Below w.heap.size w (w.alloc (.cells #[.int .i64 k, .int .i64 i, .slice A n c] 24)) := (Below.refl _ _).alloc (Nat.le_refl _) _
  by_cases h1 : k = 7
  · subst h1
    go_enter Tryz.func95, Tryz.ntmps95
    go_wp2
    go_ret
    exact ⟨rfl, hb⟩
  · have h1' : (k == 7) = false := by simpa using h1
    by_cases h2 : k = 10
    · subst h2
      go_enter Tryz.func95, Tryz.ntmps95
      go_wp2
      go_ret
      exact ⟨rfl, hb⟩
    · have h2' : (k == 10) = false := by simpa using h2
      have T := Lib.hid (show decide (k = 7 ∨ k = 10) = false by simp [h1, h2])
      go_enter Tryz.func95, Tryz.ntmps95
      go_wp2
      go_ret
      exact ⟨by rw [T.out]; rfl, hb⟩
end Go.Proofs.YtgnfbhemkombaaaGreat
