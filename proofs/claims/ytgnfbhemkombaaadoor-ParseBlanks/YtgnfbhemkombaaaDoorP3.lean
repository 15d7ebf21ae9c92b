/- tokenAt of package parse. -/
import Derived.Test.YtgnfbhemkombaaaDoorP2
namespace Go.Proofs.YtgnfbhemkombaaaDoor
open Go.RowKit
set_option linter.unusedVariables false
/-- a fault, raised -/
def faultV (code place : Nat) : Value := .iface 88 (.agg #[.int .i64 (code : Int), .int .i64 (place : Int)])
abbrev raised (code place : Nat) : Ending := .panicked [{ v := faultV code place, recovered := false }]
/-- what tokenAt leaves -/
def TokPost (w : World) (p : Nat) (st : Step) (e : Ending) (w' : World) : Prop :=
  Below w.heap.size w w' ∧ match st with
    | .tok k n z => e = .returned (.tuple #[.int .i64 (k : Int), .int .i64 (n : Int), .int .i64 ((1 + z : Nat) : Int)])
    | .err c => e = raised c p
    | .blank => False
theorem signR_nat (c : Nat) (h : c < 128) : signR (c : Int) = isSignT c := by unfold signR; rw [decide_eq_true (by omega)]; rfl
theorem extract_size (s : ByteArray) (i : Nat) (h : i ≤ s.size) : (s.extract i s.size).size = s.size - i := by simp
theorem letter_some {c k most : Nat} (h : letterN c = some (k, most)) : letterV (c : Int) = ((k : Int), (most : Int)) ∧ most ≤ 99 ∧ 1 ≤ k ∧ k ≤ 3 ∧ c < 128 := by
  unfold letterN at h
  unfold letterV
  by_cases h1 : c = 120
  · subst h1; simp at h; obtain ⟨rfl, rfl⟩ := h; exact ⟨rfl, by omega, by omega, by omega, by omega⟩
  · rw [if_neg h1] at h
    rw [if_neg (by omega)]
    by_cases h2 : c = 102
    · subst h2; simp at h; obtain ⟨rfl, rfl⟩ := h; exact ⟨rfl, by omega, by omega, by omega, by omega⟩
    · rw [if_neg h2] at h
      rw [if_neg (by omega)]
      by_cases h3 : c = 80
      · subst h3; simp at h; obtain ⟨rfl, rfl⟩ := h; exact ⟨rfl, by omega, by omega, by omega, by omega⟩
      · rw [if_neg h3] at h; cases h
theorem letter_none {c : Nat} (h : letterN c = none) : letterV (c : Int) = (0, 0) := by
  unfold letterN at h
  unfold letterV
  by_cases h1 : c = 120
  · rw [if_pos h1] at h; cases h
  · rw [if_neg h1] at h
    rw [if_neg (by omega)]
    by_cases h2 : c = 102
    · rw [if_pos h2] at h; cases h
    · rw [if_neg h2] at h
      rw [if_neg (by omega)]
      by_cases h3 : c = 80
      · rw [if_pos h3] at h; cases h
      · rw [if_neg (by omega)]
theorem ret3_nats {a b c a' b' c' : Nat} (h : a = a') (h' : b = b') (h'' : c = c') : Ending.returned (.tuple #[.int .i64 (a : Int), .int .i64 (b : Int), .int .i64 (c : Int)]) = .returned (.tuple #[.int .i64 (a' : Int), .int .i64 (b' : Int), .int .i64 (c' : Int)]) := by rw [h, h', h'']
theorem numN_some {l : List Nat} {most n : Nat} (h : numN l most = some n) : l ≠ [] ∧ n ≤ most := by
  unfold numN at h
  by_cases c : l.length = 0 ∨ 2 < l.length ∨ l.length = 2 ∧ l.head? = some 48
  · rw [if_pos c] at h; cases h
  · rw [if_neg c] at h
    by_cases d : most < valN l
    · rw [if_pos d] at h; cases h
    · rw [if_neg d] at h
      cases h
      exact ⟨fun e => c (by simp [e]), by omega⟩
set_option maxHeartbeats 4000000 in
set_option maxRecDepth 100000 in
theorem tokenAt_ascii (s : ByteArray) (p c : Nat) (w : World) (hs : s.size ≤ 8000) (hp : p < s.size) (hc : c < 128) (hb : ¬ (c = 32 ∨ c = 9)) :
    Calls Tryd.prog 58 #[.string s, .int .i64 (p : Int), .int .i32 (c : Int)] w (TokPost w p (stepN c ((bytesN s).drop (p + 1)))) := by
  have hsg := signR_nat c hc
  cases hS : isSignT c with
  | true =>
    have ST := Lib.hid (show stepN c ((bytesN s).drop (p + 1)) = .tok 4 c 0 by unfold stepN; rw [if_neg hb, if_pos hS])
    rw [hS] at hsg
    clear hS
    go_enter Tryd.func58, Tryd.ntmps58
    go_wp2_with (go_at_call 94; refine (containsRune_any (c : Int) _ (by omega) (by omega)).mono ?_; rintro e w1 ⟨rfl, hb1⟩; rw [hsg])
    go_ret3
    exact ⟨hb1, by rw [ST.out]; rfl⟩
  | false =>
    rw [hS] at hsg
    cases hL : letterN c with
    | some km =>
      obtain ⟨k, most⟩ := km
      obtain ⟨lv, hm, hk1, hk3, _⟩ := letter_some hL
      have LV := Lib.hid lv
      have hk : ((k : Int) == 0) = false := by simp; omega
      have hsz := extract_size s (p + 1) (by omega)
      have NA := Lib.hid (fun W => number_any (s.extract (p + 1) s.size) most W hm (by rw [hsz]; omega))
      rw [bytesN_drop] at NA
      have g4 : p + 1 ≤ s.size := by omega
      have g5 : (p : Int) + 1 ≤ (s.size : Int) := by omega
      have hl8 : ((bytesN s).drop (p + 1)).length ≤ 8000 := by rw [List.length_drop, bytesN_len]; omega
      obtain ⟨l, hll⟩ : ∃ l, l = (bytesN s).drop (p + 1) := ⟨_, rfl⟩
      rw [← hll] at NA hl8 ⊢
      clear hll lv hsz
      cases hN : numN (l.take (digsN l)) most with
      | none =>
        have ST := Lib.hid (show stepN c l = .err 31 by unfold stepN; rw [if_neg hb, if_neg (by simp [hS]), hL]; simp only [hN])
        have NR := Lib.hid (show numR l most = (0, 0) by unfold numR; rw [hN])
        clear hS hL hN
        go_enter Tryd.func58, Tryd.ntmps58
        go_wp2_with (first
          | (go_at_call 94; refine (containsRune_any (c : Int) _ (by omega) (by omega)).mono ?_; rintro e w1 ⟨rfl, hb1⟩; rw [hsg])
          | (go_at_call 95; refine (letter_any (c : Int) _).mono ?_; rintro e w2 ⟨rfl, rfl⟩; rw [LV.out])
          | (go_at_call 96; refine (NA.out _).mono ?_; rintro e w3 ⟨rfl, hb3⟩; rw [NR.out]))
        exact ⟨rfl, hb1.trans (hb3.mono hb1.size), by rw [ST.out]; rfl⟩
      | some n =>
        have ST := Lib.hid (show stepN c l = .tok k n (digsN l) by unfold stepN; rw [if_neg hb, if_neg (by simp [hS]), hL]; simp only [hN])
        have NR := Lib.hid (show numR l most = (n, digsN l) by unfold numR; rw [hN])
        obtain ⟨hne, hnm⟩ := numN_some hN
        have hdp : 1 ≤ digsN l := by
          by_cases e : digsN l = 0
          · rw [e] at hne; simp at hne
          · omega
        have hdl := digsN_le l
        have hd8 : digsN l ≤ 8000 := by omega
        obtain ⟨d, hd⟩ : ∃ d, d = digsN l := ⟨_, rfl⟩
        rw [← hd] at ST NR hdp hdl hd8
        have hd0 : ((d : Int) == 0) = false := by simp; omega
        clear hS hL hN hne hd hdl hl8
        go_enter Tryd.func58, Tryd.ntmps58
        go_wp2_with (first
          | (go_at_call 94; refine (containsRune_any (c : Int) _ (by omega) (by omega)).mono ?_; rintro e w1 ⟨rfl, hb1⟩; rw [hsg])
          | (go_at_call 95; refine (letter_any (c : Int) _).mono ?_; rintro e w2 ⟨rfl, rfl⟩; rw [LV.out])
          | (go_at_call 96; refine (NA.out _).mono ?_; rintro e w3 ⟨rfl, hb3⟩; rw [NR.out]))
        go_ret3
        exact ⟨hb1.trans (hb3.mono hb1.size), by rw [ST.out]; rfl⟩
    | none =>
      have ST := Lib.hid (show stepN c ((bytesN s).drop (p + 1)) = .err 30 by unfold stepN; rw [if_neg hb, if_neg (by simp [hS]), hL])
      have LV := Lib.hid (letter_none hL)
      clear hS hL
      go_enter Tryd.func58, Tryd.ntmps58
      go_wp2_with (first
        | (go_at_call 94; refine (containsRune_any (c : Int) _ (by omega) (by omega)).mono ?_; rintro e w1 ⟨rfl, hb1⟩; rw [hsg])
        | (go_at_call 95; refine (letter_any (c : Int) _).mono ?_; rintro e w2 ⟨rfl, rfl⟩; rw [LV.out]))
      exact ⟨rfl, hb1, by rw [ST.out]; rfl⟩
set_option maxHeartbeats 4000000 in
set_option maxRecDepth 100000 in
theorem tokenAt_high (s : ByteArray) (p : Nat) (r : Int) (w : World) (hp : p < s.size) (hr : 128 ≤ r) (hr2 : r ≤ 2147483647) :
    Calls Tryd.prog 58 #[.string s, .int .i64 (p : Int), .int .i32 r] w (TokPost w p (.err 30)) := by
  have hsg : signR r = false := by unfold signR; rw [decide_eq_false (by omega)]; rfl
  have LV := Lib.hid (show letterV r = (0, 0) by unfold letterV; rw [if_neg (by omega), if_neg (by omega), if_neg (by omega)])
  go_enter Tryd.func58, Tryd.ntmps58
  go_wp2_with (first
    | (go_at_call 94; refine (containsRune_any r _ (by omega) hr2).mono ?_; rintro e w1 ⟨rfl, hb1⟩; rw [hsg])
    | (go_at_call 95; refine (letter_any r _).mono ?_; rintro e w2 ⟨rfl, rfl⟩; rw [LV.out]))
  exact ⟨rfl, hb1, rfl⟩
end Go.Proofs.YtgnfbhemkombaaaDoor
