/- expect, excess, node, connective of package parse. -/
import Derived.Test.YtgnfbhemkombaaaDoorP10
namespace Go.Proofs.YtgnfbhemkombaaaDoor
open Go.RowKit
set_option linter.unusedVariables false
section
variable {b : Nat} {A : Option Addr} {c : Nat} {l rest : List Tok} {sl z m : Nat}
/-- the token at the head is taken -/
theorem Rdr.take {w : World} {t : Tok} (h : Rdr w b A c l (t :: rest) sl z m) (hl : l.length ≤ 8000) : ∃ n : Nat, n ≤ 8000 ∧ w.cell? ⟨b, 1, none⟩ = some (.int .i64 (n : Int)) ∧ Rdr (w.setCell ⟨b, 1, none⟩ (.int .i64 ((n : Int) + 1))) b A c l rest sl z m :=
  ⟨l.length - (t :: rest).length, by omega, h.cells.2.1, h.set1 _ rfl⟩
set_option maxHeartbeats 1000000 in
set_option maxRecDepth 100000 in
theorem expect_yes (x : Nat) (t : Tok) (w : World) (h : Rdr w b A c l (t :: rest) sl z m) (hl : l.length ≤ 8000) (hx : stands x (t :: rest) = true) :
    Calls Tryd.prog 76 #[.pointer (some ⟨b, 0, none⟩), .int .i64 (x : Int)] w fun e w' => e = .returned (.tuple #[]) ∧ Rdr w' b A c l rest sl z m ∧ KeepR b w w' := by
  have SA := Lib.hid (stands_any x w h hl)
  rw [hx] at SA
  have H := Lib.hid h
  clear h hx
  go_enter Tryd.func76, Tryd.ntmps76
  go_wp2_with fail
  refine SA.out.mono ?_
  rintro e w1 ⟨rfl, hb1⟩
  have h1 := H.out.keep hb1
  obtain ⟨n, hn, c1, R⟩ := h1.take hl
  have f1 := h1.frozen 1
  have RR := Lib.hid R
  clear h1 R
  go_wp2_with fail
  go_end0
  exact ⟨rfl, RR.out, (KeepR.of_below hb1).trans (KeepR.set b 1 w1 _)⟩
set_option maxHeartbeats 1000000 in
set_option maxRecDepth 100000 in
theorem expect_no (x : Nat) (w : World) (h : Rdr w b A c l rest sl z m) (hl : l.length ≤ 8000) (hx : stands x rest = false) :
    Calls Tryd.prog 76 #[.pointer (some ⟨b, 0, none⟩), .int .i64 (x : Int)] w fun e w' => e = raised 32 (placeN sl rest) ∧ KeepR b w w' := by
  have SA := Lib.hid (stands_any x w h hl)
  rw [hx] at SA
  have H := Lib.hid h
  clear h hx
  go_enter Tryd.func76, Tryd.ntmps76
  go_wp2_with fail
  refine SA.out.mono ?_
  rintro e w1 ⟨rfl, hb1⟩
  go_wp2_with fail
  refine (refusal_any w1 (H.out.keep hb1) hl).mono ?_
  rintro e w2 ⟨rfl, hb2⟩
  go_wp2_with fail
  exact ⟨rfl, rfl, (KeepR.of_below hb1).trans (KeepR.of_below hb2)⟩
/-- what is too much -/
def excN (z m : Nat) : Nat := if 1000 < z then 20 else if 100 < m then 21 else 0
set_option maxHeartbeats 1000000 in
theorem excess_any (w : World) (h : Rdr w b A c l rest sl z m) :
    Calls Tryd.prog 71 #[.pointer (some ⟨b, 0, none⟩)] w fun e w' => e = .returned (.int .i64 ((excN z m : Nat) : Int)) ∧ w = w' := by
  obtain ⟨c0, c1, c2, c3, c4⟩ := h.cells
  clear h
  unfold excN
  by_cases h1 : 1000 < z
  · have h1' : (1000 : Int) < (z : Int) := by omega
    rw [if_pos h1]
    go_enter Tryd.func71, Tryd.ntmps71
    go_wp2_with fail
    go_ret
    exact ⟨rfl, rfl⟩
  · have h1' : ¬ (1000 : Int) < (z : Int) := by omega
    rw [if_neg h1]
    by_cases h2 : 100 < m
    · have h2' : (100 : Int) < (m : Int) := by omega
      rw [if_pos h2]
      go_enter Tryd.func71, Tryd.ntmps71
      go_wp2_with fail
      go_ret
      exact ⟨rfl, rfl⟩
    · have h2' : ¬ (100 : Int) < (m : Int) := by omega
      rw [if_neg h2]
      go_enter Tryd.func71, Tryd.ntmps71
      go_wp2_with fail
      go_ret
      exact ⟨rfl, rfl⟩
/-- a node, or nothing, as soon as there is too much -/
def nodeV (z m : Nat) (k i : Int) (v : Value) : Value := if excN z m = 0 then .agg #[.int .i64 k, .int .i64 i, v] else .agg #[.int .i64 0, .int .i64 0, .slice none 0 0]
set_option maxHeartbeats 1000000 in
set_option maxRecDepth 100000 in
theorem node_any (k i : Int) (A' : Option Addr) (n' c' : Nat) (w : World) (h : Rdr w b A c l rest sl z m) :
    Calls Tryd.prog 74 #[.pointer (some ⟨b, 0, none⟩), .int .i64 k, .int .i64 i, .slice A' n' c'] w fun e w' => e = .returned (nodeV z m k i (.slice A' n' c')) ∧ Below w.heap.size w w' := by
  have ha : Below w.heap.size w (w.alloc (.cells #[.int .i64 0, .int .i64 0, .slice none 0 0] 24)) := (Below.refl _ _).alloc (Nat.le_refl _) _
  have EX := Lib.hid (excess_any _ (h.keep ha))
  have hbox : (w.alloc (.cells #[.int .i64 0, .int .i64 0, .slice none 0 0] 24)).heap[w.heap.size]? = some (.cells #[.int .i64 0, .int .i64 0, .slice none 0 0] 24 (0, 0)) := World.alloc_heap_new w _
  clear h
  unfold nodeV
  by_cases hx : excN z m = 0
  · rw [if_pos hx]
    rw [hx] at EX
    go_enter Tryd.func74, Tryd.ntmps74
    go_wp2_with fail
    refine EX.out.mono ?_
    rintro e w1 ⟨rfl, rfl⟩
    go_wp2_with fail
    refine bodyPost_ret (v := .agg #[.int .i64 k, .int .i64 i, .slice A' n' c']) (by simp [results, Tryd.results74, go_sem]) rfl ⟨rfl, ?_⟩
    first | exact (Below.refl _ w).alloc (Nat.le_refl _) _ | exact below_set3t ha (Nat.le_refl _) _ _ _
  · have hx' : (((excN z m : Nat) : Int) != 0) = true := by simp; omega
    rw [if_neg hx]
    clear hx
    go_enter Tryd.func74, Tryd.ntmps74
    go_wp2_with fail
    refine EX.out.mono ?_
    rintro e w1 ⟨rfl, rfl⟩
    go_wp2_with fail
    refine bodyPost_ret (v := .agg #[.int .i64 0, .int .i64 0, .slice none 0 0]) (by simp [results, Tryd.results74, go_sem]) rfl ⟨rfl, ?_⟩
    first | exact (Below.refl _ w).alloc (Nat.le_refl _) _ | exact below_set3t ha (Nat.le_refl _) _ _ _
set_option maxHeartbeats 1000000 in
set_option maxRecDepth 100000 in
theorem conn_yes (t : Tok) (w : World) (h : Rdr w b A c l (t :: rest) sl z m) (hl : l.length ≤ 8000) (hj : jointN (t :: rest) ≠ 0) :
    Calls Tryd.prog 103 #[.pointer (some ⟨b, 0, none⟩)] w fun e w' => e = .returned (.int .i64 ((jointN (t :: rest) : Nat) : Int)) ∧ Rdr w' b A c l rest sl z m ∧ KeepR b w w' := by
  have H := Lib.hid h
  clear h
  unfold jointN at hj ⊢
  cases h1 : stands 62 (t :: rest) with
  | true =>
    go_enter Tryd.func103, Tryd.ntmps103
    go_wp2_with fail
    refine (stands_any 62 w H.out hl).mono ?_
    rintro e w1 ⟨rfl, hb1⟩
    rw [h1]
    have hw := H.out.keep hb1
    obtain ⟨n, hn, c1, R⟩ := hw.take hl
    have f1 := hw.frozen 1
    have RR := Lib.hid R
    have K := Lib.hid ((KeepR.of_below (b := b) hb1).trans (KeepR.set b 1 w1 (.int .i64 ((n : Int) + 1))))
    clear hw R
    go_wp2_with fail
    go_ret
    exact ⟨rfl, RR.out, K.out⟩
  | false =>
    rw [h1] at hj
    cases h2 : stands 38 (t :: rest) with
    | true =>
      go_enter Tryd.func103, Tryd.ntmps103
      go_wp2_with fail
      refine (stands_any 62 w H.out hl).mono ?_
      rintro e w1 ⟨rfl, hb1⟩
      rw [h1]
      have H1 := Lib.hid (H.out.keep hb1)
      go_wp2_with fail
      refine (stands_any 38 w1 H1.out hl).mono ?_
      rintro e w2 ⟨rfl, hb2⟩
      rw [h2]
      have hw := H1.out.keep hb2
      obtain ⟨n, hn, c1, R⟩ := hw.take hl
      have f1 := hw.frozen 1
      have RR := Lib.hid R
      have K := Lib.hid (((KeepR.of_below (b := b) hb1).trans (KeepR.of_below hb2)).trans (KeepR.set b 1 w2 (.int .i64 ((n : Int) + 1))))
      clear hw R
      go_wp2_with fail
      go_ret
      exact ⟨rfl, RR.out, K.out⟩
    | false =>
      rw [h2] at hj
      cases h3 : stands 124 (t :: rest) with
      | false => rw [h3] at hj; simp at hj
      | true =>
        go_enter Tryd.func103, Tryd.ntmps103
        go_wp2_with fail
        refine (stands_any 62 w H.out hl).mono ?_
        rintro e w1 ⟨rfl, hb1⟩
        rw [h1]
        have H1 := Lib.hid (H.out.keep hb1)
        go_wp2_with fail
        refine (stands_any 38 w1 H1.out hl).mono ?_
        rintro e w2 ⟨rfl, hb2⟩
        rw [h2]
        have H2 := Lib.hid (H1.out.keep hb2)
        go_wp2_with fail
        refine (stands_any 124 w2 H2.out hl).mono ?_
        rintro e w3 ⟨rfl, hb3⟩
        rw [h3]
        have hw := H2.out.keep hb3
        obtain ⟨n, hn, c1, R⟩ := hw.take hl
        have f1 := hw.frozen 1
        have RR := Lib.hid R
        have K := Lib.hid ((((KeepR.of_below (b := b) hb1).trans (KeepR.of_below hb2)).trans (KeepR.of_below hb3)).trans (KeepR.set b 1 w3 (.int .i64 ((n : Int) + 1))))
        clear hw R
        go_wp2_with fail
        go_ret
        exact ⟨rfl, RR.out, K.out⟩
set_option maxHeartbeats 1000000 in
set_option maxRecDepth 100000 in
theorem conn_no (w : World) (h : Rdr w b A c l rest sl z m) (hl : l.length ≤ 8000) (hj : jointN rest = 0) :
    Calls Tryd.prog 103 #[.pointer (some ⟨b, 0, none⟩)] w fun e w' => e = raised 32 (placeN sl rest) ∧ KeepR b w w' := by
  have H := Lib.hid h
  clear h
  unfold jointN at hj
  have h1 : stands 62 rest = false := by cases hh : stands 62 rest with
    | false => rfl
    | true => rw [hh] at hj; simp at hj
  rw [h1] at hj
  have h2 : stands 38 rest = false := by cases hh : stands 38 rest with
    | false => rfl
    | true => rw [hh] at hj; simp at hj
  rw [h2] at hj
  have h3 : stands 124 rest = false := by cases hh : stands 124 rest with
    | false => rfl
    | true => rw [hh] at hj; simp at hj
  clear hj
  go_enter Tryd.func103, Tryd.ntmps103
  go_wp2_with fail
  refine (stands_any 62 w H.out hl).mono ?_
  rintro e w1 ⟨rfl, hb1⟩
  rw [h1]
  have H1 := Lib.hid (H.out.keep hb1)
  go_wp2_with fail
  refine (stands_any 38 w1 H1.out hl).mono ?_
  rintro e w2 ⟨rfl, hb2⟩
  rw [h2]
  have H2 := Lib.hid (H1.out.keep hb2)
  go_wp2_with fail
  refine (stands_any 124 w2 H2.out hl).mono ?_
  rintro e w3 ⟨rfl, hb3⟩
  rw [h3]
  have H3 := Lib.hid (H2.out.keep hb3)
  go_wp2_with fail
  refine (refusal_any w3 H3.out hl).mono ?_
  rintro e w4 ⟨rfl, hb4⟩
  go_wp2_with fail
  exact ⟨rfl, rfl, (((KeepR.of_below hb1).trans (KeepR.of_below hb2)).trans (KeepR.of_below hb3)).trans (KeepR.of_below hb4)⟩
end
end Go.Proofs.YtgnfbhemkombaaaDoor
