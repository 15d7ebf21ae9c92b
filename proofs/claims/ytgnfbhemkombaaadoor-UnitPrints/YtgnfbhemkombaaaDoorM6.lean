/- The steps' justifications: isJustified of package unit, reason of the document's layer 9. -/
import Derived.Test.YtgnfbhemkombaaaDoorM5
namespace Go.Proofs.YtgnfbhemkombaaaDoor
open Go.RowKit
set_option linter.unusedVariables false
set_option linter.unusedSimpArgs false
/-- the error of a justification -/
def reasonN (y a b : Int) (q : ByteArray) : Nat := if justB y a b q = false then 90 else if y = 4 ∧ nameN (bytesN q) = false then 91 else 0
structure BoxS (w : World) (b : Nat) (x0 x1 x2 x3 x4 x5 x6 : Value) : Prop where
  blk : w.heap[b]? = some (.cells #[x0, x1, x2, x3, x4, x5, x6] 71 (0, 0))
theorem BoxS.cells {w : World} {b : Nat} {x0 x1 x2 x3 x4 x5 x6 : Value} (h : BoxS w b x0 x1 x2 x3 x4 x5 x6) : w.cell? ⟨b, 0, none⟩ = some x0 ∧ w.cell? ⟨b, 1, none⟩ = some x1 ∧ w.cell? ⟨b, 2, none⟩ = some x2 ∧ w.cell? ⟨b, 3, none⟩ = some x3 ∧ w.cell? ⟨b, 4, none⟩ = some x4 ∧ w.cell? ⟨b, 5, none⟩ = some x5 ∧ w.cell? ⟨b, 6, none⟩ = some x6 := by
  unfold World.cell?
  rw [show w.heap[b]? = _ from h.blk]
  exact ⟨rfl, rfl, rfl, rfl, rfl, rfl, rfl⟩
theorem BoxS.new (w : World) (x0 x1 x2 x3 x4 x5 x6 : Value) : BoxS (w.alloc (.cells #[x0, x1, x2, x3, x4, x5, x6] 71)) w.heap.size x0 x1 x2 x3 x4 x5 x6 := ⟨by show (w.heap.push _)[w.heap.size]? = _; simp⟩
theorem BoxS.lt {w : World} {b : Nat} {x0 x1 x2 x3 x4 x5 x6 : Value} (h : BoxS w b x0 x1 x2 x3 x4 x5 x6) : b < w.heap.size := (Array.getElem?_eq_some_iff.1 h.blk).1
theorem BoxS.keep {w w' : World} {b B : Nat} {x0 x1 x2 x3 x4 x5 x6 : Value} (h : BoxS w b x0 x1 x2 x3 x4 x5 x6) (hb : Below B w w') (hB : b < B) : BoxS w' b x0 x1 x2 x3 x4 x5 x6 := ⟨(hb.block b hB).trans h.blk⟩
theorem size_zero {q : ByteArray} (h : q.size = 0) : q.toList = [] := by
  have : q = ByteArray.empty := by
    cases q with
    | mk d => 
      have : d.size = 0 := h
      simp at this
      subst this
      rfl
  rw [this]; simp
theorem size_some {q : ByteArray} (h : ¬ q.size = 0) : q.toList ≠ [] := fun he => h (by
  have := (Lib.bytes_beq_iff q ByteArray.empty).1 (by rw [he]; simp)
  rw [this]; rfl)
set_option maxHeartbeats 4000000 in
set_option maxRecDepth 100000 in
theorem ujust_any (k i : Int) (A : Option Addr) (n c : Nat) (y a b : Int) (q : ByteArray) (w : World) :
    Calls Tryd.prog 109 #[.agg #[.int .i64 k, .int .i64 i, .slice A n c, .int .i64 y, .int .i64 a, .int .i64 b, .string q]] w fun e w' => e = .returned (.bool (justB y a b q)) ∧ Below w.heap.size w w' := by
  have bx := Lib.hid (show Below w.heap.size w (w.alloc (.cells #[.int .i64 k, .int .i64 i, .slice A n c, .int .i64 y, .int .i64 a, .int .i64 b, .string q] 71)) from (Below.refl _ _).alloc (Nat.le_refl _) _)
  obtain ⟨y0, y1, y2, y3, y4, y5, y6⟩ := (BoxS.new w (.int .i64 k) (.int .i64 i) (.slice A n c) (.int .i64 y) (.int .i64 a) (.int .i64 b) (.string q)).cells
  by_cases hy1 : y = 1
  · subst hy1
    cases hA : numB a with
    | false =>
      have J := Lib.hid (show justB 1 a b q = false by simp [justB, hA])
      go_enter Tryd.func109, Tryd.ntmps109
      go_wp2_with (first | (go_at_call 120; refine (unumber_any a _).mono ?_; rintro e w' ⟨rfl, rfl⟩; rw [hA]))
      go_ret
      exact ⟨by rw [J.out]; rfl, bx.out⟩
    | true =>
      by_cases hZ : b = 0
      · skip
        by_cases hQ : q.size = 0
        · skip
          have J := Lib.hid (show justB 1 a b q = true by simp [justB, hA, hZ, hQ])
          have eZ : ((b : Int) == 0) = true := by simpa using hZ
          have eQ : (q.toList == []) = true := by rw [size_zero hQ]; rfl
          have eQ2 : (q.toList.isEmpty) = true := by rw [size_zero hQ]; rfl
          clear hZ hQ
          go_enter Tryd.func109, Tryd.ntmps109
          go_wp2_with (first | (go_at_call 120; refine (unumber_any a _).mono ?_; rintro e w' ⟨rfl, rfl⟩; rw [hA]))
          go_ret
          exact ⟨by rw [J.out]; rfl, bx.out⟩
        · skip
          have J := Lib.hid (show justB 1 a b q = false by simp [justB, hA, hZ, hQ])
          have eZ : ((b : Int) == 0) = true := by simpa using hZ
          have eQ : (q.toList == []) = false := by have := size_some hQ; simpa using this
          have eQ2 : (q.toList.isEmpty) = false := by have := size_some hQ; simpa using this
          clear hZ hQ
          go_enter Tryd.func109, Tryd.ntmps109
          go_wp2_with (first | (go_at_call 120; refine (unumber_any a _).mono ?_; rintro e w' ⟨rfl, rfl⟩; rw [hA]))
          go_ret
          exact ⟨by rw [J.out]; rfl, bx.out⟩
      · skip
        have J := Lib.hid (show justB 1 a b q = false by simp [justB, hA, hZ])
        have eZ : ((b : Int) == 0) = false := by simpa using hZ
        clear hZ
        go_enter Tryd.func109, Tryd.ntmps109
        go_wp2_with (first | (go_at_call 120; refine (unumber_any a _).mono ?_; rintro e w' ⟨rfl, rfl⟩; rw [hA]))
        go_ret
        exact ⟨by rw [J.out]; rfl, bx.out⟩
  · skip
    by_cases hy2 : y = 2
    · subst hy2
      cases hA : numB a with
      | false =>
        have J := Lib.hid (show justB 2 a b q = false by simp [justB, hA])
        go_enter Tryd.func109, Tryd.ntmps109
        go_wp2_with (first | (go_at_call 120; refine (unumber_any a _).mono ?_; rintro e w' ⟨rfl, rfl⟩; rw [hA]))
        go_ret
        exact ⟨by rw [J.out]; rfl, bx.out⟩
      | true =>
        cases hN : numB b with
        | false =>
          have J := Lib.hid (show justB 2 a b q = false by simp [justB, hA, hN])
          go_enter Tryd.func109, Tryd.ntmps109
          go_wp2_with (first | (go_at_call 120; refine (unumber_any a _).mono ?_; rintro e w' ⟨rfl, rfl⟩; rw [hA]) | (go_at_call 120; refine (unumber_any b _).mono ?_; rintro e w' ⟨rfl, rfl⟩; rw [hN]))
          go_ret
          exact ⟨by rw [J.out]; rfl, bx.out⟩
        | true =>
          by_cases hQ : q.size = 0
          · skip
            have J := Lib.hid (show justB 2 a b q = true by simp [justB, hA, hN, hQ])
            have eQ : (q.toList == []) = true := by rw [size_zero hQ]; rfl
            have eQ2 : (q.toList.isEmpty) = true := by rw [size_zero hQ]; rfl
            clear hQ
            go_enter Tryd.func109, Tryd.ntmps109
            go_wp2_with (first | (go_at_call 120; refine (unumber_any a _).mono ?_; rintro e w' ⟨rfl, rfl⟩; rw [hA]) | (go_at_call 120; refine (unumber_any b _).mono ?_; rintro e w' ⟨rfl, rfl⟩; rw [hN]))
            go_ret
            exact ⟨by rw [J.out]; rfl, bx.out⟩
          · skip
            have J := Lib.hid (show justB 2 a b q = false by simp [justB, hA, hN, hQ])
            have eQ : (q.toList == []) = false := by have := size_some hQ; simpa using this
            have eQ2 : (q.toList.isEmpty) = false := by have := size_some hQ; simpa using this
            clear hQ
            go_enter Tryd.func109, Tryd.ntmps109
            go_wp2_with (first | (go_at_call 120; refine (unumber_any a _).mono ?_; rintro e w' ⟨rfl, rfl⟩; rw [hA]) | (go_at_call 120; refine (unumber_any b _).mono ?_; rintro e w' ⟨rfl, rfl⟩; rw [hN]))
            go_ret
            exact ⟨by rw [J.out]; rfl, bx.out⟩
    · skip
      by_cases hy3 : y = 3
      · subst hy3
        cases hA : numB a with
        | false =>
          have J := Lib.hid (show justB 3 a b q = false by simp [justB, hA])
          go_enter Tryd.func109, Tryd.ntmps109
          go_wp2_with (first | (go_at_call 120; refine (unumber_any a _).mono ?_; rintro e w' ⟨rfl, rfl⟩; rw [hA]))
          go_ret
          exact ⟨by rw [J.out]; rfl, bx.out⟩
        | true =>
          cases hV : varB b with
          | false =>
            have J := Lib.hid (show justB 3 a b q = false by simp [justB, hA, hV])
            go_enter Tryd.func109, Tryd.ntmps109
            go_wp2_with (first | (go_at_call 120; refine (unumber_any a _).mono ?_; rintro e w' ⟨rfl, rfl⟩; rw [hA]) | (go_at_call 121; refine (uvariable_any b _).mono ?_; rintro e w' ⟨rfl, rfl⟩; rw [hV]))
            go_ret
            exact ⟨by rw [J.out]; rfl, bx.out⟩
          | true =>
            by_cases hQ : q.size = 0
            · skip
              have J := Lib.hid (show justB 3 a b q = true by simp [justB, hA, hV, hQ])
              have eQ : (q.toList == []) = true := by rw [size_zero hQ]; rfl
              have eQ2 : (q.toList.isEmpty) = true := by rw [size_zero hQ]; rfl
              clear hQ
              go_enter Tryd.func109, Tryd.ntmps109
              go_wp2_with (first | (go_at_call 120; refine (unumber_any a _).mono ?_; rintro e w' ⟨rfl, rfl⟩; rw [hA]) | (go_at_call 121; refine (uvariable_any b _).mono ?_; rintro e w' ⟨rfl, rfl⟩; rw [hV]))
              go_ret
              exact ⟨by rw [J.out]; rfl, bx.out⟩
            · skip
              have J := Lib.hid (show justB 3 a b q = false by simp [justB, hA, hV, hQ])
              have eQ : (q.toList == []) = false := by have := size_some hQ; simpa using this
              have eQ2 : (q.toList.isEmpty) = false := by have := size_some hQ; simpa using this
              clear hQ
              go_enter Tryd.func109, Tryd.ntmps109
              go_wp2_with (first | (go_at_call 120; refine (unumber_any a _).mono ?_; rintro e w' ⟨rfl, rfl⟩; rw [hA]) | (go_at_call 121; refine (uvariable_any b _).mono ?_; rintro e w' ⟨rfl, rfl⟩; rw [hV]))
              go_ret
              exact ⟨by rw [J.out]; rfl, bx.out⟩
      · skip
        by_cases hy4 : y = 4
        · subst hy4
          by_cases ha0 : a = 0
          · skip
            by_cases hZ : b = 0
            · skip
              have J := Lib.hid (show justB 4 a b q = true by simp [justB, ha0, hZ])
              have ea : ((a : Int) == 0) = true := by simpa using ha0
              have eZ : ((b : Int) == 0) = true := by simpa using hZ
              clear ha0 hZ
              go_enter Tryd.func109, Tryd.ntmps109
              go_wp2_with fail
              go_ret
              exact ⟨by rw [J.out]; rfl, bx.out⟩
            · skip
              have J := Lib.hid (show justB 4 a b q = false by simp [justB, ha0, hZ])
              have ea : ((a : Int) == 0) = true := by simpa using ha0
              have eZ : ((b : Int) == 0) = false := by simpa using hZ
              clear ha0 hZ
              go_enter Tryd.func109, Tryd.ntmps109
              go_wp2_with fail
              go_ret
              exact ⟨by rw [J.out]; rfl, bx.out⟩
          · skip
            have J := Lib.hid (show justB 4 a b q = false by simp [justB, ha0])
            have ea : ((a : Int) == 0) = false := by simpa using ha0
            clear ha0
            go_enter Tryd.func109, Tryd.ntmps109
            go_wp2_with fail
            go_ret
            exact ⟨by rw [J.out]; rfl, bx.out⟩
        · skip
          have J := Lib.hid (show justB y a b q = false by simp [justB, hy1, hy2, hy3, hy4])
          have n1 : (y == 1) = false := by simpa using hy1
          have n2 : (y == 2) = false := by simpa using hy2
          have n3 : (y == 3) = false := by simpa using hy3
          have n4 : (y == 4) = false := by simpa using hy4
          clear hy1 hy2 hy3 hy4
          go_enter Tryd.func109, Tryd.ntmps109
          go_wp2_with fail
          go_ret
          exact ⟨by rw [J.out]; rfl, bx.out⟩
set_option maxHeartbeats 4000000 in
set_option maxRecDepth 100000 in
theorem rreason_any (k i : Int) (A : Option Addr) (n c : Nat) (y a b : Int) (q : ByteArray) (w : World) :
    Calls Tryd.prog 86 #[.agg #[.int .i64 k, .int .i64 i, .slice A n c, .int .i64 y, .int .i64 a, .int .i64 b, .string q]] w fun e w' => e = .returned (.int .i64 (reasonN y a b q : Nat)) ∧ Below w.heap.size w w' := by
  have bx := Lib.hid (show Below w.heap.size w (w.alloc (.cells #[.int .i64 k, .int .i64 i, .slice A n c, .int .i64 y, .int .i64 a, .int .i64 b, .string q] 71)) from (Below.refl _ _).alloc (Nat.le_refl _) _)
  obtain ⟨y0, y1, y2, y3, y4, y5, y6⟩ := (BoxS.new w (.int .i64 k) (.int .i64 i) (.slice A n c) (.int .i64 y) (.int .i64 a) (.int .i64 b) (.string q)).cells
  by_cases hy1 : y = 1
  · subst hy1
    cases hA : numB a with
    | false =>
      have J := Lib.hid (show justB 1 a b q = false by simp [justB, hA])
      have R := Lib.hid (show reasonN 1 a b q = 90 by unfold reasonN; rw [J.out]; rfl)
      go_enter Tryd.func86, Tryd.ntmps86
      go_wp2_with (first | (go_at_call 112; refine (rnumber9_any a _).mono ?_; rintro e w' ⟨rfl, rfl⟩; rw [hA]))
      go_ret
      exact ⟨ret_intw (by rw [R.out]; rfl), bx.out⟩
    | true =>
      by_cases hZ : b = 0
      · skip
        by_cases hQ : q.size = 0
        · skip
          have J := Lib.hid (show justB 1 a b q = true by simp [justB, hA, hZ, hQ])
          have eZ : ((b : Int) == 0) = true := by simpa using hZ
          have eQ : (q.toList == []) = true := by rw [size_zero hQ]; rfl
          have eQ2 : (q.toList.isEmpty) = true := by rw [size_zero hQ]; rfl
          clear hZ hQ
          have R := Lib.hid (show reasonN 1 a b q = 0 by unfold reasonN; rw [J.out]; rfl)
          go_enter Tryd.func86, Tryd.ntmps86
          go_wp2_with (first | (go_at_call 112; refine (rnumber9_any a _).mono ?_; rintro e w' ⟨rfl, rfl⟩; rw [hA]))
          go_ret
          exact ⟨ret_intw (by rw [R.out]; rfl), bx.out⟩
        · skip
          have J := Lib.hid (show justB 1 a b q = false by simp [justB, hA, hZ, hQ])
          have eZ : ((b : Int) == 0) = true := by simpa using hZ
          have eQ : (q.toList == []) = false := by have := size_some hQ; simpa using this
          have eQ2 : (q.toList.isEmpty) = false := by have := size_some hQ; simpa using this
          clear hZ hQ
          have R := Lib.hid (show reasonN 1 a b q = 90 by unfold reasonN; rw [J.out]; rfl)
          go_enter Tryd.func86, Tryd.ntmps86
          go_wp2_with (first | (go_at_call 112; refine (rnumber9_any a _).mono ?_; rintro e w' ⟨rfl, rfl⟩; rw [hA]))
          go_ret
          exact ⟨ret_intw (by rw [R.out]; rfl), bx.out⟩
      · skip
        have J := Lib.hid (show justB 1 a b q = false by simp [justB, hA, hZ])
        have eZ : ((b : Int) == 0) = false := by simpa using hZ
        clear hZ
        have R := Lib.hid (show reasonN 1 a b q = 90 by unfold reasonN; rw [J.out]; rfl)
        go_enter Tryd.func86, Tryd.ntmps86
        go_wp2_with (first | (go_at_call 112; refine (rnumber9_any a _).mono ?_; rintro e w' ⟨rfl, rfl⟩; rw [hA]))
        go_ret
        exact ⟨ret_intw (by rw [R.out]; rfl), bx.out⟩
  · skip
    by_cases hy2 : y = 2
    · subst hy2
      cases hA : numB a with
      | false =>
        have J := Lib.hid (show justB 2 a b q = false by simp [justB, hA])
        have R := Lib.hid (show reasonN 2 a b q = 90 by unfold reasonN; rw [J.out]; rfl)
        go_enter Tryd.func86, Tryd.ntmps86
        go_wp2_with (first | (go_at_call 112; refine (rnumber9_any a _).mono ?_; rintro e w' ⟨rfl, rfl⟩; rw [hA]))
        go_ret
        exact ⟨ret_intw (by rw [R.out]; rfl), bx.out⟩
      | true =>
        cases hN : numB b with
        | false =>
          have J := Lib.hid (show justB 2 a b q = false by simp [justB, hA, hN])
          have R := Lib.hid (show reasonN 2 a b q = 90 by unfold reasonN; rw [J.out]; rfl)
          go_enter Tryd.func86, Tryd.ntmps86
          go_wp2_with (first | (go_at_call 112; refine (rnumber9_any a _).mono ?_; rintro e w' ⟨rfl, rfl⟩; rw [hA]) | (go_at_call 112; refine (rnumber9_any b _).mono ?_; rintro e w' ⟨rfl, rfl⟩; rw [hN]))
          go_ret
          exact ⟨ret_intw (by rw [R.out]; rfl), bx.out⟩
        | true =>
          by_cases hQ : q.size = 0
          · skip
            have J := Lib.hid (show justB 2 a b q = true by simp [justB, hA, hN, hQ])
            have eQ : (q.toList == []) = true := by rw [size_zero hQ]; rfl
            have eQ2 : (q.toList.isEmpty) = true := by rw [size_zero hQ]; rfl
            clear hQ
            have R := Lib.hid (show reasonN 2 a b q = 0 by unfold reasonN; rw [J.out]; rfl)
            go_enter Tryd.func86, Tryd.ntmps86
            go_wp2_with (first | (go_at_call 112; refine (rnumber9_any a _).mono ?_; rintro e w' ⟨rfl, rfl⟩; rw [hA]) | (go_at_call 112; refine (rnumber9_any b _).mono ?_; rintro e w' ⟨rfl, rfl⟩; rw [hN]))
            go_ret
            exact ⟨ret_intw (by rw [R.out]; rfl), bx.out⟩
          · skip
            have J := Lib.hid (show justB 2 a b q = false by simp [justB, hA, hN, hQ])
            have eQ : (q.toList == []) = false := by have := size_some hQ; simpa using this
            have eQ2 : (q.toList.isEmpty) = false := by have := size_some hQ; simpa using this
            clear hQ
            have R := Lib.hid (show reasonN 2 a b q = 90 by unfold reasonN; rw [J.out]; rfl)
            go_enter Tryd.func86, Tryd.ntmps86
            go_wp2_with (first | (go_at_call 112; refine (rnumber9_any a _).mono ?_; rintro e w' ⟨rfl, rfl⟩; rw [hA]) | (go_at_call 112; refine (rnumber9_any b _).mono ?_; rintro e w' ⟨rfl, rfl⟩; rw [hN]))
            go_ret
            exact ⟨ret_intw (by rw [R.out]; rfl), bx.out⟩
    · skip
      by_cases hy3 : y = 3
      · subst hy3
        cases hA : numB a with
        | false =>
          have J := Lib.hid (show justB 3 a b q = false by simp [justB, hA])
          have R := Lib.hid (show reasonN 3 a b q = 90 by unfold reasonN; rw [J.out]; rfl)
          go_enter Tryd.func86, Tryd.ntmps86
          go_wp2_with (first | (go_at_call 112; refine (rnumber9_any a _).mono ?_; rintro e w' ⟨rfl, rfl⟩; rw [hA]))
          go_ret
          exact ⟨ret_intw (by rw [R.out]; rfl), bx.out⟩
        | true =>
          by_cases hb0 : 0 ≤ b
          · by_cases hb1 : b ≤ 63
            · have hV : varB b = true := by unfold varB; rw [decide_eq_true hb0, decide_eq_true hb1]; rfl
              by_cases hQ : q.size = 0
              · skip
                have J := Lib.hid (show justB 3 a b q = true by simp [justB, hA, hV, hQ])
                have eQ : (q.toList == []) = true := by rw [size_zero hQ]; rfl
                have eQ2 : (q.toList.isEmpty) = true := by rw [size_zero hQ]; rfl
                clear hQ
                have R := Lib.hid (show reasonN 3 a b q = 0 by unfold reasonN; rw [J.out]; rfl)
                go_enter Tryd.func86, Tryd.ntmps86
                go_wp2_with (first | (go_at_call 112; refine (rnumber9_any a _).mono ?_; rintro e w' ⟨rfl, rfl⟩; rw [hA]))
                go_ret
                exact ⟨ret_intw (by rw [R.out]; rfl), bx.out⟩
              · skip
                have J := Lib.hid (show justB 3 a b q = false by simp [justB, hA, hV, hQ])
                have eQ : (q.toList == []) = false := by have := size_some hQ; simpa using this
                have eQ2 : (q.toList.isEmpty) = false := by have := size_some hQ; simpa using this
                clear hQ
                have R := Lib.hid (show reasonN 3 a b q = 90 by unfold reasonN; rw [J.out]; rfl)
                go_enter Tryd.func86, Tryd.ntmps86
                go_wp2_with (first | (go_at_call 112; refine (rnumber9_any a _).mono ?_; rintro e w' ⟨rfl, rfl⟩; rw [hA]))
                go_ret
                exact ⟨ret_intw (by rw [R.out]; rfl), bx.out⟩
            · have hV : varB b = false := by unfold varB; rw [decide_eq_false hb1]; simp
              have J := Lib.hid (show justB 3 a b q = false by simp [justB, hA, hV])
              have R := Lib.hid (show reasonN 3 a b q = 90 by unfold reasonN; rw [J.out]; rfl)
              go_enter Tryd.func86, Tryd.ntmps86
              go_wp2_with (first | (go_at_call 112; refine (rnumber9_any a _).mono ?_; rintro e w' ⟨rfl, rfl⟩; rw [hA]))
              go_ret
              exact ⟨ret_intw (by rw [R.out]; rfl), bx.out⟩
          · have hV : varB b = false := by unfold varB; rw [decide_eq_false hb0]; rfl
            have J := Lib.hid (show justB 3 a b q = false by simp [justB, hA, hV])
            have R := Lib.hid (show reasonN 3 a b q = 90 by unfold reasonN; rw [J.out]; rfl)
            go_enter Tryd.func86, Tryd.ntmps86
            go_wp2_with (first | (go_at_call 112; refine (rnumber9_any a _).mono ?_; rintro e w' ⟨rfl, rfl⟩; rw [hA]))
            go_ret
            exact ⟨ret_intw (by rw [R.out]; rfl), bx.out⟩
      · skip
        by_cases hy4 : y = 4
        · subst hy4
          by_cases ha0 : a = 0
          · skip
            by_cases hZ : b = 0
            · skip
              have J := Lib.hid (show justB 4 a b q = true by simp [justB, ha0, hZ])
              have ea : ((a : Int) == 0) = true := by simpa using ha0
              have eZ : ((b : Int) == 0) = true := by simpa using hZ
              clear ha0 hZ
              cases hM : nameN (bytesN q) with
              | false =>
                have R := Lib.hid (show reasonN 4 a b q = 91 by unfold reasonN; rw [J.out, hM]; rfl)
                go_enter Tryd.func86, Tryd.ntmps86
                go_wp2_with (go_at_call 110; refine (rname_any _ _).mono ?_; rintro e w' ⟨rfl, rfl⟩; rw [hM])
                go_ret
                exact ⟨ret_intw (by rw [R.out]; rfl), bx.out⟩
              | true =>
                have R := Lib.hid (show reasonN 4 a b q = 0 by unfold reasonN; rw [J.out, hM]; rfl)
                go_enter Tryd.func86, Tryd.ntmps86
                go_wp2_with (go_at_call 110; refine (rname_any _ _).mono ?_; rintro e w' ⟨rfl, rfl⟩; rw [hM])
                go_ret
                exact ⟨ret_intw (by rw [R.out]; rfl), bx.out⟩
            · skip
              have J := Lib.hid (show justB 4 a b q = false by simp [justB, ha0, hZ])
              have ea : ((a : Int) == 0) = true := by simpa using ha0
              have eZ : ((b : Int) == 0) = false := by simpa using hZ
              clear ha0 hZ
              have R := Lib.hid (show reasonN 4 a b q = 90 by unfold reasonN; rw [J.out]; rfl)
              go_enter Tryd.func86, Tryd.ntmps86
              go_wp2_with fail
              go_ret
              exact ⟨ret_intw (by rw [R.out]; rfl), bx.out⟩
          · skip
            have J := Lib.hid (show justB 4 a b q = false by simp [justB, ha0])
            have ea : ((a : Int) == 0) = false := by simpa using ha0
            clear ha0
            have R := Lib.hid (show reasonN 4 a b q = 90 by unfold reasonN; rw [J.out]; rfl)
            go_enter Tryd.func86, Tryd.ntmps86
            go_wp2_with fail
            go_ret
            exact ⟨ret_intw (by rw [R.out]; rfl), bx.out⟩
        · skip
          have J := Lib.hid (show justB y a b q = false by simp [justB, hy1, hy2, hy3, hy4])
          have n1 : (y == 1) = false := by simpa using hy1
          have n2 : (y == 2) = false := by simpa using hy2
          have n3 : (y == 3) = false := by simpa using hy3
          have n4 : (y == 4) = false := by simpa using hy4
          clear hy1 hy2 hy3 hy4
          have R := Lib.hid (show reasonN y a b q = 90 by unfold reasonN; rw [J.out]; rfl)
          go_enter Tryd.func86, Tryd.ntmps86
          go_wp2_with fail
          go_ret
          exact ⟨ret_intw (by rw [R.out]; rfl), bx.out⟩
end Go.Proofs.YtgnfbhemkombaaaDoor
