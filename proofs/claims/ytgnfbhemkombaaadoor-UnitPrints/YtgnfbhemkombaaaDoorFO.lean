/- IsFormula of package expr. -/
import Derived.Test.YtgnfbhemkombaaaDoorF2
import Derived.Test.YtgnfbhemkombaaaDoorE9
namespace Go.Proofs.YtgnfbhemkombaaaDoor
open Go.RowKit Go.Shelf
set_option linter.unusedVariables false
set_option linter.unusedSimpArgs false
/-- is it right, and a formula? as the code asks -/
def isFB (t : Tr) : Bool := decide (sortN t.k = 2) && decide (rightN t = 0)
set_option maxHeartbeats 1000000 in
theorem isForm_any (t : Tr) (A : Option Addr) (c : Nat) (w : World) (ht : IsT w w.heap.size t A c) :
    Calls Tryd.prog 106 #[.agg #[.int .i64 t.k, .int .i64 t.i, .slice A t.ks.length c]] w fun e w' => e = .returned (.bool (isFB t)) ∧ Below w.heap.size w w' := by
  have T0 := Lib.hid (One.new ht)
  obtain ⟨y0, y1, y2⟩ := And.intro T0.out.b0 (And.intro T0.out.b1 T0.out.b2)
  clear ht
  go_enter Tryd.func106, Tryd.ntmps106
  go_wp2_with fail
  refine (sortOf_any t.k t.i A t.ks.length c _).mono ?_
  rintro e w1 ⟨rfl, hb1⟩
  have T1 := Lib.hid (T0.out.keep hb1)
  obtain ⟨z0, z1, z2⟩ := And.intro T1.out.b0 (And.intro T1.out.b1 T1.out.b2)
  clear hb1 y0 y1 y2
  by_cases hs : sortN t.k = 2
  · have h1 : (sortN t.k == 2) = true := by simp [hs]
    have F := Lib.hid (show isFB t = decide (rightN t = 0) by unfold isFB; rw [decide_eq_true hs]; rfl)
    clear hs
    go_wp2_with fail
    refine (right_any t A c _ (by exact T1.out.tree)).mono ?_
    rintro e w2 ⟨rfl, hb2⟩
    have T2 := Lib.hid (T1.out.keep hb2)
    clear hb2
    by_cases hr : rightN t = 0
    · have h0 : ((rightN t : Int) == 0) = true := by simp [hr]
      have F2 := Lib.hid (show isFB t = true by rw [F.out, decide_eq_true hr])
      clear hr
      go_wp2_with fail
      go_ret
      exact ⟨by rw [F2.out]; rfl, T2.out.below⟩
    · have h0 : ((rightN t : Int) == 0) = false := by rw [beq_eq_false_iff_ne]; omega
      have F2 := Lib.hid (show isFB t = false by rw [F.out, decide_eq_false hr])
      clear hr
      go_wp2_with fail
      go_ret
      exact ⟨by rw [F2.out]; rfl, T2.out.below⟩
  · have h1 : (sortN t.k == 2) = false := by simpa using hs
    have F := Lib.hid (show isFB t = false by unfold isFB; rw [decide_eq_false hs]; rfl)
    clear hs
    go_wp2_with fail
    go_ret
    exact ⟨by rw [F.out]; rfl, T1.out.below⟩

theorem right_parts {t : Tr} (h : rightN t = 0) : t.sz ≤ 1000 ∧ t.dp ≤ 100 ∧ t.shp = true := by
  unfold rightN at h
  split at h
  · cases h
  · split at h
    · cases h
    · split at h
      · exact ⟨by omega, by omega, by assumption⟩
      · cases h
theorem right_sz {t : Tr} (h : rightN t = 0) : t.sz ≤ 1000 := (right_parts h).1
theorem right_dp {t : Tr} (h : rightN t = 0) : t.dp ≤ 100 := (right_parts h).2.1
theorem isFB_form {t : Tr} (hr : rightN t = 0) : isFB t = !termB t.k := by
  have hk := kind_of_shp t (right_parts hr).2.2
  unfold isFB
  rw [decide_eq_true hr, Bool.and_true]
  cases h : termB t.k with
  | true => exact decide_eq_false (fun e => by rw [((sort_formula t.k).1 e).1] at h; cases h)
  | false => exact decide_eq_true ((sort_formula t.k).2 ⟨h, hk.1, hk.2.1⟩)
end Go.Proofs.YtgnfbhemkombaaaDoor
