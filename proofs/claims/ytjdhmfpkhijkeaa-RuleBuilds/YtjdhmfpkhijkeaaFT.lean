/- The document's IsTerm, IsFormula. -/
import Derived.Test.YtjdhmfpkhijkeaaF4
namespace Go.Proofs.Ytjdhmfpkhijkeaa
open Go.RowKit
set_option linter.unusedVariables false
set_option linter.unusedSimpArgs false
/-- is it right, and a term? a formula? as the document asks -/
def rTB (t : Tr) : Bool := decide (rightN t = 0) && termB t.k
def rFB (t : Tr) : Bool := decide (rightN t = 0) && !termB t.k
set_option maxHeartbeats 1000000 in
theorem risterm_any (t : Tr) (A : Option Addr) (c : Nat) (w : World) (ht : IsT w w.heap.size t A c) :
    Calls Try.prog 21 #[.agg #[.int .i64 t.k, .int .i64 t.i, .slice A t.ks.length c]] w fun e w' => e = .returned (.bool (rTB t)) ∧ Below w.heap.size w w' := by
  have T0 := Lib.hid (One.new ht)
  obtain ⟨y0, y1, y2⟩ := And.intro T0.out.b0 (And.intro T0.out.b1 T0.out.b2)
  clear ht
  go_enter Try.func21, Try.ntmps21
  go_wp2_with fail
  refine (rright_any t A c _ (by exact T0.out.tree)).mono ?_
  rintro e w1 ⟨rfl, hb1⟩
  have T1 := Lib.hid (T0.out.keep hb1)
  obtain ⟨z0, z1, z2⟩ := And.intro T1.out.b0 (And.intro T1.out.b1 T1.out.b2)
  clear hb1 y0 y1 y2
  by_cases hr : rightN t = 0
  · have h0 : ((rightN t : Int) == 0) = true := by simp [hr]
    have F := Lib.hid (show rTB t = termB t.k by unfold rTB; rw [decide_eq_true hr]; rfl)
    clear hr
    go_wp2_with fail
    refine (term_any t.k t.i A t.ks.length c _).mono ?_
    rintro e w2 ⟨rfl, hb2⟩
    have T2 := Lib.hid (T1.out.keep hb2)
    clear hb2
    obtain ⟨tb, htb⟩ : ∃ tb, tb = termB t.k := ⟨_, rfl⟩
    rw [← htb] at F ⊢
    clear htb
    cases tb
    all_goals
      go_wp2_with fail
      go_ret
      exact ⟨by rw [F.out]; rfl, T2.out.below⟩
  · have h0 : ((rightN t : Int) == 0) = false := by rw [beq_eq_false_iff_ne]; omega
    have F := Lib.hid (show rTB t = false by unfold rTB; rw [decide_eq_false hr]; rfl)
    clear hr
    go_wp2_with fail
    go_ret
    exact ⟨by rw [F.out]; rfl, T1.out.below⟩
set_option maxHeartbeats 1000000 in
theorem risform_any (t : Tr) (A : Option Addr) (c : Nat) (w : World) (ht : IsT w w.heap.size t A c) :
    Calls Try.prog 42 #[.agg #[.int .i64 t.k, .int .i64 t.i, .slice A t.ks.length c]] w fun e w' => e = .returned (.bool (rFB t)) ∧ Below w.heap.size w w' := by
  have T0 := Lib.hid (One.new ht)
  obtain ⟨y0, y1, y2⟩ := And.intro T0.out.b0 (And.intro T0.out.b1 T0.out.b2)
  clear ht
  go_enter Try.func42, Try.ntmps42
  go_wp2_with fail
  refine (rright_any t A c _ (by exact T0.out.tree)).mono ?_
  rintro e w1 ⟨rfl, hb1⟩
  have T1 := Lib.hid (T0.out.keep hb1)
  obtain ⟨z0, z1, z2⟩ := And.intro T1.out.b0 (And.intro T1.out.b1 T1.out.b2)
  clear hb1 y0 y1 y2
  by_cases hr : rightN t = 0
  · have h0 : ((rightN t : Int) == 0) = true := by simp [hr]
    have F := Lib.hid (show rFB t = !termB t.k by unfold rFB; rw [decide_eq_true hr]; rfl)
    clear hr
    go_wp2_with fail
    refine (term_any t.k t.i A t.ks.length c _).mono ?_
    rintro e w2 ⟨rfl, hb2⟩
    have T2 := Lib.hid (T1.out.keep hb2)
    clear hb2
    obtain ⟨tb, htb⟩ : ∃ tb, tb = termB t.k := ⟨_, rfl⟩
    rw [← htb] at F ⊢
    clear htb
    cases tb
    all_goals
      go_wp2_with fail
      go_ret
      exact ⟨by rw [F.out]; rfl, T2.out.below⟩
  · have h0 : ((rightN t : Int) == 0) = false := by rw [beq_eq_false_iff_ne]; omega
    have F := Lib.hid (show rFB t = false by unfold rFB; rw [decide_eq_false hr]; rfl)
    clear hr
    go_wp2_with fail
    go_ret
    exact ⟨by rw [F.out]; rfl, T1.out.below⟩
end Go.Proofs.Ytjdhmfpkhijkeaa
