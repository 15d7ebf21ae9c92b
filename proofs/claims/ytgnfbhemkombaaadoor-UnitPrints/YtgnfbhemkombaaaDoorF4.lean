/- The document's WantTerm, WantFormula, Asked, Caught, FreeFor (layer 4). -/
import Derived.Test.YtgnfbhemkombaaaDoorF3
import Derived.Test.YtgnfbhemkombaaaDoorLK
namespace Go.Proofs.YtgnfbhemkombaaaDoor
open Go.RowKit
set_option linter.unusedVariables false
set_option linter.unusedSimpArgs false
def wantTN (t : Tr) : Nat := if rightN t = 0 then (if termB t.k = true then 0 else 40) else rightN t
def wantFN (t : Tr) : Nat := if rightN t = 0 then (if termB t.k = true then 40 else 0) else rightN t
set_option maxHeartbeats 1000000 in
theorem rwantF_any (t : Tr) (A : Option Addr) (c : Nat) (w : World) (ht : IsT w w.heap.size t A c) :
    Calls Tryd.prog 111 #[.agg #[.int .i64 t.k, .int .i64 t.i, .slice A t.ks.length c]] w fun e w' => e = .returned (.int .i64 (wantFN t : Nat)) ∧ Below w.heap.size w w' := by
  have T0 := Lib.hid (One.new ht)
  obtain ⟨y0, y1, y2⟩ := And.intro T0.out.b0 (And.intro T0.out.b1 T0.out.b2)
  clear ht
  go_enter Tryd.func111, Tryd.ntmps111
  go_wp2_with fail
  refine (rright_any t A c _ (by exact T0.out.tree)).mono ?_
  rintro e w1 ⟨rfl, hb1⟩
  have T1 := Lib.hid (T0.out.keep hb1)
  obtain ⟨z0, z1, z2⟩ := And.intro T1.out.b0 (And.intro T1.out.b1 T1.out.b2)
  clear hb1 y0 y1 y2
  by_cases hr : rightN t = 0
  · have h0 : ((rightN t : Int) != 0) = false := by simp [hr]
    have R := Lib.hid (show wantFN t = if termB t.k = true then 40 else 0 by unfold wantFN; rw [if_pos hr])
    clear hr
    go_wp2_with fail
    refine (term_any t.k t.i A t.ks.length c _).mono ?_
    rintro e w2 ⟨rfl, hb2⟩
    have T2 := Lib.hid (T1.out.keep hb2)
    clear hb2
    cases ht : termB t.k with
    | true =>
      rw [ht] at R
      go_wp2_with fail
      go_ret
      exact ⟨ret_intw (by rw [R.out]; rfl), T2.out.below⟩
    | false =>
      rw [ht] at R
      go_wp2_with fail
      go_ret
      exact ⟨ret_intw (by rw [R.out]; rfl), T2.out.below⟩
  · have h0 : ((rightN t : Int) != 0) = true := by rw [bne_iff_ne]; omega
    have R := Lib.hid (show wantFN t = rightN t by unfold wantFN; rw [if_neg hr])
    clear hr
    go_wp2_with fail
    refine (rright_any t A c _ (by exact T1.out.tree)).mono ?_
    rintro e w2 ⟨rfl, hb2⟩
    go_wp2_with fail
    go_ret
    exact ⟨ret_intw (by rw [R.out]), (T1.out.keep hb2).below⟩
/-- the errors of a term, a variable, an expression -/
def askN (x : Int) (t a : Tr) : Nat := if 0 ≤ x ∧ x ≤ 63 then (if firstN t a = 0 then wantTN t else firstN t a) else 1
theorem firstN_le (a b : Tr) : firstN a b ≤ 22 := by unfold firstN; split; exact rightN_le a; exact rightN_le b
/-- what Caught answers -/
def catV (x : Int) (t a : Tr) : Nat := if askN x t a = 0 then catT (varsT t) x a else 0
/-- what FreeFor answers -/
def ffB (x : Int) (t a : Tr) : Bool := decide (askN x t a = 0) && decide (catV x t a = 0)
end Go.Proofs.YtgnfbhemkombaaaDoor
