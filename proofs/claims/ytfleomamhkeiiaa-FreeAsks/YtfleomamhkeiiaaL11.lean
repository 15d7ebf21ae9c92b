/- The laws FreeSets, FreeAsks, walked. -/
import Derived.Test.YtfleomamhkeiiaaF7
namespace Go.Proofs.Ytfleomamhkeiiaa
open Go.RowKit
set_option linter.unusedVariables false
set_option linter.unusedSimpArgs false
set_option maxHeartbeats 2000000 in
set_option maxRecDepth 100000 in
theorem sets_law (t : Tr) (A : Option Addr) (c : Nat) (w : World) (ht : IsT w w.heap.size t A c) :
    Calls Try.prog 6 #[.agg #[.int .i64 t.k, .int .i64 t.i, .slice A t.ks.length c]] w fun e w' => e = .returned (.bool true) ∧ Below w.heap.size w w' := by
  have T0 := Lib.hid (One.new ht)
  have b0 := T0.out.b0
  have b1 := T0.out.b1
  have b2 := T0.out.b2
  clear ht
  go_enter Try.func6, Try.ntmps6
  go_wp2_with fail
  refine (vars_any t A c _ (by exact T0.out.tree)).mono ?_
  rintro e w1 ⟨rfl, hb⟩
  have T1 := Lib.hid (T0.out.keep hb)
  clear hb b0 b1 b2
  have b0 := T1.out.b0
  have b1 := T1.out.b1
  have b2 := T1.out.b2
  go_wp2_with fail
  refine (free_any t A c _ (by exact T1.out.tree)).mono ?_
  rintro e w2 ⟨rfl, hb⟩
  have T2 := Lib.hid (T1.out.keep hb)
  clear hb b0 b1 b2
  have b0 := T2.out.b0
  have b1 := T2.out.b1
  have b2 := T2.out.b2
  go_wp2_with fail
  refine (bound_any t A c _ (by exact T2.out.tree)).mono ?_
  rintro e w3 ⟨rfl, hb⟩
  have T3 := Lib.hid (T2.out.keep hb)
  clear hb b0 b1 b2
  have b0 := T3.out.b0
  have b1 := T3.out.b1
  have b2 := T3.out.b2
  go_wp2_with fail
  refine (rvars_any t A c _ (by exact T3.out.tree)).mono ?_
  rintro e w4 ⟨rfl, hb⟩
  have T4 := Lib.hid (T3.out.keep hb)
  clear hb b0 b1 b2
  have b0 := T4.out.b0
  have b1 := T4.out.b1
  have b2 := T4.out.b2
  go_wp2_with fail
  refine (rfree_any t A c _ (by exact T4.out.tree)).mono ?_
  rintro e w5 ⟨rfl, hb⟩
  have T5 := Lib.hid (T4.out.keep hb)
  clear hb b0 b1 b2
  have b0 := T5.out.b0
  have b1 := T5.out.b1
  have b2 := T5.out.b2
  go_wp2_with fail
  refine (rbound_any t A c _ (by exact T5.out.tree)).mono ?_
  rintro e w6 ⟨rfl, hb⟩
  have T6 := Lib.hid (T5.out.keep hb)
  clear hb b0 b1 b2
  have b0 := T6.out.b0
  have b1 := T6.out.b1
  have b2 := T6.out.b2
  go_wp2_with fail
  go_ret
  exact ⟨by simp, T6.out.below⟩
set_option maxHeartbeats 2000000 in
set_option maxRecDepth 100000 in
theorem asks_law (x : Int) (t : Tr) (A : Option Addr) (c : Nat) (w : World) (ht : IsT w w.heap.size t A c) :
    Calls Try.prog 7 #[.int .i64 x, .agg #[.int .i64 t.k, .int .i64 t.i, .slice A t.ks.length c]] w fun e w' => e = .returned (.bool true) ∧ Below w.heap.size w w' := by
  have T0 := Lib.hid (One.new ht)
  have b0 := T0.out.b0
  have b1 := T0.out.b1
  have b2 := T0.out.b2
  clear ht
  go_enter Try.func7, Try.ntmps7
  go_wp2_with fail
  refine (notFree_any x t A c _ (by exact T0.out.tree)).mono ?_
  rintro e w1 ⟨rfl, hb⟩
  have T1 := Lib.hid (T0.out.keep hb)
  clear hb b0 b1 b2
  have b0 := T1.out.b0
  have b1 := T1.out.b1
  have b2 := T1.out.b2
  go_wp2_with fail
  refine (rnotfree_any x t A c _ (by exact T1.out.tree)).mono ?_
  rintro e w2 ⟨rfl, hb⟩
  have T2 := Lib.hid (T1.out.keep hb)
  clear hb b0 b1 b2
  have b0 := T2.out.b0
  have b1 := T2.out.b1
  have b2 := T2.out.b2
  obtain ⟨vb, hvb⟩ : ∃ vb, vb = nfB x t := ⟨_, rfl⟩
  rw [← hvb]
  clear hvb
  cases vb with
  | true =>
    go_wp2_with fail
    go_ret
    exact ⟨by simp, T2.out.below⟩
  | false =>
    go_wp2_with fail
    go_ret
    exact ⟨by simp, T2.out.below⟩
end Go.Proofs.Ytfleomamhkeiiaa
