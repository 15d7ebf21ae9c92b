/- The law SubstPuts, walked. -/
import Derived.Test.YtkncchhalahpoaaU2
namespace Go.Proofs.Ytkncchhalahpoaa
open Go.RowKit
set_option linter.unusedVariables false
set_option linter.unusedSimpArgs false
set_option maxHeartbeats 4000000 in
set_option maxRecDepth 100000 in
theorem puts5_law (a : Tr) (x : Int) (t : Tr) (A A' : Option Addr) (c c' : Nat) (w : World) (ha : IsT w w.heap.size a A c) (ht : IsT w w.heap.size t A' c') :
    Calls Try.prog 3 #[.agg #[.int .i64 a.k, .int .i64 a.i, .slice A a.ks.length c], .int .i64 x, .agg #[.int .i64 t.k, .int .i64 t.i, .slice A' t.ks.length c']] w fun e w' => e = .returned (.bool true) ∧ Below w.heap.size w w' := by
  have E0 := Lib.hid (env2 ha ht)
  obtain ⟨a0, a1, a2⟩ := E0.out.cells w.heap.size a A c (by simp)
  obtain ⟨t0, t1, t2⟩ := E0.out.cells (w.heap.size + 1) t A' c' (by simp)
  clear ha ht
  go_enter Try.func3, Try.ntmps3
  go_wp2_with fail
  refine (sput_any a A c x t A' c' _ (by exact E0.out.tree w.heap.size a A c (by simp)) (by exact E0.out.tree (w.heap.size + 1) t A' c' (by simp))).mono ?_
  rintro e w1 ⟨hb1, A1, c1, ho1, rfl⟩
  have E1 := Lib.hid ((E0.out.keep hb1).push (AnsPost.is ho1 (eachR_fit _ _)))
  clear hb1 ho1 a0 a1 a2 t0 t1 t2 E0
  obtain ⟨a0, a1, a2⟩ := E1.out.cells w.heap.size a A c (by simp)
  obtain ⟨t0, t1, t2⟩ := E1.out.cells (w.heap.size + 1) t A' c' (by simp)
  go_wp2_with fail
  refine (rput5_any a t x A A' c c' _ (by exact E1.out.tree w.heap.size a A c (by simp)) (by exact E1.out.tree (w.heap.size + 1) t A' c' (by simp))).mono ?_
  rintro e w2 ⟨hb2, A2, c2, i2, rfl⟩
  have E2 := Lib.hid ((E1.out.keep hb2).push i2)
  clear hb2 i2 a0 a1 a2 t0 t1 t2 E1
  obtain ⟨a0, a1, a2⟩ := E2.out.cells w1.heap.size (eachR a [(x, t)]).1 A1 c1 (by simp)
  obtain ⟨n0, n1, n2⟩ := E2.out.cells w2.heap.size (eachR a [(x, t)]).1 A2 c2 (by simp)
  go_wp2_with fail
  refine (like_any _ _ A1 A2 c1 c2 _ (by exact E2.out.tree w1.heap.size (eachR a [(x, t)]).1 A1 c1 (by simp)) (by exact E2.out.tree w2.heap.size (eachR a [(x, t)]).1 A2 c2 (by simp))).mono ?_
  rintro e w3 ⟨rfl, hb3⟩
  rw [like_refl]
  have E3 := Lib.hid (E2.out.keep hb3)
  clear hb3
  go_wp2_with fail
  go_ret
  exact ⟨rfl, E3.out.below⟩
end Go.Proofs.Ytkncchhalahpoaa
