/- The law SubstOnce, walked. -/
import Derived.Test.YtkncchhalahpoaaV0
import Derived.Test.YtkncchhalahpoaaL12
namespace Go.Proofs.Ytkncchhalahpoaa
open Go.RowKit
set_option linter.unusedVariables false
set_option linter.unusedSimpArgs false
set_option maxHeartbeats 4000000 in
set_option maxRecDepth 100000 in
theorem once_law (a : Tr) (x : Int) (t : Tr) (A A' : Option Addr) (c c' : Nat) (w : World) (ha : IsT w w.heap.size a A c) (ht : IsT w w.heap.size t A' c') :
    Calls Try.prog 13 #[.agg #[.int .i64 a.k, .int .i64 a.i, .slice A a.ks.length c], .int .i64 x, .agg #[.int .i64 t.k, .int .i64 t.i, .slice A' t.ks.length c']] w fun e w' => e = .returned (.bool true) ∧ Below w.heap.size w w' := by
  have E0 := Lib.hid (env2 ha ht)
  obtain ⟨a0, a1, a2⟩ := E0.out.cells w.heap.size a A c (by simp)
  clear ha ht
  go_enter Try.func13, Try.ntmps13
  go_wp2_with fail
  refine (rright_any a A c _ (by exact E0.out.tree w.heap.size a A c (by simp))).mono ?_
  rintro e w1 ⟨rfl, hb1⟩
  have E1 := Lib.hid (E0.out.keep hb1)
  clear hb1 a0 a1 a2 E0
  by_cases hra : rightN a = 0
  · have h0 : ((rightN a : Int) != 0) = false := by simp [hra]
    have RA := Lib.hid hra
    obtain ⟨t0, t1, t2⟩ := E1.out.cells (w.heap.size + 1) t A' c' (by simp)
    clear hra
    go_wp2_with fail
    refine (rright_any t A' c' _ (by exact E1.out.tree (w.heap.size + 1) t A' c' (by simp))).mono ?_
    rintro e w2 ⟨rfl, hb2⟩
    have E2 := Lib.hid (E1.out.keep hb2)
    clear hb2 t0 t1 t2 E1
    by_cases hrt : rightN t = 0
    · have h1 : ((rightN t : Int) != 0) = false := by simp [hrt]
      have RT := Lib.hid hrt
      obtain ⟨a0, a1, a2⟩ := E2.out.cells w.heap.size a A c (by simp)
      clear hrt
      go_wp2_with fail
      refine (each_any a A c [] none 0 _ (by exact E2.out.tree w.heap.size a A c (by simp)) ⟨Nat.le_refl _, by simp, fun m hm => by simp at hm⟩).mono ?_
      rintro e w3 ⟨hb3, A3, c3, ho3, rfl⟩
      rw [eachR_nil RA.out] at ho3 ⊢
      have E3 := Lib.hid ((E2.out.keep hb3).push (AnsPost.is (x := (a, 0)) ho3 (right_fit RA.out)))
      clear hb3 ho3 a0 a1 a2 E2
      obtain ⟨a0, a1, a2⟩ := E3.out.cells w.heap.size a A c (by simp)
      obtain ⟨t0, t1, t2⟩ := E3.out.cells (w.heap.size + 1) t A' c' (by simp)
      have PP := Lib.hid (IsP.one (x := x) (E3.out.tree (w.heap.size + 1) t A' c' (by simp)))
      have E4 := Lib.hid (E3.out.alloc (.cells #[.int .i64 x, .int .i64 t.k, .int .i64 t.i, .slice A' t.ks.length c'] 47))
      go_wp2_with fail
      refine (each_any a A c [(x, t)] _ 1 _ (by exact E4.out.tree w.heap.size a A c (by simp)) (by simpa using PP.out)).mono ?_
      rintro e w5 ⟨hb5, A5, c5, ho5, rfl⟩
      have E5 := Lib.hid ((E4.out.keep hb5).push (AnsPost.is ho5 (eachR_fit _ _)))
      clear hb5 ho5 a0 a1 a2 t0 t1 t2 E3 E4 PP
      obtain ⟨a0, a1, a2⟩ := E5.out.cells w.heap.size a A c (by simp)
      obtain ⟨t0, t1, t2⟩ := E5.out.cells (w.heap.size + 1) t A' c' (by simp)
      go_wp2_with fail
      refine (sput_any a A c x t A' c' _ (by exact E5.out.tree w.heap.size a A c (by simp)) (by exact E5.out.tree (w.heap.size + 1) t A' c' (by simp))).mono ?_
      rintro e w6 ⟨hb6, A6, c6, ho6, rfl⟩
      have E6 := Lib.hid ((E5.out.keep hb6).push (AnsPost.is ho6 (eachR_fit _ _)))
      clear hb6 ho6 a0 a1 a2 t0 t1 t2 E5
      obtain ⟨a0, a1, a2⟩ := E6.out.cells w.heap.size a A c (by simp)
      obtain ⟨n0, n1, n2⟩ := E6.out.cells w3.heap.size a A3 c3 (by simp)
      go_wp2_with fail
      refine (like_any a a A3 A c3 c _ (by exact E6.out.tree w3.heap.size a A3 c3 (by simp)) (by exact E6.out.tree w.heap.size a A c (by simp))).mono ?_
      rintro e w7 ⟨rfl, hb7⟩
      rw [like_refl]
      have E7 := Lib.hid (E6.out.keep hb7)
      clear hb7 a0 a1 a2 n0 n1 n2 E6
      obtain ⟨a0, a1, a2⟩ := E7.out.cells w5.heap.size (eachR a [(x, t)]).1 A5 c5 (by simp)
      obtain ⟨n0, n1, n2⟩ := E7.out.cells w6.heap.size (eachR a [(x, t)]).1 A6 c6 (by simp)
      go_wp2_with fail
      refine (like_any _ _ A5 A6 c5 c6 _ (by exact E7.out.tree w5.heap.size (eachR a [(x, t)]).1 A5 c5 (by simp)) (by exact E7.out.tree w6.heap.size (eachR a [(x, t)]).1 A6 c6 (by simp))).mono ?_
      rintro e w8 ⟨rfl, hb8⟩
      rw [like_refl]
      have E8 := Lib.hid (E7.out.keep hb8)
      clear hb8 a0 a1 a2 n0 n1 n2 E7
      by_cases h40 : (eachR a [(x, t)]).2 = 40
      · have h4 : (((eachR a [(x, t)]).2 : Int) != 40) = false := by simp [h40]
        have RF := Lib.hid (show rFB t = true by
          rw [eachR_snd] at h40
          unfold eachN at h40
          rw [faultE_one] at h40
          unfold rFB
          rw [decide_eq_true RT.out]
          have := RA.out
          have := RT.out
          have := rightN_le (putE [(x, t)] a 0)
          cases htk : termB t.k with
          | false => rfl
          | true =>
            exfalso
            by_cases hx : 0 ≤ x ∧ x ≤ 63
            · simp [hx, RA.out, RT.out, htk] at h40
              split at h40 <;> omega
            · simp [hx] at h40)
        obtain ⟨t0, t1, t2⟩ := E8.out.cells (w.heap.size + 1) t A' c' (by simp)
        clear h40
        go_wp2_with fail
        refine (risform_any t A' c' _ (by exact E8.out.tree (w.heap.size + 1) t A' c' (by simp))).mono ?_
        rintro e w9 ⟨rfl, hb9⟩
        rw [RF.out]
        have E9 := Lib.hid (E8.out.keep hb9)
        clear hb9
        go_wp2_with fail
        go_ret
        exact ⟨rfl, E9.out.below⟩
      · have h4 : (((eachR a [(x, t)]).2 : Int) != 40) = true := by rw [bne_iff_ne]; omega
        clear h40
        go_wp2_with fail
        go_ret
        exact ⟨rfl, E8.out.below⟩
    · have h1 : ((rightN t : Int) != 0) = true := by rw [bne_iff_ne]; omega
      clear hrt
      go_wp2_with fail
      go_ret
      exact ⟨rfl, E2.out.below⟩
  · have h0 : ((rightN a : Int) != 0) = true := by rw [bne_iff_ne]; omega
    clear hra
    go_wp2_with fail
    go_ret
    exact ⟨rfl, E1.out.below⟩
end Go.Proofs.Ytkncchhalahpoaa
