/- The laws SchemaSwaps, SchemaTurned, walked. -/
import Derived.Test.YtmmdhlemkcddmaaG5
import Derived.Test.YtmmdhlemkcddmaaFT
namespace Go.Proofs.Ytmmdhlemkcddmaa
open Go.RowKit
set_option linter.unusedVariables false
set_option linter.unusedSimpArgs false
set_option maxHeartbeats 4000000 in
set_option maxRecDepth 100000 in
theorem swaps_law (a b t u : Tr) (A B T U : Option Addr) (ca cb ct cu : Nat) (w : World) (ha : IsT w w.heap.size a A ca) (hb : IsT w w.heap.size b B cb) (ht : IsT w w.heap.size t T ct) (hu : IsT w w.heap.size u U cu) :
    Calls Try.prog 3 #[.agg #[.int .i64 a.k, .int .i64 a.i, .slice A a.ks.length ca], .agg #[.int .i64 b.k, .int .i64 b.i, .slice B b.ks.length cb], .agg #[.int .i64 t.k, .int .i64 t.i, .slice T t.ks.length ct], .agg #[.int .i64 u.k, .int .i64 u.i, .slice U u.ks.length cu]] w fun e w' => e = .returned (.bool true) ∧ Below w.heap.size w w' := by
  have E0 := Lib.hid (env4 ha hb ht hu)
  obtain ⟨u0, u1, u2⟩ := E0.out.cells (w.heap.size + 3) u U cu (by simp)
  obtain ⟨t0, t1, t2⟩ := E0.out.cells (w.heap.size + 2) t T ct (by simp)
  obtain ⟨b0, b1, b2⟩ := E0.out.cells (w.heap.size + 1) b B cb (by simp)
  obtain ⟨a0, a1, a2⟩ := E0.out.cells w.heap.size a A ca (by simp)
  clear ha hb ht hu
  go_enter Try.func3, Try.ntmps3
  go_wp2_with fail
  refine (sswapped_any a b t u A B T U ca cb ct cu _ (by exact E0.out.tree w.heap.size a A ca (by simp)) (by exact E0.out.tree (w.heap.size + 1) b B cb (by simp)) (by exact E0.out.tree (w.heap.size + 2) t T ct (by simp)) (by exact E0.out.tree (w.heap.size + 3) u U cu (by simp))).mono ?_
  rintro e w1 ⟨rfl, hb1⟩
  have E1 := Lib.hid (E0.out.keep hb1)
  clear hb1 a0 a1 a2 b0 b1 b2 t0 t1 t2 u0 u1 u2 E0
  obtain ⟨u0, u1, u2⟩ := E1.out.cells (w.heap.size + 3) u U cu (by simp)
  obtain ⟨t0, t1, t2⟩ := E1.out.cells (w.heap.size + 2) t T ct (by simp)
  obtain ⟨b0, b1, b2⟩ := E1.out.cells (w.heap.size + 1) b B cb (by simp)
  obtain ⟨a0, a1, a2⟩ := E1.out.cells w.heap.size a A ca (by simp)
  go_wp2_with fail
  refine (rswapped_any a b t u A B T U ca cb ct cu _ (by exact E1.out.tree w.heap.size a A ca (by simp)) (by exact E1.out.tree (w.heap.size + 1) b B cb (by simp)) (by exact E1.out.tree (w.heap.size + 2) t T ct (by simp)) (by exact E1.out.tree (w.heap.size + 3) u U cu (by simp))).mono ?_
  rintro e w2 ⟨rfl, hb2⟩
  have E2 := Lib.hid (E1.out.keep hb2)
  clear hb2 a0 a1 a2 b0 b1 b2 t0 t1 t2 u0 u1 u2 E1
  go_wp2_with fail
  go_ret
  exact ⟨by simp, E2.out.below⟩
theorem rFB_iff {t : Tr} : rFB t = true ↔ rightN t = 0 ∧ termB t.k = false := by unfold rFB; rw [Bool.and_eq_true, decide_eq_true_iff, Bool.not_eq_true']
theorem rTB_iff {t : Tr} : rTB t = true ↔ rightN t = 0 ∧ termB t.k = true := by unfold rTB; rw [Bool.and_eq_true, decide_eq_true_iff]
theorem firstL_none {ks : List Tr} (h : ∀ q ∈ ks, rightN q = 0) : firstL ks = 0 := by
  induction ks with
  | nil => rfl
  | cons t r ih => simp only [firstL]; rw [if_neg (by simp [h t (by simp)])]; exact ih fun q hq => h q (by simp [hq])
theorem swN_zero {a b t u : Tr} (ha : rFB a = true) (hb : rFB b = true) (ht : rTB t = true) (hu : rTB u = true) : swN a b t u = 0 := by
  have ha := rFB_iff.1 ha
  have hb := rFB_iff.1 hb
  have ht := rTB_iff.1 ht
  have hu := rTB_iff.1 hu
  unfold swN sortedN
  rw [if_neg (by rw [firstL_none (by simp [ha.1, hb.1, ht.1, hu.1])]; simp), if_pos (sortsB_true fun j hj => ?_)]
  have hj4 : j < 4 := hj
  rcases Nat.lt_or_ge j 2 with h1 | h1
  · rcases Nat.lt_or_ge j 1 with h2 | h2
    · obtain rfl : j = 0 := by omega
      exact ha.2
    · obtain rfl : j = 1 := by omega
      exact hb.2
  · rcases Nat.lt_or_ge j 3 with h2 | h2
    · obtain rfl : j = 2 := by omega
      exact ht.2
    · obtain rfl : j = 3 := by omega
      exact hu.2
theorem swV_zero {a b t u : Tr} (h : swN a b t u = 0) : swV a b t u = swpT t u (varsT t ||| varsT u) a b true := by unfold swV; rw [if_pos h]
set_option maxHeartbeats 4000000 in
set_option maxRecDepth 100000 in
theorem turned_law (a b t u : Tr) (A B T U : Option Addr) (ca cb ct cu : Nat) (w : World) (ha : IsT w w.heap.size a A ca) (hb : IsT w w.heap.size b B cb) (ht : IsT w w.heap.size t T ct) (hu : IsT w w.heap.size u U cu) :
    Calls Try.prog 4 #[.agg #[.int .i64 a.k, .int .i64 a.i, .slice A a.ks.length ca], .agg #[.int .i64 b.k, .int .i64 b.i, .slice B b.ks.length cb], .agg #[.int .i64 t.k, .int .i64 t.i, .slice T t.ks.length ct], .agg #[.int .i64 u.k, .int .i64 u.i, .slice U u.ks.length cu]] w fun e w' => e = .returned (.bool true) ∧ Below w.heap.size w w' := by
  have E0 := Lib.hid (env4 ha hb ht hu)
  obtain ⟨a0, a1, a2⟩ := E0.out.cells w.heap.size a A ca (by simp)
  clear ha hb ht hu
  go_enter Try.func4, Try.ntmps4
  go_wp2_with fail
  refine (risform_any a A ca _ (by exact E0.out.tree w.heap.size a A ca (by simp))).mono ?_
  rintro e w1 ⟨rfl, hb1⟩
  have E1 := Lib.hid (E0.out.keep hb1)
  clear hb1 a0 a1 a2 E0
  cases ra : rFB a with
  | false =>
    go_wp2_with fail
    go_ret
    exact ⟨rfl, E1.out.below⟩
  | true =>
  have RA := Lib.hid ra
  clear ra
  obtain ⟨b0, b1, b2⟩ := E1.out.cells (w.heap.size + 1) b B cb (by simp)
  go_wp2_with fail
  refine (risform_any b B cb _ (by exact E1.out.tree (w.heap.size + 1) b B cb (by simp))).mono ?_
  rintro e w2 ⟨rfl, hb2⟩
  have E2 := Lib.hid (E1.out.keep hb2)
  clear hb2 b0 b1 b2 E1
  cases rb : rFB b with
  | false =>
    go_wp2_with fail
    go_ret
    exact ⟨rfl, E2.out.below⟩
  | true =>
  have RB := Lib.hid rb
  clear rb
  obtain ⟨t0, t1, t2⟩ := E2.out.cells (w.heap.size + 2) t T ct (by simp)
  go_wp2_with fail
  refine (risterm_any t T ct _ (by exact E2.out.tree (w.heap.size + 2) t T ct (by simp))).mono ?_
  rintro e w3 ⟨rfl, hb3⟩
  have E3 := Lib.hid (E2.out.keep hb3)
  clear hb3 t0 t1 t2 E2
  cases rt : rTB t with
  | false =>
    go_wp2_with fail
    go_ret
    exact ⟨rfl, E3.out.below⟩
  | true =>
  have RT := Lib.hid rt
  clear rt
  obtain ⟨t0, t1, t2⟩ := E3.out.cells (w.heap.size + 3) u U cu (by simp)
  go_wp2_with fail
  refine (risterm_any u U cu _ (by exact E3.out.tree (w.heap.size + 3) u U cu (by simp))).mono ?_
  rintro e w4 ⟨rfl, hb4⟩
  have E4 := Lib.hid (E3.out.keep hb4)
  clear hb4 t0 t1 t2 E3
  cases ru : rTB u with
  | false =>
    go_wp2_with fail
    go_ret
    exact ⟨rfl, E4.out.below⟩
  | true =>
  have N1 := Lib.hid (swN_zero RA.out RA.out RT.out ru)
  have N2 := Lib.hid (swN_zero RA.out RB.out RT.out ru)
  have N3 := Lib.hid (swN_zero RB.out RA.out ru RT.out)
  have V1 := Lib.hid (show swV a a t u = true by rw [swV_zero N1.out]; exact swp_refl _ _ _ _ _)
  have V2 := Lib.hid (show swV b a u t = swV a b t u by rw [swV_zero N2.out, swV_zero N3.out, swp_back u t _ b a true, Nat.or_comm])
  clear ru
  obtain ⟨u0, u1, u2⟩ := E4.out.cells (w.heap.size + 3) u U cu (by simp)
  obtain ⟨t0, t1, t2⟩ := E4.out.cells (w.heap.size + 2) t T ct (by simp)
  obtain ⟨a0, a1, a2⟩ := E4.out.cells w.heap.size a A ca (by simp)
  go_wp2_with fail
  refine (sswapped_any a a t u A A T U ca ca ct cu _ (by exact E4.out.tree w.heap.size a A ca (by simp)) (by exact E4.out.tree w.heap.size a A ca (by simp)) (by exact E4.out.tree (w.heap.size + 2) t T ct (by simp)) (by exact E4.out.tree (w.heap.size + 3) u U cu (by simp))).mono ?_
  rintro e w5 ⟨rfl, hb5⟩
  have E5 := Lib.hid (E4.out.keep hb5)
  clear hb5 a0 a1 a2 t0 t1 t2 u0 u1 u2 E4
  rw [V1.out, N1.out]
  obtain ⟨u0, u1, u2⟩ := E5.out.cells (w.heap.size + 3) u U cu (by simp)
  obtain ⟨t0, t1, t2⟩ := E5.out.cells (w.heap.size + 2) t T ct (by simp)
  obtain ⟨b0, b1, b2⟩ := E5.out.cells (w.heap.size + 1) b B cb (by simp)
  obtain ⟨a0, a1, a2⟩ := E5.out.cells w.heap.size a A ca (by simp)
  go_wp2_with fail
  refine (sswapped_any a b t u A B T U ca cb ct cu _ (by exact E5.out.tree w.heap.size a A ca (by simp)) (by exact E5.out.tree (w.heap.size + 1) b B cb (by simp)) (by exact E5.out.tree (w.heap.size + 2) t T ct (by simp)) (by exact E5.out.tree (w.heap.size + 3) u U cu (by simp))).mono ?_
  rintro e w6 ⟨rfl, hb6⟩
  have E6 := Lib.hid (E5.out.keep hb6)
  clear hb6 a0 a1 a2 b0 b1 b2 t0 t1 t2 u0 u1 u2 E5
  rw [N2.out]
  obtain ⟨v, hv⟩ : ∃ v, v = swV a b t u := ⟨_, rfl⟩
  rw [← hv] at V2 ⊢
  clear hv
  obtain ⟨u0, u1, u2⟩ := E6.out.cells (w.heap.size + 3) u U cu (by simp)
  obtain ⟨t0, t1, t2⟩ := E6.out.cells (w.heap.size + 2) t T ct (by simp)
  obtain ⟨b0, b1, b2⟩ := E6.out.cells (w.heap.size + 1) b B cb (by simp)
  obtain ⟨a0, a1, a2⟩ := E6.out.cells w.heap.size a A ca (by simp)
  go_wp2_with fail
  refine (sswapped_any b a u t B A U T cb ca cu ct _ (by exact E6.out.tree (w.heap.size + 1) b B cb (by simp)) (by exact E6.out.tree w.heap.size a A ca (by simp)) (by exact E6.out.tree (w.heap.size + 3) u U cu (by simp)) (by exact E6.out.tree (w.heap.size + 2) t T ct (by simp))).mono ?_
  rintro e w7 ⟨rfl, hb7⟩
  have E7 := Lib.hid (E6.out.keep hb7)
  clear hb7 a0 a1 a2 b0 b1 b2 t0 t1 t2 u0 u1 u2 E6
  rw [N3.out, V2.out]
  go_wp2_with fail
  go_ret
  exact ⟨by simp, E7.out.below⟩
end Go.Proofs.Ytmmdhlemkcddmaa
