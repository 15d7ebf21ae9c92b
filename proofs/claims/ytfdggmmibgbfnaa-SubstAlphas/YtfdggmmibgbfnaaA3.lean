/- The document's Alpha. -/
import Derived.Test.YtfdggmmibgbfnaaA2
import Derived.Test.YtfdggmmibgbfnaaE3
import Derived.Test.YtfdggmmibgbfnaaT16
namespace Go.Proofs.Ytfdggmmibgbfnaa
open Go.RowKit
set_option linter.unusedVariables false
set_option linter.unusedSimpArgs false
/-- whether two are alike, or why there is no answer -/
def alphaB (a b : Tr) : Bool := if firstN a b = 0 then alikeT a b [] [] else false
theorem dp_small {t : Tr} (h : rightN t = 0) : t.dp ≤ 100 := by
  unfold rightN at h
  split at h
  · cases h
  · split at h
    · cases h
    · omega
set_option maxHeartbeats 2000000 in
set_option maxRecDepth 100000 in
theorem ralpha_any (a b : Tr) (A A' : Option Addr) (c c' : Nat) (w : World) (ha : IsT w w.heap.size a A c) (hb : IsT w w.heap.size b A' c') :
    Calls Try.prog 17 #[.agg #[.int .i64 a.k, .int .i64 a.i, .slice A a.ks.length c], .agg #[.int .i64 b.k, .int .i64 b.i, .slice A' b.ks.length c']] w fun e w' => e = .returned (.tuple #[.bool (alphaB a b), .int .i64 (firstN a b : Nat)]) ∧ Below w.heap.size w w' := by
  have T0 := Lib.hid (two_start ha hb)
  have b0 := T0.out.b0
  have b1 := T0.out.b1
  have b2 := T0.out.b2
  have d0 := T0.out.d0
  have d1 := T0.out.d1
  have d2 := T0.out.d2
  clear ha hb
  go_enter Try.func17, Try.ntmps17
  go_wp2_with fail
  refine (first_any a b A A' c c' _ (by exact T0.out.ta) (by exact T0.out.tb)).mono ?_
  rintro e w1 ⟨rfl, hb1⟩
  have T1 := Lib.hid (T0.out.keep hb1)
  clear hb1 b0 b1 b2 d0 d1 d2
  have b0 := T1.out.b0
  have b1 := T1.out.b1
  have b2 := T1.out.b2
  have d0 := T1.out.d0
  have d1 := T1.out.d1
  have d2 := T1.out.d2
  by_cases h : firstN a b = 0
  · have h0 : ((firstN a b : Int) != 0) = false := by simp [h]
    have F := Lib.hid (show alphaB a b = alikeT a b [] [] by unfold alphaB; rw [if_pos h])
    have ra : rightN a = 0 := by
      unfold firstN at h
      by_cases h1 : rightN a = 0
      · exact h1
      · rw [if_pos h1] at h; exact h
    have dpa := dp_small ra
    have H0 := Lib.hid h
    clear h ra
    go_wp2_with fail
    refine (alike_any a.sz a b A A' c c' [] [] none none 0 0 0 0 _ (Nat.le_refl _) (by exact T1.out.ta) (by exact T1.out.tb) rfl rfl (fun _ => ⟨rfl, rfl⟩) (fun _ => ⟨rfl, rfl⟩) (by omega) (by omega) (Rd.nil _ _ _ _) (Rd.nil _ _ _ _)).mono ?_
    rintro e w2 ⟨rfl, hb2⟩
    have T2 := Lib.hid (T1.out.keep hb2)
    clear hb2
    go_wp2_with fail
    go_ret2
    exact ⟨by rw [F.out, H0.out]; rfl, T2.out.below⟩
  · have h0 : ((firstN a b : Int) != 0) = true := by rw [bne_iff_ne]; omega
    have F := Lib.hid (show alphaB a b = false by unfold alphaB; rw [if_neg h])
    clear h
    go_wp2_with fail
    go_ret2
    exact ⟨by rw [F.out]; rfl, T1.out.below⟩
end Go.Proofs.Ytfdggmmibgbfnaa
