/- The laws FreeCatches, FreeSafe, walked. -/
import Derived.Test.YtfleomamhkeiiaaF8
import Derived.Test.YtfleomamhkeiiaaT14
namespace Go.Proofs.Ytfleomamhkeiiaa
open Go.RowKit
set_option linter.unusedVariables false
set_option linter.unusedSimpArgs false
set_option maxHeartbeats 2000000 in
set_option maxRecDepth 100000 in
theorem catches_law (t : Tr) (x : Int) (a : Tr) (A A' : Option Addr) (c c' : Nat) (w : World) (ht : IsT w w.heap.size t A c) (ha : IsT w w.heap.size a A' c') :
    Calls Try.prog 8 #[.agg #[.int .i64 t.k, .int .i64 t.i, .slice A t.ks.length c], .int .i64 x, .agg #[.int .i64 a.k, .int .i64 a.i, .slice A' a.ks.length c']] w fun e w' => e = .returned (.bool true) ∧ Below w.heap.size w w' := by
  have T0 := Lib.hid (two_start ht ha)
  have b0 := T0.out.b0
  have b1 := T0.out.b1
  have b2 := T0.out.b2
  have d0 := T0.out.d0
  have d1 := T0.out.d1
  have d2 := T0.out.d2
  clear ht ha
  go_enter Try.func8, Try.ntmps8
  go_wp2_with fail
  refine (caught_any t a x A A' c c' _ (by exact T0.out.ta) (by exact T0.out.tb)).mono ?_
  rintro e w1 ⟨rfl, hb⟩
  have T1 := Lib.hid (T0.out.keep hb)
  clear hb b0 b1 b2 d0 d1 d2
  have b0 := T1.out.b0
  have b1 := T1.out.b1
  have b2 := T1.out.b2
  have d0 := T1.out.d0
  have d1 := T1.out.d1
  have d2 := T1.out.d2
  go_wp2_with fail
  refine (rcaughtf_any t a x A A' c c' _ (by exact T1.out.ta) (by exact T1.out.tb)).mono ?_
  rintro e w2 ⟨rfl, hb⟩
  have T2 := Lib.hid (T1.out.keep hb)
  clear hb b0 b1 b2 d0 d1 d2
  have b0 := T2.out.b0
  have b1 := T2.out.b1
  have b2 := T2.out.b2
  have d0 := T2.out.d0
  have d1 := T2.out.d1
  have d2 := T2.out.d2
  go_wp2_with fail
  refine (freeFor_any t a x A A' c c' _ (by exact T2.out.ta) (by exact T2.out.tb)).mono ?_
  rintro e w3 ⟨rfl, hb⟩
  have T3 := Lib.hid (T2.out.keep hb)
  clear hb b0 b1 b2 d0 d1 d2
  have b0 := T3.out.b0
  have b1 := T3.out.b1
  have b2 := T3.out.b2
  have d0 := T3.out.d0
  have d1 := T3.out.d1
  have d2 := T3.out.d2
  go_wp2_with fail
  refine (rfreefor_any t a x A A' c c' _ (by exact T3.out.ta) (by exact T3.out.tb)).mono ?_
  rintro e w4 ⟨rfl, hb⟩
  have T4 := Lib.hid (T3.out.keep hb)
  clear hb b0 b1 b2 d0 d1 d2
  have b0 := T4.out.b0
  have b1 := T4.out.b1
  have b2 := T4.out.b2
  have d0 := T4.out.d0
  have d1 := T4.out.d1
  have d2 := T4.out.d2
  obtain ⟨vb, hvb⟩ : ∃ vb, vb = ffB x t a := ⟨_, rfl⟩
  rw [← hvb]
  clear hvb
  cases vb with
  | true =>
    go_wp2_with fail
    go_ret
    exact ⟨by simp, T4.out.below⟩
  | false =>
    go_wp2_with fail
    go_ret
    exact ⟨by simp, T4.out.below⟩
/-- is it right, and a term? a formula? as the document asks -/
def rTB (t : Tr) : Bool := decide (rightN t = 0) && termB t.k
def rFB (t : Tr) : Bool := decide (rightN t = 0) && !termB t.k
set_option maxHeartbeats 1000000 in
theorem risterm_any (t : Tr) (A : Option Addr) (c : Nat) (w : World) (ht : IsT w w.heap.size t A c) :
    Calls Try.prog 35 #[.agg #[.int .i64 t.k, .int .i64 t.i, .slice A t.ks.length c]] w fun e w' => e = .returned (.bool (rTB t)) ∧ Below w.heap.size w w' := by
  have T0 := Lib.hid (One.new ht)
  obtain ⟨y0, y1, y2⟩ := And.intro T0.out.b0 (And.intro T0.out.b1 T0.out.b2)
  clear ht
  go_enter Try.func35, Try.ntmps35
  go_wp2_with fail
  refine (rright_any t A c _ (by exact T0.out.tree)).mono ?_
  rintro e w1 ⟨rfl, hb1⟩
  have T1 := Lib.hid (T0.out.keep hb1)
  obtain ⟨z0, z1, z2⟩ := And.intro T1.out.b0 (And.intro T1.out.b1 T1.out.b2)
  clear hb1 y0 y1 y2
  by_cases hr : rightN t = 0
  · have h0 : ((rightN t : Int) == 0) = true := by simp [hr]
    have F := Lib.hid (show rTB t = termB t.k by unfold rTB; rw [decide_eq_true hr]; rfl)
    clear hr
    go_wp2_with fail
    refine (term_any t.k t.i A t.ks.length c _).mono ?_
    rintro e w2 ⟨rfl, hb2⟩
    have T2 := Lib.hid (T1.out.keep hb2)
    clear hb2
    obtain ⟨tb, htb⟩ : ∃ tb, tb = termB t.k := ⟨_, rfl⟩
    rw [← htb] at F ⊢
    clear htb
    cases tb
    all_goals
      go_wp2_with fail
      go_ret
      exact ⟨by rw [F.out]; rfl, T2.out.below⟩
  · have h0 : ((rightN t : Int) == 0) = false := by rw [beq_eq_false_iff_ne]; omega
    have F := Lib.hid (show rTB t = false by unfold rTB; rw [decide_eq_false hr]; rfl)
    clear hr
    go_wp2_with fail
    go_ret
    exact ⟨by rw [F.out]; rfl, T1.out.below⟩
set_option maxHeartbeats 1000000 in
theorem risform_any (t : Tr) (A : Option Addr) (c : Nat) (w : World) (ht : IsT w w.heap.size t A c) :
    Calls Try.prog 32 #[.agg #[.int .i64 t.k, .int .i64 t.i, .slice A t.ks.length c]] w fun e w' => e = .returned (.bool (rFB t)) ∧ Below w.heap.size w w' := by
  have T0 := Lib.hid (One.new ht)
  obtain ⟨y0, y1, y2⟩ := And.intro T0.out.b0 (And.intro T0.out.b1 T0.out.b2)
  clear ht
  go_enter Try.func32, Try.ntmps32
  go_wp2_with fail
  refine (rright_any t A c _ (by exact T0.out.tree)).mono ?_
  rintro e w1 ⟨rfl, hb1⟩
  have T1 := Lib.hid (T0.out.keep hb1)
  obtain ⟨z0, z1, z2⟩ := And.intro T1.out.b0 (And.intro T1.out.b1 T1.out.b2)
  clear hb1 y0 y1 y2
  by_cases hr : rightN t = 0
  · have h0 : ((rightN t : Int) == 0) = true := by simp [hr]
    have F := Lib.hid (show rFB t = !termB t.k by unfold rFB; rw [decide_eq_true hr]; rfl)
    clear hr
    go_wp2_with fail
    refine (term_any t.k t.i A t.ks.length c _).mono ?_
    rintro e w2 ⟨rfl, hb2⟩
    have T2 := Lib.hid (T1.out.keep hb2)
    clear hb2
    obtain ⟨tb, htb⟩ : ∃ tb, tb = termB t.k := ⟨_, rfl⟩
    rw [← htb] at F ⊢
    clear htb
    cases tb
    all_goals
      go_wp2_with fail
      go_ret
      exact ⟨by rw [F.out]; rfl, T2.out.below⟩
  · have h0 : ((rightN t : Int) == 0) = false := by rw [beq_eq_false_iff_ne]; omega
    have F := Lib.hid (show rFB t = false by unfold rFB; rw [decide_eq_false hr]; rfl)
    clear hr
    go_wp2_with fail
    go_ret
    exact ⟨by rw [F.out]; rfl, T1.out.below⟩
theorem isT_leaf (w : World) (B : Nat) (k i : Int) (n : Nat) : IsT w B (.node k i []) none 0 := IsT.mk (by simp [Tr.ks]) (by simp [Tr.ks, Cap]) (fun m hm => by simp [Tr.ks] at hm)
set_option maxHeartbeats 4000000 in
set_option maxRecDepth 100000 in
theorem safe_law (t : Tr) (x : Int) (a : Tr) (A A' : Option Addr) (c c' : Nat) (w : World) (ht : IsT w w.heap.size t A c) (ha : IsT w w.heap.size a A' c') :
    Calls Try.prog 12 #[.agg #[.int .i64 t.k, .int .i64 t.i, .slice A t.ks.length c], .int .i64 x, .agg #[.int .i64 a.k, .int .i64 a.i, .slice A' a.ks.length c']] w fun e w' => e = .returned (.bool true) ∧ Below w.heap.size w w' := by
  have T0 := Lib.hid (two_start ht ha)
  have b0 := T0.out.b0
  have b1 := T0.out.b1
  have b2 := T0.out.b2
  have d0 := T0.out.d0
  have d1 := T0.out.d1
  have d2 := T0.out.d2
  clear ht ha
  cases hT : rTB t with
  | false =>
    go_enter Try.func12, Try.ntmps12
    go_wp2_with fail
    refine (risterm_any t A c _ (by exact T0.out.ta)).mono ?_
    rintro e w1 ⟨rfl, hb⟩
    rw [hT]
    have T1 := Lib.hid (T0.out.keep hb)
    clear hb b0 b1 b2 d0 d1 d2
    go_wp2_with fail
    go_ret
    exact ⟨rfl, T1.out.below⟩
  | true =>
    by_cases hra : rightN a = 0
    · have h0 : ((rightN a : Int) != 0) = false := by simp [hra]
      by_cases hx0 : x < 0
      · go_enter Try.func12, Try.ntmps12
        go_wp2_with fail
        refine (risterm_any t A c _ (by exact T0.out.ta)).mono ?_
        rintro e w1 ⟨rfl, hb⟩
        rw [hT]
        have T1 := Lib.hid (T0.out.keep hb)
        clear hb b0 b1 b2 d0 d1 d2
        have b0 := T1.out.b0
        have b1 := T1.out.b1
        have b2 := T1.out.b2
        have d0 := T1.out.d0
        have d1 := T1.out.d1
        have d2 := T1.out.d2
        go_wp2_with fail
        refine (rright_any a A' c' _ (by exact T1.out.tb)).mono ?_
        rintro e w2 ⟨rfl, hb⟩
        have T2 := Lib.hid (T1.out.keep hb)
        clear hb b0 b1 b2 d0 d1 d2 hra
        go_wp2_with fail
        go_ret
        exact ⟨rfl, T2.out.below⟩
      · by_cases hx1 : 63 < x
        · go_enter Try.func12, Try.ntmps12
          go_wp2_with fail
          refine (risterm_any t A c _ (by exact T0.out.ta)).mono ?_
          rintro e w1 ⟨rfl, hb⟩
          rw [hT]
          have T1 := Lib.hid (T0.out.keep hb)
          clear hb b0 b1 b2 d0 d1 d2
          have b0 := T1.out.b0
          have b1 := T1.out.b1
          have b2 := T1.out.b2
          have d0 := T1.out.d0
          have d1 := T1.out.d1
          have d2 := T1.out.d2
          go_wp2_with fail
          refine (rright_any a A' c' _ (by exact T1.out.tb)).mono ?_
          rintro e w2 ⟨rfl, hb⟩
          have T2 := Lib.hid (T1.out.keep hb)
          clear hb b0 b1 b2 d0 d1 d2 hra
          go_wp2_with fail
          go_ret
          exact ⟨rfl, T2.out.below⟩
        · have g0 : 0 ≤ x := by omega
          have g1 : x ≤ 63 := by omega
          have hrt : rightN t = 0 := by unfold rTB at hT; simp at hT; exact hT.1
          have htk : termB t.k = true := by unfold rTB at hT; simp at hT; exact hT.2
          have AE := Lib.hid (show askN x t a = 0 by
            unfold askN
            rw [if_pos ⟨g0, g1⟩, show firstN t a = 0 by unfold firstN; rw [if_neg (by simp [hrt])]; exact hra, if_pos rfl]
            unfold wantTN
            rw [if_pos hrt, if_pos htk])
          have CE := Lib.hid (show catV x t a = catT (varsT t) x a by unfold catV; rw [if_pos AE.out])
          have VE := Lib.hid (show valR varsT t = varsT t from valR_ok hrt)
          have BE := Lib.hid (show valR boundT a = boundT a from valR_ok hra)
          have NE := Lib.hid (show nfE x a = 0 by unfold nfE; rw [if_pos ⟨g0, g1⟩, hra])
          have NB := Lib.hid (show nfB x a = !hasN (freeT a) x by unfold nfB; rw [if_pos ⟨g0, g1⟩, if_pos hra])
          have AV := Lib.hid (show askN x (.node 1 x []) a = 0 by
            unfold askN
            rw [if_pos ⟨g0, g1⟩, show firstN (.node 1 x []) a = 0 by unfold firstN; rw [if_neg (by simp [right_var g0 g1])]; exact hra, if_pos rfl]
            unfold wantTN
            rw [if_pos (right_var g0 g1)]
            rfl)
          have FV := Lib.hid (show ffB x (.node 1 x []) a = true by
            unfold ffB catV
            rw [if_pos AV.out, cat_var x g0 g1 a, decide_eq_true AV.out]
            rfl)
          have X1 := Lib.hid (andNot_zero (catT_U (varsT t) x a) (varsT_U t) (cat_own (varsT t) x a))
          have X2 := Lib.hid (andNot_zero (catT_U (varsT t) x a) (boundT_U a) (cat_bound (varsT t) x a))
          have X3 := Lib.hid (show hasN (freeT a) x = false → catT (varsT t) x a = 0 from fun h => by rw [catT_eq, h]; rfl)
          have X4 := Lib.hid (show varsT t = 0 → catT (varsT t) x a = 0 from fun h => by rw [h]; exact cat_zero x a)
          have FC := Lib.hid (fun (W : World) (h : IsT W W.heap.size a A' c') => freeFor_any (.node 1 x []) a x none A' 0 c' W (isT_leaf W _ 1 x 0) h)
          simp only [Tr.k, Tr.i, Tr.ks, List.length_nil] at FC
          rw [FV.out, AV.out] at FC
          have n0 : ¬ x < 0 := hx0
          have n1 : ¬ 63 < x := hx1
          have RA := Lib.hid hra
          clear hx0 hx1 hrt htk g0 g1 FV AV hra
          go_enter Try.func12, Try.ntmps12
          go_wp2_with fail
          refine (risterm_any t A c _ (by exact T0.out.ta)).mono ?_
          rintro e w1 ⟨rfl, hb⟩
          rw [hT]
          have T1 := Lib.hid (T0.out.keep hb)
          clear hb b0 b1 b2 d0 d1 d2
          have b0 := T1.out.b0
          have b1 := T1.out.b1
          have b2 := T1.out.b2
          have d0 := T1.out.d0
          have d1 := T1.out.d1
          have d2 := T1.out.d2
          go_wp2_with fail
          refine (rright_any a A' c' _ (by exact T1.out.tb)).mono ?_
          rintro e w2 ⟨rfl, hb⟩
          have T2 := Lib.hid (T1.out.keep hb)
          clear hb b0 b1 b2 d0 d1 d2
          have b0 := T2.out.b0
          have b1 := T2.out.b1
          have b2 := T2.out.b2
          have d0 := T2.out.d0
          have d1 := T2.out.d1
          have d2 := T2.out.d2
          go_wp2_with fail
          refine (caught_any t a x A A' c c' _ (by exact T2.out.ta) (by exact T2.out.tb)).mono ?_
          rintro e w3 ⟨rfl, hb⟩
          rw [AE.out, CE.out]
          have T3 := Lib.hid (T2.out.keep hb)
          clear hb b0 b1 b2 d0 d1 d2
          have b0 := T3.out.b0
          have b1 := T3.out.b1
          have b2 := T3.out.b2
          have d0 := T3.out.d0
          have d1 := T3.out.d1
          have d2 := T3.out.d2
          go_wp2_with fail
          refine (vars_any t A c _ (by exact T3.out.ta)).mono ?_
          rintro e w4 ⟨rfl, hb⟩
          rw [VE.out, show rightN t = 0 by unfold rTB at hT; simp at hT; exact hT.1]
          have T4 := Lib.hid (T3.out.keep hb)
          clear hb b0 b1 b2 d0 d1 d2
          have b0 := T4.out.b0
          have b1 := T4.out.b1
          have b2 := T4.out.b2
          have d0 := T4.out.d0
          have d1 := T4.out.d1
          have d2 := T4.out.d2
          go_wp2_with fail
          refine (bound_any a A' c' _ (by exact T4.out.tb)).mono ?_
          rintro e w5 ⟨rfl, hb⟩
          rw [BE.out, RA.out]
          have T5 := Lib.hid (T4.out.keep hb)
          clear hb b0 b1 b2 d0 d1 d2
          have b0 := T5.out.b0
          have b1 := T5.out.b1
          have b2 := T5.out.b2
          have d0 := T5.out.d0
          have d1 := T5.out.d1
          have d2 := T5.out.d2
          go_wp2_with fail
          refine (notFree_any x a A' c' _ (by exact T5.out.tb)).mono ?_
          rintro e w6 ⟨rfl, hb⟩
          rw [NE.out, NB.out]
          have T6 := Lib.hid (T5.out.keep hb)
          clear hb b0 b1 b2 d0 d1 d2
          have b0 := T6.out.b0
          have b1 := T6.out.b1
          have b2 := T6.out.b2
          have d0 := T6.out.d0
          have d1 := T6.out.d1
          have d2 := T6.out.d2
          go_wp2_with fail
          refine (FC.out _ (by exact T6.out.tb)).mono ?_
          rintro e w7 ⟨rfl, hb⟩
          have T7 := Lib.hid (T6.out.keep hb)
          clear hb b0 b1 b2 d0 d1 d2
          obtain ⟨s, hs⟩ : ∃ s, s = catT (varsT t) x a := ⟨_, rfl⟩
          obtain ⟨v, hv⟩ : ∃ v, v = varsT t := ⟨_, rfl⟩
          obtain ⟨bb, hbb⟩ : ∃ bb, bb = boundT a := ⟨_, rfl⟩
          rw [← hv] at hs X1 X2 X3 X4 ⊢
          rw [← hbb] at X2 ⊢
          rw [← hs] at X1 X2 X3 X4 ⊢
          have z1 := X1.out
          have z2 := X2.out
          clear hs hv hbb AE CE VE BE NE NB FC
          cases hfr : hasN (freeT a) x with
          | false =>
            obtain rfl := X3.out hfr
            by_cases hv0 : v = 0
            · subst hv0
              go_wp2_with fail
              go_ret
              exact ⟨by simp, T7.out.below⟩
            · have e1 : ((v : Int) != 0) = true := by rw [bne_iff_ne]; omega
              go_wp2_with fail
              go_ret
              exact ⟨by simp, T7.out.below⟩
          | true =>
            by_cases hv0 : v = 0
            · obtain rfl := X4.out hv0
              subst hv0
              go_wp2_with fail
              go_ret
              exact ⟨by simp, T7.out.below⟩
            · have e1 : ((v : Int) != 0) = true := by rw [bne_iff_ne]; omega
              go_wp2_with fail
              go_ret
              exact ⟨by simp, T7.out.below⟩
    · have h0 : ((rightN a : Int) != 0) = true := by rw [bne_iff_ne]; omega
      go_enter Try.func12, Try.ntmps12
      go_wp2_with fail
      refine (risterm_any t A c _ (by exact T0.out.ta)).mono ?_
      rintro e w1 ⟨rfl, hb⟩
      rw [hT]
      have T1 := Lib.hid (T0.out.keep hb)
      clear hb b0 b1 b2 d0 d1 d2
      have b0 := T1.out.b0
      have b1 := T1.out.b1
      have b2 := T1.out.b2
      have d0 := T1.out.d0
      have d1 := T1.out.d1
      have d2 := T1.out.d2
      go_wp2_with fail
      refine (rright_any a A' c' _ (by exact T1.out.tb)).mono ?_
      rintro e w2 ⟨rfl, hb⟩
      have T2 := Lib.hid (T1.out.keep hb)
      clear hb b0 b1 b2 d0 d1 d2
      go_wp2_with fail
      go_ret
      exact ⟨rfl, T2.out.below⟩
end Go.Proofs.Ytfleomamhkeiiaa
