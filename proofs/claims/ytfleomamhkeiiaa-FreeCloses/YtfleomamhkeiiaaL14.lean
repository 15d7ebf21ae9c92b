/- The laws FreeCloses, FreeClosed, walked. -/
import Derived.Test.YtfleomamhkeiiaaF11
namespace Go.Proofs.Ytfleomamhkeiiaa
open Go.RowKit
set_option linter.unusedVariables false
set_option linter.unusedSimpArgs false
theorem like_self (a : Tr) : likeB a a = true := by unfold likeB; exact decide_eq_true (cmpT_self a)
set_option maxHeartbeats 4000000 in
set_option maxRecDepth 100000 in
theorem closes_law (t : Tr) (A : Option Addr) (c : Nat) (w : World) (ht : IsT w w.heap.size t A c) :
    Calls Try.prog 9 #[.agg #[.int .i64 t.k, .int .i64 t.i, .slice A t.ks.length c]] w fun e w' => e = .returned (.bool true) ∧ Below w.heap.size w w' := by
  have T0 := Lib.hid (One.new ht)
  have b0 := T0.out.b0
  have b1 := T0.out.b1
  have b2 := T0.out.b2
  clear ht
  obtain ⟨q, n, hq⟩ : ∃ q n, closeA t = (q, n) := ⟨_, _, rfl⟩
  have HQ := Lib.hid hq
  clear hq
  go_enter Try.func9, Try.ntmps9
  go_wp2_with fail
  refine (close_any t A c _ (by exact T0.out.tree)).mono ?_
  rintro e w1 ⟨hb, A1, c1, i1, he⟩
  rw [HQ.out] at i1 he
  subst he
  have T1 := Lib.hid ((T0.out.keep hb).keep (alB w1 (.cells #[.int .i64 q.k, .int .i64 q.i, .slice A1 q.ks.length c1] 24)))
  have B1 := Lib.hid (Bt.new i1)
  clear hb b0 b1 b2 i1 T0
  have b0 := T1.out.b0
  have b1 := T1.out.b1
  have b2 := T1.out.b2
  go_wp2_with fail
  refine (rclose_any t A c _ (by exact T1.out.tree)).mono ?_
  rintro e w2 ⟨hb, A2, c2, i2, he⟩
  rw [HQ.out] at i2 he
  subst he
  have T2 := Lib.hid ((T1.out.keep hb).keep (alB w2 (.cells #[.int .i64 q.k, .int .i64 q.i, .slice A2 q.ks.length c2] 24)))
  have B2 := Lib.hid ((B1.out.keep hb).keep (alB w2 (.cells #[.int .i64 q.k, .int .i64 q.i, .slice A2 q.ks.length c2] 24)))
  have D2 := Lib.hid (Bt.new i2)
  clear hb b0 b1 b2 i2 T1 B1
  have b0 := B2.out.c0
  have b1 := B2.out.c1
  have b2 := B2.out.c2
  have d0 := D2.out.c0
  have d1 := D2.out.c1
  have d2 := D2.out.c2
  go_wp2_with fail
  refine (like_any q q A1 A2 c1 c2 _ (by exact B2.out.tree) (by exact D2.out.tree)).mono ?_
  rintro e w3 ⟨rfl, hb⟩
  rw [like_self]
  go_wp2_with fail
  go_ret
  exact ⟨rfl, (T2.out.keep hb).below⟩
theorem closeA_ok {t q : Tr} (h : closeA t = (q, 0)) : q = closeT t ∧ rightN t = 0 ∧ termB t.k = false ∧ rightN (closeT t) = 0 := by
  unfold closeA at h
  split at h
  · next hw =>
    split at h
    · next hr =>
      cases h
      unfold wantFN at hw
      split at hw
      · next h0 =>
        split at hw
        · cases hw
        · next hk => exact ⟨rfl, h0, by simpa using hk, hr⟩
      · next h0 => exact absurd hw h0
    · next hr => exact absurd (congrArg Prod.snd h) hr
  · next hw => exact absurd (congrArg Prod.snd h) hw
/-- what FreeClosed asks of a formula that is closed -/
structure ClM (t q : Tr) : Prop where
  rt : rightN t = 0
  rq : rightN q = 0
  fq : freeT q = 0
  bq : boundT q = boundT t ||| freeT t
  cq : closeA q = (q, 0)
theorem closed_math {t q : Tr} (h : closeA t = (q, 0)) : ClM t q := by
  obtain ⟨rfl, h1, h2, h3⟩ := closeA_ok h
  refine ⟨h1, h3, close_free t, close_bound t, ?_⟩
  have hk := close_form t (right_parts h1).2.2 h2
  have hw : wantFN (closeT t) = 0 := by unfold wantFN; rw [if_pos h3, hk]; rfl
  unfold closeA
  rw [if_pos hw, close_again, if_pos h3]
set_option maxHeartbeats 4000000 in
set_option maxRecDepth 100000 in
theorem closed_law (t : Tr) (A : Option Addr) (c : Nat) (w : World) (ht : IsT w w.heap.size t A c) :
    Calls Try.prog 10 #[.agg #[.int .i64 t.k, .int .i64 t.i, .slice A t.ks.length c]] w fun e w' => e = .returned (.bool true) ∧ Below w.heap.size w w' := by
  have T0 := Lib.hid (One.new ht)
  have b0 := T0.out.b0
  have b1 := T0.out.b1
  have b2 := T0.out.b2
  clear ht
  obtain ⟨q, n, hq⟩ : ∃ q n, closeA t = (q, n) := ⟨_, _, rfl⟩
  have HQ := Lib.hid hq
  clear hq
  go_enter Try.func10, Try.ntmps10
  go_wp2_with fail
  refine (rclose_any t A c _ (by exact T0.out.tree)).mono ?_
  rintro e w1 ⟨hb, A1, c1, i1, he⟩
  rw [HQ.out] at i1 he
  subst he
  have T1' := Lib.hid (T0.out.keep hb)
  have T1 := Lib.hid (T1'.out.keep (alB w1 (.cells #[.int .i64 q.k, .int .i64 q.i, .slice A1 q.ks.length c1] 24)))
  clear hb b0 b1 b2 i1 T0 T1'
  have b0 := T1.out.b0
  have b1 := T1.out.b1
  have b2 := T1.out.b2
  go_wp2_with fail
  refine (close_any t A c _ (by exact T1.out.tree)).mono ?_
  rintro e w2 ⟨hb, A2, c2, i2, he⟩
  rw [HQ.out] at i2 he
  subst he
  have T2 := Lib.hid ((T1.out.keep hb).keep (alB w2 (.cells #[.int .i64 q.k, .int .i64 q.i, .slice A2 q.ks.length c2] 24)))
  have B2 := Lib.hid (Bt.new i2)
  clear hb b0 b1 b2 i2 T1
  by_cases hn : n = 0
  · subst hn
    have M := Lib.hid (closed_math HQ.out)
    have VF := Lib.hid (show valR freeT q = 0 by rw [valR_ok M.out.rq, M.out.fq])
    have VT := Lib.hid (valR_ok (f := freeT) M.out.rt)
    have VB := Lib.hid (show valR boundT q = boundT t ||| freeT t by rw [valR_ok M.out.rq, M.out.bq])
    have VC := Lib.hid (valR_ok (f := boundT) M.out.rt)
    have OR := Lib.hid (or64 (boundT t) (freeT t) (boundT_U t) (freeT_U t))
    have d0 := B2.out.c0
    have d1 := B2.out.c1
    have d2 := B2.out.c2
    go_wp2_with fail
    refine (free_any q A2 c2 _ (by exact B2.out.tree)).mono ?_
    rintro e w3 ⟨rfl, hb⟩
    rw [VF.out, M.out.rq]
    have T3 := Lib.hid (T2.out.keep hb)
    have B3 := Lib.hid (B2.out.keep hb)
    clear hb d0 d1 d2 T2 B2
    have b0 := T3.out.b0
    have b1 := T3.out.b1
    have b2 := T3.out.b2
    go_wp2_with fail
    refine (free_any t A c _ (by exact T3.out.tree)).mono ?_
    rintro e w4 ⟨rfl, hb⟩
    rw [VT.out, M.out.rt]
    have T4 := Lib.hid (T3.out.keep hb)
    have B4 := Lib.hid (B3.out.keep hb)
    clear hb b0 b1 b2 T3 B3
    have d0 := B4.out.c0
    have d1 := B4.out.c1
    have d2 := B4.out.c2
    go_wp2_with fail
    refine (bound_any q A2 c2 _ (by exact B4.out.tree)).mono ?_
    rintro e w5 ⟨rfl, hb⟩
    rw [VB.out, M.out.rq]
    have T5 := Lib.hid (T4.out.keep hb)
    have B5 := Lib.hid (B4.out.keep hb)
    clear hb d0 d1 d2 T4 B4
    have b0 := T5.out.b0
    have b1 := T5.out.b1
    have b2 := T5.out.b2
    go_wp2_with fail
    refine (bound_any t A c _ (by exact T5.out.tree)).mono ?_
    rintro e w6 ⟨rfl, hb⟩
    rw [VC.out, M.out.rt]
    have T6 := Lib.hid (T5.out.keep hb)
    have B6 := Lib.hid (B5.out.keep hb)
    clear hb b0 b1 b2 T5 B5
    have d0 := B6.out.c0
    have d1 := B6.out.c1
    have d2 := B6.out.c2
    go_wp2_with fail
    refine (close_any q A2 c2 _ (by exact B6.out.tree)).mono ?_
    rintro e w7 ⟨hb, A3, c3, i3, he⟩
    rw [M.out.cq] at i3 he
    subst he
    have T7 := Lib.hid ((T6.out.keep hb).keep (alB w7 (.cells #[.int .i64 q.k, .int .i64 q.i, .slice A3 q.ks.length c3] 24)))
    have B7 := Lib.hid ((B6.out.keep hb).keep (alB w7 (.cells #[.int .i64 q.k, .int .i64 q.i, .slice A3 q.ks.length c3] 24)))
    have D7 := Lib.hid (Bt.new i3)
    clear hb d0 d1 d2 T6 B6 i3
    have b0 := B7.out.c0
    have b1 := B7.out.c1
    have b2 := B7.out.c2
    have d0 := D7.out.c0
    have d1 := D7.out.c1
    have d2 := D7.out.c2
    have oo := OR.out
    go_wp2_with fail
    refine (like_any q q A2 A3 c2 c3 _ (by exact B7.out.tree) (by exact D7.out.tree)).mono ?_
    rintro e w8 ⟨rfl, hb⟩
    rw [like_self]
    go_wp2_with fail
    go_ret
    exact ⟨rfl, (T7.out.keep hb).below⟩
  · have h0 : ((n : Int) != 0) = true := by rw [bne_iff_ne]; omega
    go_wp2_with fail
    go_ret
    exact ⟨rfl, T2.out.below⟩
end Go.Proofs.Ytfleomamhkeiiaa
