/- The document's WantTerm, WantFormula, Asked, Caught, FreeFor (layer 4). -/
import Derived.Test.YtcjfaajceipenaaF3
import Derived.Test.YtcjfaajceipenaaLK
namespace Go.Proofs.Ytcjfaajceipenaa
open Go.RowKit
set_option linter.unusedVariables false
set_option linter.unusedSimpArgs false
def wantTN (t : Tr) : Nat := if rightN t = 0 then (if termB t.k = true then 0 else 40) else rightN t
def wantFN (t : Tr) : Nat := if rightN t = 0 then (if termB t.k = true then 40 else 0) else rightN t
set_option maxHeartbeats 1000000 in
theorem rwantT_any (t : Tr) (A : Option Addr) (c : Nat) (w : World) (ht : IsT w w.heap.size t A c) :
    Calls Try.prog 79 #[.agg #[.int .i64 t.k, .int .i64 t.i, .slice A t.ks.length c]] w fun e w' => e = .returned (.int .i64 (wantTN t : Nat)) ∧ Below w.heap.size w w' := by
  have T0 := Lib.hid (One.new ht)
  obtain ⟨y0, y1, y2⟩ := And.intro T0.out.b0 (And.intro T0.out.b1 T0.out.b2)
  clear ht
  go_enter Try.func79, Try.ntmps79
  go_wp2_with fail
  refine (rright_any t A c _ (by exact T0.out.tree)).mono ?_
  rintro e w1 ⟨rfl, hb1⟩
  have T1 := Lib.hid (T0.out.keep hb1)
  obtain ⟨z0, z1, z2⟩ := And.intro T1.out.b0 (And.intro T1.out.b1 T1.out.b2)
  clear hb1 y0 y1 y2
  by_cases hr : rightN t = 0
  · have h0 : ((rightN t : Int) != 0) = false := by simp [hr]
    have R := Lib.hid (show wantTN t = if termB t.k = true then 0 else 40 by unfold wantTN; rw [if_pos hr])
    clear hr
    go_wp2_with fail
    refine (term_any t.k t.i A t.ks.length c _).mono ?_
    rintro e w2 ⟨rfl, hb2⟩
    have T2 := Lib.hid (T1.out.keep hb2)
    clear hb2
    cases ht : termB t.k with
    | true =>
      rw [ht] at R
      go_wp2_with fail
      go_ret
      exact ⟨ret_intw (by rw [R.out]; rfl), T2.out.below⟩
    | false =>
      rw [ht] at R
      go_wp2_with fail
      go_ret
      exact ⟨ret_intw (by rw [R.out]; rfl), T2.out.below⟩
  · have h0 : ((rightN t : Int) != 0) = true := by rw [bne_iff_ne]; omega
    have R := Lib.hid (show wantTN t = rightN t by unfold wantTN; rw [if_neg hr])
    clear hr
    go_wp2_with fail
    refine (rright_any t A c _ (by exact T1.out.tree)).mono ?_
    rintro e w2 ⟨rfl, hb2⟩
    go_wp2_with fail
    go_ret
    exact ⟨ret_intw (by rw [R.out]), (T1.out.keep hb2).below⟩
set_option maxHeartbeats 1000000 in
theorem rwantF_any (t : Tr) (A : Option Addr) (c : Nat) (w : World) (ht : IsT w w.heap.size t A c) :
    Calls Try.prog 101 #[.agg #[.int .i64 t.k, .int .i64 t.i, .slice A t.ks.length c]] w fun e w' => e = .returned (.int .i64 (wantFN t : Nat)) ∧ Below w.heap.size w w' := by
  have T0 := Lib.hid (One.new ht)
  obtain ⟨y0, y1, y2⟩ := And.intro T0.out.b0 (And.intro T0.out.b1 T0.out.b2)
  clear ht
  go_enter Try.func101, Try.ntmps101
  go_wp2_with fail
  refine (rright_any t A c _ (by exact T0.out.tree)).mono ?_
  rintro e w1 ⟨rfl, hb1⟩
  have T1 := Lib.hid (T0.out.keep hb1)
  obtain ⟨z0, z1, z2⟩ := And.intro T1.out.b0 (And.intro T1.out.b1 T1.out.b2)
  clear hb1 y0 y1 y2
  by_cases hr : rightN t = 0
  · have h0 : ((rightN t : Int) != 0) = false := by simp [hr]
    have R := Lib.hid (show wantFN t = if termB t.k = true then 40 else 0 by unfold wantFN; rw [if_pos hr])
    clear hr
    go_wp2_with fail
    refine (term_any t.k t.i A t.ks.length c _).mono ?_
    rintro e w2 ⟨rfl, hb2⟩
    have T2 := Lib.hid (T1.out.keep hb2)
    clear hb2
    cases ht : termB t.k with
    | true =>
      rw [ht] at R
      go_wp2_with fail
      go_ret
      exact ⟨ret_intw (by rw [R.out]; rfl), T2.out.below⟩
    | false =>
      rw [ht] at R
      go_wp2_with fail
      go_ret
      exact ⟨ret_intw (by rw [R.out]; rfl), T2.out.below⟩
  · have h0 : ((rightN t : Int) != 0) = true := by rw [bne_iff_ne]; omega
    have R := Lib.hid (show wantFN t = rightN t by unfold wantFN; rw [if_neg hr])
    clear hr
    go_wp2_with fail
    refine (rright_any t A c _ (by exact T1.out.tree)).mono ?_
    rintro e w2 ⟨rfl, hb2⟩
    go_wp2_with fail
    go_ret
    exact ⟨ret_intw (by rw [R.out]), (T1.out.keep hb2).below⟩
/-- the errors of a term, a variable, an expression -/
def askN (x : Int) (t a : Tr) : Nat := if 0 ≤ x ∧ x ≤ 63 then (if firstN t a = 0 then wantTN t else firstN t a) else 1
theorem firstN_le (a b : Tr) : firstN a b ≤ 22 := by unfold firstN; split; exact rightN_le a; exact rightN_le b
set_option maxHeartbeats 1000000 in
set_option maxRecDepth 100000 in
theorem rasked_any (t a : Tr) (x : Int) (A A' : Option Addr) (c c' : Nat) (w : World) (ht : IsT w w.heap.size t A c) (ha : IsT w w.heap.size a A' c') :
    Calls Try.prog 94 #[.agg #[.int .i64 t.k, .int .i64 t.i, .slice A t.ks.length c], .int .i64 x, .agg #[.int .i64 a.k, .int .i64 a.i, .slice A' a.ks.length c']] w fun e w' => e = .returned (.int .i64 (askN x t a : Nat)) ∧ Below w.heap.size w w' := by
  have T0 := Lib.hid (two_start ht ha)
  have hl := firstN_le t a
  clear ht ha
  by_cases hx : 0 ≤ x ∧ x ≤ 63
  · have a1 : ¬ x < 0 := by omega
    have a2 : ¬ 63 < x := by omega
    have b0 := T0.out.b0
    have b1 := T0.out.b1
    have b2 := T0.out.b2
    have d0 := T0.out.d0
    have d1 := T0.out.d1
    have d2 := T0.out.d2
    go_enter Try.func94, Try.ntmps94
    go_wp2_with fail
    refine (first_any t a A A' c c' _ (by exact T0.out.ta) (by exact T0.out.tb)).mono ?_
    rintro e w1 ⟨rfl, hb1⟩
    have T1 := Lib.hid (T0.out.keep hb1)
    clear hb1 b0 b1 b2 d0 d1 d2
    have b0 := T1.out.b0
    have b1 := T1.out.b1
    have b2 := T1.out.b2
    by_cases hf : firstN t a = 0
    · have h0 : ((firstN t a : Int) != 0) = false := by simp [hf]
      have R := Lib.hid (show askN x t a = wantTN t by unfold askN; rw [if_pos hx, if_pos hf])
      clear hf hx
      go_wp2_with fail
      refine (rwantT_any t A c _ (by exact T1.out.ta)).mono ?_
      rintro e w2 ⟨rfl, hb2⟩
      go_wp2_with fail
      go_ret
      exact ⟨ret_intw (by rw [R.out]), (T1.out.keep hb2).below⟩
    · have h0 : ((firstN t a : Int) != 0) = true := by rw [bne_iff_ne]; omega
      have R := Lib.hid (show askN x t a = firstN t a by unfold askN; rw [if_pos hx, if_neg hf])
      clear hf hx
      go_wp2_with fail
      go_ret
      exact ⟨ret_intw (by rw [R.out]), T1.out.below⟩
  · have R := Lib.hid (show askN x t a = 1 by unfold askN; rw [if_neg hx])
    by_cases a1 : x < 0
    · clear hx
      go_enter Try.func94, Try.ntmps94
      go_wp2_with fail
      go_ret
      exact ⟨ret_intw (by rw [R.out]; rfl), T0.out.below⟩
    · have a2 : 63 < x := by omega
      clear hx
      go_enter Try.func94, Try.ntmps94
      go_wp2_with fail
      go_ret
      exact ⟨ret_intw (by rw [R.out]; rfl), T0.out.below⟩
/-- what Caught answers -/
def catV (x : Int) (t a : Tr) : Nat := if askN x t a = 0 then catT (varsT t) x a else 0
set_option maxHeartbeats 1000000 in
set_option maxRecDepth 100000 in
theorem rcaughtf_any (t a : Tr) (x : Int) (A A' : Option Addr) (c c' : Nat) (w : World) (ht : IsT w w.heap.size t A c) (ha : IsT w w.heap.size a A' c') :
    Calls Try.prog 49 #[.agg #[.int .i64 t.k, .int .i64 t.i, .slice A t.ks.length c], .int .i64 x, .agg #[.int .i64 a.k, .int .i64 a.i, .slice A' a.ks.length c']] w fun e w' => e = .returned (.tuple #[.int .u64 (catV x t a : Nat), .int .i64 (askN x t a : Nat)]) ∧ Below w.heap.size w w' := by
  have T0 := Lib.hid (two_start ht ha)
  have b0 := T0.out.b0
  have b1 := T0.out.b1
  have b2 := T0.out.b2
  have d0 := T0.out.d0
  have d1 := T0.out.d1
  have d2 := T0.out.d2
  have VU := Lib.hid (varsT_U t)
  clear ht ha
  go_enter Try.func49, Try.ntmps49
  go_wp2_with fail
  refine (rasked_any t a x A A' c c' _ (by exact T0.out.ta) (by exact T0.out.tb)).mono ?_
  rintro e w1 ⟨rfl, hb1⟩
  have T1 := Lib.hid (T0.out.keep hb1)
  clear hb1 b0 b1 b2 d0 d1 d2
  have b0 := T1.out.b0
  have b1 := T1.out.b1
  have b2 := T1.out.b2
  have d0 := T1.out.d0
  have d1 := T1.out.d1
  have d2 := T1.out.d2
  by_cases hf : askN x t a = 0
  · have h0 : ((askN x t a : Int) != 0) = false := by simp [hf]
    have R := Lib.hid (show catV x t a = catT (varsT t) x a by unfold catV; rw [if_pos hf])
    have Z := Lib.hid hf
    clear hf
    have T' := T1.out.keep (Below.refl _ _).drew
    clear b0 b1 b2 d0 d1 d2
    go_wp2_with fail
    go_region_held3 (fun w' => w'.cell? ⟨w.heap.size, 0, none⟩ = some (.int .i64 t.k) ∧ w'.cell? ⟨w.heap.size, 1, none⟩ = some (.int .i64 t.i) ∧ w'.cell? ⟨w.heap.size, 2, none⟩ = some (.slice A t.ks.length c) ∧ w'.cell? ⟨w.heap.size + 1, 0, none⟩ = some (.int .i64 a.k) ∧ w'.cell? ⟨w.heap.size + 1, 1, none⟩ = some (.int .i64 a.i) ∧ w'.cell? ⟨w.heap.size + 1, 2, none⟩ = some (.slice A' a.ks.length c'))
      (exact ⟨T'.b0, T'.b1, T'.b2, T'.d0, T'.d1, T'.d2⟩)
      (first
        | (go_at_call 24; refine (rofvars_any t A c _ (by exact T'.ta)).mono ?_; rintro e w3 ⟨rfl, hb3⟩; replace T' := T'.keep hb3; clear hb3)
        | (go_at_call 95; refine (rcaught_any (varsT t) x VU.out a.sz a A' c' _ (Nat.le_refl _) (by exact T'.tb)).mono ?_; rintro e w3 ⟨rfl, hb3⟩; replace T' := T'.keep hb3; clear hb3))
    all_goals (go_wp2_with fail)
    go_ret2
    exact ⟨by rw [R.out, Z.out]; rfl, T'.below⟩
  · have h0 : ((askN x t a : Int) != 0) = true := by rw [bne_iff_ne]; omega
    have R := Lib.hid (show catV x t a = 0 by unfold catV; rw [if_neg hf])
    clear hf
    go_wp2_with fail
    go_ret2
    exact ⟨by rw [R.out]; rfl, T1.out.below⟩
/-- what FreeFor answers -/
def ffB (x : Int) (t a : Tr) : Bool := decide (askN x t a = 0) && decide (catV x t a = 0)
set_option maxHeartbeats 1000000 in
set_option maxRecDepth 100000 in
theorem rfreefor_any (t a : Tr) (x : Int) (A A' : Option Addr) (c c' : Nat) (w : World) (ht : IsT w w.heap.size t A c) (ha : IsT w w.heap.size a A' c') :
    Calls Try.prog 19 #[.agg #[.int .i64 t.k, .int .i64 t.i, .slice A t.ks.length c], .int .i64 x, .agg #[.int .i64 a.k, .int .i64 a.i, .slice A' a.ks.length c']] w fun e w' => e = .returned (.tuple #[.bool (ffB x t a), .int .i64 (askN x t a : Nat)]) ∧ Below w.heap.size w w' := by
  have T0 := Lib.hid (two_start ht ha)
  have b0 := T0.out.b0
  have b1 := T0.out.b1
  have b2 := T0.out.b2
  have d0 := T0.out.d0
  have d1 := T0.out.d1
  have d2 := T0.out.d2
  clear ht ha
  go_enter Try.func19, Try.ntmps19
  go_wp2_with fail
  refine (rcaughtf_any t a x A A' c c' _ (by exact T0.out.ta) (by exact T0.out.tb)).mono ?_
  rintro e w1 ⟨rfl, hb1⟩
  have T1 := Lib.hid (T0.out.keep hb1)
  clear hb1 b0 b1 b2 d0 d1 d2
  by_cases hf : askN x t a = 0
  · have h0 : ((askN x t a : Int) == 0) = true := by simp [hf]
    have Z := Lib.hid hf
    by_cases hc : catV x t a = 0
    · have h1 : ((catV x t a : Int) == 0) = true := by simp [hc]
      have R := Lib.hid (show ffB x t a = true by unfold ffB; rw [decide_eq_true hf, decide_eq_true hc]; rfl)
      clear hf hc
      go_wp2_with fail
      go_ret2
      exact ⟨by rw [R.out]; rfl, T1.out.below⟩
    · have h1 : ((catV x t a : Int) == 0) = false := by rw [beq_eq_false_iff_ne]; omega
      have R := Lib.hid (show ffB x t a = false by unfold ffB; rw [decide_eq_false hc]; simp)
      clear hf hc
      go_wp2_with fail
      go_ret2
      exact ⟨by rw [R.out]; rfl, T1.out.below⟩
  · have h0 : ((askN x t a : Int) == 0) = false := by rw [beq_eq_false_iff_ne]; omega
    have R := Lib.hid (show ffB x t a = false by unfold ffB; rw [decide_eq_false hf]; rfl)
    clear hf
    go_wp2_with fail
    go_ret2
    exact ⟨by rw [R.out]; rfl, T1.out.below⟩
end Go.Proofs.Ytcjfaajceipenaa
