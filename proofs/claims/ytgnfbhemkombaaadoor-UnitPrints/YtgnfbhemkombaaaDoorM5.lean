/- What may be written in a unit: formulaFault of package unit, Written of the document's layer 9; the steps' justifications. -/
import Derived.Test.YtgnfbhemkombaaaDoorM4
import Derived.Test.YtgnfbhemkombaaaDoorF4
import Derived.Test.YtgnfbhemkombaaaDoorFO
import Derived.Test.YtgnfbhemkombaaaDoorE28
namespace Go.Proofs.YtgnfbhemkombaaaDoor
open Go.RowKit
set_option linter.unusedVariables false
set_option linter.unusedSimpArgs false
/-- the error of a formula that is to be written -/
def writN (t : Tr) : Nat := if rightN t = 0 then (if termB t.k = true then 40 else if 300 < t.sz then 20 else if 30 < t.dp then 21 else 0) else rightN t
theorem writ_wrong {t : Tr} (h : ¬ rightN t = 0) : writN t = rightN t := if_neg h
theorem writ_term {t : Tr} (h : rightN t = 0) (k : termB t.k = true) : writN t = 40 := by unfold writN; rw [if_pos h, if_pos k]
theorem writ_many {t : Tr} (h : rightN t = 0) (k : termB t.k = false) (s : 300 < t.sz) : writN t = 20 := by unfold writN; rw [if_pos h, if_neg (by rw [k]; simp), if_pos s]
theorem writ_deep {t : Tr} (h : rightN t = 0) (k : termB t.k = false) (s : ¬ 300 < t.sz) (d : 30 < t.dp) : writN t = 21 := by unfold writN; rw [if_pos h, if_neg (by rw [k]; simp), if_neg s, if_pos d]
theorem writ_fine {t : Tr} (h : rightN t = 0) (k : termB t.k = false) (s : ¬ 300 < t.sz) (d : ¬ 30 < t.dp) : writN t = 0 := by unfold writN; rw [if_pos h, if_neg (by rw [k]; simp), if_neg s, if_neg d]
set_option maxHeartbeats 2000000 in
theorem uform_any (t : Tr) (A : Option Addr) (c : Nat) (w : World) (ht : IsT w w.heap.size t A c) :
    Calls Tryd.prog 79 #[.agg #[.int .i64 t.k, .int .i64 t.i, .slice A t.ks.length c]] w fun e w' => e = .returned (.int .i64 (writN t : Nat)) ∧ Below w.heap.size w w' := by
  have T0 := Lib.hid (One.new ht)
  obtain ⟨y0, y1, y2⟩ := And.intro T0.out.b0 (And.intro T0.out.b1 T0.out.b2)
  clear ht
  go_enter Tryd.func79, Tryd.ntmps79
  go_wp2_with fail
  refine (right_any t A c _ (by exact T0.out.tree)).mono ?_
  rintro e w1 ⟨rfl, hb1⟩
  have T1 := Lib.hid (T0.out.keep hb1)
  obtain ⟨z0, z1, z2⟩ := And.intro T1.out.b0 (And.intro T1.out.b1 T1.out.b2)
  clear hb1 y0 y1 y2
  by_cases hr : rightN t = 0
  · have h0 : ((rightN t : Int) != 0) = false := by simp [hr]
    have HR := Lib.hid hr
    have FB := Lib.hid (isFB_form hr)
    have SZ := Lib.hid (right_parts hr).1
    have DP := Lib.hid (right_parts hr).2.1
    clear hr
    go_wp2_with fail
    refine (isForm_any t A c _ (by exact T1.out.tree)).mono ?_
    rintro e w2 ⟨rfl, hb2⟩
    have T2 := Lib.hid (T1.out.keep hb2)
    clear hb2 z0 z1 z2
    obtain ⟨z0, z1, z2⟩ := And.intro T2.out.b0 (And.intro T2.out.b1 T2.out.b2)
    rw [FB.out]
    cases hk : termB t.k with
    | true =>
      have R := Lib.hid (writ_term HR.out hk)
      go_wp2_with fail
      go_ret
      exact ⟨ret_intw (by rw [R.out]; rfl), T2.out.below⟩
    | false =>
      have HK := Lib.hid hk
      clear hk
      go_wp2_with fail
      refine (size_small t A c _ (by exact T2.out.tree) SZ.out).mono ?_
      rintro e w3 ⟨rfl, hb3⟩
      have T3 := Lib.hid (T2.out.keep hb3)
      clear hb3 z0 z1 z2
      obtain ⟨z0, z1, z2⟩ := And.intro T3.out.b0 (And.intro T3.out.b1 T3.out.b2)
      by_cases hs : 300 < t.sz
      · have R := Lib.hid (writ_many HR.out HK.out hs)
        have e1 : (300 : Int) < (t.sz : Int) := by omega
        clear hs
        go_wp2_with fail
        go_ret
        exact ⟨ret_intw (by rw [R.out]; rfl), T3.out.below⟩
      · have e1 : ¬ (300 : Int) < (t.sz : Int) := by omega
        have HS := Lib.hid hs
        clear hs
        go_wp2_with fail
        refine (depth_small t A c _ (by exact T3.out.tree) SZ.out).mono ?_
        rintro e w4 ⟨rfl, hb4⟩
        have T4 := Lib.hid (T3.out.keep hb4)
        clear hb4 z0 z1 z2
        have hm : min t.dp 101 = t.dp := by have := DP.out; omega
        rw [hm]
        by_cases hd : 30 < t.dp
        · have R := Lib.hid (writ_deep HR.out HK.out HS.out hd)
          have e2 : (30 : Int) < (t.dp : Int) := by omega
          clear hd hm
          go_wp2_with fail
          go_ret
          exact ⟨ret_intw (by rw [R.out]; rfl), T4.out.below⟩
        · have R := Lib.hid (writ_fine HR.out HK.out HS.out hd)
          have e2 : ¬ (30 : Int) < (t.dp : Int) := by omega
          clear hd hm
          go_wp2_with fail
          go_ret
          exact ⟨ret_intw (by rw [R.out]; rfl), T4.out.below⟩
  · have h0 : ((rightN t : Int) != 0) = true := by rw [bne_iff_ne]; omega
    have R := Lib.hid (writ_wrong hr)
    clear hr
    go_wp2_with fail
    go_ret
    exact ⟨ret_intw (by rw [R.out]), T1.out.below⟩
set_option maxHeartbeats 2000000 in
theorem rwritten_any (t : Tr) (A : Option Addr) (c : Nat) (w : World) (ht : IsT w w.heap.size t A c) :
    Calls Tryd.prog 85 #[.agg #[.int .i64 t.k, .int .i64 t.i, .slice A t.ks.length c]] w fun e w' => e = .returned (.int .i64 (writN t : Nat)) ∧ Below w.heap.size w w' := by
  have T0 := Lib.hid (One.new ht)
  obtain ⟨y0, y1, y2⟩ := And.intro T0.out.b0 (And.intro T0.out.b1 T0.out.b2)
  clear ht
  go_enter Tryd.func85, Tryd.ntmps85
  go_wp2_with fail
  refine (rwantF_any t A c _ (by exact T0.out.tree)).mono ?_
  rintro e w1 ⟨rfl, hb1⟩
  have T1 := Lib.hid (T0.out.keep hb1)
  obtain ⟨z0, z1, z2⟩ := And.intro T1.out.b0 (And.intro T1.out.b1 T1.out.b2)
  clear hb1 y0 y1 y2
  by_cases hr : rightN t = 0
  · have HR := Lib.hid hr
    have SZ := Lib.hid (right_parts hr).1
    have DP := Lib.hid (right_parts hr).2.1
    have W0 : wantFN t = if termB t.k = true then 40 else 0 := by unfold wantFN; rw [if_pos hr]
    clear hr
    cases hk : termB t.k with
    | true =>
      have R := Lib.hid (writ_term HR.out hk)
      have e0 : wantFN t = 40 := by rw [W0, hk]; rfl
      rw [e0]
      clear W0 e0 hk
      go_wp2_with fail
      go_ret
      exact ⟨ret_intw (by rw [R.out]; rfl), T1.out.below⟩
    | false =>
      have HK := Lib.hid hk
      have e0 : wantFN t = 0 := by rw [W0, hk]; rfl
      rw [e0]
      clear hk W0 e0
      go_wp2_with fail
      refine (rsize_any t A c _ (by exact T1.out.tree)).mono ?_
      rintro e w3 ⟨rfl, hb3⟩
      have T3 := Lib.hid (T1.out.keep hb3)
      clear hb3 z0 z1 z2
      obtain ⟨z0, z1, z2⟩ := And.intro T3.out.b0 (And.intro T3.out.b1 T3.out.b2)
      have hm : min t.sz 1001 = t.sz := by have := SZ.out; omega
      rw [hm]
      clear hm
      by_cases hs : 300 < t.sz
      · have R := Lib.hid (writ_many HR.out HK.out hs)
        have e1 : (300 : Int) < (t.sz : Int) := by omega
        clear hs
        go_wp2_with fail
        go_ret
        exact ⟨ret_intw (by rw [R.out]; rfl), T3.out.below⟩
      · have e1 : ¬ (300 : Int) < (t.sz : Int) := by omega
        have HS := Lib.hid hs
        clear hs
        go_wp2_with fail
        refine (rdepth_any t A c _ (by exact T3.out.tree)).mono ?_
        rintro e w4 ⟨rfl, hb4⟩
        have T4 := Lib.hid (T3.out.keep hb4)
        clear hb4 z0 z1 z2
        have hm : min t.dp 101 = t.dp := by have := DP.out; omega
        rw [hm]
        by_cases hd : 30 < t.dp
        · have R := Lib.hid (writ_deep HR.out HK.out HS.out hd)
          have e2 : (30 : Int) < (t.dp : Int) := by omega
          clear hd hm
          go_wp2_with fail
          go_ret
          exact ⟨ret_intw (by rw [R.out]; rfl), T4.out.below⟩
        · have R := Lib.hid (writ_fine HR.out HK.out HS.out hd)
          have e2 : ¬ (30 : Int) < (t.dp : Int) := by omega
          clear hd hm
          go_wp2_with fail
          go_ret
          exact ⟨ret_intw (by rw [R.out]; rfl), T4.out.below⟩
  · have e0 : wantFN t = rightN t := by unfold wantFN; rw [if_neg hr]
    rw [e0]
    have h0 : ((rightN t : Int) != 0) = true := by rw [bne_iff_ne]; omega
    have R := Lib.hid (writ_wrong hr)
    clear hr e0
    go_wp2_with fail
    go_ret
    exact ⟨ret_intw (by rw [R.out]), T1.out.below⟩
/-! ### justifications -/
def numB (n : Int) : Bool := decide (0 ≤ n) && decide (n ≤ 999999999)
def varB (n : Int) : Bool := decide (0 ≤ n) && decide (n ≤ 63)
/-- are the fields of a step those of its justification? -/
def justB (y a b : Int) (q : ByteArray) : Bool :=
  if y = 1 then numB a && decide (b = 0) && decide (q.size = 0) else
  if y = 2 then numB a && numB b && decide (q.size = 0) else
  if y = 3 then numB a && varB b && decide (q.size = 0) else
  if y = 4 then decide (a = 0) && decide (b = 0) else false
theorem unumber_any (n : Int) (w : World) : Calls Tryd.prog 120 #[.int .i64 n] w fun e w' => e = .returned (.bool (numB n)) ∧ w = w' := by
  unfold numB
  by_cases h1 : 0 ≤ n
  · by_cases h2 : n ≤ 999999999
    · go_enter Tryd.func120, Tryd.ntmps120
      go_wp2
      go_ret
      exact ⟨by simp [h1, h2], rfl⟩
    · go_enter Tryd.func120, Tryd.ntmps120
      go_wp2
      go_ret
      exact ⟨by simp [h1, h2], rfl⟩
  · go_enter Tryd.func120, Tryd.ntmps120
    go_wp2
    go_ret
    exact ⟨by simp; omega, rfl⟩
theorem uvariable_any (n : Int) (w : World) : Calls Tryd.prog 121 #[.int .i64 n] w fun e w' => e = .returned (.bool (varB n)) ∧ w = w' := by
  unfold varB
  by_cases h1 : 0 ≤ n
  · by_cases h2 : n ≤ 63
    · go_enter Tryd.func121, Tryd.ntmps121
      go_wp2
      go_ret
      exact ⟨by simp [h1, h2], rfl⟩
    · go_enter Tryd.func121, Tryd.ntmps121
      go_wp2
      go_ret
      exact ⟨by simp [h1, h2], rfl⟩
  · go_enter Tryd.func121, Tryd.ntmps121
    go_wp2
    go_ret
    exact ⟨by simp; omega, rfl⟩
theorem rnumber9_any (n : Int) (w : World) : Calls Tryd.prog 112 #[.int .i64 n] w fun e w' => e = .returned (.bool (numB n)) ∧ w = w' := by
  unfold numB
  by_cases h1 : 0 ≤ n
  · by_cases h2 : n ≤ 999999999
    · go_enter Tryd.func112, Tryd.ntmps112
      go_wp2
      go_ret
      exact ⟨by simp [h1, h2], rfl⟩
    · go_enter Tryd.func112, Tryd.ntmps112
      go_wp2
      go_ret
      exact ⟨by simp [h1, h2], rfl⟩
  · go_enter Tryd.func112, Tryd.ntmps112
    go_wp2
    go_ret
    exact ⟨by simp; omega, rfl⟩
end Go.Proofs.YtgnfbhemkombaaaDoor
