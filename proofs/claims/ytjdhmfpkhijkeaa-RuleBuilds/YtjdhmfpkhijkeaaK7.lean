/- Plain, firstFault, formulasFault of package rule. -/
import Derived.Test.YtjdhmfpkhijkeaaK6
import Derived.Test.YtjdhmfpkhijkeaaE25
import Derived.Test.YtjdhmfpkhijkeaaE12
import Derived.Test.YtjdhmfpkhijkeaaFO
namespace Go.Proofs.Ytjdhmfpkhijkeaa
open Go.RowKit
set_option linter.unusedVariables false
set_option linter.unusedSimpArgs false
/-- what Plain answers -/
def plainR (t : Tr) : Tr × Nat := if rightN t ≠ 0 then (zeroT, rightN t) else if plainF t ≠ 0 then (zeroT, plainF t) else (plainT t, 0)
theorem fault_cast (a b : Nat) : (if (1000 : Int) < (a : Int) then 20 else if (100 : Int) < (b : Int) then 21 else 0 : Nat) = if 1000 < a then 20 else if 100 < b then 21 else 0 := by
  by_cases h1 : 1000 < a
  · rw [if_pos (by omega), if_pos h1]
  · rw [if_neg (by omega), if_neg h1]
    by_cases h2 : 100 < b
    · rw [if_pos (by omega), if_pos h2]
    · rw [if_neg (by omega), if_neg h2]
set_option maxHeartbeats 4000000 in
set_option maxRecDepth 100000 in
theorem cplain_any (t : Tr) (A : Option Addr) (c : Nat) (w : World) (ht : IsT w w.heap.size t A c) :
    Calls Try.prog 31 #[.agg #[.int .i64 t.k, .int .i64 t.i, .slice A t.ks.length c]] w (AnsPost w (plainR t)) := by
  obtain ⟨e0, e1, hb0⟩ := two_boxes0 w (.int .i64 t.k) (.int .i64 t.i) (.slice A t.ks.length c) (.int .i64 0) (.int .i64 0) (.slice none 0 0)
  have HT := Lib.hid (ht.keep hb0 hb0.size)
  have E0 := Lib.hid e0
  have E1 := Lib.hid e1
  have HB0 := Lib.hid hb0
  clear ht e0 e1 hb0
  go_enter Try.func31, Try.ntmps31
  go_wp2_with fail
  refine (right_any t A c _ (by exact HT.out)).mono ?_
  rintro e w1 ⟨rfl, hb1⟩
  have X0 := Lib.hid (E0.out.keep hb1 E0.out.lt)
  have X1 := Lib.hid (E1.out.keep hb1 E1.out.lt)
  obtain ⟨x0, x1, x2⟩ := X0.out.cells
  obtain ⟨y0, y1, y2⟩ := X1.out.cells
  have f0 := X1.out.frozen 0
  have f1 := X1.out.frozen 1
  have f2 := X1.out.frozen 2
  have hbr : Below w.heap.size w w1 := HB0.out.trans (hb1.mono HB0.out.size)
  have HT1 := Lib.hid (HT.out.keep hb1 hb1.size)
  have hs1 := hb1.size
  simp only [World.size_alloc] at hs1
  obtain ⟨r, hrr⟩ : ∃ r, r = rightN t := ⟨_, rfl⟩
  have RR := Lib.hid hrr
  rw [← hrr]
  clear hb1 hrr
  by_cases h0 : r = 0
  · have R0 := Lib.hid (show rightN t = 0 by rw [← RR.out]; exact h0)
    have RP := Lib.hid (right_parts R0.out)
    subst h0
    clear y0 y1 y2 f0 f1 f2
    have h1 : ((0 : Int) != 0) = false := by rfl
    go_wp2_with fail
    refine (extentOf_any (plainT t).sz t A c w1 (Nat.le_refl _) RP.out.2.2 (by have := plain_sz t; have := RP.out.1; omega) (by exact HT1.out)).mono ?_
    rintro e w2 ⟨rfl, hb2⟩
    have HT2 := Lib.hid (HT1.out.keep hb2 hb2.size)
    have Y0 := Lib.hid (X0.out.keep hb2 X0.out.lt)
    have Y1 := Lib.hid (X1.out.keep hb2 X1.out.lt)
    have hbr2 : Below w.heap.size w w2 := hbr.trans (hb2.mono hbr.size)
    have hs2 := hb2.size
    clear hb2 x0 x1 x2
    go_wp2_with fail
    refine (fault_any _ _ w2).mono ?_
    rintro e w3 ⟨rfl, hb3⟩
    rw [fault_cast]
    have HT3 := Lib.hid (HT2.out.keep hb3 hb3.size)
    have Z0 := Lib.hid (Y0.out.keep hb3 Y0.out.lt)
    have Z1 := Lib.hid (Y1.out.keep hb3 Y1.out.lt)
    have hbr3 : Below w.heap.size w w3 := hbr2.trans (hb3.mono hbr2.size)
    have hs3 := hb3.size
    clear hb3
    obtain ⟨f, hf⟩ : ∃ f, f = plainF t := ⟨_, rfl⟩
    rw [show (if 1000 < (plainT t).sz then 20 else if 100 < (plainT t).dp then 21 else 0 : Nat) = f from hf.symm]
    have FF := Lib.hid hf
    clear hf
    obtain ⟨x0, x1, x2⟩ := Z0.out.cells
    by_cases h4 : f = 0
    · have D := Lib.hid (show plainR t = (plainT t, 0) by unfold plainR; rw [if_neg (by rw [R0.out]; simp), if_neg (by rw [← FF.out, h4]; simp)])
      subst h4
      go_wp2_with fail
      refine (plain_any (plainT t).sz t A c w3 (Nat.le_refl _) RP.out.2.2 (by exact HT3.out)).mono ?_
      rintro e w4 ⟨A3, c3, rfl, ho, hb4⟩
      have X4 := Lib.hid (Z1.out.keep hb4 Z1.out.lt)
      obtain ⟨y0, y1, y2⟩ := X4.out.cells
      have f0 := X4.out.frozen 0
      have f1 := X4.out.frozen 1
      have f2 := X4.out.frozen 2
      have BR4 := Lib.hid (hbr3.trans (hb4.mono hbr3.size))
      have HO := Lib.hid ho
      have hz := Z1.out.lt
      clear ho hb4
      go_wp2_with fail
      exact bodyPost_ret (v := .tuple #[.agg #[.int .i64 (plainT t).k, .int .i64 (plainT t).i, .slice A3 (plainT t).ks.length c3], .int .i64 0]) (by simp [results, Try.results31, go_sem, y0, y1, y2]) rfl (ans_tree D.out BR4.out HO.out (by omega) (by omega))
    · have D := Lib.hid (show plainR t = (zeroT, f) by unfold plainR; rw [if_neg (by rw [R0.out]; simp), if_pos (by rw [← FF.out]; exact h4), FF.out])
      have h5 : ((f : Int) != 0) = true := by rw [bne_iff_ne]; omega
      obtain ⟨y0, y1, y2⟩ := Z1.out.cells
      have f0 := Z1.out.frozen 0
      have f1 := Z1.out.frozen 1
      have f2 := Z1.out.frozen 2
      go_wp2_with fail
      exact bodyPost_ret (v := .tuple #[.agg #[.int .i64 0, .int .i64 0, .slice none 0 0], .int .i64 (f : Int)]) (by simp [results, Try.results31, go_sem, y0, y1, y2]) rfl (ans_zero D.out hbr3 (by omega))
  · have D := Lib.hid (show plainR t = (zeroT, r) by unfold plainR; rw [if_pos (by rw [← RR.out]; exact h0), RR.out])
    have h1 : ((r : Int) != 0) = true := by rw [bne_iff_ne]; omega
    go_wp2_with fail
    exact bodyPost_ret (v := .tuple #[.agg #[.int .i64 0, .int .i64 0, .slice none 0 0], .int .i64 (r : Int)]) (by simp [results, Try.results31, go_sem, y0, y1, y2]) rfl (ans_zero D.out hbr (by omega))
set_option maxHeartbeats 1000000 in
theorem rfirst_any (t : Tr) (A : Option Addr) (c : Nat) (w : World) (ht : IsT w w.heap.size t A c) :
    Calls Try.prog 70 #[.slice A t.ks.length c] w fun e w' => e = .returned (.int .i64 (firstL t.ks : Nat)) ∧ Below w.heap.size w w' := by
  have HT := Lib.hid ht
  have hl := ht.len
  clear ht
  go_enter Try.func70, Try.ntmps70
  go_wp2_with fail
  go_loopw [8] (fun i wr => ∃ m : Nat, m ≤ t.ks.length ∧ i = .int .i64 m ∧ firstL t.ks = firstL (t.ks.drop m) ∧ Below w.heap.size w wr) (fun i _ => t.ks.length - (intOf i).toNat)
  case atStart => exact ⟨0, Nat.zero_le _, rfl, by simp, Below.refl _ _⟩
  case round =>
    obtain ⟨m, hm', rfl, hf, hbr⟩ := hrel
    have HF := Lib.hid hf
    clear hf
    by_cases hlt : m < t.ks.length
    · obtain ⟨b, o, A', c', rfl, hlt', p0, p1, p2, hk⟩ := HT.out.kid m hlt
      have S := Lib.hid (firstL_skip t.ks m hlt HF.out)
      have Z := Lib.hid (firstL_hit t.ks m hlt HF.out)
      obtain ⟨q, hq⟩ : ∃ q, q = t.ks[m] := ⟨_, rfl⟩
      rw [← hq] at p0 p1 p2 hk S Z
      clear hq
      have e0 := (hbr.cell hlt').trans p0
      have e1 := (hbr.cell hlt').trans p1
      have e2 := (hbr.cell hlt').trans p2
      have ha : Below wr.heap.size wr (wr.alloc (.cells #[.int .i64 q.k, .int .i64 q.i, .slice A' q.ks.length c'] 24)) := (Below.refl _ _).alloc (Nat.le_refl _) _
      have HK := Lib.hid ((hk.keep hbr hbr.size).keep ha ha.size)
      clear p0 p1 p2 hk
      go_wp2_with fail
      refine (right_any q A' c' _ (by exact HK.out)).mono ?_
      rintro e w1 ⟨rfl, hb1⟩
      have hb2 : Below w.heap.size w w1 := hbr.trans ((ha.trans (hb1.mono ha.size)).mono hbr.size)
      clear hb1
      by_cases hr : rightN q = 0
      · have h1 : ((rightN q : Int) != 0) = false := by simpa using hr
        have S2 := Lib.hid (S.out hr)
        clear hr
        go_wp2_with fail
        go_roundw
        case rel => exact ⟨m + 1, by omega, by go_num, S2.out, hb2⟩
        case measure => simp [intOf]; omega
      · have h1 : ((rightN q : Int) != 0) = true := by simpa using hr
        have S2 := Lib.hid (Z.out hr)
        clear hr
        go_wp2_with fail
        go_ret
        exact ⟨ret_int (by rw [S2.out]), hb2⟩
    · obtain rfl : m = t.ks.length := by omega
      have F := Lib.hid (show firstL t.ks = 0 by rw [HF.out, List.drop_length]; rfl)
      go_wp2_with fail
      go_ret
      exact ⟨ret_int (by rw [F.out]; rfl), hbr⟩
/-- the fault of a list of what must be formulas -/
def formsN (ks : List Tr) : Nat := if firstL ks ≠ 0 then firstL ks else if ks.all isFB then 0 else 40
theorem all_take {p : Tr → Bool} (ks : List Tr) (m : Nat) (h : m < ks.length) : (ks.take (m + 1)).all p = ((ks.take m).all p && p ks[m]) := by
  rw [List.take_succ_eq_append_getElem h, List.all_append]; simp
set_option maxHeartbeats 4000000 in
set_option maxRecDepth 100000 in
theorem forms_any (t : Tr) (A : Option Addr) (c : Nat) (w : World) (ht : IsT w w.heap.size t A c) :
    Calls Try.prog 73 #[.slice A t.ks.length c] w fun e w' => e = .returned (.int .i64 (formsN t.ks : Nat)) ∧ Below w.heap.size w w' := by
  have HT := Lib.hid ht
  have hl := ht.len
  clear ht
  go_enter Try.func73, Try.ntmps73
  go_wp2_with fail
  refine (rfirst_any t A c _ HT.out).mono ?_
  rintro e w1 ⟨rfl, hb1⟩
  by_cases h0 : firstL t.ks = 0
  · have F0 := Lib.hid h0
    rw [h0]
    clear h0
    have B1 := Lib.hid hb1
    clear hb1
    go_wp2_with fail
    go_loopw [13] (fun i wr => ∃ m : Nat, m ≤ t.ks.length ∧ i = .int .i64 m ∧ (t.ks.take m).all isFB = true ∧ Below w.heap.size w wr) (fun i _ => t.ks.length - (intOf i).toNat)
    case atStart => exact ⟨0, Nat.zero_le _, rfl, by simp, B1.out⟩
    case round =>
      obtain ⟨m, hm', rfl, hf, hbr⟩ := hrel
      have HF := Lib.hid hf
      clear hf
      by_cases hlt : m < t.ks.length
      · obtain ⟨b, o, A', c', rfl, hlt', p0, p1, p2, hk⟩ := HT.out.kid m hlt
        have S := Lib.hid (all_take (p := isFB) t.ks m hlt)
        have MEM := Lib.hid (List.getElem_mem hlt)
        obtain ⟨q, hq⟩ : ∃ q, q = t.ks[m] := ⟨_, rfl⟩
        rw [← hq] at p0 p1 p2 hk S MEM
        clear hq
        have e0 := (hbr.cell hlt').trans p0
        have e1 := (hbr.cell hlt').trans p1
        have e2 := (hbr.cell hlt').trans p2
        have ha : Below wr.heap.size wr (wr.alloc (.cells #[.int .i64 q.k, .int .i64 q.i, .slice A' q.ks.length c'] 24)) := (Below.refl _ _).alloc (Nat.le_refl _) _
        have HK := Lib.hid ((hk.keep hbr hbr.size).keep ha ha.size)
        clear p0 p1 p2 hk
        go_wp2_with fail
        refine (isForm_any q A' c' _ (by exact HK.out)).mono ?_
        rintro e w2 ⟨rfl, hb2⟩
        have hb3 : Below w.heap.size w w2 := hbr.trans ((ha.trans (hb2.mono ha.size)).mono hbr.size)
        clear hb2
        cases hr : isFB q with
        | true =>
          have S2 := Lib.hid (show (t.ks.take (m + 1)).all isFB = true by rw [S.out, HF.out, hr]; rfl)
          clear hr
          go_wp2_with fail
          go_roundw
          case rel => exact ⟨m + 1, by omega, by go_num, S2.out, hb3⟩
          case measure => simp [intOf]; omega
        | false =>
          have S2 := Lib.hid (show formsN t.ks = 40 by
            unfold formsN
            rw [if_neg (by rw [F0.out]; simp), if_neg]
            intro h
            rw [List.all_eq_true] at h
            rw [h q MEM.out] at hr
            cases hr)
          clear hr
          go_wp2_with fail
          go_ret
          exact ⟨ret_int (by rw [S2.out]; rfl), hb3⟩
      · obtain rfl : m = t.ks.length := by omega
        have F := Lib.hid (show formsN t.ks = 0 by
          unfold formsN
          rw [List.take_length] at HF
          rw [if_neg (by rw [F0.out]; simp), if_pos HF.out])
        go_wp2_with fail
        go_ret
        exact ⟨ret_int (by rw [F.out]; rfl), hbr⟩
  · have D := Lib.hid (show formsN t.ks = firstL t.ks by unfold formsN; rw [if_pos h0])
    have h1 : ((firstL t.ks : Int) != 0) = true := by rw [bne_iff_ne]; omega
    go_wp2_with fail
    go_ret
    exact ⟨ret_int (by rw [D.out]), hb1⟩
end Go.Proofs.Ytjdhmfpkhijkeaa
