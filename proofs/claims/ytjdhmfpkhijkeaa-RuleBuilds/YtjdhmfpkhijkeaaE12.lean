/- firstFault, Compare, Same of package expr; the document's Like, Same, Compare. -/
import Derived.Test.YtjdhmfpkhijkeaaE11
import Derived.Test.YtjdhmfpkhijkeaaLK
namespace Go.Proofs.Ytjdhmfpkhijkeaa
open Go.RowKit
theorem xorder_any (N : Nat) : OrderC N := by
  induction N with
  | zero => intro t _ _ _ _ _ w h; have := sz_pos t; omega
  | succ N ih => exact order_step N ih
def firstL : List Tr → Nat
  | [] => 0
  | t :: r => if rightN t ≠ 0 then rightN t else firstL r
theorem firstL_two (a b : Tr) : firstL [a, b] = firstN a b := by
  unfold firstN
  simp only [firstL]
  split
  · rfl
  · split
    · rfl
    · rename_i h; simp at h; omega
theorem firstL_skip (ks : List Tr) (m : Nat) (h : m < ks.length) (h0 : firstL ks = firstL (ks.drop m)) (hr : rightN ks[m] = 0) : firstL ks = firstL (ks.drop (m + 1)) := by
  rw [h0, List.drop_eq_getElem_cons h]; simp only [firstL]; rw [if_neg (by simp [hr])]
theorem firstL_hit (ks : List Tr) (m : Nat) (h : m < ks.length) (h0 : firstL ks = firstL (ks.drop m)) (hr : rightN ks[m] ≠ 0) : firstL ks = rightN ks[m] := by
  rw [h0, List.drop_eq_getElem_cons h]; simp only [firstL]; rw [if_pos hr]
set_option maxHeartbeats 1000000 in
theorem firstFault_any (t : Tr) (A : Option Addr) (c : Nat) (w : World) (ht : IsT w w.heap.size t A c) :
    Calls Try.prog 137 #[.slice A t.ks.length c] w fun e w' => e = .returned (.int .i64 (firstL t.ks : Nat)) ∧ Below w.heap.size w w' := by
  have HT := Lib.hid ht
  have hl := ht.len
  clear ht
  go_enter Try.func137, Try.ntmps137
  go_wp2_with fail
  go_loopw [8] (fun i wr => ∃ m : Nat, m ≤ t.ks.length ∧ i = .int .i64 m ∧ firstL t.ks = firstL (t.ks.drop m) ∧ Below w.heap.size w wr) (fun i _ => t.ks.length - (intOf i).toNat)
  case atStart => exact ⟨0, Nat.zero_le _, rfl, by simp, Below.refl _ _⟩
  case round =>
    obtain ⟨m, hm', rfl, hf, hbr⟩ := hrel
    have HF := Lib.hid hf
    clear hf
    by_cases hlt : m < t.ks.length
    · obtain ⟨b, o, A', c', rfl, hlt', p0, p1, p2, hk⟩ := HT.out.kid m hlt
      have S := Lib.hid (firstL_skip t.ks m hlt HF.out)
      have Z := Lib.hid (firstL_hit t.ks m hlt HF.out)
      obtain ⟨q, hq⟩ : ∃ q, q = t.ks[m] := ⟨_, rfl⟩
      rw [← hq] at p0 p1 p2 hk S Z
      clear hq
      have e0 := (hbr.cell hlt').trans p0
      have e1 := (hbr.cell hlt').trans p1
      have e2 := (hbr.cell hlt').trans p2
      have ha : Below wr.heap.size wr (wr.alloc (.cells #[.int .i64 q.k, .int .i64 q.i, .slice A' q.ks.length c'] 24)) := (Below.refl _ _).alloc (Nat.le_refl _) _
      have HK := Lib.hid ((hk.keep hbr hbr.size).keep ha ha.size)
      clear p0 p1 p2 hk
      go_wp2_with fail
      refine (right_any q A' c' _ (by exact HK.out)).mono ?_
      rintro e w1 ⟨rfl, hb1⟩
      have hb2 : Below w.heap.size w w1 := hbr.trans ((ha.trans (hb1.mono ha.size)).mono hbr.size)
      clear hb1
      by_cases hr : rightN q = 0
      · have h1 : ((rightN q : Int) != 0) = false := by simpa using hr
        have S2 := Lib.hid (S.out hr)
        clear hr
        go_wp2_with fail
        go_roundw
        case rel => exact ⟨m + 1, by omega, by go_num, S2.out, hb2⟩
        case measure => simp [intOf]; omega
      · have h1 : ((rightN q : Int) != 0) = true := by simpa using hr
        have S2 := Lib.hid (Z.out hr)
        clear hr
        go_wp2_with fail
        go_ret
        exact ⟨ret_int (by rw [S2.out]), hb2⟩
    · obtain rfl : m = t.ks.length := by omega
      have F := Lib.hid (show firstL t.ks = 0 by rw [HF.out, List.drop_length]; rfl)
      go_wp2_with fail
      go_ret
      exact ⟨ret_int (by rw [F.out]; rfl), hbr⟩
/-- a list of two, laid out for a variadic call -/
theorem isT_pair {w wr : World} {a b : Tr} {A A' : Option Addr} {c c' : Nat} (h : Two w wr a b A A' c c') :
    IsT (wr.alloc (.cells #[.int .i64 a.k, .int .i64 a.i, .slice A a.ks.length c, .int .i64 b.k, .int .i64 b.i, .slice A' b.ks.length c'] 24)) (wr.heap.size + 1) (.node 0 0 [a, b]) (some ⟨wr.heap.size, 0, none⟩) 2 := by
  have hb : Below wr.heap.size wr (wr.alloc (.cells #[.int .i64 a.k, .int .i64 a.i, .slice A a.ks.length c, .int .i64 b.k, .int .i64 b.i, .slice A' b.ks.length c'] 24)) := (Below.refl _ _).alloc (Nat.le_refl _) _
  have e := fun j => cell_new3 wr #[.int .i64 a.k, .int .i64 a.i, .slice A a.ks.length c, .int .i64 b.k, .int .i64 b.i, .slice A' b.ks.length c'] 24 j
  refine IsT.mk (t := .node 0 0 [a, b]) (by simp [Tr.ks]) (by simp [Tr.ks, Cap]) fun m hm => ?_
  have hm' : m = 0 ∨ m = 1 := by simp [Tr.ks] at hm; omega
  rcases hm' with rfl | rfl
  · exact ⟨wr.heap.size, 0, A, c, rfl, by omega, e 0, e 1, e 2, h.ta.keep hb (by omega)⟩
  · exact ⟨wr.heap.size, 0, A', c', rfl, by omega, e 3, e 4, e 5, h.tb.keep hb (by omega)⟩
/-- what Compare answers: a number, an error -/
def compV (a b : Tr) : Int := if firstN a b ≠ 0 then 0 else cmpT a b
theorem ret2_ints {k k' : IntKind} {a b c d : Int} (h : a = b) (h' : c = d) : Ending.returned (.tuple #[.int k a, .int k' c]) = .returned (.tuple #[.int k b, .int k' d]) := by rw [h, h']
set_option maxHeartbeats 1000000 in
theorem compare_any (a b : Tr) (A A' : Option Addr) (c c' : Nat) (w : World) (ha : IsT w w.heap.size a A c) (hb : IsT w w.heap.size b A' c') :
    Calls Try.prog 113 #[.agg #[.int .i64 a.k, .int .i64 a.i, .slice A a.ks.length c], .agg #[.int .i64 b.k, .int .i64 b.i, .slice A' b.ks.length c']] w fun e w' => e = .returned (.tuple #[.int .i64 (compV a b), .int .i64 (firstN a b : Nat)]) ∧ Below w.heap.size w w' := by
  have T0 := Lib.hid (two_start ha hb)
  have P0 := Lib.hid (isT_pair T0.out)
  have K0 := Lib.hid (T0.out.keep ((Below.refl _ _).alloc (Nat.le_refl _) (.cells #[.int .i64 a.k, .int .i64 a.i, .slice A a.ks.length c, .int .i64 b.k, .int .i64 b.i, .slice A' b.ks.length c'] 24)))
  clear ha hb
  go_enter Try.func113, Try.ntmps113
  go_wp2_with fail
  refine (firstFault_any (.node 0 0 [a, b]) _ 2 _ (by simpa using P0.out)).mono ?_
  rintro e w1 ⟨rfl, hb1⟩
  have T1 := K0.out.keep hb1
  have FE := Lib.hid (show firstL (Tr.node 0 0 [a, b]).ks = firstN a b from firstL_two a b)
  rw [FE.out]
  by_cases h : firstN a b = 0
  · have h1 : ((firstN a b : Int) != 0) = false := by simpa using h
    have F := Lib.hid (show compV a b = cmpT a b by unfold compV; rw [if_neg (by simp [h])])
    have H := Lib.hid h
    have c0 := T1.b0
    have c1 := T1.b1
    have c2 := T1.b2
    have c3 := T1.d0
    have c4 := T1.d1
    have c5 := T1.d2
    clear h hb1
    go_wp2_with fail
    refine (xorder_any a.sz a b A A' c c' _ (Nat.le_refl _) (by exact T1.ta) (by exact T1.tb)).mono ?_
    rintro e w2 ⟨rfl, hb2⟩
    go_wp2_with fail
    go_ret2
    exact ⟨ret2_ints (by rw [F.out]) (by rw [H.out]; rfl), (T1.keep hb2).below⟩
  · have h1 : ((firstN a b : Int) != 0) = true := by simpa using h
    have F := Lib.hid (show compV a b = 0 by unfold compV; rw [if_pos h])
    clear h hb1
    go_wp2_with fail
    go_ret2
    exact ⟨ret2_ints (by rw [F.out]) rfl, T1.below⟩
/-- both right, and the same -/
def sameB (a b : Tr) : Bool := decide (firstN a b = 0) && decide (cmpT a b = 0)
set_option maxHeartbeats 1000000 in
theorem same_any (a b : Tr) (A A' : Option Addr) (c c' : Nat) (w : World) (ha : IsT w w.heap.size a A c) (hb : IsT w w.heap.size b A' c') :
    Calls Try.prog 71 #[.agg #[.int .i64 a.k, .int .i64 a.i, .slice A a.ks.length c], .agg #[.int .i64 b.k, .int .i64 b.i, .slice A' b.ks.length c']] w fun e w' => e = .returned (.bool (sameB a b)) ∧ Below w.heap.size w w' := by
  have T0 := Lib.hid (two_start ha hb)
  clear ha hb
  go_enter Try.func71, Try.ntmps71
  go_wp2_with fail
  refine (compare_any a b A A' c c' _ (by exact T0.out.ta) (by exact T0.out.tb)).mono ?_
  rintro e w1 ⟨rfl, hb1⟩
  have R := Lib.hid (T0.out.keep hb1).below
  clear hb1
  by_cases h : firstN a b = 0
  · have h1 : ((firstN a b : Int) == 0) = true := by simpa using h
    have F := Lib.hid (show compV a b = cmpT a b by unfold compV; rw [if_neg (by simp [h])])
    rw [F.out]
    by_cases hc : cmpT a b = 0
    · have hc1 : (cmpT a b == 0) = true := by simpa using hc
      have G := Lib.hid (show sameB a b = true by unfold sameB; rw [decide_eq_true h, decide_eq_true hc]; rfl)
      clear h hc
      go_wp2_with fail
      go_ret
      exact ⟨by rw [G.out]; rfl, R.out⟩
    · have hc1 : (cmpT a b == 0) = false := by simpa using hc
      have G := Lib.hid (show sameB a b = false by unfold sameB; rw [decide_eq_true h, decide_eq_false hc]; rfl)
      clear h hc
      go_wp2_with fail
      go_ret
      exact ⟨by rw [G.out]; rfl, R.out⟩
  · have h1 : ((firstN a b : Int) == 0) = false := by simpa using h
    have G := Lib.hid (show sameB a b = false by unfold sameB; rw [decide_eq_false h]; rfl)
    clear h
    go_wp2_with fail
    go_ret
    exact ⟨by rw [G.out]; rfl, R.out⟩
/-! ### the document's -/
theorem sameB_eq (a b : Tr) : sameB a b = (decide (rightN a = 0) && decide (rightN b = 0) && likeB a b) := by
  unfold sameB firstN likeB
  by_cases h : rightN a = 0
  · rw [if_neg (by simp [h]), decide_eq_true h]; rfl
  · rw [if_pos h, decide_eq_false h]; rfl
end Go.Proofs.Ytjdhmfpkhijkeaa
