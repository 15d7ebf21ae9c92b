/- Print of package parse and of the document's layer 3; the law ParsePrints, walked. -/
import Derived.Test.YtgnfbhemkombaaaDoorY3
import Derived.Test.YtgnfbhemkombaaaDoorE9
namespace Go.Proofs.YtgnfbhemkombaaaDoor
open Go.RowKit
set_option linter.unusedVariables false
set_option linter.unusedSimpArgs false
theorem right_shpY {t : Tr} (h : rightN t = 0) : t.shp = true ∧ t.sz ≤ 1000 ∧ t.dp ≤ 100 := by
  unfold rightN at h
  split at h
  · cases h
  split at h
  · cases h
  split at h
  · rename_i hs; exact ⟨hs, by omega, by omega⟩
  · cases h
/-- what is printed -/
def printL (t : Tr) : List UInt8 := if rightN t = 0 then textT t else []
theorem BU.new (w : World) : BU w.heap.size w.heap.size [] (w.alloc (.cells #[.pointer none, .slice none 0 0] 51)) :=
  .inl ⟨Nat.le_refl _, .slice none 0 0, by show (w.heap.push _)[w.heap.size]? = _; simp, World.ownsRowF_nil _ _ _ _, by simp [Value.ownBlock]⟩
set_option maxHeartbeats 2000000 in
set_option maxRecDepth 100000 in
theorem print_any (t : Tr) (A : Option Addr) (c : Nat) (w : World) (ht : IsT w w.heap.size t A c) :
    Calls Tryd.prog 8 #[.agg #[.int .i64 t.k, .int .i64 t.i, .slice A t.ks.length c]] w fun e w' => e = .returned (.tuple #[.string ⟨(printL t).toArray⟩, .int .i64 (rightN t : Nat)]) ∧ Below w.heap.size w w' := by
  have T0 := Lib.hid (TY.start w t.k t.i A t.ks.length c)
  have HT := Lib.hid ht
  have RS := Lib.hid (fun h : rightN t = 0 => right_shpY h)
  obtain ⟨pl, hpl⟩ : ∃ pl, pl = printL t := ⟨_, rfl⟩
  have PL := Lib.hid (show pl = if rightN t = 0 then textT t else [] from hpl)
  rw [← hpl]
  clear hpl
  obtain ⟨r, hr⟩ : ∃ r, r = rightN t := ⟨_, rfl⟩
  rw [← hr] at RS PL ⊢
  have RA := Lib.hid (fun (W : World) (h : Below w.heap.size w W) => hr ▸ right_any t A c W (ht.keep h h.size))
  clear ht hr
  obtain ⟨x0, x1, x2⟩ := T0.out.box.cells
  go_enter Tryd.func8, Tryd.ntmps8
  go_wp2_with fail
  refine (RA.out _ T0.out.below).mono ?_
  rintro e w1 ⟨rfl, hb1⟩
  have T1 := Lib.hid (T0.out.keep hb1)
  clear hb1 x0 x1 x2 T0
  by_cases h0 : r = 0
  · subst h0
    obtain rfl : pl = textT t := PL.out.trans (if_pos rfl)
    obtain ⟨hs, hz, _⟩ := RS.out rfl
    have TB := Lib.hid (T1.out.keep (below_alY w1 (.cells #[.pointer none, .slice none 0 0] 51)))
    have UB := Lib.hid (BU.new w1)
    have SZ := Lib.hid T1.out.below.size
    have WQ := Lib.hid (write_all 1000 t A c w1.heap.size w1.heap.size [] (w1.alloc (.cells #[.pointer none, .slice none 0 0] 51)) hz hs (HT.out.keep TB.out.below SZ.out) UB.out (by simp) (by simp; omega))
    clear hs hz
    obtain ⟨x0, x1, x2⟩ := TB.out.box.cells
    go_wp2_with fail
    refine WQ.out.mono ?_
    rintro e w2 ⟨rfl, u2, k2⟩
    rw [List.nil_append] at u2
    have U2 := Lib.hid u2
    have K2 := Lib.hid k2
    have Z2 := Lib.hid (show w1.heap.size ≤ w2.heap.size from Nat.le_trans (by simp) k2.size)
    clear u2 k2 x0 x1 x2
    go_wp2_with fail
    refine (Tryd.Builder_String_any_k w1.heap.size w1.heap.size (textT t) _ U2.out Z2.out).mono ?_
    rintro e w3 ⟨rfl, _, hb3, _⟩
    have B3 := Lib.hid (TB.out.below.trans ((K2.out.below.mono SZ.out).trans (hb3.mono SZ.out)))
    clear hb3
    go_wp2_with fail
    go_ret2
    exact ⟨rfl, B3.out⟩
  · have e1 : ((r : Int) != 0) = true := by rw [bne_iff_ne]; omega
    obtain rfl : pl = [] := PL.out.trans (if_neg h0)
    clear h0
    go_wp2_with fail
    go_ret2
    exact ⟨rfl, T1.out.below⟩
set_option maxHeartbeats 2000000 in
set_option maxRecDepth 100000 in
theorem rprint_any (t : Tr) (A : Option Addr) (c : Nat) (w : World) (ht : IsT w w.heap.size t A c) :
    Calls Tryd.prog 9 #[.agg #[.int .i64 t.k, .int .i64 t.i, .slice A t.ks.length c]] w fun e w' => e = .returned (.tuple #[.string ⟨(printL t).toArray⟩, .int .i64 (rightN t : Nat)]) ∧ Below w.heap.size w w' := by
  have T0 := Lib.hid (TY.start w t.k t.i A t.ks.length c)
  have TX := Lib.hid (fun (W : World) (hs : t.shp = true) (hz : t.sz ≤ 1000) (h : Below w.heap.size w W) => text_all 1000 t A c W hz hs hz (ht.keep h h.size))
  have RS := Lib.hid (fun h : rightN t = 0 => right_shpY h)
  obtain ⟨pl, hpl⟩ : ∃ pl, pl = printL t := ⟨_, rfl⟩
  have PL := Lib.hid (show pl = if rightN t = 0 then textT t else [] from hpl)
  rw [← hpl]
  clear hpl
  obtain ⟨r, hr⟩ : ∃ r, r = rightN t := ⟨_, rfl⟩
  rw [← hr] at RS PL ⊢
  have RA := Lib.hid (fun (W : World) (h : Below w.heap.size w W) => hr ▸ rright_any t A c W (ht.keep h h.size))
  clear ht hr
  obtain ⟨x0, x1, x2⟩ := T0.out.box.cells
  go_enter Tryd.func9, Tryd.ntmps9
  go_wp2_with fail
  refine (RA.out _ T0.out.below).mono ?_
  rintro e w1 ⟨rfl, hb1⟩
  have T1 := Lib.hid (T0.out.keep hb1)
  clear hb1 x0 x1 x2 T0
  obtain ⟨x0, x1, x2⟩ := T1.out.box.cells
  by_cases h0 : r = 0
  · subst h0
    obtain rfl : pl = textT t := PL.out.trans (if_pos rfl)
    obtain ⟨hs, hz, _⟩ := RS.out rfl
    have TQ := Lib.hid (fun (W : World) (h : Below w.heap.size w W) => TX.out W hs hz h)
    clear hs hz
    go_wp2_with fail
    refine (TQ.out _ T1.out.below).mono ?_
    rintro e w2 ⟨rfl, hb2⟩
    have T2 := Lib.hid (T1.out.keep hb2)
    clear hb2
    go_wp2_with fail
    go_ret2
    exact ⟨rfl, T2.out.below⟩
  · have e1 : ((r : Int) != 0) = true := by rw [bne_iff_ne]; omega
    obtain rfl : pl = [] := PL.out.trans (if_neg h0)
    clear h0
    go_wp2_with fail
    refine (RA.out _ T1.out.below).mono ?_
    rintro e w2 ⟨rfl, hb2⟩
    have T2 := Lib.hid (T1.out.keep hb2)
    clear hb2
    go_wp2_with fail
    go_ret2
    exact ⟨rfl, T2.out.below⟩
set_option maxHeartbeats 2000000 in
set_option maxRecDepth 100000 in
theorem prints_law (t : Tr) (A : Option Addr) (c : Nat) (w : World) (ht : IsT w w.heap.size t A c) :
    Calls Tryd.prog 3 #[.agg #[.int .i64 t.k, .int .i64 t.i, .slice A t.ks.length c]] w fun e w' => e = .returned (.bool true) ∧ Below w.heap.size w w' := by
  have T0 := Lib.hid (TY.start w t.k t.i A t.ks.length c)
  obtain ⟨r, hr⟩ : ∃ r, r = rightN t := ⟨_, rfl⟩
  obtain ⟨s, hs⟩ : ∃ s : ByteArray, s = ⟨(printL t).toArray⟩ := ⟨_, rfl⟩
  have PA := Lib.hid (fun (W : World) (h : Below w.heap.size w W) => hr ▸ hs ▸ print_any t A c W (ht.keep h h.size))
  have RA := Lib.hid (fun (W : World) (h : Below w.heap.size w W) => hr ▸ hs ▸ rprint_any t A c W (ht.keep h h.size))
  have e1 : (s.toList == s.toList) = true := beq_self_eq_true _
  have e2 : ((r : Int) == (r : Int)) = true := beq_self_eq_true _
  clear ht hr hs
  obtain ⟨x0, x1, x2⟩ := T0.out.box.cells
  go_enter Tryd.func3, Tryd.ntmps3
  go_wp2_with fail
  refine (PA.out _ T0.out.below).mono ?_
  rintro e w1 ⟨rfl, hb1⟩
  have T1 := Lib.hid (T0.out.keep hb1)
  clear hb1 x0 x1 x2 T0
  obtain ⟨x0, x1, x2⟩ := T1.out.box.cells
  go_wp2_with fail
  refine (RA.out _ T1.out.below).mono ?_
  rintro e w2 ⟨rfl, hb2⟩
  have T2 := Lib.hid (T1.out.keep hb2)
  clear hb2
  go_wp2_with fail
  go_ret
  exact ⟨rfl, T2.out.below⟩
end Go.Proofs.YtgnfbhemkombaaaDoor
