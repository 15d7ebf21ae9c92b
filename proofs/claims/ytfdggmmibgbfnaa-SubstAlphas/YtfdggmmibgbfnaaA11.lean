/- Alpha of package subst; the law SubstAlphas. -/
import Derived.Test.YtfdggmmibgbfnaaA10
import Derived.Test.YtfdggmmibgbfnaaA3
import Derived.Test.YtfdggmmibgbfnaaE9
namespace Go.Proofs.Ytfdggmmibgbfnaa
open Go.RowKit
set_option linter.unusedVariables false
set_option linter.unusedSimpArgs false
/-- the row of the two, beside their boxes -/
structure Al2 (w wr : World) (a b : Tr) (A A' : Option Addr) (c c' : Nat) : Prop where
  two : Two w wr a b A A' c c'
  row : wr.heap[w.heap.size + 2]? = some (.cells #[.int .i64 a.k, .int .i64 a.i, .slice A a.ks.length c, .int .i64 b.k, .int .i64 b.i, .slice A' b.ks.length c'] 24 (0, 0))
theorem Al2.lt {w wr : World} {a b : Tr} {A A' : Option Addr} {c c' : Nat} (h : Al2 w wr a b A A' c c') : w.heap.size + 2 < wr.heap.size := (Array.getElem?_eq_some_iff.1 h.row).1
theorem Al2.keep {w wr w1 : World} {a b : Tr} {A A' : Option Addr} {c c' : Nat} (h : Al2 w wr a b A A' c c') (hb : Below wr.heap.size wr w1) : Al2 w w1 a b A A' c c' :=
  ⟨h.two.keep hb, (hb.block _ h.lt).trans h.row⟩
theorem Al2.cells {w wr : World} {a b : Tr} {A A' : Option Addr} {c c' : Nat} (h : Al2 w wr a b A A' c c') : (wr.cell? ⟨w.heap.size + 2, 0, none⟩ = some (.int .i64 a.k) ∧ wr.cell? ⟨w.heap.size + 2, 1, none⟩ = some (.int .i64 a.i) ∧ wr.cell? ⟨w.heap.size + 2, 2, none⟩ = some (.slice A a.ks.length c)) ∧ (wr.cell? ⟨w.heap.size + 2, 3, none⟩ = some (.int .i64 b.k) ∧ wr.cell? ⟨w.heap.size + 2, 4, none⟩ = some (.int .i64 b.i) ∧ wr.cell? ⟨w.heap.size + 2, 5, none⟩ = some (.slice A' b.ks.length c')) := by
  simp [World.cell?, h.row]
theorem Al2.new {w : World} {a b : Tr} {A A' : Option Addr} {c c' : Nat} (ha : IsT w w.heap.size a A c) (hb : IsT w w.heap.size b A' c') :
    Al2 w (((w.alloc (.cells #[.int .i64 a.k, .int .i64 a.i, .slice A a.ks.length c] 24)).alloc (.cells #[.int .i64 b.k, .int .i64 b.i, .slice A' b.ks.length c'] 24)).alloc (.cells #[.int .i64 a.k, .int .i64 a.i, .slice A a.ks.length c, .int .i64 b.k, .int .i64 b.i, .slice A' b.ks.length c'] 24)) a b A A' c c' := by
  refine ⟨(two_start ha hb).keep (below_alloc' _ _), ?_⟩
  have := heap_alloc_last ((w.alloc (.cells #[.int .i64 a.k, .int .i64 a.i, .slice A a.ks.length c] 24)).alloc (.cells #[.int .i64 b.k, .int .i64 b.i, .slice A' b.ks.length c'] 24)) (.cells #[.int .i64 a.k, .int .i64 a.i, .slice A a.ks.length c, .int .i64 b.k, .int .i64 b.i, .slice A' b.ks.length c'] 24)
  simpa using this
set_option maxHeartbeats 4000000 in
set_option maxRecDepth 100000 in
theorem alpha_any (a b : Tr) (A A' : Option Addr) (c c' : Nat) (w : World) (ha : IsT w w.heap.size a A c) (hb : IsT w w.heap.size b A' c') :
    Calls Try.prog 16 #[.agg #[.int .i64 a.k, .int .i64 a.i, .slice A a.ks.length c], .agg #[.int .i64 b.k, .int .i64 b.i, .slice A' b.ks.length c']] w fun e w' => e = .returned (.tuple #[.bool (alphaB a b), .int .i64 (firstN a b : Nat)]) ∧ Below w.heap.size w w' := by
  have L0 := Lib.hid (Al2.new ha hb)
  have T0 := Lib.hid (two_start ha hb)
  have b0 := T0.out.b0
  have b1 := T0.out.b1
  have b2 := T0.out.b2
  have d0 := T0.out.d0
  have d1 := T0.out.d1
  have d2 := T0.out.d2
  clear ha hb
  go_enter Try.func16, Try.ntmps16
  go_wp2_with fail
  go_loopw [13] (fun i wx => ∃ m : Nat, m ≤ 2 ∧ i = .int .i64 m ∧ Al2 w wx a b A A' c c' ∧ (1 ≤ m → rightN a = 0) ∧ (2 ≤ m → rightN b = 0)) (fun i _ => 2 - (intOf i).toNat)
  case atStart => exact ⟨0, by omega, rfl, L0.out, by omega, by omega⟩
  case round =>
    obtain ⟨m, hm, rfl, hL, hra, hrb⟩ := hrel
    have LL := Lib.hid hL
    have HA := Lib.hid hra
    have HB := Lib.hid hrb
    clear hL hra hrb b0 b1 b2 d0 d1 d2
    obtain ⟨⟨r0, r1, r2⟩, r3, r4, r5⟩ := LL.out.cells
    obtain rfl | rfl | rfl : m = 0 ∨ m = 1 ∨ m = 2 := by omega
    · have LA := Lib.hid (LL.out.keep (below_alloc' wr (.cells #[.int .i64 a.k, .int .i64 a.i, .slice A a.ks.length c] 24)))
      go_wp2_with fail
      refine (right_any a A c _ (by exact LA.out.two.ta)).mono ?_
      rintro e w1 ⟨rfl, hb1⟩
      have L1 := Lib.hid (LA.out.keep hb1)
      clear hb1
      by_cases h : rightN a = 0
      · have h0 : ((rightN a : Int) != 0) = false := by simp [h]
        have H0 := Lib.hid h
        clear h
        go_wp2_with fail
        go_roundw
        case rel => exact ⟨1, by omega, by go_num, L1.out, fun _ => H0.out, by omega⟩
        case measure => simp [intOf]
      · have h0 : ((rightN a : Int) != 0) = true := by rw [bne_iff_ne]; omega
        have F := Lib.hid (show alphaB a b = false ∧ firstN a b = rightN a by unfold alphaB firstN; simp [h])
        clear h
        go_wp2_with fail
        try rw [Exit.noGoto_ret]
        go_ret2
        exact ⟨by rw [F.out.1, F.out.2]; rfl, L1.out.two.below⟩
    · have LA := Lib.hid (LL.out.keep (below_alloc' wr (.cells #[.int .i64 b.k, .int .i64 b.i, .slice A' b.ks.length c'] 24)))
      go_wp2_with fail
      refine (right_any b A' c' _ (by exact LA.out.two.tb)).mono ?_
      rintro e w1 ⟨rfl, hb1⟩
      have L1 := Lib.hid (LA.out.keep hb1)
      clear hb1
      have ra := Lib.hid (HA.out (by omega))
      by_cases h : rightN b = 0
      · have h0 : ((rightN b : Int) != 0) = false := by simp [h]
        have H0 := Lib.hid h
        clear h
        go_wp2_with fail
        go_roundw
        case rel => exact ⟨2, by omega, by go_num, L1.out, fun _ => ra.out, fun _ => H0.out⟩
        case measure => simp [intOf]
      · have h0 : ((rightN b : Int) != 0) = true := by rw [bne_iff_ne]; omega
        have F := Lib.hid (show alphaB a b = false ∧ firstN a b = rightN b by unfold alphaB firstN; simp [h, ra.out])
        clear h
        go_wp2_with fail
        try rw [Exit.noGoto_ret]
        go_ret2
        exact ⟨by rw [F.out.1, F.out.2]; rfl, L1.out.two.below⟩
    · have ra := HA.out (by omega)
      have rb := HB.out (by omega)
      have F := Lib.hid (show alphaB a b = eqvT a b 1 id id ∧ firstN a b = 0 by
        have hs := eqv_alike0 (right_shp' ra).1 (right_shp' rb).1
        unfold alphaB firstN; simp [ra, rb, hs])
      have S1 := Lib.hid (And.intro (right_shp' ra) (right_shp' rb))
      have dpa := dp_small ra
      have b0 := LL.out.two.b0
      have b1 := LL.out.two.b1
      have b2 := LL.out.two.b2
      have d0 := LL.out.two.d0
      have d1 := LL.out.two.d1
      have d2 := LL.out.two.d2
      clear ra rb
      go_wp2_with fail
      refine (equivalent_any a b A A' c c' _ (by exact LL.out.two.ta) (by exact LL.out.two.tb) S1.out.1.1 S1.out.2.1 S1.out.1.2.1 dpa).mono ?_
      rintro e w1 ⟨rfl, hb1⟩
      have L1 := Lib.hid (LL.out.keep hb1)
      clear hb1
      go_wp2_with fail
      try rw [Exit.noGoto_ret]
      go_ret2
      exact ⟨by rw [F.out.1, F.out.2]; rfl, L1.out.two.below⟩
set_option maxHeartbeats 2000000 in
theorem alphas_law (a b : Tr) (A A' : Option Addr) (c c' : Nat) (w : World) (ha : IsT w w.heap.size a A c) (hb : IsT w w.heap.size b A' c') :
    Calls Try.prog 4 #[.agg #[.int .i64 a.k, .int .i64 a.i, .slice A a.ks.length c], .agg #[.int .i64 b.k, .int .i64 b.i, .slice A' b.ks.length c']] w fun e w' => e = .returned (.bool true) ∧ Below w.heap.size w w' := by
  have T0 := Lib.hid (two_start ha hb)
  have b0 := T0.out.b0
  have b1 := T0.out.b1
  have b2 := T0.out.b2
  have d0 := T0.out.d0
  have d1 := T0.out.d1
  have d2 := T0.out.d2
  clear ha hb
  go_enter Try.func4, Try.ntmps4
  go_wp2_with fail
  refine (alpha_any a b A A' c c' _ (by exact T0.out.ta) (by exact T0.out.tb)).mono ?_
  rintro e w1 ⟨rfl, hb1⟩
  have T1 := Lib.hid (T0.out.keep hb1)
  clear hb1 b0 b1 b2 d0 d1 d2
  have b0 := T1.out.b0
  have b1 := T1.out.b1
  have b2 := T1.out.b2
  have d0 := T1.out.d0
  have d1 := T1.out.d1
  have d2 := T1.out.d2
  go_wp2_with fail
  refine (ralpha_any a b A A' c c' _ (by exact T1.out.ta) (by exact T1.out.tb)).mono ?_
  rintro e w2 ⟨rfl, hb2⟩
  have T2 := Lib.hid (T1.out.keep hb2)
  clear hb2
  go_wp2_with fail
  go_ret
  exact ⟨by simp, T2.out.below⟩
end Go.Proofs.Ytfdggmmibgbfnaa
