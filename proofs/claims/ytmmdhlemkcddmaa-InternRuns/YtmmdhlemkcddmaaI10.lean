/- Get and Put of package intern. -/
import Derived.Test.YtmmdhlemkcddmaaI9
import Derived.Test.YtmmdhlemkcddmaaI7
namespace Go.Proofs.Ytmmdhlemkcddmaa
open Go.RowKit
set_option linter.unusedVariables false
set_option linter.unusedSimpArgs false
def noGet : Value := .tuple #[.agg #[.int .i64 0, .int .i64 0, .slice none 0 0], .int .i64 3]
def gotGet (t : Tr) (A : Option Addr) (c : Nat) : Value := .tuple #[.agg #[.int .i64 t.k, .int .i64 t.i, .slice A t.ks.length c], .int .i64 0]
set_option maxHeartbeats 2000000 in
theorem get_some {w : World} {lo P M room : Nat} {L : List Tr} {A : Option Addr} {c : Nat} (h : Tab w lo P M room L A c) (m : Nat) (hm : m < L.length) :
    Calls Try.prog 53 #[.pointer (some ⟨P, 0, none⟩), .int .i64 ((m : Int) + 1)] w fun e w' => ∃ A' c', e = .returned (gotGet L[m] A' c') ∧ OwnT w' w.heap.size w'.heap.size L[m] A' c' ∧ Below w.heap.size w w' := by
  have hbe := below_al w (.cells #[.int .i64 0, .int .i64 0, .slice none 0 0] 24)
  have HA := Lib.hid (has_any' (h.keep hbe) ((m : Int) + 1))
  have BU := Lib.hid (build_any m hm _ A c (h.keep hbe))
  have RB := Lib.hid (Box3.new w (.int .i64 0) (.int .i64 0) (.slice none 0 0))
  have B0 := Lib.hid hbe
  have D := Lib.hid (decide_eq_true (show 1 ≤ (m : Int) + 1 ∧ (m : Int) + 1 ≤ (L.length : Int) from ⟨by omega, by omega⟩))
  obtain ⟨t, ht⟩ : ∃ t, t = L[m] := ⟨_, rfl⟩
  rw [← ht] at BU ⊢
  clear h hbe ht
  go_enter Try.func53, Try.ntmps53
  go_wp2_with fail
  refine HA.out.mono ?_
  rintro e w9 ⟨rfl, rfl⟩
  rw [D.out]
  go_wp2_with fail
  refine BU.out.mono ?_
  rintro e w1 ⟨A', c', rfl, ho, hb⟩
  have R1 := RB.out.keep hb RB.out.lt
  obtain ⟨y0, y1, y2⟩ := R1.cells
  have f0 := R1.frozen 0
  have f1 := R1.frozen 1
  have f2 := R1.frozen 2
  have HO := Lib.hid ho
  have HB := Lib.hid (B0.out.trans (hb.mono B0.out.size))
  replace R1 := Lib.hid R1
  have hz := hb.size
  simp only [World.size_alloc] at hz
  clear ho hb
  go_wp2_with fail
  refine bodyPost_ret (v := gotGet t A' c') (by simp [gotGet, results, Try.results53, go_sem, y0, y1, y2]) rfl ⟨A', c', rfl, ?_, ?_⟩
  · have hs : SameIn (w.heap.size + 1) w1.heap.size w1 (((w1.setCell ⟨w.heap.size, 0, none⟩ (.int .i64 t.k)).setCell ⟨w.heap.size, 1, none⟩ (.int .i64 t.i)).setCell ⟨w.heap.size, 2, none⟩ (.slice A' t.ks.length c')) := same_set3 _ _ _ _ _ (by omega)
    have h1 := HO.out
    rw [World.size_alloc] at h1
    have := (h1.same _ hs).lower (lo' := w.heap.size) (by omega)
    simpa using this
  · exact below_set3 HB.out _ _ _ (by omega)
set_option maxHeartbeats 2000000 in
theorem get_none {w : World} {lo P M room : Nat} {L : List Tr} {A : Option Addr} {c : Nat} (h : Tab w lo P M room L A c) (n : Int) (hn : ¬ (1 ≤ n ∧ n ≤ (L.length : Int))) :
    Calls Try.prog 53 #[.pointer (some ⟨P, 0, none⟩), .int .i64 n] w fun e w' => e = .returned noGet ∧ Below w.heap.size w w' := by
  have hbe := below_al w (.cells #[.int .i64 0, .int .i64 0, .slice none 0 0] 24)
  have HA := Lib.hid (has_any' (h.keep hbe) n)
  have RB := Box3.new w (.int .i64 0) (.int .i64 0) (.slice none 0 0)
  have D := Lib.hid (decide_eq_false hn)
  obtain ⟨y0, y1, y2⟩ := RB.cells
  have f0 := RB.frozen 0
  have f1 := RB.frozen 1
  have f2 := RB.frozen 2
  have B0 := Lib.hid hbe
  replace RB := Lib.hid RB
  clear h hbe hn
  go_enter Try.func53, Try.ntmps53
  go_wp2_with fail
  refine HA.out.mono ?_
  rintro e w9 ⟨rfl, rfl⟩
  rw [D.out]
  go_wp2_with fail
  refine bodyPost_ret (v := noGet) (by simp [noGet, results, Try.results53, go_sem, y0, y1, y2]) rfl ⟨rfl, ?_⟩
  first | exact below_set3 B0.out _ _ _ (by omega) | exact B0.out
set_option maxHeartbeats 2000000 in
theorem put_bad {w : World} {lo P M room : Nat} {L : List Tr} {A : Option Addr} {c : Nat} (h : Tab w lo P M room L A c) (t : Tr) (At : Option Addr) (ct : Nat) (ht : IsT w w.heap.size t At ct) (hr : rightN t ≠ 0) :
    Calls Try.prog 20 #[.pointer (some ⟨P, 0, none⟩), .agg #[.int .i64 t.k, .int .i64 t.i, .slice At t.ks.length ct]] w fun e w' => e = .returned (.tuple #[.int .i64 0, .int .i64 (rightN t : Int)]) ∧ Below w.heap.size w w' := by
  have hbe := below_al w (.cells #[.int .i64 t.k, .int .i64 t.i, .slice At t.ks.length ct] 24)
  have HT := Lib.hid (ht.keep hbe hbe.size)
  have BE := Lib.hid (Box3.new w (.int .i64 t.k) (.int .i64 t.i) (.slice At t.ks.length ct))
  obtain ⟨y0, y1, y2⟩ := BE.out.cells
  have B0 := Lib.hid hbe
  have h0 : ((rightN t : Int) != 0) = true := by rw [bne_iff_ne]; omega
  clear ht h hbe hr
  go_enter Try.func20, Try.ntmps20
  go_wp2_with fail
  refine (right_any t At ct _ (by exact HT.out)).mono ?_
  rintro e w1 ⟨rfl, hb1⟩
  have B1 := Lib.hid (B0.out.trans (hb1.mono B0.out.size))
  clear hb1
  go_wp2_with fail
  go_ret2
  exact ⟨rfl, B1.out⟩
set_option maxHeartbeats 2000000 in
theorem put_ok {w : World} {tl lo P M room : Nat} {L : List Tr} {A : Option Addr} {c : Nat} (hlo : tl ≤ lo) (htl : tl ≤ w.heap.size) (h : Tab w lo P M room L A c) (t : Tr) (At : Option Addr) (ct : Nat) (ht : IsT w tl t At ct) (hr : rightN t = 0) (hn : addN room t L ≠ 0) :
    Calls Try.prog 20 #[.pointer (some ⟨P, 0, none⟩), .agg #[.int .i64 t.k, .int .i64 t.i, .slice At t.ks.length ct]] w fun e w' => e = .returned (.tuple #[.int .i64 (addN room t L : Int), .int .i64 0]) ∧ ∃ A' c', Aft tl lo P M room w w' A (addX room t L) A' c' := by
  have hbe := below_al w (.cells #[.int .i64 t.k, .int .i64 t.i, .slice At t.ks.length ct] 24)
  have HT := Lib.hid (IsT.keep (hbe.mono htl) (show tl ≤ (w.alloc (.cells #[.int .i64 t.k, .int .i64 t.i, .slice At t.ks.length ct] 24)).heap.size by simp; omega) t ht)
  have HW := Lib.hid ht
  have A0 := Lib.hid ((Aft.refl (tl := tl) h).keep hbe htl)
  have BE := Lib.hid (Box3.new w (.int .i64 t.k) (.int .i64 t.i) (.slice At t.ks.length ct))
  obtain ⟨y0, y1, y2⟩ := BE.out.cells
  have h0 : ((rightN t : Int) != 0) = false := by simp [hr]
  have HR := Lib.hid hr
  obtain ⟨n, hN⟩ : ∃ n, n = addN room t L := ⟨_, rfl⟩
  rw [← hN] at hn ⊢
  have h1 : ((n : Int) == 0) = false := by rw [beq_eq_false_iff_ne]; omega
  have HN := Lib.hid hN
  clear ht h hbe hr hN
  go_enter Try.func20, Try.ntmps20
  go_wp2_with fail
  refine (right_any t At ct _ (by exact HT.out)).mono ?_
  rintro e w1 ⟨rfl, hb1⟩
  have A1 := Lib.hid (A0.out.keep hb1 (by simp; omega))
  obtain ⟨z0, z1, z2⟩ := (BE.out.keep hb1 BE.out.lt).cells
  have hz := A1.out.kp.size
  clear hb1 y0 y1 y2
  go_wp2_with fail
  refine (len_any A1.out.tab).mono ?_
  rintro e w9 ⟨rfl, rfl⟩
  have AD := Lib.hid (add_acts w tl lo P M room hlo t HR.out w9 L A c At ct A1.out.bel (by omega) A1.out.tab HW.out)
  rw [← HN.out] at AD
  go_wp2_with fail
  refine AD.out.mono ?_
  rintro e w2 ⟨rfl, A', c', hA⟩
  have A2 := Lib.hid (A1.out.trans hA)
  clear hA
  go_wp2_with fail
  go_ret2
  exact ⟨rfl, A', c', A2.out⟩
end Go.Proofs.Ytmmdhlemkcddmaa
