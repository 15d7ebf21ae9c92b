/- I27, I28, I29, LO, one behind the other. -/
import Derived.Test.YtmmdhlemkcddmaaI26
import Derived.Test.YtmmdhlemkcddmaaI10
import Derived.Test.YtmmdhlemkcddmaaF2
import Derived.Test.YtmmdhlemkcddmaaI13
import Derived.Test.YtmmdhlemkcddmaaZT
import Derived.BigQuiet
import Derived.Test.YtmmdhlemkcddmaaI22
import Derived.Test.YtmmdhlemkcddmaaL0
namespace Go.Proofs.Ytmmdhlemkcddmaa
open Go.RowKit
set_option linter.unusedVariables false
set_option linter.unusedSimpArgs false
def newV (room : Int) : Value := .tuple #[.agg #[.int .i64 room, .slice none 0 0], .bool (decide (0 ≤ room ∧ room ≤ 20000))]
set_option maxHeartbeats 1000000 in
theorem rNew_any (room : Int) (w : World) :
    Calls Try.prog 19 #[.int .i64 room] w fun e w' => e = .returned (newV room) ∧ Below w.heap.size w w' := by
  have B1 := BoxT.new w (.int .i64 0) (.slice none 0 0)
  have f0 := B1.froz 0
  have f1 := B1.froz 1
  obtain ⟨q0, q1⟩ := B1.cells
  have AB := Lib.hid (below_al w (.cells #[.int .i64 room, .slice none 0 0] 38))
  have BN := Lib.hid (BoxT.new w (.int .i64 room) (.slice none 0 0))
  clear B1
  by_cases h0 : 0 ≤ room
  · by_cases h1 : room ≤ 20000
    · have D := Lib.hid (decide_eq_true (show 0 ≤ room ∧ room ≤ 20000 from ⟨h0, h1⟩))
      go_enter Try.func19, Try.ntmps19
      go_wp2_with fail
      obtain ⟨r0, r1⟩ := BN.out.cells
      exact bodyPost_ret (v := .tuple #[.agg #[.int .i64 room, .slice none 0 0], .bool true]) (by simp [results, Try.results19, go_sem, r0, r1]) rfl ⟨by unfold newV; rw [D.out], AB.out⟩
    · have D := Lib.hid (decide_eq_false (show ¬ (0 ≤ room ∧ room ≤ 20000) from fun h => h1 h.2))
      go_enter Try.func19, Try.ntmps19
      go_wp2_with fail
      obtain ⟨r0, r1⟩ := BN.out.cells
      exact bodyPost_ret (v := .tuple #[.agg #[.int .i64 room, .slice none 0 0], .bool false]) (by simp [results, Try.results19, go_sem, r0, r1]) rfl ⟨by unfold newV; rw [D.out], AB.out⟩
  · have D := Lib.hid (decide_eq_false (show ¬ (0 ≤ room ∧ room ≤ 20000) from fun h => h0 h.1))
    go_enter Try.func19, Try.ntmps19
    go_wp2_with fail
    obtain ⟨r0, r1⟩ := BN.out.cells
    exact bodyPost_ret (v := .tuple #[.agg #[.int .i64 room, .slice none 0 0], .bool false]) (by simp [results, Try.results19, go_sem, r0, r1]) rfl ⟨by unfold newV; rw [D.out], AB.out⟩
theorem tab_box (w : World) (x y : Value) : BoxT ((w.alloc (.cells #[x, y] 38)).alloc (.cells #[.int .i64 0, .int .i64 0, .slice none 0 0] 24)) w.heap.size x y := (BoxT.new w x y).keep (below_al _ _) (by simp)
set_option maxHeartbeats 2000000 in
theorem rGet_some {w : World} (room : Nat) {L : List Tr} {A : Option Addr} {c : Nat} (h : IsT w w.heap.size (.node 0 0 L) A c) (m : Nat) (hm : m < L.length) :
    Calls Try.prog 54 #[.agg #[.int .i64 (room : Int), .slice A L.length c], .int .i64 ((m : Int) + 1)] w fun e w' => ∃ A' c', e = .returned (gotGet L[m] A' c') ∧ IsT w w.heap.size L[m] A' c' ∧ Below w.heap.size w w' := by
  obtain ⟨b, o, A', c', rfl, hlt, p0, p1, p2, hk⟩ := h.kid m hm
  have hl := h.len
  have hl2 : L.length ≤ c := hl.1
  have hl3 : L.length * 40 ≤ 140737488351232 := hl.2
  have BT := tab_box w (.int .i64 (room : Int)) (.slice (some ⟨b, o, none⟩) L.length c)
  have hb : Below w.heap.size w ((w.alloc (.cells #[.int .i64 (room : Int), .slice (some ⟨b, o, none⟩) L.length c] 38)).alloc (.cells #[.int .i64 0, .int .i64 0, .slice none 0 0] 24)) := (below_al w _).trans ((below_al _ _).mono (by simp))
  have BE := Box3.new (w.alloc (.cells #[.int .i64 (room : Int), .slice (some ⟨b, o, none⟩) L.length c] 38)) (.int .i64 0) (.int .i64 0) (.slice none 0 0)
  rw [World.size_alloc] at BE
  change w.cell? ⟨b, o + m * 3, none⟩ = some (.int .i64 L[m].k) at p0
  change w.cell? ⟨b, o + m * 3 + 1, none⟩ = some (.int .i64 L[m].i) at p1
  change w.cell? ⟨b, o + m * 3 + 2, none⟩ = some (.slice A' L[m].ks.length c') at p2
  change IsT w w.heap.size L[m] A' c' at hk
  obtain ⟨t, ht⟩ : ∃ t, t = L[m] := ⟨_, rfl⟩
  rw [← ht] at p0 p1 p2 hk ⊢
  have d0 := (hb.cell hlt).trans p0
  have d1 := (hb.cell hlt).trans p1
  have d2 := (hb.cell hlt).trans p2
  obtain ⟨y0, y1⟩ := BT.cells
  have f0 := BE.frozen 0
  have f1 := BE.frozen 1
  have f2 := BE.frozen 2
  obtain ⟨q0, q1, q2⟩ := BE.cells
  have BN := Box3.new (w.alloc (.cells #[.int .i64 (room : Int), .slice (some ⟨b, o, none⟩) L.length c] 38)) (.int .i64 t.k) (.int .i64 t.i) (.slice A' t.ks.length c')
  rw [World.size_alloc] at BN
  have BN' := Lib.hid BN
  have HB := Lib.hid (show Below w.heap.size w ((w.alloc (.cells #[.int .i64 (room : Int), .slice (some ⟨b, o, none⟩) L.length c] 38)).alloc (.cells #[.int .i64 t.k, .int .i64 t.i, .slice A' t.ks.length c'] 24)) from (below_al w _).trans ((below_al _ _).mono (by simp)))
  have HK := Lib.hid hk
  have g0 : ¬ (m : Int) + 1 < 1 := by omega
  have g1 : ¬ (L.length : Int) < (m : Int) + 1 := by omega
  have wr1 : IntKind.i64.wrap ((m : Int) + 1 - 1) = (m : Int) := by rw [IntKind.wrap_i64]; omega
  clear h p0 p1 p2 hk hb BT BE ht BN
  go_enter Try.func54, Try.ntmps54
  go_wp2_with fail
  obtain ⟨r0, r1, r2⟩ := BN'.out.cells
  exact bodyPost_ret (v := gotGet t A' c') (by simp [gotGet, results, Try.results54, go_sem, r0, r1, r2]) rfl ⟨A', c', rfl, HK.out, HB.out⟩
set_option maxHeartbeats 2000000 in
theorem rGet_none {w : World} (room n0 c : Nat) (A : Option Addr) (n : Int) (hn : ¬ (1 ≤ n ∧ n ≤ (n0 : Int))) :
    Calls Try.prog 54 #[.agg #[.int .i64 (room : Int), .slice A n0 c], .int .i64 n] w fun e w' => e = .returned noGet ∧ Below w.heap.size w w' := by
  have BT := tab_box w (.int .i64 (room : Int)) (.slice A n0 c)
  have BE := Box3.new (w.alloc (.cells #[.int .i64 (room : Int), .slice A n0 c] 38)) (.int .i64 0) (.int .i64 0) (.slice none 0 0)
  rw [World.size_alloc] at BE
  obtain ⟨y0, y1⟩ := BT.cells
  have f0 := BE.frozen 0
  have f1 := BE.frozen 1
  have f2 := BE.frozen 2
  obtain ⟨q0, q1, q2⟩ := BE.cells
  have BN' := Lib.hid BE
  have HB := Lib.hid (show Below w.heap.size w ((w.alloc (.cells #[.int .i64 (room : Int), .slice A n0 c] 38)).alloc (.cells #[.int .i64 0, .int .i64 0, .slice none 0 0] 24)) from (below_al w _).trans ((below_al _ _).mono (by simp)))
  clear BT BE
  by_cases h1 : n < 1
  · clear hn
    go_enter Try.func54, Try.ntmps54
    go_wp2_with fail
    obtain ⟨r0, r1, r2⟩ := BN'.out.cells
    exact bodyPost_ret (v := noGet) (by simp [noGet, results, Try.results54, go_sem, r0, r1, r2]) rfl ⟨rfl, HB.out⟩
  · have h2 : (n0 : Int) < n := by omega
    clear hn
    go_enter Try.func54, Try.ntmps54
    go_wp2_with fail
    obtain ⟨r0, r1, r2⟩ := BN'.out.cells
    exact bodyPost_ret (v := noGet) (by simp [noGet, results, Try.results54, go_sem, r0, r1, r2]) rfl ⟨rfl, HB.out⟩
/-- what Free answers -/
def freeV (L : List Tr) (n : Int) : Value := if 1 ≤ n ∧ n ≤ (L.length : Int) then .tuple #[.int .u64 (((L[(n - 1).toNat]?).map freeT).getD 0 : Nat), .int .i64 0] else .tuple #[.int .u64 0, .int .i64 3]
set_option maxHeartbeats 2000000 in
theorem rFree_any {w : World} (room : Nat) {L : List Tr} {A : Option Addr} {c : Nat} (h : IsT w w.heap.size (.node 0 0 L) A c) (n : Int) :
    Calls Try.prog 57 #[.agg #[.int .i64 (room : Int), .slice A L.length c], .int .i64 n] w fun e w' => e = .returned (freeV L n) ∧ Below w.heap.size w w' := by
  have hb := below_al w (.cells #[.int .i64 (room : Int), .slice A L.length c] 38)
  have BT := BoxT.new w (.int .i64 (room : Int)) (.slice A L.length c)
  obtain ⟨y0, y1⟩ := BT.cells
  have HL := Lib.hid (IsT.keep hb hb.size (.node 0 0 L) h)
  have HB := Lib.hid hb
  clear h hb BT
  by_cases hn : 1 ≤ n ∧ n ≤ (L.length : Int)
  · obtain ⟨m, rfl⟩ : ∃ m : Nat, n = (m : Int) + 1 := ⟨(n - 1).toNat, by omega⟩
    have hml : m < L.length := by omega
    have V := Lib.hid (show freeV L ((m : Int) + 1) = .tuple #[.int .u64 (freeT L[m] : Nat), .int .i64 0] by unfold freeV; rw [if_pos hn, show ((m : Int) + 1 - 1).toNat = m by omega, List.getElem?_eq_getElem hml]; rfl)
    have RG := Lib.hid (rGet_some room HL.out m hml)
    obtain ⟨t, ht⟩ : ∃ t, t = L[m] := ⟨_, rfl⟩
    rw [← ht] at V RG
    clear hn ht
    go_enter Try.func57, Try.ntmps57
    go_wp2_with fail
    refine RG.out.mono ?_
    rintro e w1 ⟨A', c', rfl, hk, hb1⟩
    have ha := below_al w1 (.cells #[.int .i64 t.k, .int .i64 t.i, .slice A' t.ks.length c'] 24)
    have K1 := Lib.hid (IsT.keep (hb1.trans (ha.mono hb1.size)) (Nat.le_trans hb1.size ha.size) t hk)
    clear ha
    have B1 := Lib.hid ((HB.out.trans (hb1.mono HB.out.size)).trans ((below_al w1 (.cells #[.int .i64 t.k, .int .i64 t.i, .slice A' t.ks.length c'] 24)).mono (Nat.le_trans HB.out.size hb1.size)))
    obtain ⟨q0, q1, q2⟩ := (Box3.new w1 (.int .i64 t.k) (.int .i64 t.i) (.slice A' t.ks.length c')).cells
    rw [show gotGet t A' c' = .tuple #[.agg #[.int .i64 t.k, .int .i64 t.i, .slice A' t.ks.length c'], .int .i64 0] from rfl]
    clear hk hb1
    go_wp2_with fail
    refine (roffree_any t.sz t A' c' _ (Nat.le_refl _) (by exact K1.out)).mono ?_
    rintro e w2 ⟨rfl, hb2⟩
    have B2 := Lib.hid (B1.out.trans (hb2.mono B1.out.size))
    clear hb2
    go_wp2_with fail
    go_ret2
    exact ⟨by rw [V.out]; rfl, B2.out⟩
  · have V := Lib.hid (show freeV L n = .tuple #[.int .u64 0, .int .i64 3] by unfold freeV; rw [if_neg hn])
    have RG := Lib.hid (rGet_none (w := w.alloc (.cells #[.int .i64 (room : Int), .slice A L.length c] 38)) room L.length c A n hn)
    clear hn
    go_enter Try.func57, Try.ntmps57
    go_wp2_with fail
    refine RG.out.mono ?_
    rintro e w1 ⟨rfl, hb1⟩
    have B1 := Lib.hid ((HB.out.trans (hb1.mono HB.out.size)).trans ((below_al w1 (.cells #[.int .i64 0, .int .i64 0, .slice none 0 0] 24)).mono (Nat.le_trans HB.out.size hb1.size)))
    rw [show noGet = .tuple #[.agg #[.int .i64 0, .int .i64 0, .slice none 0 0], .int .i64 3] from rfl]
    clear hb1
    go_wp2_with fail
    go_ret2
    exact ⟨by rw [V.out]; rfl, B1.out⟩
set_option maxHeartbeats 2000000 in
theorem rSize_any {w : World} (room : Nat) {L : List Tr} {A : Option Addr} {c : Nat} (h : IsT w w.heap.size (.node 0 0 L) A c) (ho : Ok L) (n : Int) :
    Calls Try.prog 59 #[.agg #[.int .i64 (room : Int), .slice A L.length c], .int .i64 n] w fun e w' => e = .returned (sizeV L n) ∧ Below w.heap.size w w' := by
  have hb := below_al w (.cells #[.int .i64 (room : Int), .slice A L.length c] 38)
  have BT := BoxT.new w (.int .i64 (room : Int)) (.slice A L.length c)
  obtain ⟨y0, y1⟩ := BT.cells
  have HL := Lib.hid (IsT.keep hb hb.size (.node 0 0 L) h)
  have HB := Lib.hid hb
  have HO := Lib.hid ho
  clear h hb BT ho
  by_cases hn : 1 ≤ n ∧ n ≤ (L.length : Int)
  · obtain ⟨m, rfl⟩ : ∃ m : Nat, n = (m : Int) + 1 := ⟨(n - 1).toNat, by omega⟩
    have hml : m < L.length := by omega
    have V := Lib.hid (show sizeV L ((m : Int) + 1) = .tuple #[.int .i64 (L[m].sz : Nat), .int .i64 0] by unfold sizeV; rw [if_pos hn, show ((m : Int) + 1 - 1).toNat = m by omega, List.getElem?_eq_getElem hml]; rfl)
    have RG := Lib.hid (rGet_some room HL.out m hml)
    have SZ := Lib.hid (show min L[m].sz 1001 = L[m].sz by have := (right_shp' (HO.out.right _ (List.getElem_mem hml))).2.1; omega)
    obtain ⟨t, ht⟩ : ∃ t, t = L[m] := ⟨_, rfl⟩
    rw [← ht] at V RG SZ
    clear hn ht
    go_enter Try.func59, Try.ntmps59
    go_wp2_with fail
    refine RG.out.mono ?_
    rintro e w1 ⟨A', c', rfl, hk, hb1⟩
    have ha := below_al w1 (.cells #[.int .i64 t.k, .int .i64 t.i, .slice A' t.ks.length c'] 24)
    have K1 := Lib.hid (IsT.keep (hb1.trans (ha.mono hb1.size)) (Nat.le_trans hb1.size ha.size) t hk)
    clear ha
    have B1 := Lib.hid ((HB.out.trans (hb1.mono HB.out.size)).trans ((below_al w1 (.cells #[.int .i64 t.k, .int .i64 t.i, .slice A' t.ks.length c'] 24)).mono (Nat.le_trans HB.out.size hb1.size)))
    obtain ⟨q0, q1, q2⟩ := (Box3.new w1 (.int .i64 t.k) (.int .i64 t.i) (.slice A' t.ks.length c')).cells
    rw [show gotGet t A' c' = .tuple #[.agg #[.int .i64 t.k, .int .i64 t.i, .slice A' t.ks.length c'], .int .i64 0] from rfl]
    clear hk hb1
    go_wp2_with fail
    refine (rsize_any t A' c' _ (by exact K1.out)).mono ?_
    rintro e w2 ⟨rfl, hb2⟩
    rw [SZ.out]
    have B2 := Lib.hid (B1.out.trans (hb2.mono B1.out.size))
    clear hb2
    go_wp2_with fail
    go_ret2
    exact ⟨by rw [V.out]; rfl, B2.out⟩
  · have V := Lib.hid (show sizeV L n = .tuple #[.int .i64 0, .int .i64 3] by unfold sizeV; rw [if_neg hn])
    have RG := Lib.hid (rGet_none (w := w.alloc (.cells #[.int .i64 (room : Int), .slice A L.length c] 38)) room L.length c A n hn)
    clear hn
    go_enter Try.func59, Try.ntmps59
    go_wp2_with fail
    refine RG.out.mono ?_
    rintro e w1 ⟨rfl, hb1⟩
    have B1 := Lib.hid ((HB.out.trans (hb1.mono HB.out.size)).trans ((below_al w1 (.cells #[.int .i64 0, .int .i64 0, .slice none 0 0] 24)).mono (Nat.le_trans HB.out.size hb1.size)))
    rw [show noGet = .tuple #[.agg #[.int .i64 0, .int .i64 0, .slice none 0 0], .int .i64 3] from rfl]
    clear hb1
    go_wp2_with fail
    go_ret2
    exact ⟨by rw [V.out]; rfl, B1.out⟩
set_option maxHeartbeats 2000000 in
theorem ifree_any {w : World} {lo P M room : Nat} {L : List Tr} {A : Option Addr} {c : Nat} (h : Tab w lo P M room L A c) (n : Int) :
    Calls Try.prog 56 #[.pointer (some ⟨P, 0, none⟩), .int .i64 n] w fun e w' => e = .returned (freeV L n) ∧ w' = w := by
  have HA := Lib.hid (has_any' h n)
  obtain ⟨c0, c1, c2⟩ := h.cells
  have EN := Lib.hid (fun m hm => h.entry m hm)
  have hle := h.le
  have hrm := h.rm
  clear h
  by_cases hn : 1 ≤ n ∧ n ≤ (L.length : Int)
  · obtain ⟨m, hm⟩ : ∃ m : Nat, n = (m : Int) + 1 := ⟨(n - 1).toNat, by omega⟩
    have hml : m < L.length := by omega
    obtain ⟨g, rfl, hc, p0, p1, p2, p3, hp, _, e6, _⟩ := EN.out m hml
    have V := Lib.hid (show freeV L n = .tuple #[.int .u64 (freeT L[m] : Nat), .int .i64 0] by unfold freeV; rw [if_pos hn, show (n - 1).toNat = m by omega, List.getElem?_eq_getElem hml]; rfl)
    have D := Lib.hid (decide_eq_true hn)
    have wr1 : IntKind.i64.wrap ((m : Int) + 1 - 1) = (m : Int) := by rw [IntKind.wrap_i64]; omega
    obtain ⟨z, hz⟩ : ∃ z, z = freeT L[m] := ⟨_, rfl⟩
    rw [← hz] at e6 V
    subst hm
    clear hn hp EN hz
    go_enter Try.func56, Try.ntmps56
    go_wp2_with fail
    refine HA.out.mono ?_
    rintro e w9 ⟨rfl, rfl⟩
    rw [D.out]
    go_wp2_with fail
    go_ret2
    exact ⟨by rw [V.out]; rfl, rfl⟩
  · have V := Lib.hid (show freeV L n = .tuple #[.int .u64 0, .int .i64 3] by unfold freeV; rw [if_neg hn])
    have D := Lib.hid (decide_eq_false hn)
    clear hn EN
    go_enter Try.func56, Try.ntmps56
    go_wp2_with fail
    refine HA.out.mono ?_
    rintro e w9 ⟨rfl, rfl⟩
    rw [D.out]
    go_wp2_with fail
    go_ret2
    exact ⟨by rw [V.out]; rfl, rfl⟩
end Go.Proofs.Ytmmdhlemkcddmaa
namespace Go.Proofs.Ytmmdhlemkcddmaa
open Go.RowKit
set_option linter.unusedVariables false
set_option linter.unusedSimpArgs false
/-- a box of a call -/
def BoxO (W : World) (b : Nat) (d : Int) (t : Tr) (A : Option Addr) (c : Nat) (n : Int) : Prop := W.heap[b]? = some (.cells #[.int .i64 d, .int .i64 t.k, .int .i64 t.i, .slice A t.ks.length c, .int .i64 n] 42 (0, 0))
theorem BoxO.lt {W : World} {b : Nat} {d : Int} {t : Tr} {A : Option Addr} {c : Nat} {n : Int} (h : BoxO W b d t A c n) : b < W.heap.size := (Array.getElem?_eq_some_iff.1 h).1
theorem BoxO.cells {W : World} {b : Nat} {d : Int} {t : Tr} {A : Option Addr} {c : Nat} {n : Int} (h : BoxO W b d t A c n) : W.cell? ⟨b, 0, none⟩ = some (.int .i64 d) ∧ W.cell? ⟨b, 1, none⟩ = some (.int .i64 t.k) ∧ W.cell? ⟨b, 2, none⟩ = some (.int .i64 t.i) ∧ W.cell? ⟨b, 3, none⟩ = some (.slice A t.ks.length c) ∧ W.cell? ⟨b, 4, none⟩ = some (.int .i64 n) := by
  unfold BoxO at h
  simp [World.cell?, h]
theorem BoxO.keep {W W' : World} {b B : Nat} {d : Int} {t : Tr} {A : Option Addr} {c : Nat} {n : Int} (h : BoxO W b d t A c n) (hb : Below B W W') (hB : b < B) : BoxO W' b d t A c n := (hb.block b hB).trans h
structure AS (w W : World) (lo P M room : Nat) (L : List Tr) (Ac : Option Addr) (cc : Nat) (A : Option Addr) (c : Nat) (d : Int) (e : Tr) (Ae : Option Addr) (ce : Nat) (n : Int) : Prop where
  tab : Tab W lo P M room L Ac cc
  lst : IsT W W.heap.size (.node 0 0 L) A c
  tre : IsT W W.heap.size e Ae ce
  b4 : BoxT W w.heap.size (.int .i64 (room : Int)) (.slice A L.length c)
  b5 : BoxO W (w.heap.size + 1) d e Ae ce n
  bel : Below w.heap.size w W
section
variable {w W W' : World} {lo P M room : Nat} {L : List Tr} {Ac : Option Addr} {cc : Nat} {A : Option Addr} {c : Nat} {d : Int} {e : Tr} {Ae : Option Addr} {ce : Nat} {n : Int}
theorem AS.keep (h : AS w W lo P M room L Ac cc A c d e Ae ce n) (hb : Below W.heap.size W W') : AS w W' lo P M room L Ac cc A c d e Ae ce n :=
  ⟨h.tab.keep hb, IsT.keep hb hb.size _ h.lst, IsT.keep hb hb.size _ h.tre, h.b4.keep hb h.b4.lt, h.b5.keep hb h.b5.lt, h.bel.trans (hb.mono h.bel.size)⟩
theorem AS.start (ht : Tab w lo P M room L Ac cc) (hl : IsT w w.heap.size (.node 0 0 L) A c) (he : IsT w w.heap.size e Ae ce) : AS w ((w.alloc (.cells #[.int .i64 (room : Int), .slice A L.length c] 38)).alloc (.cells #[.int .i64 d, .int .i64 e.k, .int .i64 e.i, .slice Ae e.ks.length ce, .int .i64 n] 42)) lo P M room L Ac cc A c d e Ae ce n := by
  have h1 := below_al w (.cells #[.int .i64 (room : Int), .slice A L.length c] 38)
  have h2 := below_al (w.alloc (.cells #[.int .i64 (room : Int), .slice A L.length c] 38)) (.cells #[.int .i64 d, .int .i64 e.k, .int .i64 e.i, .slice Ae e.ks.length ce, .int .i64 n] 42)
  have h3 := h1.trans (h2.mono (by simp))
  refine ⟨(ht.keep h1).keep h2, IsT.keep h3 h3.size _ hl, IsT.keep h3 h3.size _ he, (BoxT.new w _ _).keep h2 (by simp), ?_, h3⟩
  have := heap_alloc_last (w.alloc (.cells #[.int .i64 (room : Int), .slice A L.length c] 38)) (.cells #[.int .i64 d, .int .i64 e.k, .int .i64 e.i, .slice Ae e.ks.length ce, .int .i64 n] 42)
  rw [World.size_alloc] at this
  exact this
end
theorem drewN_below (w : World) (n : Nat) : Below w.heap.size w (w.drewN n) := ⟨rfl, rfl, rfl, Nat.le_refl _, fun _ _ => rfl⟩
set_option maxHeartbeats 1000000 in
theorem lsame6_any (a b : Tr) (A A' : Option Addr) (c c' : Nat) (w : World) (ha : IsT w w.heap.size a A c) (hb : IsT w w.heap.size b A' c') :
    Calls Try.prog 55 #[.agg #[.int .i64 a.k, .int .i64 a.i, .slice A a.ks.length c], .agg #[.int .i64 b.k, .int .i64 b.i, .slice A' b.ks.length c']] w fun e w' => e = .returned (.bool (likeB a b)) ∧ Below w.heap.size w w' := by
  have T0 := Lib.hid (two_start ha hb)
  obtain ⟨y0, y1, y2⟩ := And.intro T0.out.b0 (And.intro T0.out.b1 T0.out.b2)
  obtain ⟨z0, z1, z2⟩ := And.intro T0.out.d0 (And.intro T0.out.d1 T0.out.d2)
  clear ha hb
  go_enter Try.func55, Try.ntmps55
  go_wp2_with fail
  refine (like_any a b A A' c c' _ (by exact T0.out.ta) (by exact T0.out.tb)).mono ?_
  rintro e w1 ⟨rfl, hb1⟩
  have T1 := Lib.hid (T0.out.keep hb1)
  clear hb1
  go_wp2_with fail
  go_ret
  exact ⟨rfl, T1.out.below⟩
theorem isT_zero (W : World) (B : Nat) : IsT W B zeroT none 0 := IsT.mk (Nat.le_refl _) (by simp [zeroT, Tr.ks, Cap]) fun m hm => by simp [zeroT, Tr.ks] at hm
set_option maxHeartbeats 8000000 in
set_option maxRecDepth 100000 in
theorem asked_any {w : World} {lo P M room : Nat} {L : List Tr} {Ac : Option Addr} {cc : Nat} {A : Option Addr} {c : Nat} {d : Int} {e : Tr} {Ae : Option Addr} {ce : Nat} {n : Int} (hd : d ≠ 0) (ht : Tab w lo P M room L Ac cc) (hl : IsT w w.heap.size (.node 0 0 L) A c) (he : IsT w w.heap.size e Ae ce) :
    Calls Try.prog 22 #[.pointer (some ⟨P, 0, none⟩), .agg #[.int .i64 (room : Int), .slice A L.length c], .agg #[.int .i64 d, .int .i64 e.k, .int .i64 e.i, .slice Ae e.ks.length ce, .int .i64 n]] w fun x w' => x = .returned (.bool true) ∧ Below w.heap.size w w' := by
  have S0 := Lib.hid (AS.start (d := d) (n := n) ht hl he)
  have HO := Lib.hid ht.ok
  obtain ⟨o0, o1, o2, o3, o4⟩ := S0.out.b5.cells
  obtain ⟨t0, t1⟩ := S0.out.b4.cells
  clear ht hl he
  by_cases h1 : d = 1
  · subst h1
    clear t0 t1
    go_enter Try.func22, Try.ntmps22
    go_wp2_with fail
    refine (rright_any e Ae ce _ (by exact S0.out.tre)).mono ?_
    rintro x w1 ⟨rfl, hb1⟩
    have S1 := Lib.hid (S0.out.keep hb1)
    clear hb1 o0 o1 o2 o3 o4 S0
    obtain ⟨o0, o1, o2, o3, o4⟩ := S1.out.b5.cells
    obtain ⟨t0, t1⟩ := S1.out.b4.cells
    by_cases hr : rightN e = 0
    · have h0 : ((rightN e : Int) == 0) = true := by simp [hr]
      have F := Lib.hid (show findN L e = num L e by unfold findN; rw [if_pos hr])
      clear hr
      go_wp2_with fail
      refine (rfind6_any L 0 0 A c e Ae ce _ (by exact S1.out.lst) (by exact S1.out.tre)).mono ?_
      rintro x w2 ⟨rfl, hb2⟩
      have S2 := Lib.hid (S1.out.keep hb2)
      clear hb2 o0 o1 o2 o3 o4 t0 t1 S1
      obtain ⟨o0, o1, o2, o3, o4⟩ := S2.out.b5.cells
      go_wp2_with fail
      refine (ifind_any S2.out.tab e Ae ce (by exact S2.out.tre)).mono ?_
      rintro x w3 ⟨rfl, hb3⟩
      have S3 := Lib.hid (S2.out.keep hb3)
      rw [F.out]
      clear hb3
      go_wp2_with fail
      go_ret
      exact ⟨by simp, S3.out.bel⟩
    · have h0 : ((rightN e : Int) == 0) = false := by rw [beq_eq_false_iff_ne]; omega
      have F := Lib.hid (show findN L e = 0 by unfold findN; rw [if_neg hr])
      clear hr
      go_wp2_with fail
      refine (ifind_any S1.out.tab e Ae ce (by exact S1.out.tre)).mono ?_
      rintro x w3 ⟨rfl, hb3⟩
      have S3 := Lib.hid (S1.out.keep hb3)
      rw [F.out]
      clear hb3
      go_wp2_with fail
      go_ret
      exact ⟨by simp, S3.out.bel⟩
  by_cases h2 : d = 2
  · subst h2
    clear t0 t1
    by_cases hn : 1 ≤ n ∧ n ≤ (L.length : Int)
    · obtain ⟨m, rfl⟩ : ∃ m : Nat, n = (m : Int) + 1 := ⟨(n - 1).toNat, by omega⟩
      have hml : m < L.length := by omega
      have GS := Lib.hid (get_some S0.out.tab m hml)
      have FT := Lib.hid (ok_fit (HO.out.right _ (List.getElem_mem hml)))
      have RG := Lib.hid (fun W (h : IsT W W.heap.size (.node 0 0 L) A c) => rGet_some room h m hml)
      obtain ⟨t, htt⟩ : ∃ t, t = L[m] := ⟨_, rfl⟩
      rw [← htt] at GS FT RG
      clear hn htt
      go_enter Try.func22, Try.ntmps22
      go_wp2_with fail
      refine GS.out.mono ?_
      rintro x w1 ⟨A1, c1, rfl, hO, hb1⟩
      rw [show gotGet t A1 c1 = .tuple #[.agg #[.int .i64 t.k, .int .i64 t.i, .slice A1 t.ks.length c1], .int .i64 0] from rfl]
      have ha := below_al w1 (.cells #[.int .i64 t.k, .int .i64 t.i, .slice A1 t.ks.length c1] 24)
      have S1 := Lib.hid ((S0.out.keep hb1).keep ha)
      have T1 := Lib.hid (IsT.keep ha ha.size t (hO.isT _ (Nat.le_refl _) FT.out))
      have X1 := Lib.hid (Box3.new w1 (.int .i64 t.k) (.int .i64 t.i) (.slice A1 t.ks.length c1))
      clear hb1 hO ha o0 o1 o2 o3 o4 S0 GS
      obtain ⟨o0, o1, o2, o3, o4⟩ := S1.out.b5.cells
      obtain ⟨t0, t1⟩ := S1.out.b4.cells
      go_wp2_with fail
      refine (RG.out _ S1.out.lst).mono ?_
      rintro x w2 ⟨A2, c2, rfl, hT2, hb2⟩
      rw [show gotGet t A2 c2 = .tuple #[.agg #[.int .i64 t.k, .int .i64 t.i, .slice A2 t.ks.length c2], .int .i64 0] from rfl]
      have ha := below_al w2 (.cells #[.int .i64 t.k, .int .i64 t.i, .slice A2 t.ks.length c2] 24)
      have S2 := Lib.hid ((S1.out.keep hb2).keep ha)
      have T2 := Lib.hid (IsT.keep ha ha.size t (IsT.keep hb2 hb2.size t T1.out))
      have T3 := Lib.hid (IsT.keep ha ha.size t (IsT.keep hb2 hb2.size t hT2))
      have X2 := Lib.hid ((X1.out.keep hb2 X1.out.lt).keep ha (Nat.lt_of_lt_of_le X1.out.lt hb2.size))
      have X3 := Lib.hid (Box3.new w2 (.int .i64 t.k) (.int .i64 t.i) (.slice A2 t.ks.length c2))
      clear hb2 hT2 ha o0 o1 o2 o3 o4 t0 t1 S1 X1 T1 RG
      obtain ⟨p0, p1, p2⟩ := X2.out.cells
      obtain ⟨q0, q1, q2⟩ := X3.out.cells
      go_wp2_with fail
      refine (lsame6_any t t A1 A2 c1 c2 _ (by exact T2.out) (by exact T3.out)).mono ?_
      rintro x w3 ⟨rfl, hb3⟩
      have S3 := Lib.hid (S2.out.keep hb3)
      rw [likeB_me]
      clear hb3
      go_wp2_with fail
      go_ret
      exact ⟨rfl, S3.out.bel⟩
    · have GS := Lib.hid (get_none S0.out.tab n hn)
      have RG := Lib.hid (fun W => rGet_none (w := W) room L.length c A n hn)
      clear hn
      go_enter Try.func22, Try.ntmps22
      go_wp2_with fail
      refine GS.out.mono ?_
      rintro x w1 ⟨rfl, hb1⟩
      rw [show noGet = .tuple #[.agg #[.int .i64 0, .int .i64 0, .slice none 0 0], .int .i64 3] from rfl]
      have ha := below_al w1 (.cells #[.int .i64 0, .int .i64 0, .slice none 0 0] 24)
      have S1 := Lib.hid ((S0.out.keep hb1).keep ha)
      have X1 := Lib.hid (Box3.new w1 (.int .i64 0) (.int .i64 0) (.slice none 0 0))
      clear hb1 ha o0 o1 o2 o3 o4 S0 GS
      obtain ⟨o0, o1, o2, o3, o4⟩ := S1.out.b5.cells
      obtain ⟨t0, t1⟩ := S1.out.b4.cells
      go_wp2_with fail
      refine (RG.out _).mono ?_
      rintro x w2 ⟨rfl, hb2⟩
      rw [show noGet = .tuple #[.agg #[.int .i64 0, .int .i64 0, .slice none 0 0], .int .i64 3] from rfl]
      have ha := below_al w2 (.cells #[.int .i64 0, .int .i64 0, .slice none 0 0] 24)
      have S2 := Lib.hid ((S1.out.keep hb2).keep ha)
      have X2 := Lib.hid ((X1.out.keep hb2 X1.out.lt).keep ha (Nat.lt_of_lt_of_le X1.out.lt hb2.size))
      have X3 := Lib.hid (Box3.new w2 (.int .i64 0) (.int .i64 0) (.slice none 0 0))
      clear hb2 ha o0 o1 o2 o3 o4 t0 t1 S1 X1 RG
      obtain ⟨p0, p1, p2⟩ := X2.out.cells
      obtain ⟨q0, q1, q2⟩ := X3.out.cells
      go_wp2_with fail
      refine (lsame6_any zeroT zeroT none none 0 0 _ (isT_zero _ _) (isT_zero _ _)).mono ?_
      rintro x w3 ⟨rfl, hb3⟩
      have S3 := Lib.hid (S2.out.keep hb3)
      rw [likeB_me]
      clear hb3
      go_wp2_with fail
      go_ret
      exact ⟨rfl, S3.out.bel⟩
  by_cases h3 : d = 3
  · subst h3
    have IF := Lib.hid (ifree_any S0.out.tab n)
    obtain ⟨u, v, hfv⟩ : ∃ u v : Int, freeV L n = .tuple #[.int .u64 u, .int .i64 v] := by unfold freeV; split <;> exact ⟨_, _, rfl⟩
    have RF := Lib.hid (rFree_any room S0.out.lst n)
    rw [hfv] at IF RF
    clear hfv
    go_enter Try.func22, Try.ntmps22
    go_wp2_with fail
    refine IF.out.mono ?_
    rintro x w1 ⟨rfl, rfl⟩
    go_wp2_with fail
    refine RF.out.mono ?_
    rintro x w2 ⟨rfl, hb2⟩
    have S2 := Lib.hid (S0.out.keep hb2)
    clear hb2
    go_wp2_with fail
    go_ret
    exact ⟨by simp, S2.out.bel⟩
  by_cases h4 : d = 4
  · subst h4
    have IF := Lib.hid (isize_any S0.out.tab n)
    obtain ⟨u, v, hfv⟩ : ∃ u v : Int, sizeV L n = .tuple #[.int .i64 u, .int .i64 v] := by unfold sizeV; split <;> exact ⟨_, _, rfl⟩
    have RF := Lib.hid (rSize_any room S0.out.lst HO.out n)
    rw [hfv] at IF RF
    clear hfv
    go_enter Try.func22, Try.ntmps22
    go_wp2_with fail
    refine IF.out.mono ?_
    rintro x w1 ⟨rfl, rfl⟩
    go_wp2_with fail
    refine RF.out.mono ?_
    rintro x w2 ⟨rfl, hb2⟩
    have S2 := Lib.hid (S0.out.keep hb2)
    clear hb2
    go_wp2_with fail
    go_ret
    exact ⟨by simp, S2.out.bel⟩
  have e1 : (d == 1) = false := by simpa using h1
  have e2 : (d == 2) = false := by simpa using h2
  have e3 : (d == 3) = false := by simpa using h3
  have e4 : (d == 4) = false := by simpa using h4
  clear h1 h2 h3 h4 hd
  go_enter Try.func22, Try.ntmps22
  go_wp2_with fail
  go_quiet ((go_at_call 23; exact Calls.quiet_of_same (len_any (S0.out.keep (drewN_below _ _)).tab)))
  all_goals go_wp2_with fail
  go_ret
  exact ⟨by simp, (S0.out.keep (drewN_below _ _)).bel⟩
end Go.Proofs.Ytmmdhlemkcddmaa
namespace Go.Proofs.Ytmmdhlemkcddmaa
open Go.RowKit
set_option linter.unusedVariables false
set_option linter.unusedSimpArgs false
structure Opr where
  d : Int
  e : Tr
  n : Int
instance : Inhabited Opr := ⟨⟨0, default, 0⟩⟩
/-- call p lies at place m -/
def OpAt (w : World) (B : Nat) (A : Option Addr) (m : Nat) (p : Opr) : Prop :=
  ∃ b o A' c', A = some ⟨b, o, none⟩ ∧ b < B ∧ w.cell? ⟨b, o + m * 5, none⟩ = some (.int .i64 p.d) ∧ w.cell? ⟨b, o + m * 5 + 1, none⟩ = some (.int .i64 p.e.k) ∧ w.cell? ⟨b, o + m * 5 + 2, none⟩ = some (.int .i64 p.e.i) ∧
    w.cell? ⟨b, o + m * 5 + 3, none⟩ = some (.slice A' p.e.ks.length c') ∧ w.cell? ⟨b, o + m * 5 + 4, none⟩ = some (.int .i64 p.n) ∧ IsT w B p.e A' c'
structure IsO (w : World) (B : Nat) (l : List Opr) (A : Option Addr) (c : Nat) : Prop where
  le : l.length ≤ c
  cap : l.length * 56 ≤ 140737488351232
  at_ : ∀ m (h : m < l.length), OpAt w B A m l[m]
/-- the two tables, as they stand between two calls -/
structure LS (w W : World) (bu r : Nat) (L : List Tr) (Ac : Option Addr) (cc : Nat) (A : Option Addr) (c : Nat) (cs : List (Option Addr × Nat)) : Prop where
  tab : Tab W w.heap.size (w.heap.size + 1) w.heap.size r L Ac cc
  rl : RL W (bu + 1) (fun k => TB (w.heap.size + 1) w.heap.size Ac k ∨ k = bu) L A c cs
  bx : BoxT W bu (.int .i64 (r : Int)) (.slice A L.length c)
  bel : Below w.heap.size w W
  lt : w.heap.size + 1 < bu
/-- while the document's table has not yet been put to -/
structure LM (w W : World) (bu r : Nat) (L L' : List Tr) (Ac : Option Addr) (cc : Nat) (A : Option Addr) (c : Nat) (cs : List (Option Addr × Nat)) : Prop where
  tab : Tab W w.heap.size (w.heap.size + 1) w.heap.size r L' Ac cc
  rl : RL W (bu + 1) (fun k => TB (w.heap.size + 1) w.heap.size Ac k ∨ k = bu) L A c cs
  bx : BoxT W bu (.int .i64 (r : Int)) (.slice A L.length c)
  bel : Below w.heap.size w W
  lt : w.heap.size + 1 < bu
section
variable {w W W' : World} {bu r : Nat} {L L' : List Tr} {Ac Ac' : Option Addr} {cc cc' : Nat} {A : Option Addr} {c : Nat} {cs : List (Option Addr × Nat)}
theorem LS.lm (h : LS w W bu r L Ac cc A c cs) : LM w W bu r L L Ac cc A c cs := ⟨h.tab, h.rl, h.bx, h.bel, h.lt⟩
theorem LM.ls (h : LM w W bu r L L Ac cc A c cs) : LS w W bu r L Ac cc A c cs := ⟨h.tab, h.rl, h.bx, h.bel, h.lt⟩
theorem LM.keep (h : LM w W bu r L L' Ac cc A c cs) (hb : Below W.heap.size W W') : LM w W' bu r L L' Ac cc A c cs :=
  ⟨h.tab.keep hb, h.rl.keep hb, h.bx.keep hb h.bx.lt, h.bel.trans (hb.mono h.bel.size), h.lt⟩
theorem LS.keep (h : LS w W bu r L Ac cc A c cs) (hb : Below W.heap.size W W') : LS w W' bu r L Ac cc A c cs := (h.lm.keep hb).ls
theorem LS.isT (h : LS w W bu r L Ac cc A c cs) : IsT W W.heap.size (.node 0 0 L) A c := h.rl.isT h.tab.ok (by have := h.tab.le; have := h.tab.rm; omega)
/-- the row is none of the blocks that others write -/
theorem RL.rowT {base : Nat} {S : Nat → Prop} (h : RL W base S L A c cs) {k : Nat} (e : (Value.slice A 0 0).ownBlock = some k) : ∃ X, W.heap[k]? = some (.cells X 24 (0, 0)) := by
  rcases h.own.2 with ⟨e1, h0⟩ | ⟨g, cap, cur, e1, _, hg, _⟩
  · simp only [Value.slice.injEq] at e1
    rw [e1.1] at e
    cases e
  · have e2 := ownB (A := A) (n := 0) (c := 0) (n' := L.length) (c' := c)
    rw [e2, e1] at e
    simp [Value.ownBlock] at e
    subst e
    exact ⟨_, hg⟩
theorem LS.put (h : LS w W bu r L Ac cc A c cs) (ha : Aft w.heap.size w.heap.size (w.heap.size + 1) w.heap.size r W W' Ac L' Ac' cc') : LM w W' bu r L L' Ac' cc' A c cs := by
  have hbu := h.bx.lt
  have hlt := h.lt
  have nT : ∀ k, (Value.slice A 0 0).ownBlock = some k → ¬ TB (w.heap.size + 1) w.heap.size Ac k := fun k e => by
    obtain ⟨X, hX⟩ := h.rl.rowT e
    exact h.tab.ne hX (by decide) (by decide)
  have new : ∀ k, TB (w.heap.size + 1) w.heap.size Ac' k → TB (w.heap.size + 1) w.heap.size Ac k ∨ W.heap.size ≤ k := by
    rintro k (e | e | e)
    · exact .inl (.inl e)
    · exact .inl (.inr (.inl e))
    · rcases ha.own with ho | ho
      · exact .inl (.inr (.inr (ho ▸ e)))
      · exact .inr (ho k e)
  have nbu : ¬ TB (w.heap.size + 1) w.heap.size Ac bu := h.tab.ne h.bx (by decide) (by decide)
  refine ⟨ha.tab, ?_, (ha.kp.block bu hbu nbu).trans h.bx, h.bel.trans ha.bel, hlt⟩
  have r1 := h.rl.newS (S' := fun k => (TB (w.heap.size + 1) w.heap.size Ac k ∨ k = bu) ∨ TB (w.heap.size + 1) w.heap.size Ac' k) (fun k hk => by
    rcases hk with hk | hk
    · exact .inl hk
    · rcases new k hk with h1 | h1
      · exact .inl (.inl h1)
      · exact .inr h1)
  have r2 := r1.move (W' := W') (fun k hk hn => ha.kp.block k hk fun ht => hn (.inl (.inl ht))) ha.kp.size (fun k e hk => by
    have hb := h.rl.blk e
    rcases hk with (hk | hk) | hk
    · exact nT k e hk
    · omega
    · rcases new k hk with h1 | h1
      · exact nT k e h1
      · omega)
  exact r2.newS fun k hk => by
    rcases hk with hk | hk
    · exact .inl (.inr hk)
    · exact .inl (.inl (.inr hk))
/-- the document's table is stored -/
theorem LM.store {A2 : Option Addr} {c2 : Nat} {cs2 : List (Option Addr × Nat)} (h : LM w W bu r L L' Ac cc A c cs) (hr : RL W (bu + 1) (fun k => TB (w.heap.size + 1) w.heap.size Ac k ∨ k = bu) L' A2 c2 cs2) :
    LS w ((W.setCell ⟨bu, 0, none⟩ (.int .i64 (r : Int))).setCell ⟨bu, 1, none⟩ (.slice A2 L'.length c2)) bu r L' Ac cc A2 c2 cs2 := by
  have nbu : ¬ TB (w.heap.size + 1) w.heap.size Ac bu := h.tab.ne h.bx (by decide) (by decide)
  have hlt := h.lt
  refine ⟨h.tab.same fun k hk => set2_far W _ _ _ (fun e => nbu (e ▸ hk)), ?_, h.bx.set _ _, below_set2 h.bel _ _ (by omega), hlt⟩
  refine hr.move (fun k hk hn => set2_far W _ _ _ (fun e => hn (.inr e))) (by simp) (fun k e hk => ?_)
  rcases hk with hk | hk
  · obtain ⟨X, hX⟩ := hr.rowT e
    exact h.tab.ne hX (by decide) (by decide) hk
  · have := (hr.blk e).1
    omega
end
/-- a put to both -/
theorem put_both {r : Nat} {L : List Tr} {e : Tr} (ho : Ok L) (hle : L.length ≤ r) (hr : rightN e = 0) :
    ((dputT e L).length ≤ r → addN r e L = num (dputT e L) e ∧ errP (addN r e L) = 0 ∧ putL r e L = dputT e L) ∧ (¬ (dputT e L).length ≤ r → addN r e L = 0 ∧ errP (addN r e L) = 60 ∧ putL r e L = L) := by
  obtain ⟨h1, h2⟩ := dput_add r e L ho hle hr
  constructor
  · intro h
    obtain ⟨e1, e2⟩ := h1 h
    have en : addN r e L = num (dputT e L) e := by unfold addN; rw [e1]
    refine ⟨en, ?_, ?_⟩
    · unfold errP; rw [en, if_neg e2]
    · unfold putL; rw [en, if_neg e2]; unfold addX; rw [e1]
  · intro h
    have en : addN r e L = 0 := h2 h
    exact ⟨en, by unfold errP; rw [en, if_pos rfl], by unfold putL; rw [en, if_pos rfl]⟩
set_option maxHeartbeats 16000000 in
set_option maxRecDepth 100000 in
theorem runs_law (room : Int) (l : List Opr) (As : Option Addr) (cl : Nat) (w : World) (hl : IsO w w.heap.size l As cl) :
    Calls Try.prog 6 #[.int .i64 room, .slice As l.length cl] w fun e w' => e = .returned (.bool true) ∧ Below w.heap.size w w' := by
  have HL := Lib.hid hl
  have hcap := hl.cap
  have hle := hl.le
  clear hl
  by_cases hr : 0 ≤ room ∧ room ≤ 20000
  · obtain ⟨r, rfl⟩ : ∃ r : Nat, room = (r : Int) := ⟨room.toNat, by omega⟩
    have hr2 : r ≤ 20000 := by omega
    have NV := Lib.hid (show newV (r : Int) = .tuple #[.agg #[.int .i64 (r : Int), .slice none 0 0], .bool true] by unfold newV; rw [decide_eq_true hr])
    clear hr
    go_enter Try.func6, Try.ntmps6
    go_wp2_with fail
    refine (new_any r hr2 w).mono ?_
    rintro x w1 ⟨rfl, hT1, hb1⟩
    have T1 := Lib.hid hT1
    have B1 := Lib.hid hb1
    clear hT1 hb1
    go_wp2_with fail
    refine (rNew_any (r : Int) w1).mono ?_
    rintro x w2 ⟨rfl, hb2⟩
    rw [NV.out]
    have hz1 : w.heap.size + 1 < w1.heap.size := (T1.out.lt _ (.inl rfl)).2
    have hz2 := hb2.size
    have S0 := Lib.hid (show LS w (w2.alloc (.cells #[.int .i64 (r : Int), .slice none 0 0] 38)) w2.heap.size r [] none 0 none 0 [] from by
      have ha := below_al w2 (.cells #[.int .i64 (r : Int), .slice none 0 0] 38)
      refine ⟨(T1.out.keep hb2).keep ha, ⟨rfl, by simpa [rowC] using World.ownsRow_nil _ _ _ _, fun m hm => by simp at hm⟩, BoxT.new w2 _ _, (B1.out.trans (hb2.mono B1.out.size)).trans (ha.mono (Nat.le_trans B1.out.size hz2)), by omega⟩)
    clear hb2 T1 B1 NV
    go_wp2_with fail
    go_loopw [30] (fun i wx => ∃ (m : Nat) (L : List Tr) (Ac : Option Addr) (cc : Nat) (A : Option Addr) (c : Nat) (cs : List (Option Addr × Nat)), m ≤ l.length ∧ i = .int .i64 m ∧ LS w wx w2.heap.size r L Ac cc A c cs) (fun i _ => l.length - (intOf i).toNat)
    case atStart => exact ⟨0, [], none, 0, none, 0, [], Nat.zero_le _, rfl, S0.out⟩
    case round =>
      obtain ⟨m, L, Ac, cc, A, c, cs, hm, rfl, hS⟩ := hrel
      have S1 := Lib.hid hS
      clear hS S0
      by_cases hlt : m < l.length
      · obtain ⟨b, o, Ae, ce, rfl, hbl, p0, p1, p2, p3, p4, hk⟩ := HL.out.at_ m hlt
        obtain ⟨⟨d, e, n⟩, hp⟩ : ∃ p, p = l[m] := ⟨_, rfl⟩
        rw [← hp] at p0 p1 p2 p3 p4 hk
        simp only at p0 p1 p2 p3 p4 hk
        have q0 := (S1.out.bel.cell hbl).trans p0
        have q1 := (S1.out.bel.cell hbl).trans p1
        have q2 := (S1.out.bel.cell hbl).trans p2
        have q3 := (S1.out.bel.cell hbl).trans p3
        have q4 := (S1.out.bel.cell hbl).trans p4
        have HK := Lib.hid hk
        have ha := below_al wr (.cells #[.int .i64 d, .int .i64 e.k, .int .i64 e.i, .slice Ae e.ks.length ce, .int .i64 n] 42)
        have S2 := Lib.hid (S1.out.keep ha)
        have O2 := Lib.hid (show BoxO (wr.alloc (.cells #[.int .i64 d, .int .i64 e.k, .int .i64 e.i, .slice Ae e.ks.length ce, .int .i64 n] 42)) wr.heap.size d e Ae ce n from heap_alloc_last wr _)
        clear p0 p1 p2 p3 p4 hk hp ha S1
        obtain ⟨o0, o1, o2, o3, o4⟩ := O2.out.cells
        by_cases hd : d = 0
        · have hd' : (d == 0) = true := by simp [hd]
          clear hd
          by_cases hre : rightN e = 0
          · have PB := Lib.hid (put_both (r := r) S2.out.tab.ok S2.out.tab.le hre)
            have OKL := Lib.hid S2.out.tab.ok
            have hL20 : L.length ≤ 20000 := by have := S2.out.tab.le; omega
            have HRE := Lib.hid hre
            have PR := Lib.hid (put_right (Nat.le_refl _) S2.out.bel.size S2.out.tab e Ae ce (IsT.keep S2.out.bel (Nat.le_refl _) e HK.out) hre)
            obtain ⟨an, han⟩ : ∃ an, an = addN r e L := ⟨_, rfl⟩
            obtain ⟨L', hL'⟩ : ∃ L', L' = putL r e L := ⟨_, rfl⟩
            rw [← han, ← hL'] at PB PR
            clear hre han hL'
            obtain ⟨er, her⟩ : ∃ er, er = errP an := ⟨_, rfl⟩
            rw [← her] at PB PR
            clear her
            go_wp2_with fail
            refine PR.out.mono ?_
            rintro x w5 ⟨rfl, Ac', cc', hA⟩
            have M5 := Lib.hid (S2.out.put hA)
            have O5 := Lib.hid (show BoxO w5 wr.heap.size d e Ae ce n from (hA.kp.block _ O2.out.lt (S2.out.tab.ne O2.out (by decide) (by decide))).trans O2.out)
            clear hA PR o0 o1 o2 o3 o4 S2 O2
            obtain ⟨o0, o1, o2, o3, o4⟩ := O5.out.cells
            obtain ⟨t0, t1⟩ := M5.out.bx.cells
            have PU := Lib.hid (rPut_ok (room := r) M5.out.rl (by have := M5.out.bx.lt; omega) (fun k hk => by rcases hk with hk | rfl; exact (M5.out.tab.lt k hk).2; exact M5.out.bx.lt) OKL.out hL20 e Ae ce (IsT.keep M5.out.bel M5.out.bel.size e HK.out) HRE.out)
            go_wp2_with fail
            refine PU.out.mono ?_
            rintro x w6 ⟨hb6, hcase⟩
            rcases hcase with ⟨hf, rfl⟩ | ⟨hf, A6, c6, cs6, rfl, hR6⟩
            · obtain ⟨rfl, rfl, rfl⟩ := PB.out.2 hf
              have ha := below_al w6 (.cells #[.int .i64 (r : Int), .slice A L'.length c] 38)
              have M7 := Lib.hid ((M5.out.keep hb6).keep ha)
              have X7 := Lib.hid (BoxT.new w6 (.int .i64 (r : Int)) (.slice A L'.length c))
              clear hb6 ha PB PU hf o0 o1 o2 o3 o4 t0 t1 M5 O5
              obtain ⟨t0, t1⟩ := M7.out.bx.cells
              obtain ⟨u0, u1⟩ := X7.out.cells
              have f0 := M7.out.bx.froz 0
              have f1 := M7.out.bx.froz 1
              have S8 := Lib.hid (M7.out.store M7.out.rl)
              go_wp2_with fail
              go_roundw
              case rel => exact ⟨m + 1, L', Ac', cc', A, c, cs, by omega, by go_num, S8.out⟩
              case measure => simp [intOf]; omega
            · obtain ⟨han, rfl, hLL⟩ := PB.out.1 hf
              subst hLL
              rw [← han]
              have ha := below_al w6 (.cells #[.int .i64 (r : Int), .slice A6 (dputT e L).length c6] 38)
              have M7 := Lib.hid ((M5.out.keep hb6).keep ha)
              have R7 := Lib.hid (hR6.keep ha)
              have X7 := Lib.hid (BoxT.new w6 (.int .i64 (r : Int)) (.slice A6 (dputT e L).length c6))
              clear hb6 ha PB PU hf o0 o1 o2 o3 o4 t0 t1 M5 O5 hR6 han
              obtain ⟨t0, t1⟩ := M7.out.bx.cells
              obtain ⟨u0, u1⟩ := X7.out.cells
              have f0 := M7.out.bx.froz 0
              have f1 := M7.out.bx.froz 1
              have S8 := Lib.hid (M7.out.store R7.out)
              go_wp2_with fail
              go_roundw
              case rel => exact ⟨m + 1, dputT e L, Ac', cc', A6, c6, cs6, by omega, by go_num, S8.out⟩
              case measure => simp [intOf]; omega
          · have PR := Lib.hid (put_bad S2.out.tab e Ae ce (IsT.keep S2.out.bel S2.out.bel.size e HK.out) hre)
            have RB := Lib.hid (fun W (h : Below w.heap.size w W) => rPut_bad (w := W) r L.length c A e Ae ce (IsT.keep h h.size e HK.out) hre)
            obtain ⟨er, her⟩ : ∃ er, er = rightN e := ⟨_, rfl⟩
            rw [← her] at PR RB
            clear her hre
            go_wp2_with fail
            refine PR.out.mono ?_
            rintro x w5 ⟨rfl, hb5⟩
            have S5 := Lib.hid (S2.out.keep hb5)
            have O5 := Lib.hid (O2.out.keep hb5 O2.out.lt)
            clear hb5 PR o0 o1 o2 o3 o4 S2 O2
            obtain ⟨o0, o1, o2, o3, o4⟩ := O5.out.cells
            obtain ⟨t0, t1⟩ := S5.out.bx.cells
            go_wp2_with fail
            refine (RB.out _ S5.out.bel).mono ?_
            rintro x w6 ⟨rfl, hb6⟩
            have ha := below_al w6 (.cells #[.int .i64 (r : Int), .slice A L.length c] 38)
            have S7 := Lib.hid ((S5.out.keep hb6).keep ha)
            have X7 := Lib.hid (BoxT.new w6 (.int .i64 (r : Int)) (.slice A L.length c))
            clear hb6 ha o0 o1 o2 o3 o4 t0 t1 S5 O5 RB
            obtain ⟨t0, t1⟩ := S7.out.bx.cells
            obtain ⟨u0, u1⟩ := X7.out.cells
            have f0 := S7.out.bx.froz 0
            have f1 := S7.out.bx.froz 1
            have S8 := Lib.hid (S7.out.lm.store S7.out.rl)
            go_wp2_with fail
            go_roundw
            case rel => exact ⟨m + 1, L, Ac, cc, A, c, cs, by omega, by go_num, S8.out⟩
            case measure => simp [intOf]; omega
        · have hd' : (d == 0) = false := by simpa using hd
          obtain ⟨t0, t1⟩ := S2.out.bx.cells
          have AK := Lib.hid (asked_any (w := wr.alloc (.cells #[.int .i64 d, .int .i64 e.k, .int .i64 e.i, .slice Ae e.ks.length ce, .int .i64 n] 42)) (n := n) hd S2.out.tab S2.out.isT (IsT.keep S2.out.bel S2.out.bel.size e HK.out))
          clear hd
          go_wp2_with fail
          refine AK.out.mono ?_
          rintro x w5 ⟨rfl, hb5⟩
          have S5 := Lib.hid (S2.out.keep hb5)
          clear hb5
          go_wp2_with fail
          go_roundw
          case rel => exact ⟨m + 1, L, Ac, cc, A, c, cs, by omega, by go_num, S5.out⟩
          case measure => simp [intOf]; omega
      · obtain rfl : m = l.length := by omega
        obtain ⟨t0, t1⟩ := S1.out.bx.cells
        go_wp2_with fail
        go_quiet ((go_at_call 23; exact Calls.quiet_of_same (len_any (S1.out.keep (drewN_below _ _)).tab)))
        all_goals go_wp2_with fail
        go_ret
        exact ⟨by simp, (S1.out.keep (drewN_below _ _)).bel⟩
  · have NV := Lib.hid (show newV room = .tuple #[.agg #[.int .i64 room, .slice none 0 0], .bool false] by unfold newV; rw [decide_eq_false hr])
    go_enter Try.func6, Try.ntmps6
    go_wp2_with fail
    refine (new_nil room (by omega) w).mono ?_
    rintro x w1 ⟨rfl, rfl⟩
    go_wp2_with fail
    refine (rNew_any room _).mono ?_
    rintro x w2 ⟨rfl, hb2⟩
    rw [NV.out]
    have B3 := Lib.hid (hb2.trans ((below_al w2 (.cells #[.int .i64 room, .slice none 0 0] 38)).mono hb2.size))
    clear hb2
    go_wp2_with fail
    go_ret
    exact ⟨rfl, B3.out⟩
end Go.Proofs.Ytmmdhlemkcddmaa
namespace Go.Proofs.Ytmmdhlemkcddmaa
open Go.RowKit
set_option linter.unusedVariables false
set_option linter.unusedSimpArgs false
theorem Try.cellsOp : Try.prog.cellsOf 42 = 5 := by kernel_rfl
theorem Try.bytesOp : Try.prog.bytesOf 42 = 56 := by kernel_rfl
set_option maxRecDepth 100000 in
set_option maxHeartbeats 1000000 in
theorem open_op {H : Type} {enc : TypeId × Value → H} {W : World} {spare : Nat → Bool} {held : Bool} (hsp : ∀ b, spare b = true) (fuel : Nat) (cs : List Value) (x : DataW H × List MemPlace)
    (h : DataW.trod enc Try.prog W 0 spare held fuel 42 cs = some x) (hw : ∀ n, n ∈ DataW.weights Try.prog 42 x.1 → n ≤ reachBytes) :
    ∃ (p : Opr) (A : Option Addr) (c : Nat), cs = [.int .i64 p.d, .int .i64 p.e.k, .int .i64 p.e.i, .slice A p.e.ks.length c, .int .i64 p.n] ∧ IsT W W.heap.size p.e A c := by
  obtain ⟨xs, n, hn, hx, hlen, hxl, hf⟩ := DataW.trod_struct Try.underlying42 h
  rw [Try.cellsOp] at hlen
  match xs, hxl, cs, hlen with
  | [y0, y1, y2], _, [v0, v1, v2, v3, v4], _ =>
    have g0 := hf 0 _ rfl
    have g1 := hf 1 _ rfl
    have g2 := hf 2 _ rfl
    simp [Try.cells3, Try.cells24] at g0 g1 g2
    obtain ⟨k, e0, _, _⟩ := DataW.trod_int Try.underlying3 g0
    simp only [List.cons.injEq, and_true] at e0
    subst e0
    obtain ⟨k2, e2, _, _⟩ := DataW.trod_int Try.underlying3 g2
    simp only [List.cons.injEq, and_true] at e2
    subst e2
    obtain ⟨t, A, c, hcs, ht⟩ := open_expr hsp n _ _ g1 (fun m hm => hw m (by
      rw [hx]
      simp only [List.map_cons, List.map_nil, DataW.weights, Try.underlying42]
      exact DataW.weights_mem_each (j := 1) (ds := [y0.1, y1.1, y2.1]) rfl rfl m hm))
    simp only [List.cons.injEq, and_true] at hcs
    obtain ⟨rfl, rfl, rfl⟩ := hcs
    exact ⟨⟨k, t, k2⟩, A, c, rfl, ht⟩
set_option maxRecDepth 100000 in
set_option maxHeartbeats 1000000 in
theorem open_ops {H : Type} {enc : TypeId × Value → H} {W : World} {spare : Nat → Bool} {held : Bool} (hsp : ∀ b, spare b = true) (fuel : Nat) (cs : List Value) (x : DataW H × List MemPlace)
    (h : DataW.trod enc Try.prog W 0 spare held fuel 34 cs = some x) (hw : ∀ n, n ∈ DataW.weights Try.prog 34 x.1 → n ≤ reachBytes) :
    ∃ (l : List Opr) (A : Option Addr) (c : Nat), cs = [.slice A l.length c] ∧ IsO W W.heap.size l A c := by
  rcases DataW.trod_slice Try.underlying34 h with ⟨hcs, _⟩ | ⟨a, len, cap, elems, rest, n', hn', hcs, hy, _, hl, hm, hlen', hel, hsp', _⟩
  · exact ⟨[], none, 0, hcs, ⟨Nat.le_refl _, by simp, fun m hm => by simp at hm⟩⟩
  · obtain ⟨hrl, _⟩ := hsp' (hsp _)
    rw [Try.cellsOp] at hel
    have hy1 : x.1 = .slice (elems.map (·.1)) (rest.map (·.1)) := by rw [hy]
    have hcap : len * 56 ≤ 140737488351232 := by
      have : (elems.length + rest.length) * 56 ≤ reachBytes := by
        refine hw _ ?_
        rw [hy1]
        simp only [DataW.weights, Try.underlying34, Try.bytesOp, List.length_map]
        exact List.mem_cons_self
      unfold reachBytes at this
      omega
    have each0 : ∀ j, j < len → ∃ (p : Opr) (A : Option Addr) (c : Nat), (∃ cs', W.cells? 0 (a.add (j * 5)) 5 = some cs' ∧ cs' = [.int .i64 p.d, .int .i64 p.e.k, .int .i64 p.e.i, .slice A p.e.ks.length c, .int .i64 p.n]) ∧ IsT W W.heap.size p.e A c := by
      intro j hj
      have h0 := hel j hj
      rw [List.getElem?_eq_getElem (by omega)] at h0
      obtain ⟨cs', h1, h2⟩ := Option.bind_eq_some_iff.1 h0
      obtain ⟨p, A, c, hcs', ht⟩ := open_op hsp n' cs' _ h2 (fun n hn => hw n (by
        rw [hy1]
        simp only [DataW.weights, Try.underlying34]
        refine List.mem_cons_of_mem _ (List.mem_append_left _ (weightsAll_mem ?_ n hn))
        exact List.mem_map.2 ⟨elems[j], List.getElem_mem _, rfl⟩))
      exact ⟨p, A, c, ⟨cs', h1, hcs'⟩, ht⟩
    have each : ∀ j, j < len → ∃ q : Opr × Option Addr × Nat, OpAt W W.heap.size (some a) j q.1 := by
      intro j hj
      obtain ⟨p, A, c, ⟨cs', h1, hcs'⟩, ht⟩ := each0 j hj
      obtain ⟨_, _, hcell⟩ := World.cells?_some h1
      subst hcs'
      have e0 := hcell 0 (by omega)
      have e1 := hcell 1 (by omega)
      have e2 := hcell 2 (by omega)
      have e3 := hcell 3 (by omega)
      have e4 := hcell 4 (by omega)
      rw [Deep.add_add] at e0 e1 e2 e3 e4
      simp only [List.getElem?_cons_zero, List.getElem?_cons_succ] at e0 e1 e2 e3 e4
      have hsp0 : a.spot = none := by
        obtain ⟨p', A', c', ⟨cs2, h1', hcs2⟩, _⟩ := each0 0 (by omega)
        obtain ⟨_, _, hcell'⟩ := World.cells?_some h1'
        subst hcs2
        have e := hcell' 0 (by omega)
        rw [Deep.add_add] at e
        exact spot_none (a := a) (by simpa [Addr.add] using e)
      obtain ⟨b, o, sp⟩ := a
      obtain rfl : sp = none := hsp0
      rw [add_plain] at e0 e1 e2 e3 e4
      exact ⟨(p, A, c), b, o, A, c, rfl, block_lt_of_cell e0, by simpa using e0, by simpa [Nat.add_assoc] using e1, by simpa [Nat.add_assoc] using e2, by simpa [Nat.add_assoc] using e3, by simpa [Nat.add_assoc] using e4, ht⟩
    obtain ⟨q, hq⟩ := Deep.choose_lt each
    refine ⟨(List.range len).map fun j => (q j).1, some a, cap, by simpa using hcs, ⟨by simpa using hl, by simpa using hcap, fun j hj => ?_⟩⟩
    have hj' : j < len := by simpa using hj
    have e : ((List.range len).map fun j => (q j).1)[j] = (q j).1 := by simp
    rw [e]
    exact hq j hj'
end Go.Proofs.Ytmmdhlemkcddmaa
