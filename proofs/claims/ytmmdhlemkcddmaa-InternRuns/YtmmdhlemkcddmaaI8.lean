/- New, has, Size, Free and Find of package intern; an entry's cells. -/
import Derived.Test.YtmmdhlemkcddmaaI5
import Derived.Carry
namespace Go.Proofs.Ytmmdhlemkcddmaa
open Go.RowKit
set_option linter.unusedVariables false
set_option linter.unusedSimpArgs false
theorem Tab.start (w : World) (r : Nat) (hr : r ≤ 20000) : Tab ((w.alloc (.map #[] 0)).alloc (.cells #[.int .i64 (r : Int), .map (some w.heap.size), .slice none 0 0] 75)) w.heap.size (w.heap.size + 1) w.heap.size r [] none 0 := by
  have h1 := heap_alloc_last (w.alloc (.map #[] 0)) (.cells #[.int .i64 (r : Int), .map (some w.heap.size), .slice none 0 0] 75)
  rw [World.size_alloc] at h1
  refine ⟨h1, by simpa [rowEn] using World.ownsRow_nil _ _ _ _, ⟨fun _ => 0, (IsMp.made w).kept ((below_al _ _).block _ (by simp)), MapOf.nil⟩, Ok.nil, Nat.zero_le _, hr, by omega, Nat.le_refl _⟩
set_option maxHeartbeats 1000000 in
theorem new_any (r : Nat) (hr : r ≤ 20000) (w : World) :
    Calls Try.prog 18 #[.int .i64 (r : Int)] w fun e w' => e = .returned (.pointer (some ⟨w.heap.size + 1, 0, none⟩)) ∧ Tab w' w.heap.size (w.heap.size + 1) w.heap.size r [] none 0 ∧ Below w.heap.size w w' := by
  have hmm := @run_makeMap Try.prog
  have T0 := Lib.hid (Tab.start w r hr)
  have B0 := Lib.hid (show Below w.heap.size w ((w.alloc (.map #[] 0)).alloc (.cells #[.int .i64 (r : Int), .map (some w.heap.size), .slice none 0 0] 75)) from ((Below.refl _ _).alloc (Nat.le_refl _) _).alloc (by simp) _)
  have h0 : ¬ (r : Int) < 0 := by omega
  have h1 : ¬ (20000 : Int) < (r : Int) := by omega
  go_enter Try.func18, Try.ntmps18
  go_wp2_with fail
  go_ret
  exact ⟨rfl, T0.out, B0.out⟩
theorem new_nil (r : Int) (hr : r < 0 ∨ 20000 < r) (w : World) :
    Calls Try.prog 18 #[.int .i64 r] w fun e w' => e = .returned (.pointer none) ∧ w' = w := by
  by_cases h0 : r < 0
  · go_enter Try.func18, Try.ntmps18
    go_wp2_with fail
    go_ret
    exact ⟨rfl, rfl⟩
  · have h1 : 20000 < r := by omega
    go_enter Try.func18, Try.ntmps18
    go_wp2_with fail
    go_ret
    exact ⟨rfl, rfl⟩
theorem len_at {w : World} {lo P M room : Nat} {L : List Tr} {A : Option Addr} {c : Nat} (h : Tab w lo P M room L A c) :
    Calls Try.prog 23 #[.pointer (some ⟨P, 0, none⟩)] w fun e w' => e = .returned (.int .i64 (L.length : Int)) ∧ w' = w := len_any h
set_option maxHeartbeats 1000000 in
theorem has_any' {w : World} {lo P M room : Nat} {L : List Tr} {A : Option Addr} {c : Nat} (h : Tab w lo P M room L A c) (n : Int) :
    Calls Try.prog 94 #[.pointer (some ⟨P, 0, none⟩), .int .i64 n] w fun e w' => e = .returned (.bool (decide (1 ≤ n ∧ n ≤ (L.length : Int)))) ∧ w' = w := by
  have HL := Lib.hid (len_any h)
  clear h
  by_cases h1 : 1 ≤ n
  · have h1' : decide (1 ≤ n) = true := by simpa using h1
    go_enter Try.func94, Try.ntmps94
    go_wp2_with fail
    refine HL.out.mono ?_
    rintro e w9 ⟨rfl, rfl⟩
    by_cases h2 : n ≤ (L.length : Int)
    · have h2' : decide (n ≤ (L.length : Int)) = true := by simpa using h2
      have D := Lib.hid (decide_eq_true (show 1 ≤ n ∧ n ≤ (L.length : Int) from ⟨h1, h2⟩))
      go_wp2_with fail
      go_ret
      exact ⟨by first | rfl | (rw [D.out]; rfl), rfl⟩
    · have h2' : decide (n ≤ (L.length : Int)) = false := by simpa using h2
      have D := Lib.hid (decide_eq_false (show ¬ (1 ≤ n ∧ n ≤ (L.length : Int)) from fun e => h2 e.2))
      go_wp2_with fail
      go_ret
      exact ⟨by first | rfl | (rw [D.out]; rfl), rfl⟩
  · have h1' : decide (1 ≤ n) = false := by simpa using h1
    have D := Lib.hid (decide_eq_false (show ¬ (1 ≤ n ∧ n ≤ (L.length : Int)) from fun e => h1 e.1))
    go_enter Try.func94, Try.ntmps94
    go_wp2_with fail
    go_ret
    exact ⟨by first | rfl | (rw [D.out]; rfl), rfl⟩
theorem rowE1_len {L : List Tr} {t : Tr} (h : t.ks.length ≤ 4) : (rowE1 L t).length = 8 := by
  unfold rowE1 nodeT
  simp only [List.length_append, List.length_map, List.length_cons, List.length_nil]
  rw [pad4_len (by simpa using h)]
theorem rowEn_at (L : List Tr) : ∀ (M : List Tr), (∀ t ∈ M, t.ks.length ≤ 4) → ∀ (i j : Nat) (hi : i < M.length), j < 8 → (rowEn L M)[i * 8 + j]? = (rowE1 L M[i])[j]? := by
  intro M
  induction M with
  | nil => intro _ i j hi; simp at hi
  | cons t r ih =>
    intro h i j hi hj
    have hl := rowE1_len (L := L) (h t (by simp))
    unfold rowEn
    rw [List.flatMap_cons]
    cases i with
    | zero =>
      simp only [Nat.zero_mul, Nat.zero_add, List.getElem_cons_zero]
      rw [List.getElem?_append_left (by omega)]
    | succ i =>
      simp only [List.getElem_cons_succ]
      rw [List.getElem?_append_right (by omega), hl, show (i + 1) * 8 + j - 8 = i * 8 + j by omega]
      exact ih (fun u hu => h u (by simp [hu])) i j (by simpa using hi) hj
/-- the cells of entry m, in the row of the entries -/
theorem Tab.entry {w : World} {lo P M room : Nat} {L : List Tr} {A : Option Addr} {c : Nat} (h : Tab w lo P M room L A c) (m : Nat) (hm : m < L.length) :
    ∃ g, A = some ⟨g, 0, none⟩ ∧ L.length ≤ c ∧ ∃ p0 p1 p2 p3, pad4 (L[m].ks.map (num L)) = [p0, p1, p2, p3] ∧
      (w.cell? ⟨g, m * 8, none⟩ = some (.int .i64 L[m].k) ∧ w.cell? ⟨g, m * 8 + 1, none⟩ = some (.int .i64 L[m].i) ∧ w.cell? ⟨g, m * 8 + 2, none⟩ = some (.int .i64 p0) ∧ w.cell? ⟨g, m * 8 + 3, none⟩ = some (.int .i64 p1) ∧ w.cell? ⟨g, m * 8 + 4, none⟩ = some (.int .i64 p2) ∧ w.cell? ⟨g, m * 8 + 5, none⟩ = some (.int .i64 p3)) ∧
      w.cell? ⟨g, m * 8 + 6, none⟩ = some (.int .u64 (freeT L[m] : Int)) ∧ w.cell? ⟨g, m * 8 + 7, none⟩ = some (.int .i64 (L[m].sz : Int)) := by
  have h4 : ∀ t ∈ L, t.ks.length ≤ 4 := fun t ht => h.ok.four ht
  obtain ⟨p0, p1, p2, p3, hp⟩ : ∃ p0 p1 p2 p3, pad4 (L[m].ks.map (num L)) = [p0, p1, p2, p3] := by
    have := pad4_len (l := L[m].ks.map (num L)) (by simpa using h4 _ (List.getElem_mem hm))
    match hq : pad4 (L[m].ks.map (num L)), this with
    | [a, b, c, d], _ => exact ⟨a, b, c, d, rfl⟩
  have hrow : rowE1 L L[m] = [.int .i64 L[m].k, .int .i64 L[m].i, .int .i64 p0, .int .i64 p1, .int .i64 p2, .int .i64 p3, .int .u64 (freeT L[m] : Int), .int .i64 (L[m].sz : Int)] := by
    unfold rowE1 nodeT; rw [hp]; rfl
  have own := h.own
  obtain ⟨g, cap, hv, _, _⟩ := own.form (by omega)
  cases hv
  have hc : L.length ≤ c := by
    rcases own.2 with ⟨e, _⟩ | ⟨g', cap', cur, e, _, _, hc', _⟩
    · cases e
    · cases e; exact hc'
  have key : ∀ j, j < 8 → w.cell? ⟨g, m * 8 + j, none⟩ = (rowE1 L L[m])[j]? := fun j hj => by
    rw [own.cellAt (m * 8 + j) (by omega), rowEn_at L L h4 m j hm hj]
  rw [hrow] at key
  exact ⟨g, rfl, hc, p0, p1, p2, p3, hp, ⟨key 0 (by omega), key 1 (by omega), key 2 (by omega), key 3 (by omega), key 4 (by omega), key 5 (by omega)⟩, key 6 (by omega), key 7 (by omega)⟩
/-- what Size answers -/
def sizeV (L : List Tr) (n : Int) : Value := if 1 ≤ n ∧ n ≤ (L.length : Int) then .tuple #[.int .i64 (((L[(n - 1).toNat]?).map Tr.sz).getD 0 : Nat), .int .i64 0] else .tuple #[.int .i64 0, .int .i64 3]
set_option maxHeartbeats 2000000 in
theorem isize_any {w : World} {lo P M room : Nat} {L : List Tr} {A : Option Addr} {c : Nat} (h : Tab w lo P M room L A c) (n : Int) :
    Calls Try.prog 58 #[.pointer (some ⟨P, 0, none⟩), .int .i64 n] w fun e w' => e = .returned (sizeV L n) ∧ w' = w := by
  have HA := Lib.hid (has_any' h n)
  obtain ⟨c0, c1, c2⟩ := h.cells
  have EN := Lib.hid (fun m hm => h.entry m hm)
  have hle := h.le
  have hrm := h.rm
  clear h
  by_cases hn : 1 ≤ n ∧ n ≤ (L.length : Int)
  · obtain ⟨m, hm⟩ : ∃ m : Nat, n = (m : Int) + 1 := ⟨(n - 1).toNat, by omega⟩
    have hml : m < L.length := by omega
    obtain ⟨g, rfl, hc, p0, p1, p2, p3, hp, _, _, e7⟩ := EN.out m hml
    have V := Lib.hid (show sizeV L n = .tuple #[.int .i64 (L[m].sz : Nat), .int .i64 0] by unfold sizeV; rw [if_pos hn, show (n - 1).toNat = m by omega, List.getElem?_eq_getElem hml]; rfl)
    have D := Lib.hid (decide_eq_true hn)
    have wr1 : IntKind.i64.wrap ((m : Int) + 1 - 1) = (m : Int) := by rw [IntKind.wrap_i64]; omega
    obtain ⟨z, hz⟩ : ∃ z, z = L[m].sz := ⟨_, rfl⟩
    rw [← hz] at e7 V
    subst hm
    clear hn hp EN hz
    go_enter Try.func58, Try.ntmps58
    go_wp2_with fail
    refine HA.out.mono ?_
    rintro e w9 ⟨rfl, rfl⟩
    rw [D.out]
    go_wp2_with fail
    go_ret2
    exact ⟨by rw [V.out]; rfl, rfl⟩
  · have V := Lib.hid (show sizeV L n = .tuple #[.int .i64 0, .int .i64 3] by unfold sizeV; rw [if_neg hn])
    have D := Lib.hid (decide_eq_false hn)
    clear hn EN
    go_enter Try.func58, Try.ntmps58
    go_wp2_with fail
    refine HA.out.mono ?_
    rintro e w9 ⟨rfl, rfl⟩
    rw [D.out]
    go_wp2_with fail
    go_ret2
    exact ⟨by rw [V.out]; rfl, rfl⟩
/-- the number that Find answers -/
def findN (L : List Tr) (t : Tr) : Nat := if rightN t = 0 then num L t else 0
set_option maxHeartbeats 2000000 in
theorem ifind_any {w : World} {lo P M room : Nat} {L : List Tr} {A : Option Addr} {c : Nat} (h : Tab w lo P M room L A c) (t : Tr) (At : Option Addr) (ct : Nat) (ht : IsT w w.heap.size t At ct) :
    Calls Try.prog 52 #[.pointer (some ⟨P, 0, none⟩), .agg #[.int .i64 t.k, .int .i64 t.i, .slice At t.ks.length ct]] w fun e w' => e = .returned (.int .i64 (findN L t : Int)) ∧ Below w.heap.size w w' := by
  have hbe := below_al w (.cells #[.int .i64 t.k, .int .i64 t.i, .slice At t.ks.length ct] 24)
  have HT := Lib.hid (ht.keep hbe hbe.size)
  have T1 := Lib.hid (h.keep hbe)
  have BE := Lib.hid (Box3.new w (.int .i64 t.k) (.int .i64 t.i) (.slice At t.ks.length ct))
  obtain ⟨y0, y1, y2⟩ := BE.out.cells
  have B0 := Lib.hid hbe
  clear ht h hbe
  go_enter Try.func52, Try.ntmps52
  go_wp2_with fail
  refine (right_any t At ct _ (by exact HT.out)).mono ?_
  rintro e w1 ⟨rfl, hb1⟩
  have HT1 := Lib.hid (HT.out.keep hb1 hb1.size)
  have T2 := Lib.hid (T1.out.keep hb1)
  obtain ⟨z0, z1, z2⟩ := (BE.out.keep hb1 BE.out.lt).cells
  have B1 := Lib.hid (B0.out.trans (hb1.mono B0.out.size))
  clear hb1 y0 y1 y2
  by_cases hr : rightN t = 0
  · have h0 : ((rightN t : Int) != 0) = false := by simp [hr]
    have V := Lib.hid (show findN L t = num L t by unfold findN; rw [if_pos hr])
    have FA := Lib.hid (find_acts w1 w1.heap.size lo P M room t hr w1 L A c At ct (Below.refl _ _) (Nat.le_refl _) T2.out HT1.out)
    clear hr
    go_wp2_with fail
    refine FA.out.mono ?_
    rintro e w2 ⟨rfl, A', c', hA⟩
    have B2 := Lib.hid (B1.out.trans (hA.bel.mono B1.out.size))
    clear hA
    go_wp2_with fail
    go_ret
    exact ⟨by rw [V.out]; rfl, B2.out⟩
  · have h0 : ((rightN t : Int) != 0) = true := by rw [bne_iff_ne]; omega
    have V := Lib.hid (show findN L t = 0 by unfold findN; rw [if_neg hr])
    clear hr
    go_wp2_with fail
    go_ret
    exact ⟨by rw [V.out]; rfl, B1.out⟩
end Go.Proofs.Ytmmdhlemkcddmaa
