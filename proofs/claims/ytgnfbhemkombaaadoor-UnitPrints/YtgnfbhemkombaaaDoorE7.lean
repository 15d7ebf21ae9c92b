/- sortOf, shapeOf, conforms of package expr. -/
import Derived.Test.YtgnfbhemkombaaaDoorE3
namespace Go.Proofs.YtgnfbhemkombaaaDoor
open Go.RowKit Go.Sort
set_option maxHeartbeats 400000 in
theorem sortOf_any (k i : Int) (A : Option Addr) (n c : Nat) (w : World) :
    Calls Tryd.prog 91 #[.agg #[.int .i64 k, .int .i64 i, .slice A n c]] w fun e w' => e = .returned (.int .i64 (sortN k)) ∧ Below w.heap.size w w' := by
  have hb : Below w.heap.size w (w.alloc (.cells #[.int .i64 k, .int .i64 i, .slice A n c] 24)) := (Below.refl _ _).alloc (Nat.le_refl _) _
  by_cases h1 : k < 1
  · have F := Lib.hid (show sortN k = 0 by unfold sortN; rw [if_neg (by omega), if_neg (by omega)])
    have d1 : decide (1 ≤ k) = false := decide_eq_false (by omega)
    have d2 : decide (3 ≤ k) = false := decide_eq_false (by omega)
    go_enter Tryd.func91, Tryd.ntmps91
    go_wp2_with fail
    go_ret
    exact ⟨ret_int (by rw [F.out]), hb⟩
  · by_cases h2 : k ≤ 2
    · have F := Lib.hid (show sortN k = 1 by unfold sortN; rw [if_pos (by omega)])
      have d1 : 1 ≤ k := by omega
      go_enter Tryd.func91, Tryd.ntmps91
      go_wp2_with fail
      go_ret
      exact ⟨ret_int (by rw [F.out]), hb⟩
    · have d1 : 1 ≤ k := by omega
      have d2 : decide (k ≤ 2) = false := decide_eq_false (by omega)
      have d3 : 3 ≤ k := by omega
      by_cases h3 : k ≤ 10
      · have F := Lib.hid (show sortN k = 2 by unfold sortN; rw [if_neg (by omega), if_pos (by omega)])
        go_enter Tryd.func91, Tryd.ntmps91
        go_wp2_with fail
        go_ret
        exact ⟨ret_int (by rw [F.out]), hb⟩
      · have F := Lib.hid (show sortN k = 0 by unfold sortN; rw [if_neg (by omega), if_neg (by omega)])
        have d4 : decide (k ≤ 10) = false := decide_eq_false (by omega)
        go_enter Tryd.func91, Tryd.ntmps91
        go_wp2_with fail
        go_ret
        exact ⟨ret_int (by rw [F.out]), hb⟩
set_option maxHeartbeats 1000000 in
theorem shapeOf_some (k m l u s : Int) (w : World) (h : rowOf k = some (m, l, u, s)) :
    Calls Tryd.prog 90 #[.int .i64 k] w fun e w' => e = .returned (.tuple #[.agg #[.int .i64 m, .int .i64 l, .int .i64 u, .int .i64 s], .bool true]) ∧ Below w.heap.size w w' := by
  have hk : 1 ≤ k ∧ k ≤ 10 := by
    rcases row_some k with ⟨_, _, _, _, _, h1, h2, _⟩ | ⟨h', _⟩
    · exact ⟨h1, h2⟩
    · rw [h'] at h; cases h
  have hk' : k = 1 ∨ k = 2 ∨ k = 3 ∨ k = 4 ∨ k = 5 ∨ k = 6 ∨ k = 7 ∨ k = 8 ∨ k = 9 ∨ k = 10 := by omega
  clear hk
  rcases hk' with rfl | rfl | rfl | rfl | rfl | rfl | rfl | rfl | rfl | rfl
  · obtain ⟨rfl, rfl, rfl, rfl⟩ : m = 63 ∧ l = 0 ∧ u = 0 ∧ s = 0 := by simp [rowOf] at h; omega
    clear h
    go_enter Tryd.func90, Tryd.ntmps90
    go_wp2_with fail
    exact bodyPost_ret (v := .tuple #[.agg #[.int .i64 63, .int .i64 0, .int .i64 0, .int .i64 0], .bool true]) (by simp [results, Tryd.results90, go_sem]) rfl ⟨rfl, (Below.refl _ _).alloc (Nat.le_refl _) _⟩
  · obtain ⟨rfl, rfl, rfl, rfl⟩ : m = 99 ∧ l = 0 ∧ u = 4 ∧ s = 1 := by simp [rowOf] at h; omega
    clear h
    go_enter Tryd.func90, Tryd.ntmps90
    go_wp2_with fail
    exact bodyPost_ret (v := .tuple #[.agg #[.int .i64 99, .int .i64 0, .int .i64 4, .int .i64 1], .bool true]) (by simp [results, Tryd.results90, go_sem]) rfl ⟨rfl, (Below.refl _ _).alloc (Nat.le_refl _) _⟩
  · obtain ⟨rfl, rfl, rfl, rfl⟩ : m = 99 ∧ l = 0 ∧ u = 4 ∧ s = 1 := by simp [rowOf] at h; omega
    clear h
    go_enter Tryd.func90, Tryd.ntmps90
    go_wp2_with fail
    exact bodyPost_ret (v := .tuple #[.agg #[.int .i64 99, .int .i64 0, .int .i64 4, .int .i64 1], .bool true]) (by simp [results, Tryd.results90, go_sem]) rfl ⟨rfl, (Below.refl _ _).alloc (Nat.le_refl _) _⟩
  · obtain ⟨rfl, rfl, rfl, rfl⟩ : m = 0 ∧ l = 2 ∧ u = 2 ∧ s = 1 := by simp [rowOf] at h; omega
    clear h
    go_enter Tryd.func90, Tryd.ntmps90
    go_wp2_with fail
    exact bodyPost_ret (v := .tuple #[.agg #[.int .i64 0, .int .i64 2, .int .i64 2, .int .i64 1], .bool true]) (by simp [results, Tryd.results90, go_sem]) rfl ⟨rfl, (Below.refl _ _).alloc (Nat.le_refl _) _⟩
  · obtain ⟨rfl, rfl, rfl, rfl⟩ : m = 0 ∧ l = 1 ∧ u = 1 ∧ s = 2 := by simp [rowOf] at h; omega
    clear h
    go_enter Tryd.func90, Tryd.ntmps90
    go_wp2_with fail
    exact bodyPost_ret (v := .tuple #[.agg #[.int .i64 0, .int .i64 1, .int .i64 1, .int .i64 2], .bool true]) (by simp [results, Tryd.results90, go_sem]) rfl ⟨rfl, (Below.refl _ _).alloc (Nat.le_refl _) _⟩
  · obtain ⟨rfl, rfl, rfl, rfl⟩ : m = 0 ∧ l = 2 ∧ u = 2 ∧ s = 2 := by simp [rowOf] at h; omega
    clear h
    go_enter Tryd.func90, Tryd.ntmps90
    go_wp2_with fail
    exact bodyPost_ret (v := .tuple #[.agg #[.int .i64 0, .int .i64 2, .int .i64 2, .int .i64 2], .bool true]) (by simp [results, Tryd.results90, go_sem]) rfl ⟨rfl, (Below.refl _ _).alloc (Nat.le_refl _) _⟩
  · obtain ⟨rfl, rfl, rfl, rfl⟩ : m = 63 ∧ l = 1 ∧ u = 1 ∧ s = 2 := by simp [rowOf] at h; omega
    clear h
    go_enter Tryd.func90, Tryd.ntmps90
    go_wp2_with fail
    exact bodyPost_ret (v := .tuple #[.agg #[.int .i64 63, .int .i64 1, .int .i64 1, .int .i64 2], .bool true]) (by simp [results, Tryd.results90, go_sem]) rfl ⟨rfl, (Below.refl _ _).alloc (Nat.le_refl _) _⟩
  · obtain ⟨rfl, rfl, rfl, rfl⟩ : m = 0 ∧ l = 2 ∧ u = 2 ∧ s = 2 := by simp [rowOf] at h; omega
    clear h
    go_enter Tryd.func90, Tryd.ntmps90
    go_wp2_with fail
    exact bodyPost_ret (v := .tuple #[.agg #[.int .i64 0, .int .i64 2, .int .i64 2, .int .i64 2], .bool true]) (by simp [results, Tryd.results90, go_sem]) rfl ⟨rfl, (Below.refl _ _).alloc (Nat.le_refl _) _⟩
  · obtain ⟨rfl, rfl, rfl, rfl⟩ : m = 0 ∧ l = 2 ∧ u = 2 ∧ s = 2 := by simp [rowOf] at h; omega
    clear h
    go_enter Tryd.func90, Tryd.ntmps90
    go_wp2_with fail
    exact bodyPost_ret (v := .tuple #[.agg #[.int .i64 0, .int .i64 2, .int .i64 2, .int .i64 2], .bool true]) (by simp [results, Tryd.results90, go_sem]) rfl ⟨rfl, (Below.refl _ _).alloc (Nat.le_refl _) _⟩
  · obtain ⟨rfl, rfl, rfl, rfl⟩ : m = 63 ∧ l = 1 ∧ u = 1 ∧ s = 2 := by simp [rowOf] at h; omega
    clear h
    go_enter Tryd.func90, Tryd.ntmps90
    go_wp2_with fail
    exact bodyPost_ret (v := .tuple #[.agg #[.int .i64 63, .int .i64 1, .int .i64 1, .int .i64 2], .bool true]) (by simp [results, Tryd.results90, go_sem]) rfl ⟨rfl, (Below.refl _ _).alloc (Nat.le_refl _) _⟩
set_option maxHeartbeats 1000000 in
theorem shapeOf_none (k : Int) (w : World) (h : rowOf k = none) :
    Calls Tryd.prog 90 #[.int .i64 k] w fun e w' => e = .returned (.tuple #[.agg #[.int .i64 0, .int .i64 0, .int .i64 0, .int .i64 0], .bool false]) ∧ Below w.heap.size w w' := by
  have hk : ¬ (1 ≤ k ∧ k ≤ 10) := by
    intro hk
    have hk' : k = 1 ∨ k = 2 ∨ k = 3 ∨ k = 4 ∨ k = 5 ∨ k = 6 ∨ k = 7 ∨ k = 8 ∨ k = 9 ∨ k = 10 := by omega
    rcases hk' with rfl | rfl | rfl | rfl | rfl | rfl | rfl | rfl | rfl | rfl <;> simp [rowOf] at h
  have n1 : (k == 1) = false := by rw [beq_eq_false_iff_ne]; omega
  have n2 : (k == 2) = false := by rw [beq_eq_false_iff_ne]; omega
  have n3 : (k == 3) = false := by rw [beq_eq_false_iff_ne]; omega
  have n4 : (k == 4) = false := by rw [beq_eq_false_iff_ne]; omega
  have n5 : (k == 5) = false := by rw [beq_eq_false_iff_ne]; omega
  have n6 : (k == 6) = false := by rw [beq_eq_false_iff_ne]; omega
  have n7 : (k == 7) = false := by rw [beq_eq_false_iff_ne]; omega
  have n8 : (k == 8) = false := by rw [beq_eq_false_iff_ne]; omega
  have n9 : (k == 9) = false := by rw [beq_eq_false_iff_ne]; omega
  have n10 : (k == 10) = false := by rw [beq_eq_false_iff_ne]; omega
  clear hk h
  go_enter Tryd.func90, Tryd.ntmps90
  go_wp2_with fail
  exact bodyPost_ret (v := .tuple #[.agg #[.int .i64 0, .int .i64 0, .int .i64 0, .int .i64 0], .bool false]) (by simp [results, Tryd.results90, go_sem]) rfl ⟨rfl, (Below.refl _ _).alloc (Nat.le_refl _) _⟩
theorem conf_some (t : Tr) {m l u s : Int} (h : rowOf t.k = some (m, l, u, s)) : confB t = (decide (0 ≤ t.i) && decide (t.i ≤ m) && decide (l ≤ (t.ks.length : Int)) && decide ((t.ks.length : Int) ≤ u) && allSort s t.ks) := by
  unfold confB; rw [h]
theorem allSort_take (s : Int) (ks : List Tr) (m : Nat) (h : m < ks.length) : allSort s (ks.take (m + 1)) = (allSort s (ks.take m) && decide (sortN ks[m].k = s)) := by
  unfold allSort; rw [List.take_succ_eq_append_getElem h, List.all_append]; simp
theorem allSort_bad (s : Int) (ks : List Tr) (m : Nat) (h : m < ks.length) (hx : sortN ks[m].k ≠ s) : allSort s ks = false := by
  unfold allSort
  rw [List.all_eq_false]
  exact ⟨ks[m], List.getElem_mem h, by simpa using hx⟩
set_option maxHeartbeats 2000000 in
theorem conforms_any (t : Tr) (A : Option Addr) (c : Nat) (w : World) (ht : IsT w w.heap.size t A c) :
    Calls Tryd.prog 44 #[.agg #[.int .i64 t.k, .int .i64 t.i, .slice A t.ks.length c]] w fun e w' => e = .returned (.bool (confB t)) ∧ Below w.heap.size w w' := by
  have hb0 : Below w.heap.size w (w.alloc (.cells #[.int .i64 t.k, .int .i64 t.i, .slice A t.ks.length c] 24)) := (Below.refl _ _).alloc (Nat.le_refl _) _
  have HT := Lib.hid ht
  have hl := ht.len
  clear ht
  cases hr : rowOf t.k with
  | none =>
    have F := Lib.hid (show confB t = false by unfold confB; rw [hr])
    have R := Lib.hid hr
    clear hr
    go_enter Tryd.func44, Tryd.ntmps44
    go_wp2_with (go_at_call 90; refine (shapeOf_none _ _ R.out).mono ?_; rintro e w' ⟨rfl, hb1⟩)
    go_ret
    exact ⟨by rw [F.out]; rfl, (hb0.trans (hb1.mono hb0.size)).alloc (by have := hb0.size; have := hb1.size; omega) _⟩
  | some r =>
    obtain ⟨m, l, u, s⟩ := r
    have F0 := Lib.hid (conf_some t hr)
    have R := Lib.hid hr
    clear hr
    go_enter Tryd.func44, Tryd.ntmps44
    go_wp2_with fail
    refine (shapeOf_some _ m l u s _ R.out).mono ?_
    rintro e w1 ⟨rfl, hb1⟩
    have hx1 := hb1.size
    simp at hx1
    obtain ⟨f0, f1, f2⟩ := box_cells (hb1.mono (by simp))
    have hc1 : Below w.heap.size w w1 := hb0.trans (hb1.mono hb0.size)
    have g0 : ∀ o, (w1.alloc o).cell? ⟨w.heap.size, 0, none⟩ = some (.int .i64 t.k) := fun o => (((Below.refl w1.heap.size w1).alloc (Nat.le_refl _) o).cell (by show w.heap.size < _; omega)).trans f0
    have g1 : ∀ o, (w1.alloc o).cell? ⟨w.heap.size, 1, none⟩ = some (.int .i64 t.i) := fun o => (((Below.refl w1.heap.size w1).alloc (Nat.le_refl _) o).cell (by show w.heap.size < _; omega)).trans f1
    have g2 : ∀ o, (w1.alloc o).cell? ⟨w.heap.size, 2, none⟩ = some (.slice A t.ks.length c) := fun o => (((Below.refl w1.heap.size w1).alloc (Nat.le_refl _) o).cell (by show w.heap.size < _; omega)).trans f2
    have hc2 : Below w.heap.size w (w1.alloc (.cells #[.int .i64 m, .int .i64 l, .int .i64 u, .int .i64 s] 118)) := hc1.alloc hc1.size _
    clear f0 f1 f2
    by_cases hi0 : t.i < 0
    · have F := Lib.hid (show confB t = false by rw [F0.out, decide_eq_false (p := 0 ≤ t.i) (by omega)]; simp)
      go_wp2_with fail
      go_ret
      exact ⟨by rw [F.out]; rfl, hc2⟩
    · have d0 : decide (t.i < 0) = false := decide_eq_false hi0
      by_cases hi1 : m < t.i
      · have F := Lib.hid (show confB t = false by rw [F0.out, decide_eq_false (p := t.i ≤ m) (by omega)]; simp)
        go_wp2_with fail
        go_ret
        exact ⟨by rw [F.out]; rfl, hc2⟩
      · have d1 : decide (m < t.i) = false := decide_eq_false hi1
        by_cases hn0 : (t.ks.length : Int) < l
        · have F := Lib.hid (show confB t = false by rw [F0.out, decide_eq_false (p := l ≤ (t.ks.length : Int)) (by omega)]; simp)
          go_wp2_with fail
          go_ret
          exact ⟨by rw [F.out]; rfl, hc2⟩
        · have d2 : decide ((t.ks.length : Int) < l) = false := decide_eq_false hn0
          by_cases hn1 : u < (t.ks.length : Int)
          · have F := Lib.hid (show confB t = false by rw [F0.out, decide_eq_false (p := (t.ks.length : Int) ≤ u) (by omega)]; simp)
            go_wp2_with fail
            go_ret
            exact ⟨by rw [F.out]; rfl, hc2⟩
          · have d3 : decide (u < (t.ks.length : Int)) = false := decide_eq_false hn1
            have F := Lib.hid (show confB t = allSort s t.ks by rw [F0.out, decide_eq_true (p := 0 ≤ t.i) (by omega), decide_eq_true (p := t.i ≤ m) (by omega), decide_eq_true (p := l ≤ (t.ks.length : Int)) (by omega), decide_eq_true (p := (t.ks.length : Int) ≤ u) (by omega)]; rfl)
            go_wp2_with fail
            go_loopw [44] (fun i wr => ∃ j : Nat, j ≤ t.ks.length ∧ i = .int .i64 j ∧ allSort s (t.ks.take j) = true ∧ wr.cell? ⟨w1.heap.size, 3, none⟩ = some (.int .i64 s) ∧ Below w.heap.size w wr ∧ w1.heap.size < wr.heap.size) (fun i _ => t.ks.length - (intOf i).toNat)
            case atStart => exact ⟨0, Nat.zero_le _, rfl, by simp [allSort], by simp [go_sem], hc2, by simp⟩
            case round =>
              obtain ⟨j, hj, rfl, hs, hcs, hbr, hsz⟩ := hrel
              have HS := Lib.hid hs
              clear hs
              by_cases hlt : j < t.ks.length
              · obtain ⟨b, o, A', c', rfl, hlt', p0, p1, p2, hk⟩ := HT.out.kid j hlt
                have S := Lib.hid (allSort_take s t.ks j hlt)
                have Z := Lib.hid (allSort_bad s t.ks j hlt)
                obtain ⟨q, hq⟩ : ∃ q, q = t.ks[j] := ⟨_, rfl⟩
                rw [← hq] at p0 p1 p2 hk S Z
                clear hq
                have e0 := (hbr.cell hlt').trans p0
                have e1 := (hbr.cell hlt').trans p1
                have e2 := (hbr.cell hlt').trans p2
                clear p0 p1 p2 hk
                go_wp2_with fail
                obtain ⟨W, hW⟩ : ∃ W, W = wr.alloc (.cells #[.int .i64 q.k, .int .i64 q.i, .slice A' q.ks.length c'] 24) := ⟨_, rfl⟩
                have ha : Below wr.heap.size wr W := by rw [hW]; exact (Below.refl _ _).alloc (Nat.le_refl _) _
                have hWs : W.heap.size = wr.heap.size + 1 := by rw [hW]; simp
                have nb := box_new wr (.int .i64 q.k) (.int .i64 q.i) (.slice A' q.ks.length c') 24
                rw [← hW] at nb ⊢
                obtain ⟨v0, v1, v2⟩ := nb
                have v3 := (ha.cell (p := ⟨w1.heap.size, 3, none⟩) hsz).trans hcs
                have v0' := cell_regrown v0
                have v1' := cell_regrown v1
                have v2' := cell_regrown v2
                have v3' := cell_regrown v3
                have cQ : ∀ d os, Calls Tryd.prog 91 #[.agg #[.int .i64 q.k, .int .i64 q.i, .slice A' q.ks.length c']] (grow (redrawn W d) os) fun e w'' => e = .returned (.int .i64 (sortN q.k)) ∧ ∃ p : Regrown, w'' = grow (redrawn W p.d) p.os :=
                  fun d os => Calls.regrown_of (sortOf_any _ _ _ _ _ _)
                have CQ := Lib.hid cQ
                have HWs := Lib.hid hWs
                clear cQ v0 v1 v2 hW hWs
                refine wp_region_quiet_below (by kernel_rfl) (by kernel_rfl) ?_
                repeat (go_big_quiet_step (exact CQ.out _ _))
                refine wpQuiet_nil ?_
                intro w5 hw'
                obtain ⟨⟨dq, osq⟩, hw''⟩ := hw'
                have hb5 := below_regrown W dq osq
                rw [← hw''] at hb5
                clear hw'' v0' v1' v2' v3'
                have hcs5 := (hb5.cell (p := ⟨w1.heap.size, 3, none⟩) (by show w1.heap.size < _; have := HWs.out; omega)).trans v3
                have hb6 : Below w.heap.size w w5 := hbr.trans ((ha.trans (hb5.mono (by have := HWs.out; omega))).mono hbr.size)
                have hs5 : w1.heap.size < w5.heap.size := by have := hb5.size; have := HWs.out; omega
                clear hb5
                by_cases hx : sortN q.k = s
                · have hx' : (sortN q.k != s) = false := by simpa using hx
                  have S2 := Lib.hid (show allSort s (t.ks.take (j + 1)) = true by rw [S.out, HS.out, decide_eq_true hx]; rfl)
                  clear hx
                  go_wp2_with fail
                  go_roundw
                  case rel => exact ⟨j + 1, by omega, by go_num, S2.out, hcs5, hb6, hs5⟩
                  case measure => simp [intOf]; omega
                · have hx' : (sortN q.k != s) = true := by simpa using hx
                  have S2 := Lib.hid (Z.out hx)
                  clear hx
                  go_wp2_with fail
                  go_ret
                  exact ⟨by rw [F.out, S2.out]; rfl, hb6⟩
              · obtain rfl : j = t.ks.length := by omega
                have S2 := Lib.hid (show allSort s t.ks = true by have := HS.out; rwa [List.take_length] at this)
                go_wp2_with fail
                go_ret
                exact ⟨by rw [F.out, S2.out]; rfl, hbr⟩
end Go.Proofs.YtgnfbhemkombaaaDoor
