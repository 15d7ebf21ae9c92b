/- order of package expr. -/
import Derived.Test.YtjdhmfpkhijkeaaGreatE10
namespace Go.Proofs.YtjdhmfpkhijkeaaGreat
open Go.RowKit Go.Sort
theorem or3_head (a b : Tr) : or3 (byI a.k b.k) (byI a.i b.i) (byI a.ks.length b.ks.length) = headC a b := rfl
def OrderC (N : Nat) : Prop := ∀ (a b : Tr) (A A' : Option Addr) (c c' : Nat) (w : World), a.sz ≤ N → IsT w w.heap.size a A c → IsT w w.heap.size b A' c' →
    Calls Tryz.prog 112 #[.agg #[.int .i64 a.k, .int .i64 a.i, .slice A a.ks.length c], .agg #[.int .i64 b.k, .int .i64 b.i, .slice A' b.ks.length c']] w fun e w' => e = .returned (.int .i64 (cmpT a b)) ∧ Below w.heap.size w w'
attribute [local go_sem ↓] Go.wp_at_zero Go.wp_at_succ
set_option maxHeartbeats 8000000 in
theorem order_step (N : Nat) (IH0 : OrderC N) : OrderC (N + 1) := by
  intro a b A A' c c' w hN ha hb
  have IH := Lib.hid IH0
  have HA := Lib.hid ha
  have HB := Lib.hid hb
  have la := ha.len
  have lb := hb.len
  clear ha hb IH0
  have hz0 : Below w.heap.size w (w.alloc (.cells #[.int .i64 a.k, .int .i64 a.i, .slice A a.ks.length c] 26)) := (Below.refl _ _).alloc (Nat.le_refl _) _
  have hz1 : Below w.heap.size w ((w.alloc (.cells #[.int .i64 a.k, .int .i64 a.i, .slice A a.ks.length c] 26)).alloc (.cells #[.int .i64 b.k, .int .i64 b.i, .slice A' b.ks.length c'] 26)) := hz0.alloc hz0.size _
  have HZ1 := Lib.hid hz1
  clear hz0 hz1
  have TB := Lib.hid (fun w1 (h : Below (w.heap.size + 2) ((w.alloc (.cells #[.int .i64 a.k, .int .i64 a.i, .slice A a.ks.length c] 26)).alloc (.cells #[.int .i64 b.k, .int .i64 b.i, .slice A' b.ks.length c'] 26)) w1) => two_boxes h)
  go_enter Tryz.func112, Tryz.ntmps112
  go_upto_region 1 with fail
  go_cut [5, 6] (fun p q wc => HeadsIn ((w.alloc (.cells #[.int .i64 a.k, .int .i64 a.i, .slice A a.ks.length c] 26)).alloc (.cells #[.int .i64 b.k, .int .i64 b.i, .slice A' b.ks.length c'] 26)) wc (w.heap.size + 2) a.k a.i a.ks.length b.k b.i b.ks.length p q)
  case first =>
    go_region_held3 (fun w' => (w'.cell? ⟨w.heap.size, 0, none⟩ = some (.int .i64 a.k) ∧ w'.cell? ⟨w.heap.size, 1, none⟩ = some (.int .i64 a.i) ∧ w'.cell? ⟨w.heap.size, 2, none⟩ = some (.slice A a.ks.length c)) ∧ (w'.cell? ⟨w.heap.size + 1, 0, none⟩ = some (.int .i64 b.k) ∧ w'.cell? ⟨w.heap.size + 1, 1, none⟩ = some (.int .i64 b.i) ∧ w'.cell? ⟨w.heap.size + 1, 2, none⟩ = some (.slice A' b.ks.length c'))) ((refine TB.out _ ?_; repeat (first | exact Below.refl _ _ | refine Below.drew ?_ | refine Below.alloc ?_ (by simp; try omega) _ | refine Below.setCell ?_ (by simp; try omega) _)))
      (first | (go_at_call 124; refine (headOf_any _ _ _ _ _ _).mono ?_; rintro e w' ⟨rfl, rfl⟩))
    all_goals (go_wp2_with fail)
    all_goals go_meet
    all_goals
      refine ⟨_, _, rfl, rfl, ?_, ⟨?_, ?_, ?_⟩, ?_, ?_, ?_⟩
      · with_reducible repeat (first | exact Below.refl _ _ | refine Below.drew ?_ | refine Below.alloc ?_ (by simp; try omega) _)
      all_goals (with_reducible repeat (first | refine peel_drew ?_ | (refine cell_atH ?_ ?_ <;> (simp; done)) | refine peel _ ?_))
  case rest =>
    obtain ⟨b5, b6, rfl, rfl, hbc, ⟨x0, x1, x2⟩, y0, y1, y2⟩ := hcut
    obtain ⟨⟨f0, f1, f2⟩, g0, g1, g2⟩ := TB.out _ hbc
    have hsz := hbc.size
    simp at hsz
    have hbw : Below w.heap.size w wc := HZ1.out.trans (hbc.mono (by omega))
    by_cases hh : headC a b = 0
    · obtain ⟨e1, e2, e3⟩ := headC_zero.1 hh
      have E1 : (a.k == b.k) = true := by simpa using e1
      have E2 : (a.i == b.i) = true := by simpa using e2
      have E3 : ((a.ks.length : Int) == (b.ks.length : Int)) = true := by rw [beq_iff_eq]; omega
      have H := Lib.hid hh
      have HL := Lib.hid e3
      clear e1 e2 e3 hh
      go_wp2_with fail
      go_loopw [37] (fun i wr => ∃ m : Nat, m ≤ a.ks.length ∧ i = .int .i64 m ∧ cmpL (a.ks.take m) (b.ks.take m) = 0 ∧ Below (w.heap.size + 2) ((w.alloc (.cells #[.int .i64 a.k, .int .i64 a.i, .slice A a.ks.length c] 26)).alloc (.cells #[.int .i64 b.k, .int .i64 b.i, .slice A' b.ks.length c'] 26)) wr) (fun i _ => a.ks.length - (intOf i).toNat)
      case atStart => exact ⟨0, Nat.zero_le _, rfl, by simp [cmpL], hbc⟩
      case round =>
        clear f0 f1 f2 g0 g1 g2 x0 x1 x2 y0 y1 y2 hbc hbw hsz E1 E2 E3
        obtain ⟨m, hm', rfl, hx, hbr⟩ := hrel
        have HX := Lib.hid hx
        clear hx
        have hbw : Below w.heap.size w wr := HZ1.out.trans (hbr.mono (by omega))
        have hsz := hbr.size
        simp at hsz
        obtain ⟨⟨f0, f1, f2⟩, g0, g1, g2⟩ := TB.out _ hbr
        by_cases hlt : m < a.ks.length
        · have hlt2 : m < b.ks.length := by have := HL.out; omega
          obtain ⟨b1, o1, A1, c1, rfl, hlt1, p0, p1, p2, hk1⟩ := HA.out.kid m hlt
          obtain ⟨b2, o2, A2, c2, rfl, hlt3, r0, r1, r2, hk2⟩ := HB.out.kid m hlt2
          have S := Lib.hid (cmpL_take a.ks b.ks m hlt hlt2 HX.out)
          have ST := Lib.hid (fun h => cmpL_of_take a.ks b.ks (m + 1) h)
          have kz := kid_sz a m hlt
          obtain ⟨q1, hq1⟩ : ∃ q, q = a.ks[m] := ⟨_, rfl⟩
          obtain ⟨q2, hq2⟩ : ∃ q, q = b.ks[m] := ⟨_, rfl⟩
          rw [← hq1] at p0 p1 p2 hk1 kz S
          rw [← hq2] at r0 r1 r2 hk2 S
          clear hq1 hq2
          have u0 := (hbw.cell hlt1).trans p0
          have u1 := (hbw.cell hlt1).trans p1
          have u2 := (hbw.cell hlt1).trans p2
          have v0 := (hbw.cell hlt3).trans r0
          have v1 := (hbw.cell hlt3).trans r1
          have v2 := (hbw.cell hlt3).trans r2
          have HK1 := Lib.hid (hk1.keep hbw hbw.size)
          have HK2 := Lib.hid (hk2.keep hbw hbw.size)
          clear p0 p1 p2 r0 r1 r2 hk1 hk2
          go_wp2_with fail
          obtain ⟨W, hW⟩ : ∃ W, W = wr.alloc (.cells #[.int .i64 q1.k, .int .i64 q1.i, .slice A1 q1.ks.length c1] 26) := ⟨_, rfl⟩
          have ha : Below wr.heap.size wr W := by rw [hW]; exact (Below.refl _ _).alloc (Nat.le_refl _) _
          have hWs : W.heap.size = wr.heap.size + 1 := by rw [hW]; simp
          have nb := box_new wr (.int .i64 q1.k) (.int .i64 q1.i) (.slice A1 q1.ks.length c1) 26
          rw [← hW] at nb ⊢
          obtain ⟨n0, n1, n2⟩ := nb
          have n0' := cell_regrown n0
          have n1' := cell_regrown n1
          have n2' := cell_regrown n2
          have g2' := cell_regrown ((ha.cell (by show w.heap.size + 1 < _; omega)).trans g2)
          have v0' := cell_regrown ((ha.cell (block_lt_of_cell v0)).trans v0)
          have v1' := cell_regrown ((ha.cell (block_lt_of_cell v1)).trans v1)
          have v2' := cell_regrown ((ha.cell (block_lt_of_cell v2)).trans v2)
          have cQ : ∀ d os, Calls Tryz.prog 112 #[.agg #[.int .i64 q1.k, .int .i64 q1.i, .slice A1 q1.ks.length c1], .agg #[.int .i64 q2.k, .int .i64 q2.i, .slice A2 q2.ks.length c2]] (grow (redrawn W d) os) fun e w'' => e = .returned (.int .i64 (cmpT q1 q2)) ∧ ∃ p : Regrown, w'' = grow (redrawn W p.d) p.os :=
            fun d os => Calls.regrown_of (IH.out q1 q2 A1 A2 c1 c2 _ (by omega) ((HK1.out.keep ha ha.size).keep (below_regrown W d os) (below_regrown W d os).size) ((HK2.out.keep ha ha.size).keep (below_regrown W d os) (below_regrown W d os).size))
          have CQ := Lib.hid cQ
          have HWs := Lib.hid hWs
          clear cQ f0 f1 f2 g0 g1 g2 u0 u1 u2 v0 v1 v2 n0 n1 n2 hW hWs
          have hi1 : (0 : Int) ≤ (m : Int) := by omega
          have hi2 : (m : Int) < (a.ks.length : Int) := by omega
          have hi3 : (m : Int) < (b.ks.length : Int) := by omega
          refine wp_region_quiet_below (by kernel_rfl) (by kernel_rfl) ?_
          repeat (go_big_quiet_step (exact CQ.out _ _))
          refine wpQuiet_nil ?_
          intro w5 hw'
          obtain ⟨⟨dq, osq⟩, hw''⟩ := hw'
          have hb5 := below_regrown W dq osq
          rw [← hw''] at hb5
          clear hw'' n0' n1' n2' g2' v0' v1' v2'
          have hb6 : Below (w.heap.size + 2) ((w.alloc (.cells #[.int .i64 a.k, .int .i64 a.i, .slice (some ⟨b1, o1, none⟩) a.ks.length c] 26)).alloc (.cells #[.int .i64 b.k, .int .i64 b.i, .slice (some ⟨b2, o2, none⟩) b.ks.length c'] 26)) w5 := hbr.trans ((ha.trans (hb5.mono (by have := HWs.out; omega))).mono (by omega))
          by_cases hx0 : cmpT q1 q2 = 0
          · have hx1 : (cmpT q1 q2 != 0) = false := by simpa using hx0
            have S2 := Lib.hid (show cmpL (a.ks.take (m + 1)) (b.ks.take (m + 1)) = 0 by rw [S.out]; exact hx0)
            clear hx0
            go_wp2_with fail
            go_roundw
            case rel => exact ⟨m + 1, by omega, by go_num, S2.out, hb6⟩
            case measure => simp [intOf]; omega
          · have hx1 : (cmpT q1 q2 != 0) = true := by simpa using hx0
            have F := Lib.hid (show cmpT a b = cmpT q1 q2 by rw [cmp_kids H.out, ST.out (by rw [S.out]; exact hx0), S.out])
            clear hx0
            go_wp2_with fail
            go_ret
            exact ⟨ret_int (by rw [F.out]), HZ1.out.trans (hb6.mono (by omega))⟩
        · obtain rfl : m = a.ks.length := by omega
          have F := Lib.hid (show cmpT a b = 0 by
            have := HX.out
            rw [List.take_length, HL.out, List.take_length] at this
            rw [cmp_kids H.out, this])
          go_wp2_with fail
          go_ret
          exact ⟨ret_int (by rw [F.out]), hbw⟩
    · have F := Lib.hid (cmp_head hh)
      have G := Lib.hid (or3_head a b)
      by_cases hk : a.k = b.k
      · have E1 : (a.k == b.k) = true := by simpa using hk
        by_cases hi : a.i = b.i
        · have E2 : (a.i == b.i) = true := by simpa using hi
          have E3 : ((a.ks.length : Int) == (b.ks.length : Int)) = false := by rw [beq_eq_false_iff_ne]; intro e; exact hh (headC_zero.2 ⟨hk, hi, by omega⟩)
          clear hk hi hh
          go_wp2_with fail
          go_region_held3 (fun w' => w'.cell? ⟨b5, 0, none⟩ = some (.int .i64 a.k) ∧ w'.cell? ⟨b5, 1, none⟩ = some (.int .i64 a.i) ∧ w'.cell? ⟨b5, 2, none⟩ = some (.int .i64 a.ks.length) ∧ w'.cell? ⟨b6, 0, none⟩ = some (.int .i64 b.k) ∧ w'.cell? ⟨b6, 1, none⟩ = some (.int .i64 b.i) ∧ w'.cell? ⟨b6, 2, none⟩ = some (.int .i64 b.ks.length))
            ((refine ⟨?_, ?_, ?_, ?_, ?_, ?_⟩ <;> with_reducible (repeat (first | assumption | refine peel_drew ?_ | refine peel _ ?_))))
            (first | (go_at_call 126; refine (cmpc_any _ _ _).mono ?_; rintro e w' ⟨rfl, rfl⟩) | (go_at_call 125; refine (or_any (byI a.k b.k) (byI a.i b.i) (byI a.ks.length b.ks.length) wc.heap.size 3 _ (by simp) (by simp) (by simp)).mono ?_; rintro e w' ⟨rfl, rfl⟩))
          all_goals (go_wp2_with fail)
          go_ret
          exact ⟨ret_int (by rw [G.out, F.out]), (hbw.alloc hbw.size _).drew⟩
        · have E2 : (a.i == b.i) = false := by simpa using hi
          clear hk hi hh
          go_wp2_with fail
          go_region_held3 (fun w' => w'.cell? ⟨b5, 0, none⟩ = some (.int .i64 a.k) ∧ w'.cell? ⟨b5, 1, none⟩ = some (.int .i64 a.i) ∧ w'.cell? ⟨b5, 2, none⟩ = some (.int .i64 a.ks.length) ∧ w'.cell? ⟨b6, 0, none⟩ = some (.int .i64 b.k) ∧ w'.cell? ⟨b6, 1, none⟩ = some (.int .i64 b.i) ∧ w'.cell? ⟨b6, 2, none⟩ = some (.int .i64 b.ks.length))
            ((refine ⟨?_, ?_, ?_, ?_, ?_, ?_⟩ <;> with_reducible (repeat (first | assumption | refine peel_drew ?_ | refine peel _ ?_))))
            (first | (go_at_call 126; refine (cmpc_any _ _ _).mono ?_; rintro e w' ⟨rfl, rfl⟩) | (go_at_call 125; refine (or_any (byI a.k b.k) (byI a.i b.i) (byI a.ks.length b.ks.length) wc.heap.size 3 _ (by simp) (by simp) (by simp)).mono ?_; rintro e w' ⟨rfl, rfl⟩))
          all_goals (go_wp2_with fail)
          go_ret
          exact ⟨ret_int (by rw [G.out, F.out]), (hbw.alloc hbw.size _).drew⟩
      · have E1 : (a.k == b.k) = false := by simpa using hk
        clear hk hh
        go_wp2_with fail
        go_region_held3 (fun w' => w'.cell? ⟨b5, 0, none⟩ = some (.int .i64 a.k) ∧ w'.cell? ⟨b5, 1, none⟩ = some (.int .i64 a.i) ∧ w'.cell? ⟨b5, 2, none⟩ = some (.int .i64 a.ks.length) ∧ w'.cell? ⟨b6, 0, none⟩ = some (.int .i64 b.k) ∧ w'.cell? ⟨b6, 1, none⟩ = some (.int .i64 b.i) ∧ w'.cell? ⟨b6, 2, none⟩ = some (.int .i64 b.ks.length))
          ((refine ⟨?_, ?_, ?_, ?_, ?_, ?_⟩ <;> with_reducible (repeat (first | assumption | refine peel_drew ?_ | refine peel _ ?_))))
          (first | (go_at_call 126; refine (cmpc_any _ _ _).mono ?_; rintro e w' ⟨rfl, rfl⟩) | (go_at_call 125; refine (or_any (byI a.k b.k) (byI a.i b.i) (byI a.ks.length b.ks.length) wc.heap.size 3 _ (by simp) (by simp) (by simp)).mono ?_; rintro e w' ⟨rfl, rfl⟩))
        all_goals (go_wp2_with fail)
        go_ret
        exact ⟨ret_int (by rw [G.out, F.out]), (hbw.alloc hbw.size _).drew⟩
end Go.Proofs.YtjdhmfpkhijkeaaGreat
