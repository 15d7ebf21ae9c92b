/- The document's Order, Like, Same, Compare, IsTerm, IsFormula. -/
import Derived.Test.YtgnfbhemkombaaaDoorE3
namespace Go.Proofs.YtgnfbhemkombaaaDoor
open Go.RowKit Go.Sort
theorem cmp_head {a b : Tr} (h : headC a b ≠ 0) : cmpT a b = headC a b := by rw [cmpT_eq, if_pos h]
theorem cmp_kids {a b : Tr} (h : headC a b = 0) : cmpT a b = cmpL a.ks b.ks := by rw [cmpT_eq, if_neg (by simp [h])]
set_option maxHeartbeats 2000000 in
theorem order_any : ∀ (N : Nat) (a b : Tr) (A A' : Option Addr) (c c' : Nat) (w : World), a.sz ≤ N → IsT w w.heap.size a A c → IsT w w.heap.size b A' c' →
    Calls Tryd.prog 28 #[.agg #[.int .i64 a.k, .int .i64 a.i, .slice A a.ks.length c], .agg #[.int .i64 b.k, .int .i64 b.i, .slice A' b.ks.length c']] w fun e w' => e = .returned (.int .i64 (cmpT a b)) ∧ Below w.heap.size w w' := by
  intro N
  induction N with
  | zero => intro t _ _ _ _ _ w h; have := sz_pos t; omega
  | succ N ih =>
    intro a b A A' c c' w hN ha hb
    have IH := Lib.hid ih
    clear ih
    have hz0 : Below w.heap.size w (w.alloc (.cells #[.int .i64 a.k, .int .i64 a.i, .slice A a.ks.length c] 24)) := (Below.refl _ _).alloc (Nat.le_refl _) _
    have hz1 : Below w.heap.size w ((w.alloc (.cells #[.int .i64 a.k, .int .i64 a.i, .slice A a.ks.length c] 24)).alloc (.cells #[.int .i64 b.k, .int .i64 b.i, .slice A' b.ks.length c'] 24)) := hz0.alloc hz0.size _
    have HA := Lib.hid ha
    have HB := Lib.hid hb
    have la := ha.len
    have lb := hb.len
    clear ha hb
    obtain ⟨x1, h1⟩ : ∃ x, x = byI a.k b.k := ⟨_, rfl⟩
    obtain ⟨x2, h2⟩ : ∃ x, x = byI a.i b.i := ⟨_, rfl⟩
    obtain ⟨x3, h3⟩ : ∃ x, x = byI a.ks.length b.ks.length := ⟨_, rfl⟩
    have X1 := Lib.hid h1
    have X2 := Lib.hid h2
    have X3 := Lib.hid h3
    clear h1 h2 h3
    by_cases e1 : x1 = 0
    · subst e1
      by_cases e2 : x2 = 0
      · subst e2
        by_cases e3 : x3 = 0
        · subst e3
          have H := Lib.hid (show headC a b = 0 from headC_zero.2 ⟨byI_zero.1 X1.out.symm, byI_zero.1 X2.out.symm, by have := byI_zero.1 X3.out.symm; omega⟩)
          have hl : a.ks.length = b.ks.length := by have := byI_zero.1 X3.out.symm; omega
          have HL := Lib.hid hl
          go_enter Tryd.func28, Tryd.ntmps28
          clear hl
          go_wp2_with (go_at_call 56; refine (by_any _ _ _).mono ?_; rintro e w' ⟨rfl, rfl⟩; first | rw [← X1.out] | rw [← X2.out] | rw [← X3.out])
          go_loopw [5, 6] (fun s i wr => ∃ m : Nat, m ≤ a.ks.length ∧ i = .int .i64 m ∧ (∃ x : Int, x = cmpL (a.ks.take m) (b.ks.take m) ∧ s = .int .i64 x) ∧ Below (w.heap.size + 2) ((w.alloc (.cells #[.int .i64 a.k, .int .i64 a.i, .slice A a.ks.length c] 24)).alloc (.cells #[.int .i64 b.k, .int .i64 b.i, .slice A' b.ks.length c'] 24)) wr) (fun _ i _ => a.ks.length - (intOf i).toNat)
          case atStart => exact ⟨0, Nat.zero_le _, rfl, ⟨0, by simp [cmpL], rfl⟩, Below.refl _ _⟩
          case round =>
            obtain ⟨m, hm', rfl, ⟨x, hx, rfl⟩, hbr⟩ := hrel
            have HX := Lib.hid hx
            clear hx
            have hbw : Below w.heap.size w wr := hz1.trans (hbr.mono (by omega))
            have hsz := hbr.size
            simp at hsz
            obtain ⟨⟨f0, f1, f2⟩, g0, g1, g2⟩ := two_boxes hbr
            by_cases hx0 : x = 0
            · subst hx0
              by_cases hlt : m < a.ks.length
              · have hlt2 : m < b.ks.length := by have := HL.out; omega
                obtain ⟨b1, o1, A1, c1, rfl, hlt1, p0, p1, p2, hk1⟩ := HA.out.kid m hlt
                obtain ⟨b2, o2, A2, c2, rfl, hlt3, r0, r1, r2, hk2⟩ := HB.out.kid m hlt2
                have S := Lib.hid (cmpL_take a.ks b.ks m hlt hlt2 HX.out.symm)
                have kz := kid_sz a m hlt
                obtain ⟨q1, hq1⟩ : ∃ q, q = a.ks[m] := ⟨_, rfl⟩
                obtain ⟨q2, hq2⟩ : ∃ q, q = b.ks[m] := ⟨_, rfl⟩
                rw [← hq1] at p0 p1 p2 hk1 kz S
                rw [← hq2] at r0 r1 r2 hk2 S
                clear hq1 hq2
                have u0 := (hbw.cell hlt1).trans p0
                have u1 := (hbw.cell hlt1).trans p1
                have u2 := (hbw.cell hlt1).trans p2
                have v0 := (hbw.cell hlt3).trans r0
                have v1 := (hbw.cell hlt3).trans r1
                have v2 := (hbw.cell hlt3).trans r2
                have HK1 := Lib.hid (hk1.keep hbw hbw.size)
                have HK2 := Lib.hid (hk2.keep hbw hbw.size)
                clear p0 p1 p2 r0 r1 r2 hk1 hk2
                go_wp2_with fail
                have f2' := cell_regrown f2
                have g2' := cell_regrown g2
                have u0' := cell_regrown u0
                have u1' := cell_regrown u1
                have u2' := cell_regrown u2
                have v0' := cell_regrown v0
                have v1' := cell_regrown v1
                have v2' := cell_regrown v2
                have cQ : ∀ d os, Calls Tryd.prog 28 #[.agg #[.int .i64 q1.k, .int .i64 q1.i, .slice A1 q1.ks.length c1], .agg #[.int .i64 q2.k, .int .i64 q2.i, .slice A2 q2.ks.length c2]] (grow (redrawn wr d) os) fun e w'' => e = .returned (.int .i64 (cmpT q1 q2)) ∧ ∃ p : Regrown, w'' = grow (redrawn wr p.d) p.os :=
                  fun d os => Calls.regrown_of (IH.out q1 q2 A1 A2 c1 c2 _ (by omega) (HK1.out.keep (below_regrown wr d os) (below_regrown wr d os).size) (HK2.out.keep (below_regrown wr d os) (below_regrown wr d os).size))
                have CQ := Lib.hid cQ
                clear cQ f0 f1 f2 g0 g1 g2 u0 u1 u2 v0 v1 v2
                have hi1 : (0 : Int) ≤ (m : Int) := by omega
                have hi2 : (m : Int) < (a.ks.length : Int) := by omega
                have hi3 : (m : Int) < (b.ks.length : Int) := by omega
                refine wp_region_quiet_below (by kernel_rfl) (by kernel_rfl) ?_
                repeat (go_big_quiet_step (exact CQ.out _ _))
                refine wpQuiet_nil ?_
                intro w5 hw'
                obtain ⟨⟨dq, osq⟩, hw''⟩ := hw'
                have hb5 := below_regrown wr dq osq
                rw [← hw''] at hb5
                clear hw'' f2' g2' u0' u1' u2' v0' v1' v2'
                go_wp2_with fail
                go_roundw
                case rel => exact ⟨m + 1, by omega, by go_num, ⟨_, S.out.symm, rfl⟩, hbr.trans (hb5.mono (by omega))⟩
                case measure => simp [intOf]; omega
              · obtain rfl : m = a.ks.length := by omega
                have F := Lib.hid (show cmpT a b = 0 by
                  have := HX.out
                  rw [List.take_length, HL.out, List.take_length] at this
                  rw [cmp_kids H.out, ← this])
                have hd : decide ((a.ks.length : Int) < (a.ks.length : Int)) = false := by simp
                go_wp2_with fail
                go_ret
                exact ⟨ret_int (by rw [F.out]), hbw⟩
            · have F := Lib.hid (show cmpT a b = x by rw [cmp_kids H.out, HX.out]; exact cmpL_of_take _ _ _ (by rw [← HX.out]; exact hx0))
              have hx1 : (x == 0) = false := by rw [beq_eq_false_iff_ne]; exact hx0
              go_wp2_with fail
              go_ret
              exact ⟨ret_int (by rw [F.out]), hbw⟩
        · have F := Lib.hid (show cmpT a b = x3 by
            have e : headC a b = x3 := by unfold headC; rw [if_neg (by rw [← X1.out]; simp), if_neg (by rw [← X2.out]; simp)]; exact X3.out.symm
            rw [cmp_head (by rw [e]; exact e3), e])
          have e3' : (x3 == 0) = false := by rw [beq_eq_false_iff_ne]; exact e3
          go_enter Tryd.func28, Tryd.ntmps28
          go_wp2_with (go_at_call 56; refine (by_any _ _ _).mono ?_; rintro e w' ⟨rfl, rfl⟩; first | rw [← X1.out] | rw [← X2.out] | rw [← X3.out])
          go_loopw [5, 6] (fun s i wr => s = .int .i64 x3 ∧ i = .int .i64 0 ∧ Below w.heap.size w wr) (fun _ _ _ => 0)
          case atStart => exact ⟨rfl, rfl, hz1⟩
          case round =>
            obtain ⟨rfl, rfl, hbr⟩ := hrel
            go_wp2_with fail
            go_ret
            exact ⟨ret_int (by rw [F.out]), hbr⟩
      · have F := Lib.hid (show cmpT a b = x2 by
          have e : headC a b = x2 := by unfold headC; rw [if_neg (by rw [← X1.out]; simp), if_pos (by rw [← X2.out]; exact e2)]; exact X2.out.symm
          rw [cmp_head (by rw [e]; exact e2), e])
        have e2' : (x2 == 0) = false := by rw [beq_eq_false_iff_ne]; exact e2
        go_enter Tryd.func28, Tryd.ntmps28
        go_wp2_with (go_at_call 56; refine (by_any _ _ _).mono ?_; rintro e w' ⟨rfl, rfl⟩; first | rw [← X1.out] | rw [← X2.out] | rw [← X3.out])
        go_loopw [5, 6] (fun s i wr => s = .int .i64 x2 ∧ i = .int .i64 0 ∧ Below w.heap.size w wr) (fun _ _ _ => 0)
        case atStart => exact ⟨rfl, rfl, hz1⟩
        case round =>
          obtain ⟨rfl, rfl, hbr⟩ := hrel
          go_wp2_with fail
          go_ret
          exact ⟨ret_int (by rw [F.out]), hbr⟩
    · have F := Lib.hid (show cmpT a b = x1 by
        have e : headC a b = x1 := by unfold headC; rw [if_pos (by rw [← X1.out]; exact e1)]; exact X1.out.symm
        rw [cmp_head (by rw [e]; exact e1), e])
      have e1' : (x1 == 0) = false := by rw [beq_eq_false_iff_ne]; exact e1
      go_enter Tryd.func28, Tryd.ntmps28
      go_wp2_with (go_at_call 56; refine (by_any _ _ _).mono ?_; rintro e w' ⟨rfl, rfl⟩; first | rw [← X1.out] | rw [← X2.out] | rw [← X3.out])
      go_loopw [5, 6] (fun s i wr => s = .int .i64 x1 ∧ i = .int .i64 0 ∧ Below w.heap.size w wr) (fun _ _ _ => 0)
      case atStart => exact ⟨rfl, rfl, hz1⟩
      case round =>
        obtain ⟨rfl, rfl, hbr⟩ := hrel
        go_wp2_with fail
        go_ret
        exact ⟨ret_int (by rw [F.out]), hbr⟩
end Go.Proofs.YtgnfbhemkombaaaDoor
