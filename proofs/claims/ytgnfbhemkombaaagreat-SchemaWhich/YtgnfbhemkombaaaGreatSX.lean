/- E11, LK, E12, G2, FO, I2, T20, F3, G1, F6, F7, F4, F8, E28, S3, S4, S5, V0, L0, LQ, one behind the other. -/
import Derived.Test.YtgnfbhemkombaaaGreatE10
import Derived.Test.YtgnfbhemkombaaaGreatE4
import Derived.Test.YtgnfbhemkombaaaGreatEV
import Derived.Deep.RegionHeld3
import Derived.Test.YtgnfbhemkombaaaGreatF2
import Derived.Test.YtgnfbhemkombaaaGreatE9
import Derived.Test.YtgnfbhemkombaaaGreatT3
import Derived.Test.YtgnfbhemkombaaaGreatT17
import Derived.Test.YtgnfbhemkombaaaGreatT18
import Derived.Deep.DeepCutAuto
import Derived.Test.YtgnfbhemkombaaaGreatF5
import Derived.Test.YtgnfbhemkombaaaGreatS1
import Derived.WalkMore
import Derived.Deep.LoopGhost
import Derived.Test.YtgnfbhemkombaaaGreatS2
import Derived.Test.YtgnfbhemkombaaaGreatE5
import Derived.SizedLaws
import Derived.Deep.Slices
import Derived.ProofKit
import Derived.OpenShut
namespace Go.Proofs.YtgnfbhemkombaaaGreat
open Go.RowKit Go.Sort
theorem or3_head (a b : Tr) : or3 (byI a.k b.k) (byI a.i b.i) (byI a.ks.length b.ks.length) = headC a b := rfl
def OrderC (N : Nat) : Prop := ∀ (a b : Tr) (A A' : Option Addr) (c c' : Nat) (w : World), a.sz ≤ N → IsT w w.heap.size a A c → IsT w w.heap.size b A' c' →
    Calls Tryz.prog 112 #[.agg #[.int .i64 a.k, .int .i64 a.i, .slice A a.ks.length c], .agg #[.int .i64 b.k, .int .i64 b.i, .slice A' b.ks.length c']] w fun e w' => e = .returned (.int .i64 (cmpT a b)) ∧ Below w.heap.size w w'
attribute [local go_sem ↓] Go.wp_at_zero Go.wp_at_succ
set_option maxHeartbeats 8000000 in
theorem order_step (N : Nat) (IH0 : OrderC N) : OrderC (N + 1) := by
  intro a b A A' c c' w hN ha hb
  have IH := Lib.hid IH0
  have HA := Lib.hid ha
  have HB := Lib.hid hb
  have la := ha.len
  have lb := hb.len
  clear ha hb IH0
  have hz0 : Below w.heap.size w (w.alloc (.cells #[.int .i64 a.k, .int .i64 a.i, .slice A a.ks.length c] 24)) := (Below.refl _ _).alloc (Nat.le_refl _) _
  have hz1 : Below w.heap.size w ((w.alloc (.cells #[.int .i64 a.k, .int .i64 a.i, .slice A a.ks.length c] 24)).alloc (.cells #[.int .i64 b.k, .int .i64 b.i, .slice A' b.ks.length c'] 24)) := hz0.alloc hz0.size _
  have HZ1 := Lib.hid hz1
  clear hz0 hz1
  have TB := Lib.hid (fun w1 (h : Below (w.heap.size + 2) ((w.alloc (.cells #[.int .i64 a.k, .int .i64 a.i, .slice A a.ks.length c] 24)).alloc (.cells #[.int .i64 b.k, .int .i64 b.i, .slice A' b.ks.length c'] 24)) w1) => two_boxes h)
  go_enter Tryz.func112, Tryz.ntmps112
  go_upto_region 1 with fail
  go_cut [5, 6] (fun p q wc => HeadsIn ((w.alloc (.cells #[.int .i64 a.k, .int .i64 a.i, .slice A a.ks.length c] 24)).alloc (.cells #[.int .i64 b.k, .int .i64 b.i, .slice A' b.ks.length c'] 24)) wc (w.heap.size + 2) a.k a.i a.ks.length b.k b.i b.ks.length p q)
  case first =>
    go_region_held3 (fun w' => (w'.cell? ⟨w.heap.size, 0, none⟩ = some (.int .i64 a.k) ∧ w'.cell? ⟨w.heap.size, 1, none⟩ = some (.int .i64 a.i) ∧ w'.cell? ⟨w.heap.size, 2, none⟩ = some (.slice A a.ks.length c)) ∧ (w'.cell? ⟨w.heap.size + 1, 0, none⟩ = some (.int .i64 b.k) ∧ w'.cell? ⟨w.heap.size + 1, 1, none⟩ = some (.int .i64 b.i) ∧ w'.cell? ⟨w.heap.size + 1, 2, none⟩ = some (.slice A' b.ks.length c'))) ((refine TB.out _ ?_; repeat (first | exact Below.refl _ _ | refine Below.drew ?_ | refine Below.alloc ?_ (by simp; try omega) _ | refine Below.setCell ?_ (by simp; try omega) _)))
      (first | (go_at_call 131; refine (headOf_any _ _ _ _ _ _).mono ?_; rintro e w' ⟨rfl, rfl⟩))
    all_goals (go_wp2_with fail)
    all_goals go_meet
    all_goals
      refine ⟨_, _, rfl, rfl, ?_, ⟨?_, ?_, ?_⟩, ?_, ?_, ?_⟩
      · with_reducible repeat (first | exact Below.refl _ _ | refine Below.drew ?_ | refine Below.alloc ?_ (by simp; try omega) _)
      all_goals (with_reducible repeat (first | refine peel_drew ?_ | (refine cell_atH ?_ ?_ <;> (simp; done)) | refine peel _ ?_))
  case rest =>
    obtain ⟨b5, b6, rfl, rfl, hbc, ⟨x0, x1, x2⟩, y0, y1, y2⟩ := hcut
    obtain ⟨⟨f0, f1, f2⟩, g0, g1, g2⟩ := TB.out _ hbc
    have hsz := hbc.size
    simp at hsz
    have hbw : Below w.heap.size w wc := HZ1.out.trans (hbc.mono (by omega))
    by_cases hh : headC a b = 0
    · obtain ⟨e1, e2, e3⟩ := headC_zero.1 hh
      have E1 : (a.k == b.k) = true := by simpa using e1
      have E2 : (a.i == b.i) = true := by simpa using e2
      have E3 : ((a.ks.length : Int) == (b.ks.length : Int)) = true := by rw [beq_iff_eq]; omega
      have H := Lib.hid hh
      have HL := Lib.hid e3
      clear e1 e2 e3 hh
      go_wp2_with fail
      go_loopw [37] (fun i wr => ∃ m : Nat, m ≤ a.ks.length ∧ i = .int .i64 m ∧ cmpL (a.ks.take m) (b.ks.take m) = 0 ∧ Below (w.heap.size + 2) ((w.alloc (.cells #[.int .i64 a.k, .int .i64 a.i, .slice A a.ks.length c] 24)).alloc (.cells #[.int .i64 b.k, .int .i64 b.i, .slice A' b.ks.length c'] 24)) wr) (fun i _ => a.ks.length - (intOf i).toNat)
      case atStart => exact ⟨0, Nat.zero_le _, rfl, by simp [cmpL], hbc⟩
      case round =>
        clear f0 f1 f2 g0 g1 g2 x0 x1 x2 y0 y1 y2 hbc hbw hsz E1 E2 E3
        obtain ⟨m, hm', rfl, hx, hbr⟩ := hrel
        have HX := Lib.hid hx
        clear hx
        have hbw : Below w.heap.size w wr := HZ1.out.trans (hbr.mono (by omega))
        have hsz := hbr.size
        simp at hsz
        obtain ⟨⟨f0, f1, f2⟩, g0, g1, g2⟩ := TB.out _ hbr
        by_cases hlt : m < a.ks.length
        · have hlt2 : m < b.ks.length := by have := HL.out; omega
          obtain ⟨b1, o1, A1, c1, rfl, hlt1, p0, p1, p2, hk1⟩ := HA.out.kid m hlt
          obtain ⟨b2, o2, A2, c2, rfl, hlt3, r0, r1, r2, hk2⟩ := HB.out.kid m hlt2
          have S := Lib.hid (cmpL_take a.ks b.ks m hlt hlt2 HX.out)
          have ST := Lib.hid (fun h => cmpL_of_take a.ks b.ks (m + 1) h)
          have kz := kid_sz a m hlt
          obtain ⟨q1, hq1⟩ : ∃ q, q = a.ks[m] := ⟨_, rfl⟩
          obtain ⟨q2, hq2⟩ : ∃ q, q = b.ks[m] := ⟨_, rfl⟩
          rw [← hq1] at p0 p1 p2 hk1 kz S
          rw [← hq2] at r0 r1 r2 hk2 S
          clear hq1 hq2
          have u0 := (hbw.cell hlt1).trans p0
          have u1 := (hbw.cell hlt1).trans p1
          have u2 := (hbw.cell hlt1).trans p2
          have v0 := (hbw.cell hlt3).trans r0
          have v1 := (hbw.cell hlt3).trans r1
          have v2 := (hbw.cell hlt3).trans r2
          have HK1 := Lib.hid (hk1.keep hbw hbw.size)
          have HK2 := Lib.hid (hk2.keep hbw hbw.size)
          clear p0 p1 p2 r0 r1 r2 hk1 hk2
          go_wp2_with fail
          obtain ⟨W, hW⟩ : ∃ W, W = wr.alloc (.cells #[.int .i64 q1.k, .int .i64 q1.i, .slice A1 q1.ks.length c1] 24) := ⟨_, rfl⟩
          have ha : Below wr.heap.size wr W := by rw [hW]; exact (Below.refl _ _).alloc (Nat.le_refl _) _
          have hWs : W.heap.size = wr.heap.size + 1 := by rw [hW]; simp
          have nb := box_new wr (.int .i64 q1.k) (.int .i64 q1.i) (.slice A1 q1.ks.length c1) 24
          rw [← hW] at nb ⊢
          obtain ⟨n0, n1, n2⟩ := nb
          have n0' := cell_regrown n0
          have n1' := cell_regrown n1
          have n2' := cell_regrown n2
          have g2' := cell_regrown ((ha.cell (by show w.heap.size + 1 < _; omega)).trans g2)
          have v0' := cell_regrown ((ha.cell (block_lt_of_cell v0)).trans v0)
          have v1' := cell_regrown ((ha.cell (block_lt_of_cell v1)).trans v1)
          have v2' := cell_regrown ((ha.cell (block_lt_of_cell v2)).trans v2)
          have cQ : ∀ d os, Calls Tryz.prog 112 #[.agg #[.int .i64 q1.k, .int .i64 q1.i, .slice A1 q1.ks.length c1], .agg #[.int .i64 q2.k, .int .i64 q2.i, .slice A2 q2.ks.length c2]] (grow (redrawn W d) os) fun e w'' => e = .returned (.int .i64 (cmpT q1 q2)) ∧ ∃ p : Regrown, w'' = grow (redrawn W p.d) p.os :=
            fun d os => Calls.regrown_of (IH.out q1 q2 A1 A2 c1 c2 _ (by omega) ((HK1.out.keep ha ha.size).keep (below_regrown W d os) (below_regrown W d os).size) ((HK2.out.keep ha ha.size).keep (below_regrown W d os) (below_regrown W d os).size))
          have CQ := Lib.hid cQ
          have HWs := Lib.hid hWs
          clear cQ f0 f1 f2 g0 g1 g2 u0 u1 u2 v0 v1 v2 n0 n1 n2 hW hWs
          have hi1 : (0 : Int) ≤ (m : Int) := by omega
          have hi2 : (m : Int) < (a.ks.length : Int) := by omega
          have hi3 : (m : Int) < (b.ks.length : Int) := by omega
          refine wp_region_quiet_below (by kernel_rfl) (by kernel_rfl) ?_
          repeat (go_big_quiet_step (exact CQ.out _ _))
          refine wpQuiet_nil ?_
          intro w5 hw'
          obtain ⟨⟨dq, osq⟩, hw''⟩ := hw'
          have hb5 := below_regrown W dq osq
          rw [← hw''] at hb5
          clear hw'' n0' n1' n2' g2' v0' v1' v2'
          have hb6 : Below (w.heap.size + 2) ((w.alloc (.cells #[.int .i64 a.k, .int .i64 a.i, .slice (some ⟨b1, o1, none⟩) a.ks.length c] 24)).alloc (.cells #[.int .i64 b.k, .int .i64 b.i, .slice (some ⟨b2, o2, none⟩) b.ks.length c'] 24)) w5 := hbr.trans ((ha.trans (hb5.mono (by have := HWs.out; omega))).mono (by omega))
          by_cases hx0 : cmpT q1 q2 = 0
          · have hx1 : (cmpT q1 q2 != 0) = false := by simpa using hx0
            have S2 := Lib.hid (show cmpL (a.ks.take (m + 1)) (b.ks.take (m + 1)) = 0 by rw [S.out]; exact hx0)
            clear hx0
            go_wp2_with fail
            go_roundw
            case rel => exact ⟨m + 1, by omega, by go_num, S2.out, hb6⟩
            case measure => simp [intOf]; omega
          · have hx1 : (cmpT q1 q2 != 0) = true := by simpa using hx0
            have F := Lib.hid (show cmpT a b = cmpT q1 q2 by rw [cmp_kids H.out, ST.out (by rw [S.out]; exact hx0), S.out])
            clear hx0
            go_wp2_with fail
            go_ret
            exact ⟨ret_int (by rw [F.out]), HZ1.out.trans (hb6.mono (by omega))⟩
        · obtain rfl : m = a.ks.length := by omega
          have F := Lib.hid (show cmpT a b = 0 by
            have := HX.out
            rw [List.take_length, HL.out, List.take_length] at this
            rw [cmp_kids H.out, this])
          go_wp2_with fail
          go_ret
          exact ⟨ret_int (by rw [F.out]), hbw⟩
    · have F := Lib.hid (cmp_head hh)
      have G := Lib.hid (or3_head a b)
      by_cases hk : a.k = b.k
      · have E1 : (a.k == b.k) = true := by simpa using hk
        by_cases hi : a.i = b.i
        · have E2 : (a.i == b.i) = true := by simpa using hi
          have E3 : ((a.ks.length : Int) == (b.ks.length : Int)) = false := by rw [beq_eq_false_iff_ne]; intro e; exact hh (headC_zero.2 ⟨hk, hi, by omega⟩)
          clear hk hi hh
          go_wp2_with fail
          go_region_held3 (fun w' => w'.cell? ⟨b5, 0, none⟩ = some (.int .i64 a.k) ∧ w'.cell? ⟨b5, 1, none⟩ = some (.int .i64 a.i) ∧ w'.cell? ⟨b5, 2, none⟩ = some (.int .i64 a.ks.length) ∧ w'.cell? ⟨b6, 0, none⟩ = some (.int .i64 b.k) ∧ w'.cell? ⟨b6, 1, none⟩ = some (.int .i64 b.i) ∧ w'.cell? ⟨b6, 2, none⟩ = some (.int .i64 b.ks.length))
            ((refine ⟨?_, ?_, ?_, ?_, ?_, ?_⟩ <;> with_reducible (repeat (first | assumption | refine peel_drew ?_ | refine peel _ ?_))))
            (first | (go_at_call 133; refine (cmpc_any _ _ _).mono ?_; rintro e w' ⟨rfl, rfl⟩) | (go_at_call 132; refine (or_any (byI a.k b.k) (byI a.i b.i) (byI a.ks.length b.ks.length) wc.heap.size 3 _ (by simp) (by simp) (by simp)).mono ?_; rintro e w' ⟨rfl, rfl⟩))
          all_goals (go_wp2_with fail)
          go_ret
          exact ⟨ret_int (by rw [G.out, F.out]), (hbw.alloc hbw.size _).drew⟩
        · have E2 : (a.i == b.i) = false := by simpa using hi
          clear hk hi hh
          go_wp2_with fail
          go_region_held3 (fun w' => w'.cell? ⟨b5, 0, none⟩ = some (.int .i64 a.k) ∧ w'.cell? ⟨b5, 1, none⟩ = some (.int .i64 a.i) ∧ w'.cell? ⟨b5, 2, none⟩ = some (.int .i64 a.ks.length) ∧ w'.cell? ⟨b6, 0, none⟩ = some (.int .i64 b.k) ∧ w'.cell? ⟨b6, 1, none⟩ = some (.int .i64 b.i) ∧ w'.cell? ⟨b6, 2, none⟩ = some (.int .i64 b.ks.length))
            ((refine ⟨?_, ?_, ?_, ?_, ?_, ?_⟩ <;> with_reducible (repeat (first | assumption | refine peel_drew ?_ | refine peel _ ?_))))
            (first | (go_at_call 133; refine (cmpc_any _ _ _).mono ?_; rintro e w' ⟨rfl, rfl⟩) | (go_at_call 132; refine (or_any (byI a.k b.k) (byI a.i b.i) (byI a.ks.length b.ks.length) wc.heap.size 3 _ (by simp) (by simp) (by simp)).mono ?_; rintro e w' ⟨rfl, rfl⟩))
          all_goals (go_wp2_with fail)
          go_ret
          exact ⟨ret_int (by rw [G.out, F.out]), (hbw.alloc hbw.size _).drew⟩
      · have E1 : (a.k == b.k) = false := by simpa using hk
        clear hk hh
        go_wp2_with fail
        go_region_held3 (fun w' => w'.cell? ⟨b5, 0, none⟩ = some (.int .i64 a.k) ∧ w'.cell? ⟨b5, 1, none⟩ = some (.int .i64 a.i) ∧ w'.cell? ⟨b5, 2, none⟩ = some (.int .i64 a.ks.length) ∧ w'.cell? ⟨b6, 0, none⟩ = some (.int .i64 b.k) ∧ w'.cell? ⟨b6, 1, none⟩ = some (.int .i64 b.i) ∧ w'.cell? ⟨b6, 2, none⟩ = some (.int .i64 b.ks.length))
          ((refine ⟨?_, ?_, ?_, ?_, ?_, ?_⟩ <;> with_reducible (repeat (first | assumption | refine peel_drew ?_ | refine peel _ ?_))))
          (first | (go_at_call 133; refine (cmpc_any _ _ _).mono ?_; rintro e w' ⟨rfl, rfl⟩) | (go_at_call 132; refine (or_any (byI a.k b.k) (byI a.i b.i) (byI a.ks.length b.ks.length) wc.heap.size 3 _ (by simp) (by simp) (by simp)).mono ?_; rintro e w' ⟨rfl, rfl⟩))
        all_goals (go_wp2_with fail)
        go_ret
        exact ⟨ret_int (by rw [G.out, F.out]), (hbw.alloc hbw.size _).drew⟩
end Go.Proofs.YtgnfbhemkombaaaGreat
namespace Go.Proofs.YtgnfbhemkombaaaGreat
open Go.RowKit
/-! ### two trees handed in, boxed -/
/-- the two boxes, the two trees, in a later world -/
structure Two (w wr : World) (a b : Tr) (A A' : Option Addr) (c c' : Nat) : Prop where
  b0 : wr.cell? ⟨w.heap.size, 0, none⟩ = some (.int .i64 a.k)
  b1 : wr.cell? ⟨w.heap.size, 1, none⟩ = some (.int .i64 a.i)
  b2 : wr.cell? ⟨w.heap.size, 2, none⟩ = some (.slice A a.ks.length c)
  d0 : wr.cell? ⟨w.heap.size + 1, 0, none⟩ = some (.int .i64 b.k)
  d1 : wr.cell? ⟨w.heap.size + 1, 1, none⟩ = some (.int .i64 b.i)
  d2 : wr.cell? ⟨w.heap.size + 1, 2, none⟩ = some (.slice A' b.ks.length c')
  ta : IsT wr wr.heap.size a A c
  tb : IsT wr wr.heap.size b A' c'
  below : Below w.heap.size w wr
  size : w.heap.size + 2 ≤ wr.heap.size
theorem two_start {w : World} {a b : Tr} {A A' : Option Addr} {c c' : Nat} (ha : IsT w w.heap.size a A c) (hb : IsT w w.heap.size b A' c') :
    Two w ((w.alloc (.cells #[.int .i64 a.k, .int .i64 a.i, .slice A a.ks.length c] 24)).alloc (.cells #[.int .i64 b.k, .int .i64 b.i, .slice A' b.ks.length c'] 24)) a b A A' c c' := by
  have h1 : Below w.heap.size w ((w.alloc (.cells #[.int .i64 a.k, .int .i64 a.i, .slice A a.ks.length c] 24)).alloc (.cells #[.int .i64 b.k, .int .i64 b.i, .slice A' b.ks.length c'] 24)) := ((Below.refl _ _).alloc (Nat.le_refl _) _).alloc (by simp) _
  obtain ⟨⟨f0, f1, f2⟩, g0, g1, g2⟩ := two_boxes (Below.refl (w.heap.size + 2) ((w.alloc (.cells #[.int .i64 a.k, .int .i64 a.i, .slice A a.ks.length c] 24)).alloc (.cells #[.int .i64 b.k, .int .i64 b.i, .slice A' b.ks.length c'] 24)))
  exact ⟨f0, f1, f2, g0, g1, g2, ha.keep h1 h1.size, hb.keep h1 h1.size, h1, by simp⟩
theorem Two.keep {w wr w1 : World} {a b : Tr} {A A' : Option Addr} {c c' : Nat} (h : Two w wr a b A A' c c') (hb : Below wr.heap.size wr w1) : Two w w1 a b A A' c c' := by
  have hs := h.size
  have e : ∀ {p : Addr} {v : Value}, wr.cell? p = some v → w1.cell? p = some v := fun hv => (hb.cell (block_lt_of_cell hv)).trans hv
  exact ⟨e h.b0, e h.b1, e h.b2, e h.d0, e h.d1, e h.d2, h.ta.keep hb hb.size, h.tb.keep hb hb.size, h.below.trans (hb.mono h.below.size), Nat.le_trans hs hb.size⟩
def likeB (a b : Tr) : Bool := decide (cmpT a b = 0)
set_option maxHeartbeats 1000000 in
theorem like_any (a b : Tr) (A A' : Option Addr) (c c' : Nat) (w : World) (ha : IsT w w.heap.size a A c) (hb : IsT w w.heap.size b A' c') :
    Calls Tryz.prog 13 #[.agg #[.int .i64 a.k, .int .i64 a.i, .slice A a.ks.length c], .agg #[.int .i64 b.k, .int .i64 b.i, .slice A' b.ks.length c']] w fun e w' => e = .returned (.bool (likeB a b)) ∧ Below w.heap.size w w' := by
  have T0 := Lib.hid (two_start ha hb)
  clear ha hb
  by_cases hc : cmpT a b = 0
  · have hc1 : (cmpT a b == 0) = true := by simpa using hc
    have G := Lib.hid (show likeB a b = true by unfold likeB; rw [decide_eq_true hc])
    clear hc
    go_enter Tryz.func13, Tryz.ntmps13
    go_wp2_with (go_at_call 30; refine (order_any a.sz a b A A' c c' _ (Nat.le_refl _) (by exact T0.out.ta) (by exact T0.out.tb)).mono ?_; rintro e w1 ⟨rfl, hb1⟩)
    go_ret
    exact ⟨by rw [G.out]; rfl, (T0.out.keep hb1).below⟩
  · have hc1 : (cmpT a b == 0) = false := by simpa using hc
    have G := Lib.hid (show likeB a b = false by unfold likeB; rw [decide_eq_false hc])
    clear hc
    go_enter Tryz.func13, Tryz.ntmps13
    go_wp2_with (go_at_call 30; refine (order_any a.sz a b A A' c c' _ (Nat.le_refl _) (by exact T0.out.ta) (by exact T0.out.tb)).mono ?_; rintro e w1 ⟨rfl, hb1⟩)
    go_ret
    exact ⟨by rw [G.out]; rfl, (T0.out.keep hb1).below⟩
end Go.Proofs.YtgnfbhemkombaaaGreat
namespace Go.Proofs.YtgnfbhemkombaaaGreat
open Go.RowKit
theorem xorder_any (N : Nat) : OrderC N := by
  induction N with
  | zero => intro t _ _ _ _ _ w h; have := sz_pos t; omega
  | succ N ih => exact order_step N ih
def firstL : List Tr → Nat
  | [] => 0
  | t :: r => if rightN t ≠ 0 then rightN t else firstL r
theorem firstL_two (a b : Tr) : firstL [a, b] = firstN a b := by
  unfold firstN
  simp only [firstL]
  split
  · rfl
  · split
    · rfl
    · rename_i h; simp at h; omega
theorem firstL_skip (ks : List Tr) (m : Nat) (h : m < ks.length) (h0 : firstL ks = firstL (ks.drop m)) (hr : rightN ks[m] = 0) : firstL ks = firstL (ks.drop (m + 1)) := by
  rw [h0, List.drop_eq_getElem_cons h]; simp only [firstL]; rw [if_neg (by simp [hr])]
theorem firstL_hit (ks : List Tr) (m : Nat) (h : m < ks.length) (h0 : firstL ks = firstL (ks.drop m)) (hr : rightN ks[m] ≠ 0) : firstL ks = rightN ks[m] := by
  rw [h0, List.drop_eq_getElem_cons h]; simp only [firstL]; rw [if_pos hr]
set_option maxHeartbeats 1000000 in
theorem firstFault_any (t : Tr) (A : Option Addr) (c : Nat) (w : World) (ht : IsT w w.heap.size t A c) :
    Calls Tryz.prog 111 #[.slice A t.ks.length c] w fun e w' => e = .returned (.int .i64 (firstL t.ks : Nat)) ∧ Below w.heap.size w w' := by
  have HT := Lib.hid ht
  have hl := ht.len
  clear ht
  go_enter Tryz.func111, Tryz.ntmps111
  go_wp2_with fail
  go_loopw [8] (fun i wr => ∃ m : Nat, m ≤ t.ks.length ∧ i = .int .i64 m ∧ firstL t.ks = firstL (t.ks.drop m) ∧ Below w.heap.size w wr) (fun i _ => t.ks.length - (intOf i).toNat)
  case atStart => exact ⟨0, Nat.zero_le _, rfl, by simp, Below.refl _ _⟩
  case round =>
    obtain ⟨m, hm', rfl, hf, hbr⟩ := hrel
    have HF := Lib.hid hf
    clear hf
    by_cases hlt : m < t.ks.length
    · obtain ⟨b, o, A', c', rfl, hlt', p0, p1, p2, hk⟩ := HT.out.kid m hlt
      have S := Lib.hid (firstL_skip t.ks m hlt HF.out)
      have Z := Lib.hid (firstL_hit t.ks m hlt HF.out)
      obtain ⟨q, hq⟩ : ∃ q, q = t.ks[m] := ⟨_, rfl⟩
      rw [← hq] at p0 p1 p2 hk S Z
      clear hq
      have e0 := (hbr.cell hlt').trans p0
      have e1 := (hbr.cell hlt').trans p1
      have e2 := (hbr.cell hlt').trans p2
      have ha : Below wr.heap.size wr (wr.alloc (.cells #[.int .i64 q.k, .int .i64 q.i, .slice A' q.ks.length c'] 24)) := (Below.refl _ _).alloc (Nat.le_refl _) _
      have HK := Lib.hid ((hk.keep hbr hbr.size).keep ha ha.size)
      clear p0 p1 p2 hk
      go_wp2_with fail
      refine (right_any q A' c' _ (by exact HK.out)).mono ?_
      rintro e w1 ⟨rfl, hb1⟩
      have hb2 : Below w.heap.size w w1 := hbr.trans ((ha.trans (hb1.mono ha.size)).mono hbr.size)
      clear hb1
      by_cases hr : rightN q = 0
      · have h1 : ((rightN q : Int) != 0) = false := by simpa using hr
        have S2 := Lib.hid (S.out hr)
        clear hr
        go_wp2_with fail
        go_roundw
        case rel => exact ⟨m + 1, by omega, by go_num, S2.out, hb2⟩
        case measure => simp [intOf]; omega
      · have h1 : ((rightN q : Int) != 0) = true := by simpa using hr
        have S2 := Lib.hid (Z.out hr)
        clear hr
        go_wp2_with fail
        go_ret
        exact ⟨ret_int (by rw [S2.out]), hb2⟩
    · obtain rfl : m = t.ks.length := by omega
      have F := Lib.hid (show firstL t.ks = 0 by rw [HF.out, List.drop_length]; rfl)
      go_wp2_with fail
      go_ret
      exact ⟨ret_int (by rw [F.out]; rfl), hbr⟩
/-- a list of two, laid out for a variadic call -/
theorem isT_pair {w wr : World} {a b : Tr} {A A' : Option Addr} {c c' : Nat} (h : Two w wr a b A A' c c') :
    IsT (wr.alloc (.cells #[.int .i64 a.k, .int .i64 a.i, .slice A a.ks.length c, .int .i64 b.k, .int .i64 b.i, .slice A' b.ks.length c'] 24)) (wr.heap.size + 1) (.node 0 0 [a, b]) (some ⟨wr.heap.size, 0, none⟩) 2 := by
  have hb : Below wr.heap.size wr (wr.alloc (.cells #[.int .i64 a.k, .int .i64 a.i, .slice A a.ks.length c, .int .i64 b.k, .int .i64 b.i, .slice A' b.ks.length c'] 24)) := (Below.refl _ _).alloc (Nat.le_refl _) _
  have e := fun j => cell_new3 wr #[.int .i64 a.k, .int .i64 a.i, .slice A a.ks.length c, .int .i64 b.k, .int .i64 b.i, .slice A' b.ks.length c'] 24 j
  refine IsT.mk (t := .node 0 0 [a, b]) (by simp [Tr.ks]) (by simp [Tr.ks, Cap]) fun m hm => ?_
  have hm' : m = 0 ∨ m = 1 := by simp [Tr.ks] at hm; omega
  rcases hm' with rfl | rfl
  · exact ⟨wr.heap.size, 0, A, c, rfl, by omega, e 0, e 1, e 2, h.ta.keep hb (by omega)⟩
  · exact ⟨wr.heap.size, 0, A', c', rfl, by omega, e 3, e 4, e 5, h.tb.keep hb (by omega)⟩
/-- what Compare answers: a number, an error -/
def compV (a b : Tr) : Int := if firstN a b ≠ 0 then 0 else cmpT a b
theorem ret2_ints {k k' : IntKind} {a b c d : Int} (h : a = b) (h' : c = d) : Ending.returned (.tuple #[.int k a, .int k' c]) = .returned (.tuple #[.int k b, .int k' d]) := by rw [h, h']
set_option maxHeartbeats 1000000 in
theorem compare_any (a b : Tr) (A A' : Option Addr) (c c' : Nat) (w : World) (ha : IsT w w.heap.size a A c) (hb : IsT w w.heap.size b A' c') :
    Calls Tryz.prog 88 #[.agg #[.int .i64 a.k, .int .i64 a.i, .slice A a.ks.length c], .agg #[.int .i64 b.k, .int .i64 b.i, .slice A' b.ks.length c']] w fun e w' => e = .returned (.tuple #[.int .i64 (compV a b), .int .i64 (firstN a b : Nat)]) ∧ Below w.heap.size w w' := by
  have T0 := Lib.hid (two_start ha hb)
  have P0 := Lib.hid (isT_pair T0.out)
  have K0 := Lib.hid (T0.out.keep ((Below.refl _ _).alloc (Nat.le_refl _) (.cells #[.int .i64 a.k, .int .i64 a.i, .slice A a.ks.length c, .int .i64 b.k, .int .i64 b.i, .slice A' b.ks.length c'] 24)))
  clear ha hb
  go_enter Tryz.func88, Tryz.ntmps88
  go_wp2_with fail
  refine (firstFault_any (.node 0 0 [a, b]) _ 2 _ (by simpa using P0.out)).mono ?_
  rintro e w1 ⟨rfl, hb1⟩
  have T1 := K0.out.keep hb1
  have FE := Lib.hid (show firstL (Tr.node 0 0 [a, b]).ks = firstN a b from firstL_two a b)
  rw [FE.out]
  by_cases h : firstN a b = 0
  · have h1 : ((firstN a b : Int) != 0) = false := by simpa using h
    have F := Lib.hid (show compV a b = cmpT a b by unfold compV; rw [if_neg (by simp [h])])
    have H := Lib.hid h
    have c0 := T1.b0
    have c1 := T1.b1
    have c2 := T1.b2
    have c3 := T1.d0
    have c4 := T1.d1
    have c5 := T1.d2
    clear h hb1
    go_wp2_with fail
    refine (xorder_any a.sz a b A A' c c' _ (Nat.le_refl _) (by exact T1.ta) (by exact T1.tb)).mono ?_
    rintro e w2 ⟨rfl, hb2⟩
    go_wp2_with fail
    go_ret2
    exact ⟨ret2_ints (by rw [F.out]) (by rw [H.out]; rfl), (T1.keep hb2).below⟩
  · have h1 : ((firstN a b : Int) != 0) = true := by simpa using h
    have F := Lib.hid (show compV a b = 0 by unfold compV; rw [if_pos h])
    clear h hb1
    go_wp2_with fail
    go_ret2
    exact ⟨ret2_ints (by rw [F.out]) rfl, T1.below⟩
/-- both right, and the same -/
def sameB (a b : Tr) : Bool := decide (firstN a b = 0) && decide (cmpT a b = 0)
set_option maxHeartbeats 1000000 in
theorem same_any (a b : Tr) (A A' : Option Addr) (c c' : Nat) (w : World) (ha : IsT w w.heap.size a A c) (hb : IsT w w.heap.size b A' c') :
    Calls Tryz.prog 49 #[.agg #[.int .i64 a.k, .int .i64 a.i, .slice A a.ks.length c], .agg #[.int .i64 b.k, .int .i64 b.i, .slice A' b.ks.length c']] w fun e w' => e = .returned (.bool (sameB a b)) ∧ Below w.heap.size w w' := by
  have T0 := Lib.hid (two_start ha hb)
  clear ha hb
  go_enter Tryz.func49, Tryz.ntmps49
  go_wp2_with fail
  refine (compare_any a b A A' c c' _ (by exact T0.out.ta) (by exact T0.out.tb)).mono ?_
  rintro e w1 ⟨rfl, hb1⟩
  have R := Lib.hid (T0.out.keep hb1).below
  clear hb1
  by_cases h : firstN a b = 0
  · have h1 : ((firstN a b : Int) == 0) = true := by simpa using h
    have F := Lib.hid (show compV a b = cmpT a b by unfold compV; rw [if_neg (by simp [h])])
    rw [F.out]
    by_cases hc : cmpT a b = 0
    · have hc1 : (cmpT a b == 0) = true := by simpa using hc
      have G := Lib.hid (show sameB a b = true by unfold sameB; rw [decide_eq_true h, decide_eq_true hc]; rfl)
      clear h hc
      go_wp2_with fail
      go_ret
      exact ⟨by rw [G.out]; rfl, R.out⟩
    · have hc1 : (cmpT a b == 0) = false := by simpa using hc
      have G := Lib.hid (show sameB a b = false by unfold sameB; rw [decide_eq_true h, decide_eq_false hc]; rfl)
      clear h hc
      go_wp2_with fail
      go_ret
      exact ⟨by rw [G.out]; rfl, R.out⟩
  · have h1 : ((firstN a b : Int) == 0) = false := by simpa using h
    have G := Lib.hid (show sameB a b = false by unfold sameB; rw [decide_eq_false h]; rfl)
    clear h
    go_wp2_with fail
    go_ret
    exact ⟨by rw [G.out]; rfl, R.out⟩
/-! ### the document's -/
theorem sameB_eq (a b : Tr) : sameB a b = (decide (rightN a = 0) && decide (rightN b = 0) && likeB a b) := by
  unfold sameB firstN likeB
  by_cases h : rightN a = 0
  · rw [if_neg (by simp [h]), decide_eq_true h]; rfl
  · rw [if_pos h, decide_eq_false h]; rfl
end Go.Proofs.YtgnfbhemkombaaaGreat
namespace Go.Proofs.YtgnfbhemkombaaaGreat
open Go.RowKit
set_option linter.unusedVariables false
set_option linter.unusedSimpArgs false
/-- of each its sort -/
def sortsB (ks : List Tr) (cs : List Bool) : Bool := (List.range ks.length).all fun j => termB (ks.getD j default).k == cs.getD j false
def sortedN (ks : List Tr) (cs : List Bool) : Nat := if firstL ks ≠ 0 then firstL ks else if sortsB ks cs = true then 0 else 40
theorem sortsB_true {ks : List Tr} {cs : List Bool} (h : ∀ j, j < ks.length → termB (ks.getD j default).k = cs.getD j false) : sortsB ks cs = true := by
  unfold sortsB
  rw [List.all_eq_true]
  intro j hj
  rw [h j (List.mem_range.1 hj)]
  exact beq_self_eq_true _
theorem sortsB_false {ks : List Tr} {cs : List Bool} {m : Nat} (hm : m < ks.length) (h : termB (ks.getD m default).k ≠ cs.getD m false) : sortsB ks cs = false := by
  cases e : sortsB ks cs with
  | false => rfl
  | true =>
    unfold sortsB at e
    rw [List.all_eq_true] at e
    have := e m (List.mem_range.2 hm)
    simp at this
    exact absurd (by simpa using this) h
theorem firstL_done {ks : List Tr} (h : firstL ks = firstL (ks.drop ks.length)) : firstL ks = 0 := by rw [h]; simp [firstL]
theorem firstL_zero : ∀ {ks : List Tr}, firstL ks = 0 → ∀ q ∈ ks, rightN q = 0
  | [], _, q, hq => by simp at hq
  | t :: r, h, q, hq => by
    simp only [firstL] at h
    by_cases ht : rightN t = 0
    · rw [if_neg (by simp [ht])] at h
      rcases List.mem_cons.1 hq with rfl | hq
      · exact ht
      · exact firstL_zero h q hq
    · rw [if_pos ht] at h
      exact absurd h ht
theorem getD_at (ks : List Tr) (m : Nat) (h : m < ks.length) : ks.getD m default = ks[m] := by simp [List.getD_eq_getElem?_getD, h]
/-- a string that names sorts -/
def Names (s : ByteArray) (cs : List Bool) : Prop := ∀ m (h : m < s.size), ((s[m].toNat : Int) == 116) = cs.getD m false
set_option maxHeartbeats 2000000 in
set_option maxRecDepth 100000 in
theorem rsorted_any (l : Tr) (A : Option Addr) (c : Nat) (s : ByteArray) (cs : List Bool) (w : World) (hl : IsT w w.heap.size l A c) (hs : s.size = l.ks.length) (hn : Names s cs) :
    Calls Tryz.prog 23 #[.slice A l.ks.length c, .string s] w fun e w' => e = .returned (.int .i64 (sortedN l.ks cs : Nat)) ∧ Below w.heap.size w w' := by
  have HT := Lib.hid hl
  have hl1 := hl.len
  have HS := Lib.hid hs
  have HN := Lib.hid hn
  clear hl hs hn
  go_enter Tryz.func23, Tryz.ntmps23
  go_wp2_with fail
  go_loopw [11] (fun i wr => ∃ m : Nat, m ≤ l.ks.length ∧ i = .int .i64 m ∧ firstL l.ks = firstL (l.ks.drop m) ∧ Below w.heap.size w wr) (fun i _ => l.ks.length - (intOf i).toNat)
  case atStart => exact ⟨0, Nat.zero_le _, rfl, by simp, Below.refl _ _⟩
  case round =>
    obtain ⟨m, hm', rfl, hf, hbr⟩ := hrel
    have HF := Lib.hid hf
    clear hf
    by_cases hlt : m < l.ks.length
    · obtain ⟨b, o, A', c', rfl, hlt', p0, p1, p2, hk⟩ := HT.out.kid m hlt
      have S := Lib.hid (firstL_skip l.ks m hlt HF.out)
      have Z := Lib.hid (firstL_hit l.ks m hlt HF.out)
      obtain ⟨q, hq⟩ : ∃ q, q = l.ks[m] := ⟨_, rfl⟩
      rw [← hq] at p0 p1 p2 hk S Z
      clear hq
      have e0 := (hbr.cell hlt').trans p0
      have e1 := (hbr.cell hlt').trans p1
      have e2 := (hbr.cell hlt').trans p2
      have E1 := Lib.hid (env1 (hk.keep hbr hbr.size))
      clear p0 p1 p2 hk
      go_wp2_with fail
      refine (rright_any q A' c' _ (by exact E1.out.tree wr.heap.size q A' c' (by simp))).mono ?_
      rintro e w1 ⟨rfl, hb1⟩
      have E2 := Lib.hid (E1.out.keep hb1)
      clear hb1 e0 e1 e2 E1
      obtain ⟨z0, z1, z2⟩ := E2.out.cells wr.heap.size q A' c' (by simp)
      by_cases hr : rightN q = 0
      · have h1 : ((rightN q : Int) != 0) = false := by simpa using hr
        have S2 := Lib.hid (S.out hr)
        clear hr
        go_wp2_with fail
        go_roundw
        case rel => exact ⟨m + 1, by omega, by go_num, S2.out, hbr.trans (E2.out.below.mono hbr.size)⟩
        case measure => simp [intOf]; omega
      · have h1 : ((rightN q : Int) != 0) = true := by rw [bne_iff_ne]; omega
        have F := Lib.hid (show sortedN l.ks cs = rightN q by unfold sortedN; rw [Z.out hr, if_pos hr])
        clear hr
        go_wp2_with fail
        refine (rright_any q A' c' _ (by exact E2.out.tree wr.heap.size q A' c' (by simp))).mono ?_
        rintro e w2 ⟨rfl, hb2⟩
        have E3 := Lib.hid (E2.out.keep hb2)
        clear hb2
        go_wp2_with fail
        go_ret
        exact ⟨by rw [F.out]; rfl, hbr.trans (E3.out.below.mono hbr.size)⟩
    · obtain rfl : m = l.ks.length := by omega
      have F0 := Lib.hid (firstL_done HF.out)
      have HB := Lib.hid hbr
      go_wp2_with fail
      clear hbr
      go_loopw [23] (fun i wx => ∃ m : Nat, m ≤ l.ks.length ∧ i = .int .i64 m ∧ (∀ j, j < m → termB (l.ks.getD j default).k = cs.getD j false) ∧ Below w.heap.size w wx) (fun i _ => l.ks.length - (intOf i).toNat)
      case atStart => exact ⟨0, Nat.zero_le _, rfl, by intro j hj; omega, HB.out⟩
      case round =>
        obtain ⟨m, hm', rfl, hall, hbr⟩ := hrel
        have AL := Lib.hid hall
        clear hall
        by_cases hlt : m < l.ks.length
        · obtain ⟨b, o, A', c', rfl, hlt', p0, p1, p2, hk⟩ := HT.out.kid m hlt
          have GA := Lib.hid (getD_at l.ks m hlt)
          have SF := Lib.hid (fun h => sortsB_false (cs := cs) hlt h)
          have hsz : m < s.size := by rw [HS.out]; exact hlt
          have NM := Lib.hid (HN.out m hsz)
          obtain ⟨q, hq⟩ : ∃ q, q = l.ks[m] := ⟨_, rfl⟩
          rw [← hq] at p0 p1 p2 hk GA
          rw [GA.out] at SF
          clear hq
          have e0 := (hbr.cell hlt').trans p0
          have e1 := (hbr.cell hlt').trans p1
          have e2 := (hbr.cell hlt').trans p2
          have E1 := Lib.hid (env1 (hk.keep hbr hbr.size))
          clear p0 p1 p2 hk
          obtain ⟨x, hx⟩ : ∃ x, ((s[m].toNat : Int) == 116) = x := ⟨_, rfl⟩
          obtain ⟨y, hy0⟩ : ∃ y, termB q.k = y := ⟨_, rfl⟩
          rw [hx] at NM
          cases x <;> cases y
          · go_wp2_with fail
            clear e0 e1 e2
            have E2 := Lib.hid (E1.out.keep ((Below.refl _ _).drew))
            have BB : Below _ _ _ := Below.refl ((wr.alloc (.cells #[.int .i64 q.k, .int .i64 q.i, .slice A' q.ks.length c'] 24)).drew.heap.size) ((wr.alloc (.cells #[.int .i64 q.k, .int .i64 q.i, .slice A' q.ks.length c'] 24)).drew)
            have hm0 : (0 : Int) ≤ (m : Int) := by omega
            have hm1 : (m : Int) < (s.size : Int) := by omega
            go_region_held3 (fun w' => w'.cell? ⟨wr.heap.size, 0, none⟩ = some (.int .i64 q.k) ∧ w'.cell? ⟨wr.heap.size, 1, none⟩ = some (.int .i64 q.i) ∧ w'.cell? ⟨wr.heap.size, 2, none⟩ = some (.slice A' q.ks.length c'))
              (exact (E2.out.keep BB).cells wr.heap.size q A' c' (by simp))
              (first
                | (go_at_call 50; refine (term_any q.k q.i A' q.ks.length c' _).mono ?_; rintro e w6 ⟨rfl, hb6⟩; replace BB := BB.trans (hb6.mono BB.size); clear hb6))
            all_goals
              have E3 := Lib.hid (E2.out.keep BB)
              have AL2 := Lib.hid (show termB q.k = cs.getD m false → ∀ j, j < m + 1 → termB (l.ks.getD j default).k = cs.getD j false from fun ht j hj => by
                rcases Nat.lt_or_ge j m with h | h
                · exact AL.out j h
                · obtain rfl : j = m := by omega
                  rw [GA.out]; exact ht)
              have F := Lib.hid (show termB q.k ≠ cs.getD m false → sortedN l.ks cs = 40 from fun ht => by unfold sortedN; rw [if_neg (by rw [F0.out]; simp), SF.out ht]; simp)
              rw [hy0, ← NM.out] at F AL2
              go_wp2_with fail
              go_roundw
              case rel => exact ⟨m + 1, by omega, by go_num, AL2.out rfl, hbr.trans (E3.out.below.mono hbr.size)⟩
              case measure => simp [intOf]; omega
          · go_wp2_with fail
            clear e0 e1 e2
            have E2 := Lib.hid (E1.out.keep ((Below.refl _ _).drew))
            have BB : Below _ _ _ := Below.refl ((wr.alloc (.cells #[.int .i64 q.k, .int .i64 q.i, .slice A' q.ks.length c'] 24)).drew.heap.size) ((wr.alloc (.cells #[.int .i64 q.k, .int .i64 q.i, .slice A' q.ks.length c'] 24)).drew)
            have hm0 : (0 : Int) ≤ (m : Int) := by omega
            have hm1 : (m : Int) < (s.size : Int) := by omega
            go_region_held3 (fun w' => w'.cell? ⟨wr.heap.size, 0, none⟩ = some (.int .i64 q.k) ∧ w'.cell? ⟨wr.heap.size, 1, none⟩ = some (.int .i64 q.i) ∧ w'.cell? ⟨wr.heap.size, 2, none⟩ = some (.slice A' q.ks.length c'))
              (exact (E2.out.keep BB).cells wr.heap.size q A' c' (by simp))
              (first
                | (go_at_call 50; refine (term_any q.k q.i A' q.ks.length c' _).mono ?_; rintro e w6 ⟨rfl, hb6⟩; replace BB := BB.trans (hb6.mono BB.size); clear hb6))
            all_goals
              have E3 := Lib.hid (E2.out.keep BB)
              have AL2 := Lib.hid (show termB q.k = cs.getD m false → ∀ j, j < m + 1 → termB (l.ks.getD j default).k = cs.getD j false from fun ht j hj => by
                rcases Nat.lt_or_ge j m with h | h
                · exact AL.out j h
                · obtain rfl : j = m := by omega
                  rw [GA.out]; exact ht)
              have F := Lib.hid (show termB q.k ≠ cs.getD m false → sortedN l.ks cs = 40 from fun ht => by unfold sortedN; rw [if_neg (by rw [F0.out]; simp), SF.out ht]; simp)
              rw [hy0, ← NM.out] at F AL2
              go_wp2_with fail
              go_ret
              exact ⟨by rw [F.out (by simp)]; rfl, hbr.trans (E3.out.below.mono hbr.size)⟩
          · go_wp2_with fail
            clear e0 e1 e2
            have E2 := Lib.hid (E1.out.keep ((Below.refl _ _).drew))
            have BB : Below _ _ _ := Below.refl ((wr.alloc (.cells #[.int .i64 q.k, .int .i64 q.i, .slice A' q.ks.length c'] 24)).drew.heap.size) ((wr.alloc (.cells #[.int .i64 q.k, .int .i64 q.i, .slice A' q.ks.length c'] 24)).drew)
            have hm0 : (0 : Int) ≤ (m : Int) := by omega
            have hm1 : (m : Int) < (s.size : Int) := by omega
            go_region_held3 (fun w' => w'.cell? ⟨wr.heap.size, 0, none⟩ = some (.int .i64 q.k) ∧ w'.cell? ⟨wr.heap.size, 1, none⟩ = some (.int .i64 q.i) ∧ w'.cell? ⟨wr.heap.size, 2, none⟩ = some (.slice A' q.ks.length c'))
              (exact (E2.out.keep BB).cells wr.heap.size q A' c' (by simp))
              (first
                | (go_at_call 50; refine (term_any q.k q.i A' q.ks.length c' _).mono ?_; rintro e w6 ⟨rfl, hb6⟩; replace BB := BB.trans (hb6.mono BB.size); clear hb6))
            all_goals
              have E3 := Lib.hid (E2.out.keep BB)
              have AL2 := Lib.hid (show termB q.k = cs.getD m false → ∀ j, j < m + 1 → termB (l.ks.getD j default).k = cs.getD j false from fun ht j hj => by
                rcases Nat.lt_or_ge j m with h | h
                · exact AL.out j h
                · obtain rfl : j = m := by omega
                  rw [GA.out]; exact ht)
              have F := Lib.hid (show termB q.k ≠ cs.getD m false → sortedN l.ks cs = 40 from fun ht => by unfold sortedN; rw [if_neg (by rw [F0.out]; simp), SF.out ht]; simp)
              rw [hy0, ← NM.out] at F AL2
              go_wp2_with fail
              go_ret
              exact ⟨by rw [F.out (by simp)]; rfl, hbr.trans (E3.out.below.mono hbr.size)⟩
          · go_wp2_with fail
            clear e0 e1 e2
            have E2 := Lib.hid (E1.out.keep ((Below.refl _ _).drew))
            have BB : Below _ _ _ := Below.refl ((wr.alloc (.cells #[.int .i64 q.k, .int .i64 q.i, .slice A' q.ks.length c'] 24)).drew.heap.size) ((wr.alloc (.cells #[.int .i64 q.k, .int .i64 q.i, .slice A' q.ks.length c'] 24)).drew)
            have hm0 : (0 : Int) ≤ (m : Int) := by omega
            have hm1 : (m : Int) < (s.size : Int) := by omega
            go_region_held3 (fun w' => w'.cell? ⟨wr.heap.size, 0, none⟩ = some (.int .i64 q.k) ∧ w'.cell? ⟨wr.heap.size, 1, none⟩ = some (.int .i64 q.i) ∧ w'.cell? ⟨wr.heap.size, 2, none⟩ = some (.slice A' q.ks.length c'))
              (exact (E2.out.keep BB).cells wr.heap.size q A' c' (by simp))
              (first
                | (go_at_call 50; refine (term_any q.k q.i A' q.ks.length c' _).mono ?_; rintro e w6 ⟨rfl, hb6⟩; replace BB := BB.trans (hb6.mono BB.size); clear hb6))
            all_goals
              have E3 := Lib.hid (E2.out.keep BB)
              have AL2 := Lib.hid (show termB q.k = cs.getD m false → ∀ j, j < m + 1 → termB (l.ks.getD j default).k = cs.getD j false from fun ht j hj => by
                rcases Nat.lt_or_ge j m with h | h
                · exact AL.out j h
                · obtain rfl : j = m := by omega
                  rw [GA.out]; exact ht)
              have F := Lib.hid (show termB q.k ≠ cs.getD m false → sortedN l.ks cs = 40 from fun ht => by unfold sortedN; rw [if_neg (by rw [F0.out]; simp), SF.out ht]; simp)
              rw [hy0, ← NM.out] at F AL2
              go_wp2_with fail
              go_roundw
              case rel => exact ⟨m + 1, by omega, by go_num, AL2.out rfl, hbr.trans (E3.out.below.mono hbr.size)⟩
              case measure => simp [intOf]; omega
        · obtain rfl : m = l.ks.length := by omega
          have F := Lib.hid (show sortedN l.ks cs = 0 by unfold sortedN; rw [if_neg (by rw [F0.out]; simp), if_pos (sortsB_true AL.out)])
          go_wp2_with fail
          go_ret
          exact ⟨by rw [F.out]; rfl, hbr⟩
end Go.Proofs.YtgnfbhemkombaaaGreat
namespace Go.Proofs.YtgnfbhemkombaaaGreat
open Go.RowKit Go.Shelf
set_option linter.unusedVariables false
set_option linter.unusedSimpArgs false
/-- is it right, and a formula? as the code asks -/
def isFB (t : Tr) : Bool := decide (sortN t.k = 2) && decide (rightN t = 0)
set_option maxHeartbeats 1000000 in
theorem isForm_any (t : Tr) (A : Option Addr) (c : Nat) (w : World) (ht : IsT w w.heap.size t A c) :
    Calls Tryz.prog 33 #[.agg #[.int .i64 t.k, .int .i64 t.i, .slice A t.ks.length c]] w fun e w' => e = .returned (.bool (isFB t)) ∧ Below w.heap.size w w' := by
  have T0 := Lib.hid (One.new ht)
  obtain ⟨y0, y1, y2⟩ := And.intro T0.out.b0 (And.intro T0.out.b1 T0.out.b2)
  clear ht
  go_enter Tryz.func33, Tryz.ntmps33
  go_wp2_with fail
  refine (sortOf_any t.k t.i A t.ks.length c _).mono ?_
  rintro e w1 ⟨rfl, hb1⟩
  have T1 := Lib.hid (T0.out.keep hb1)
  obtain ⟨z0, z1, z2⟩ := And.intro T1.out.b0 (And.intro T1.out.b1 T1.out.b2)
  clear hb1 y0 y1 y2
  by_cases hs : sortN t.k = 2
  · have h1 : (sortN t.k == 2) = true := by simp [hs]
    have F := Lib.hid (show isFB t = decide (rightN t = 0) by unfold isFB; rw [decide_eq_true hs]; rfl)
    clear hs
    go_wp2_with fail
    refine (right_any t A c _ (by exact T1.out.tree)).mono ?_
    rintro e w2 ⟨rfl, hb2⟩
    have T2 := Lib.hid (T1.out.keep hb2)
    clear hb2
    by_cases hr : rightN t = 0
    · have h0 : ((rightN t : Int) == 0) = true := by simp [hr]
      have F2 := Lib.hid (show isFB t = true by rw [F.out, decide_eq_true hr])
      clear hr
      go_wp2_with fail
      go_ret
      exact ⟨by rw [F2.out]; rfl, T2.out.below⟩
    · have h0 : ((rightN t : Int) == 0) = false := by rw [beq_eq_false_iff_ne]; omega
      have F2 := Lib.hid (show isFB t = false by rw [F.out, decide_eq_false hr])
      clear hr
      go_wp2_with fail
      go_ret
      exact ⟨by rw [F2.out]; rfl, T2.out.below⟩
  · have h1 : (sortN t.k == 2) = false := by simpa using hs
    have F := Lib.hid (show isFB t = false by unfold isFB; rw [decide_eq_false hs]; rfl)
    clear hs
    go_wp2_with fail
    go_ret
    exact ⟨by rw [F.out]; rfl, T1.out.below⟩

theorem right_parts {t : Tr} (h : rightN t = 0) : t.sz ≤ 1000 ∧ t.dp ≤ 100 ∧ t.shp = true := by
  unfold rightN at h
  split at h
  · cases h
  · split at h
    · cases h
    · split at h
      · exact ⟨by omega, by omega, by assumption⟩
      · cases h
theorem right_sz {t : Tr} (h : rightN t = 0) : t.sz ≤ 1000 := (right_parts h).1
theorem right_dp {t : Tr} (h : rightN t = 0) : t.dp ≤ 100 := (right_parts h).2.1
theorem isFB_form {t : Tr} (hr : rightN t = 0) : isFB t = !termB t.k := by
  have hk := kind_of_shp t (right_parts hr).2.2
  unfold isFB
  rw [decide_eq_true hr, Bool.and_true]
  cases h : termB t.k with
  | true => exact decide_eq_false (fun e => by rw [((sort_formula t.k).1 e).1] at h; cases h)
  | false => exact decide_eq_true ((sort_formula t.k).2 ⟨h, hk.1, hk.2.1⟩)
end Go.Proofs.YtgnfbhemkombaaaGreat
namespace Go.Proofs.YtgnfbhemkombaaaGreat
set_option linter.unusedVariables false
set_option linter.unusedSimpArgs false
instance decTr : DecidableEq Tr := fun a b => decidable_of_iff (cmpT a b = 0) (cmpT_zero a b)
theorem right_kid {t q : Tr} (h : rightN t = 0) (hq : q ∈ t.ks) : rightN q = 0 := by
  obtain ⟨h1, h2, h3⟩ := right_shp' h
  have c := shp_kid h1 hq
  obtain ⟨m, hm, rfl⟩ := List.mem_iff_getElem.1 hq
  have a := kid_sz t m hm
  have b := kid_dp t m hm
  unfold rightN
  rw [if_neg (by omega), if_neg (by omega), if_pos c]
/-- the number of a tree in a list; 0: it is not in it -/
def num (L : List Tr) (t : Tr) : Nat := if t ∈ L then L.idxOf t + 1 else 0
theorem num_mem {L : List Tr} {t : Tr} : num L t ≠ 0 ↔ t ∈ L := by unfold num; split <;> simp_all
theorem num_zero {L : List Tr} {t : Tr} : num L t = 0 ↔ t ∉ L := by unfold num; split <;> simp_all
theorem num_le (L : List Tr) (t : Tr) : num L t ≤ L.length := by
  unfold num; split
  · rename_i h; exact List.idxOf_lt_length_of_mem h
  · omega
theorem num_at {L : List Tr} {t : Tr} (h : t ∈ L) : L[num L t - 1]? = some t := by
  unfold num
  rw [if_pos h]
  have := List.idxOf_lt_length_of_mem h
  simp [List.getElem?_eq_getElem this]
theorem num_inj {L : List Tr} {a b : Tr} (ha : a ∈ L) (h : num L a = num L b) : a = b := by
  have hb : b ∈ L := num_mem.1 (h ▸ num_mem.2 ha)
  have h1 := num_at ha
  have h2 := num_at hb
  rw [h, h2] at h1
  simpa using h1.symm
theorem num_append {L : List Tr} {t : Tr} (h : t ∈ L) (r : List Tr) : num (L ++ r) t = num L t := by
  unfold num
  rw [if_pos h, if_pos (List.mem_append_left r h), List.idxOf_append, if_pos h]
theorem num_new {L : List Tr} {t : Tr} (h : t ∉ L) : num (L ++ [t]) t = L.length + 1 := by
  unfold num
  rw [if_pos (by simp), List.idxOf_append, if_neg h]
  simp
theorem num_get {L : List Tr} (hn : L.Nodup) (i : Nat) (h : i < L.length) : num L L[i] = i + 1 := by
  unfold num
  rw [if_pos (List.getElem_mem h)]
  have h1 : L.idxOf L[i] < L.length := List.idxOf_lt_length_of_mem (List.getElem_mem h)
  have h2 : L[L.idxOf L[i]] = L[i] := by simp
  have h3 : L.idxOf L[i] = i := by
    rcases Nat.lt_trichotomy (L.idxOf L[i]) i with h4 | h4 | h4
    · exact absurd h2 ((List.pairwise_iff_getElem.1 hn) _ _ h1 h h4)
    · exact h4
    · exact absurd h2.symm ((List.pairwise_iff_getElem.1 hn) _ _ h h1 h4)
  omega
/-- numbers, and noughts behind -/
def pad4 (l : List Nat) : List Int := l.map (fun n : Nat => (n : Int)) ++ List.replicate (4 - l.length) 0
theorem pad4_len {l : List Nat} (h : l.length ≤ 4) : (pad4 l).length = 4 := by simp [pad4]; omega
theorem pad4_inj : ∀ {a b : List Nat}, a.length ≤ 4 → b.length ≤ 4 → (∀ x ∈ a, x ≠ 0) → (∀ x ∈ b, x ≠ 0) → pad4 a = pad4 b → a = b := by
  have key : ∀ (a b : List Nat) (n m : Nat), a.length + n = b.length + m → (∀ x ∈ a, x ≠ 0) → (∀ x ∈ b, x ≠ 0) → a.map (fun n : Nat => (n : Int)) ++ List.replicate n (0 : Int) = b.map (fun n : Nat => (n : Int)) ++ List.replicate m (0 : Int) → a = b := by
    intro a
    induction a with
    | nil =>
      intro b n m hl ha hb e
      cases b with
      | nil => rfl
      | cons y b =>
        exfalso
        cases n with
        | zero => first | (simp at hl; done) | (simp at hl; omega)
        | succ n =>
          simp [List.replicate_succ] at e
          exact hb y (by simp) (by omega)
    | cons x a ih =>
      intro b n m hl ha hb e
      cases b with
      | nil =>
        exfalso
        cases m with
        | zero => first | (simp at hl; done) | (simp at hl; omega)
        | succ m =>
          simp [List.replicate_succ] at e
          exact ha x (by simp) (by omega)
      | cons y b =>
        simp at e
        have := ih b n m (by simp at hl; omega) (fun z hz => ha z (by simp [hz])) (fun z hz => hb z (by simp [hz])) e.2
        rw [this]
        congr 1
        omega
  intro a b h1 h2 ha hb e
  exact key a b _ _ (by omega) ha hb e
/-- a tree's node, its parts by their numbers -/
def nodeT (L : List Tr) (t : Tr) : List Int := t.k :: t.i :: pad4 (t.ks.map (num L))
theorem nodeT_inj {L : List Tr} {a b : Tr} (ha : ∀ q ∈ a.ks, q ∈ L) (hb : ∀ q ∈ b.ks, q ∈ L) (h4 : a.ks.length ≤ 4) (h5 : b.ks.length ≤ 4) (h : nodeT L a = nodeT L b) : a = b := by
  unfold nodeT at h
  simp only [List.cons.injEq] at h
  obtain ⟨h1, h2, h3⟩ := h
  have e := pad4_inj (by simpa using h4) (by simpa using h5) (by simp only [List.mem_map]; rintro x ⟨q, hq, rfl⟩; exact num_mem.2 (ha q hq)) (by simp only [List.mem_map]; rintro x ⟨q, hq, rfl⟩; exact num_mem.2 (hb q hq)) h3
  have hk : ∀ (l r : List Tr), (∀ q ∈ l, q ∈ L) → l.map (num L) = r.map (num L) → l = r := by
    intro l
    induction l with
    | nil => intro r _ e; cases r with
      | nil => rfl
      | cons _ _ => simp at e
    | cons x l ih =>
      intro r hl e
      cases r with
      | nil => simp at e
      | cons y r =>
        simp at e
        rw [num_inj (hl x (by simp)) e.1, ih r (fun q hq => hl q (by simp [hq])) e.2]
  have h6 := hk a.ks b.ks ha e
  rw [Tr.eta a, Tr.eta b, h1, h2, h6]
theorem nodeT_append {L : List Tr} {t : Tr} (h : ∀ q ∈ t.ks, q ∈ L) (r : List Tr) : nodeT (L ++ r) t = nodeT L t := by
  unfold nodeT
  congr 3
  exact List.map_congr_left fun q hq => num_append (h q hq) r
/-- what holds of every table: each once, its parts ahead, all valid -/
structure Ok (L : List Tr) : Prop where
  nodup : L.Nodup
  kids : ∀ i (h : i < L.length), ∀ q ∈ L[i].ks, q ∈ L.take i
  right : ∀ t ∈ L, rightN t = 0
theorem Ok.nil : Ok [] := ⟨List.nodup_nil, fun i h => by simp at h, fun t h => by simp at h⟩
theorem Ok.kid {L : List Tr} (h : Ok L) {t q : Tr} (ht : t ∈ L) (hq : q ∈ t.ks) : q ∈ L := by
  obtain ⟨i, hi, rfl⟩ := List.mem_iff_getElem.1 ht
  exact List.mem_of_mem_take (h.kids i hi q hq)
theorem Ok.four {L : List Tr} (h : Ok L) {t : Tr} (ht : t ∈ L) : t.ks.length ≤ 4 := (kind_of_shp t (right_shp' (h.right t ht)).1).2.2.2.2
theorem Ok.add {L : List Tr} (h : Ok L) {t : Tr} (hn : t ∉ L) (hr : rightN t = 0) (hk : ∀ q ∈ t.ks, q ∈ L) : Ok (L ++ [t]) := by
  refine ⟨?_, fun i hi q hq => ?_, fun u hu => ?_⟩
  · rw [List.nodup_append]
    exact ⟨h.nodup, by simp, fun a ha b hb e => by simp at hb; subst hb; subst e; exact hn ha⟩
  · rcases Nat.lt_or_ge i L.length with h1 | h1
    · rw [List.getElem_append_left h1] at hq
      have := h.kids i h1 q hq
      rw [List.take_append_of_le_length (by omega)]
      exact this
    · obtain rfl : i = L.length := by simp at hi; omega
      simp at hq
      simp
      exact hk q hq
  · rcases List.mem_append.1 hu with h1 | h1
    · exact h.right u h1
    · simp at h1; rw [h1]; exact hr
theorem Ok.take {L : List Tr} (h : Ok L) (n : Nat) : Ok (L.take n) := by
  refine ⟨(List.take_sublist n L).nodup h.nodup, fun i hi q hq => ?_, fun t ht => h.right t (List.mem_of_mem_take ht)⟩
  simp at hi
  rw [List.getElem_take] at hq
  have := h.kids i (by omega) q hq
  rw [List.take_take, show min i n = i by omega]
  exact this
mutual
/-- what Put makes of a list, and the number (0: there is no room) -/
def addT (room : Nat) : Tr → List Tr → List Tr × Nat
  | .node k i ks, L =>
    if (addK room ks L).2 = false then ((addK room ks L).1, 0)
    else if num (addK room ks L).1 (.node k i ks) ≠ 0 then ((addK room ks L).1, num (addK room ks L).1 (.node k i ks))
    else if (addK room ks L).1.length = room then ((addK room ks L).1, 0)
    else ((addK room ks L).1 ++ [.node k i ks], (addK room ks L).1.length + 1)
def addK (room : Nat) : List Tr → List Tr → List Tr × Bool
  | [], L => (L, true)
  | q :: r, L => if (addT room q L).2 = 0 then ((addT room q L).1, false) else addK room r (addT room q L).1
end
theorem addT_eq (room : Nat) (t : Tr) (L : List Tr) : addT room t L = if (addK room t.ks L).2 = false then ((addK room t.ks L).1, 0)
    else if num (addK room t.ks L).1 t ≠ 0 then ((addK room t.ks L).1, num (addK room t.ks L).1 t)
    else if (addK room t.ks L).1.length = room then ((addK room t.ks L).1, 0)
    else ((addK room t.ks L).1 ++ [t], (addK room t.ks L).1.length + 1) := by
  obtain ⟨k, i, ks⟩ := t
  rw [addT]
  rfl
/-- what is so of a list behind a Put -/
structure Added (room : Nat) (L L' : List Tr) (n z : Nat) : Prop where
  ok : Ok L'
  pre : L <+: L'
  le : L'.length ≤ room
  more : L'.length + (if n = 0 then 1 else 0) ≤ L.length + z
  full : n = 0 → L'.length = room
theorem added : ∀ (t : Tr) (room : Nat) (L : List Tr), Ok L → L.length ≤ room → rightN t = 0 → Added room L (addT room t L).1 (addT room t L).2 t.sz ∧ ((addT room t L).2 ≠ 0 → t ∈ (addT room t L).1 ∧ (addT room t L).2 = num (addT room t L).1 t) := by
  intro t
  induction t using Tr.ind with
  | h t ih =>
    intro room L hL hle hr
    have hkids : ∀ (ks : List Tr) (L : List Tr), (∀ q ∈ ks, q ∈ t.ks) → Ok L → L.length ≤ room → Added room L (addK room ks L).1 (if (addK room ks L).2 = true then 1 else 0) (szL ks) ∧ ((addK room ks L).2 = true → ∀ q ∈ ks, q ∈ (addK room ks L).1) := by
      intro ks
      induction ks with
      | nil => intro L _ h1 h2; simp only [addK]; exact ⟨⟨h1, List.prefix_refl _, h2, by simp [szL], by simp⟩, by simp⟩
      | cons q r ihr =>
        intro L hs h1 h2
        obtain ⟨hq, hq2⟩ := ih q (hs q (by simp)) room L h1 h2 (right_kid hr (hs q (by simp)))
        rw [addK]
        by_cases h0 : (addT room q L).2 = 0
        · rw [if_pos h0]
          refine ⟨⟨hq.ok, hq.pre, hq.le, ?_, fun _ => hq.full h0⟩, by simp⟩
          have := hq.more
          rw [if_pos h0] at this
          simp [szL]
          omega
        · rw [if_neg h0]
          obtain ⟨hr1, hr2⟩ := ihr (addT room q L).1 (fun x hx => hs x (by simp [hx])) hq.ok hq.le
          refine ⟨⟨hr1.ok, hq.pre.trans hr1.pre, hr1.le, ?_, hr1.full⟩, fun ht x hx => ?_⟩
          · have a1 := hq.more
            have a2 := hr1.more
            rw [if_neg h0] at a1
            simp only [szL]
            omega
          · rcases List.mem_cons.1 hx with rfl | hx
            · exact hr1.pre.subset (hq2 h0).1
            · exact hr2 ht x hx
    obtain ⟨hk, hk2⟩ := hkids t.ks L (fun _ h => h) hL hle
    rw [addT_eq]
    have hsz := sz_eq t
    by_cases h0 : (addK room t.ks L).2 = false
    · rw [if_pos h0]
      have a1 := hk.more
      have a2 := hk.full
      simp [h0] at a1 a2
      exact ⟨⟨hk.ok, hk.pre, hk.le, by simp; omega, fun _ => a2⟩, by simp⟩
    · rw [if_neg h0]
      have h0' : (addK room t.ks L).2 = true := by simpa using h0
      have a1 := hk.more
      rw [if_pos h0'] at a1
      simp at a1
      by_cases h1 : num (addK room t.ks L).1 t ≠ 0
      · rw [if_pos h1]
        exact ⟨⟨hk.ok, hk.pre, hk.le, by simp [h1]; omega, fun e => absurd e h1⟩, fun _ => ⟨num_mem.1 h1, rfl⟩⟩
      · rw [if_neg h1]
        have hnot := num_zero.1 (by simpa using h1)
        by_cases h2 : (addK room t.ks L).1.length = room
        · rw [if_pos h2]
          exact ⟨⟨hk.ok, hk.pre, hk.le, by simp; omega, fun _ => h2⟩, by simp⟩
        · rw [if_neg h2]
          have hl := hk.le
          exact ⟨⟨hk.ok.add hnot hr (hk2 h0'), hk.pre.trans (List.prefix_append _ _), by simp; omega, by simp; omega, by simp⟩, fun _ => ⟨by simp, (num_new hnot).symm⟩⟩
theorem addK_mem (room : Nat) : ∀ (ks : List Tr) (L : List Tr), Ok L → L.length ≤ room → (∀ q ∈ ks, rightN q = 0) → (addK room ks L).2 = true → ∀ q ∈ ks, q ∈ (addK room ks L).1 := by
  have pre : ∀ (ks : List Tr) (L : List Tr), Ok L → L.length ≤ room → (∀ q ∈ ks, rightN q = 0) → L <+: (addK room ks L).1 := by
    intro ks
    induction ks with
    | nil => intro L _ _ _; rw [addK]; exact List.prefix_refl _
    | cons q r ih =>
      intro L h1 h2 h3
      obtain ⟨hq, _⟩ := added q room L h1 h2 (h3 q (by simp))
      rw [addK]
      split
      · exact hq.pre
      · exact hq.pre.trans (ih _ hq.ok hq.le (fun x hx => h3 x (by simp [hx])))
  intro ks
  induction ks with
  | nil => intro L _ _ _ _ q hq; simp at hq
  | cons q r ih =>
    intro L h1 h2 h3 ht x hx
    obtain ⟨hq, hq2⟩ := added q room L h1 h2 (h3 q (by simp))
    rw [addK] at ht ⊢
    by_cases h0 : (addT room q L).2 = 0
    · rw [if_pos h0] at ht; cases ht
    · rw [if_neg h0] at ht ⊢
      rcases List.mem_cons.1 hx with rfl | hx
      · exact (pre r _ hq.ok hq.le (fun x hx => h3 x (by simp [hx]))).subset (hq2 h0).1
      · exact ih _ hq.ok hq.le (fun x hx => h3 x (by simp [hx])) ht x hx
/-- f says which number each node has -/
structure MapOf (L : List Tr) (f : List Int → Nat) : Prop where
  at_ : ∀ i (h : i < L.length), f (nodeT L L[i]) = i + 1
  only : ∀ cs, f cs ≠ 0 → ∃ i, ∃ h : i < L.length, cs = nodeT L L[i]
theorem MapOf.nil : MapOf [] (fun _ => 0) := ⟨fun i h => by simp at h, fun cs h => absurd rfl h⟩
theorem MapOf.num {L : List Tr} {f : List Int → Nat} (h : MapOf L f) (ho : Ok L) {t : Tr} (hk : ∀ q ∈ t.ks, q ∈ L) (h4 : t.ks.length ≤ 4) : f (nodeT L t) = num L t := by
  by_cases hm : t ∈ L
  · obtain ⟨i, hi, rfl⟩ := List.mem_iff_getElem.1 hm
    rw [h.at_ i hi, num_get ho.nodup]
  · rw [num_zero.2 hm]
    rcases Nat.eq_zero_or_pos (f (nodeT L t)) with h0 | h0
    · exact h0
    · obtain ⟨i, hi, e⟩ := h.only _ (Nat.ne_of_gt h0)
      have := nodeT_inj hk (fun q hq => ho.kid (List.getElem_mem hi) hq) h4 (ho.four (List.getElem_mem hi)) e
      exact absurd (this ▸ List.getElem_mem hi) hm
theorem MapOf.add {L : List Tr} {f : List Int → Nat} (h : MapOf L f) (ho : Ok L) {t : Tr} (hn : t ∉ L) (hk : ∀ q ∈ t.ks, q ∈ L) (h4 : t.ks.length ≤ 4) : MapOf (L ++ [t]) (fun c => if c = nodeT L t then L.length + 1 else f c) := by
  refine ⟨fun i hi => ?_, fun cs hc => ?_⟩
  · rcases Nat.lt_or_ge i L.length with h1 | h1
    · rw [List.getElem_append_left h1, nodeT_append (fun q hq => ho.kid (List.getElem_mem h1) hq)]
      have hne : nodeT L L[i] ≠ nodeT L t := fun e => hn (nodeT_inj (fun q hq => ho.kid (List.getElem_mem h1) hq) hk (ho.four (List.getElem_mem h1)) h4 e ▸ List.getElem_mem h1)
      simp only [if_neg hne]
      exact h.at_ i h1
    · obtain rfl : i = L.length := by simp at hi; omega
      simp only [List.getElem_concat_length]
      rw [nodeT_append hk, if_pos rfl]
  · by_cases e : cs = nodeT L t
    · refine ⟨L.length, by simp, ?_⟩
      simp only [List.getElem_concat_length]
      rw [nodeT_append hk, e]
    · simp only [if_neg e] at hc
      obtain ⟨i, hi, e2⟩ := h.only cs hc
      refine ⟨i, by simp; omega, ?_⟩
      rw [List.getElem_append_left hi, nodeT_append (fun q hq => ho.kid (List.getElem_mem hi) hq), e2]
/-- the walk over the parts: what the list is behind, their numbers, whether all have one -/
def nodK (nf : Tr → List Tr → Nat) (nx : Tr → List Tr → List Tr) : List Tr → List Tr → List Tr × List Nat × Bool
  | [], L => (L, [], true)
  | q :: r, L => if nf q L = 0 then (nx q L, [], false) else ((nodK nf nx r (nx q L)).1, nf q L :: (nodK nf nx r (nx q L)).2.1, (nodK nf nx r (nx q L)).2.2)
def addN (room : Nat) (t : Tr) (L : List Tr) : Nat := (addT room t L).2
def addX (room : Nat) (t : Tr) (L : List Tr) : List Tr := (addT room t L).1
theorem nodK_add (room : Nat) : ∀ (ks : List Tr) (L : List Tr), Ok L → L.length ≤ room → (∀ q ∈ ks, rightN q = 0) →
    (nodK (addN room) (addX room) ks L).1 = (addK room ks L).1 ∧ (nodK (addN room) (addX room) ks L).2.2 = (addK room ks L).2 ∧ ((addK room ks L).2 = true → (nodK (addN room) (addX room) ks L).2.1 = ks.map (num (addK room ks L).1)) ∧ Ok (addK room ks L).1 ∧ (addK room ks L).1.length ≤ room ∧ L <+: (addK room ks L).1 := by
  intro ks
  induction ks with
  | nil => intro L h1 h2 _; simp only [nodK, addK]; exact ⟨trivial, trivial, fun _ => rfl, h1, h2, List.prefix_refl _⟩
  | cons q r ih =>
    intro L h1 h2 h3
    obtain ⟨hq, hq2⟩ := added q room L h1 h2 (h3 q (by simp))
    obtain ⟨i1, i2, i3, i4, i5, i6⟩ := ih (addT room q L).1 hq.ok hq.le (fun x hx => h3 x (by simp [hx]))
    rw [nodK, addK]
    by_cases h0 : (addT room q L).2 = 0
    · have h0' : addN room q L = 0 := h0
      rw [if_pos h0', if_pos h0]
      exact ⟨rfl, rfl, by simp, hq.ok, hq.le, hq.pre⟩
    · have h0' : ¬ addN room q L = 0 := h0
      rw [if_neg h0', if_neg h0]
      refine ⟨i1, i2, fun ht => ?_, i4, i5, hq.pre.trans i6⟩
      obtain ⟨r', hr'⟩ := i6
      have e := i3 ht
      simp only [List.map_cons]
      show (addT room q L).2 :: (nodK (addN room) (addX room) r (addT room q L).1).2.1 = _
      rw [e, (hq2 h0).2]
      congr 1
      rw [← hr', num_append (hq2 h0).1]
theorem nodK_find : ∀ (ks : List Tr) (L : List Tr), (nodK (fun q L => num L q) (fun _ L => L) ks L).1 = L ∧ ((nodK (fun q L => num L q) (fun _ L => L) ks L).2.2 = true ↔ ∀ q ∈ ks, q ∈ L) ∧ ((nodK (fun q L => num L q) (fun _ L => L) ks L).2.2 = true → (nodK (fun q L => num L q) (fun _ L => L) ks L).2.1 = ks.map (num L)) := by
  intro ks
  induction ks with
  | nil => intro L; simp [nodK]
  | cons q r ih =>
    intro L
    obtain ⟨i1, i2, i3⟩ := ih L
    rw [nodK]
    by_cases h0 : num L q = 0
    · simp only [h0, if_true]
      refine ⟨trivial, ?_, by simp⟩
      have := num_zero.1 h0
      simp [this]
    · simp only [if_neg h0]
      refine ⟨i1, ?_, fun ht => by rw [i3 ht]; rfl⟩
      rw [i2]
      have := num_mem.1 h0
      simp [this]
/-- the numbers found so far, and those of the rest -/
def preK (ns : List Nat) (x : List Tr × List Nat × Bool) : List Tr × List Nat × Bool := (x.1, if x.2.2 = true then ns ++ x.2.1 else [], x.2.2)
end Go.Proofs.YtgnfbhemkombaaaGreat
namespace Go.Proofs.YtgnfbhemkombaaaGreat
set_option linter.unusedVariables false
set_option linter.unusedSimpArgs false
/-- the same but for what lies below -/
def headB (a b : Tr) : Bool := decide (a.k = b.k ∧ a.i = b.i ∧ a.ks.length = b.ks.length)
/-- a is t, and b is u -/
def turnB (a b t u : Tr) : Bool := decide (cmpT a t = 0) && decide (cmpT b u = 0)
/-- a quantifier that names one of the variables -/
def namesB (own : Nat) (a : Tr) : Bool := decide (a.k = 7 ∨ a.k = 10) && hasN own a.i
mutual
def swpT (t u : Tr) (own : Nat) : Tr → Tr → Bool → Bool
  | .node k i ks, b, may => (may && turnB (.node k i ks) b t u) || (headB (.node k i ks) b && swpL t u own ks b.ks (may && !namesB own (.node k i ks)))
def swpL (t u : Tr) (own : Nat) : List Tr → List Tr → Bool → Bool
  | [], _, _ => true
  | _ :: _, [], _ => true
  | a :: r, b :: s, m => swpT t u own a b m && swpL t u own r s m
end
theorem swpT_eq (t u : Tr) (own : Nat) (a b : Tr) (may : Bool) : swpT t u own a b may = ((may && turnB a b t u) || (headB a b && swpL t u own a.ks b.ks (may && !namesB own a))) := by
  cases a; rw [swpT]; rfl
theorem swpL_cons (t u : Tr) (own : Nat) (a b : Tr) (r s : List Tr) (m : Bool) : swpL t u own (a :: r) (b :: s) m = (swpT t u own a b m && swpL t u own r s m) := by rw [swpL]
theorem swpL_nil (t u : Tr) (own : Nat) (s : List Tr) (m : Bool) : swpL t u own [] s m = true := by cases s <;> rw [swpL]
theorem swpL_take (t u : Tr) (own : Nat) (may : Bool) : ∀ (ks ls : List Tr) (m : Nat) (h : m < ks.length) (h' : m < ls.length), swpL t u own (ks.take (m + 1)) (ls.take (m + 1)) may = (swpL t u own (ks.take m) (ls.take m) may && swpT t u own ks[m] ls[m] may)
  | [], _, _, h, _ => by simp at h
  | _ :: _, [], _, _, h => by simp at h
  | a :: r, b :: s, 0, _, _ => by simp [swpL_cons, swpL_nil]
  | a :: r, b :: s, m + 1, h, h' => by
    simp only [List.take_succ_cons, swpL_cons, List.getElem_cons_succ]
    rw [swpL_take t u own may r s m (by simpa using h) (by simpa using h'), Bool.and_assoc]
theorem swpL_false (t u : Tr) (own : Nat) (may : Bool) : ∀ (ks ls : List Tr) (m : Nat) (h : m < ks.length) (h' : m < ls.length), swpT t u own ks[m] ls[m] may = false → swpL t u own ks ls may = false
  | [], _, _, h, _, _ => by simp at h
  | _ :: _, [], _, _, h, _ => by simp at h
  | a :: r, b :: s, 0, _, _, e => by simp only [List.getElem_cons_zero] at e; simp [swpL_cons, e]
  | a :: r, b :: s, m + 1, h, h', e => by
    rw [swpL_cons, swpL_false t u own may r s m (by simpa using h) (by simpa using h') (by simpa using e)]; simp
theorem headB_iff {a b : Tr} : headB a b = true ↔ a.k = b.k ∧ a.i = b.i ∧ a.ks.length = b.ks.length := by unfold headB; exact decide_eq_true_iff
theorem headB_comm (a b : Tr) : headB a b = headB b a := by
  rw [Bool.eq_iff_iff, headB_iff, headB_iff]
  exact ⟨fun ⟨h1, h2, h3⟩ => ⟨h1.symm, h2.symm, h3.symm⟩, fun ⟨h1, h2, h3⟩ => ⟨h1.symm, h2.symm, h3.symm⟩⟩
theorem turnB_comm (a b t u : Tr) : turnB a b t u = turnB b a u t := by unfold turnB; rw [Bool.and_comm]
theorem turnB_iff {a b t u : Tr} : turnB a b t u = true ↔ a = t ∧ b = u := by
  unfold turnB
  rw [Bool.and_eq_true, decide_eq_true_iff, decide_eq_true_iff, cmpT_zero, cmpT_zero]
theorem namesB_head {own : Nat} {a b : Tr} (h : headB a b = true) : namesB own a = namesB own b := by
  obtain ⟨h1, h2, _⟩ := headB_iff.1 h
  unfold namesB; rw [h1, h2]
/-- what is itself is itself, swapped -/
theorem swp_refl (t u : Tr) (own : Nat) (a : Tr) : ∀ may, swpT t u own a a may = true := by
  induction a using Tr.ind with
  | h a ih =>
    intro may
    rw [swpT_eq]
    have hh : headB a a = true := headB_iff.2 ⟨rfl, rfl, rfl⟩
    have hl : ∀ (l : List Tr), (∀ q ∈ l, ∀ m, swpT t u own q q m = true) → ∀ m, swpL t u own l l m = true := by
      intro l
      induction l with
      | nil => intro _ m; exact swpL_nil _ _ _ _ _
      | cons q r ihr => intro h m; rw [swpL_cons, h q (by simp) m, ihr (fun x hx => h x (by simp [hx])) m]; rfl
    rw [hh, hl a.ks ih]
    simp
/-- where nothing may be swapped only what is the same is so -/
theorem swp_no (t u : Tr) (own : Nat) (a : Tr) : ∀ b, swpT t u own a b false = decide (cmpT a b = 0) := by
  induction a using Tr.ind with
  | h a ih =>
    intro b
    have hl : ∀ (l r : List Tr), l.length = r.length → (∀ q ∈ l, ∀ b, swpT t u own q b false = decide (cmpT q b = 0)) → swpL t u own l r false = decide (l = r) := by
      intro l
      induction l with
      | nil =>
        intro r hr _
        have : r = [] := List.length_eq_zero_iff.1 hr.symm
        subst this
        rw [swpL_nil]; simp
      | cons q l' ihr =>
        intro r hr h
        cases r with
        | nil => simp at hr
        | cons p r' =>
          rw [swpL_cons, h q (by simp) p, ihr r' (by simpa using hr) (fun x hx => h x (by simp [hx]))]
          rw [Bool.eq_iff_iff]
          simp [cmpT_zero]
    rw [swpT_eq]
    simp only [Bool.false_and, Bool.false_or]
    rw [Bool.eq_iff_iff, Bool.and_eq_true, decide_eq_true_iff, cmpT_zero, headB_iff]
    constructor
    · rintro ⟨⟨h1, h2, h3⟩, h4⟩
      rw [hl a.ks b.ks h3 ih, decide_eq_true_iff] at h4
      rw [a.eta, b.eta, h1, h2, h4]
    · rintro rfl
      refine ⟨⟨rfl, rfl, rfl⟩, ?_⟩
      rw [hl a.ks a.ks rfl ih]; simp
/-- what is swapped is swapped back -/
theorem swp_back (t u : Tr) (own : Nat) (a : Tr) : ∀ b may, swpT t u own a b may = swpT u t own b a may := by
  induction a using Tr.ind with
  | h a ih =>
    intro b may
    have hl : ∀ (l r : List Tr), l.length = r.length → (∀ q ∈ l, ∀ b m, swpT t u own q b m = swpT u t own b q m) → ∀ m, swpL t u own l r m = swpL u t own r l m := by
      intro l
      induction l with
      | nil =>
        intro r hr _ m
        have : r = [] := List.length_eq_zero_iff.1 hr.symm
        subst this
        rw [swpL_nil, swpL_nil]
      | cons q l' ihr =>
        intro r hr h m
        cases r with
        | nil => simp at hr
        | cons p r' => rw [swpL_cons, swpL_cons, h q (by simp) p m, ihr r' (by simpa using hr) (fun x hx => h x (by simp [hx])) m]
    rw [swpT_eq, swpT_eq, turnB_comm a b t u, headB_comm a b]
    cases hh : headB b a with
    | false => simp
    | true =>
      rw [namesB_head hh, hl a.ks b.ks (headB_iff.1 hh).2.2.symm ih]
/-- what stands for a variable may be swapped for another -/
theorem swp_put {x : Int} (h0 : 0 ≤ x) (h1 : x ≤ 63) (t u : Tr) (a : Tr) : a.shp = true → catT (varsT t) x a = 0 → catT (varsT u) x a = 0 →
    swpT t u (varsT t ||| varsT u) (putX x t a) (putX x u a) true = true := by
  induction a using Tr.ind with
  | h a ih =>
    intro hs ct cu
    by_cases hv : a.k = 1 ∧ a.i = x
    · rw [putX_var hv.1 hv.2, putX_var hv.1 hv.2, swpT_eq, turnB_iff.2 ⟨rfl, rfl⟩]; rfl
    · by_cases hq : (a.k = 7 ∨ a.k = 10) ∧ a.i = x
      · rw [putX_quant h0 h1 hq.1 hq.2, putX_quant h0 h1 hq.1 hq.2]; exact swp_refl _ _ _ _ _
      · cases hf : hasN (freeT a) x with
        | false => rw [putX_unfree h0 h1 t a hs hf, putX_unfree h0 h1 u a hs hf]; exact swp_refl _ _ _ _ _
        | true =>
          have kt := cat_kid h0 h1 hs hq ct
          have ku := cat_kid h0 h1 hs hq cu
          have hn : namesB (varsT t ||| varsT u) (.node a.k a.i (a.ks.map (putX x t))) = false := by
            unfold namesB
            rw [node_k, node_i]
            by_cases hk : a.k = 7 ∨ a.k = 10
            · have ka := (kind_of_shp a hs)
              obtain ⟨_, _, hi⟩ := shp_quant hs hk
              have e1 := cat_quant hk hi.1 hi.2 hf ct
              have e2 := cat_quant hk hi.1 hi.2 hf cu
              rw [hasN_bit hi.1 hi.2, Nat.testBit_or, e1, e2]; simp
            · rw [decide_eq_false hk]; rfl
          have hl : ∀ (l : List Tr), (∀ q ∈ l, swpT t u (varsT t ||| varsT u) (putX x t q) (putX x u q) true = true) → swpL t u (varsT t ||| varsT u) (l.map (putX x t)) (l.map (putX x u)) true = true := by
            intro l
            induction l with
            | nil => intro _; exact swpL_nil _ _ _ _ _
            | cons q r ihr => intro h; rw [List.map_cons, List.map_cons, swpL_cons, h q (by simp), ihr (fun y hy => h y (by simp [hy]))]; rfl
          rw [putX_else hv hq, putX_else hv hq, swpT_eq, hn]
          have hh : headB (.node a.k a.i (a.ks.map (putX x t))) (.node a.k a.i (a.ks.map (putX x u))) = true := headB_iff.2 ⟨rfl, rfl, by simp [node_ks]⟩
          rw [hh, node_ks, node_ks]
          have := hl a.ks fun q hq' => ih q hq' (shp_kid hs hq') (kt q hq') (ku q hq')
          simp [this]
end Go.Proofs.YtgnfbhemkombaaaGreat
namespace Go.Proofs.YtgnfbhemkombaaaGreat
open Go.RowKit
set_option linter.unusedVariables false
set_option linter.unusedSimpArgs false
set_option maxHeartbeats 1000000 in
theorem risfree_any (x : Int) (t : Tr) (A : Option Addr) (c : Nat) (w : World) (ht : IsT w w.heap.size t A c) :
    Calls Tryz.prog 52 #[.int .i64 x, .agg #[.int .i64 t.k, .int .i64 t.i, .slice A t.ks.length c]] w fun e w' => e = .returned (.bool (hasN (freeT t) x)) ∧ Below w.heap.size w w' := by
  have T0 := Lib.hid (One.new ht)
  have U1 := Lib.hid (freeT_U t)
  obtain ⟨y0, y1, y2⟩ := And.intro T0.out.b0 (And.intro T0.out.b1 T0.out.b2)
  clear ht
  go_enter Tryz.func52, Tryz.ntmps52
  go_wp2_with fail
  refine (roffree_any t.sz t A c _ (Nat.le_refl _) (by exact T0.out.tree)).mono ?_
  rintro e w1 ⟨rfl, hb1⟩
  have T1 := Lib.hid (T0.out.keep hb1)
  clear hb1
  go_wp2_with fail
  refine (rhas_any (freeT t) x _ U1.out).mono ?_
  rintro e w3 ⟨rfl, hw3⟩
  rw [← hw3]
  clear hw3
  go_wp2_with fail
  go_ret
  exact ⟨rfl, T1.out.below⟩
/-- what is answered of a tree: the set, if it is right -/
def valR (f : Tr → Nat) (t : Tr) : Nat := if rightN t = 0 then f t else 0
theorem valR_ok {f : Tr → Nat} {t : Tr} (h : rightN t = 0) : valR f t = f t := by unfold valR; rw [if_pos h]
theorem valR_bad {f : Tr → Nat} {t : Tr} (h : ¬ rightN t = 0) : valR f t = 0 := by unfold valR; rw [if_neg h]
set_option maxHeartbeats 4000000 in
set_option maxRecDepth 100000 in
theorem rcaught_any (own : Nat) (x : Int) (hown : U64 own) : ∀ (N : Nat) (t : Tr) (A : Option Addr) (c : Nat) (w : World), t.sz ≤ N → IsT w w.heap.size t A c →
    Calls Tryz.prog 114 #[.int .u64 own, .int .i64 x, .agg #[.int .i64 t.k, .int .i64 t.i, .slice A t.ks.length c]] w fun e w' => e = .returned (.int .u64 (catT own x t : Nat)) ∧ Below w.heap.size w w' := by
  intro N
  induction N with
  | zero => intro t A c w h; have := sz_pos t; omega
  | succ N ih =>
    intro t A c w hN ht
    have IH := Lib.hid ih
    have HU := Lib.hid hown
    have E := Lib.hid (catT_eq own x t)
    have hl := ht.len
    clear ih hown
    cases hf : hasN (freeT t) x with
    | false =>
      have F := Lib.hid (show catT own x t = 0 by rw [E.out, hf]; rfl)
      have T0 := Lib.hid (One.new ht)
      obtain ⟨y0, y1, y2⟩ := And.intro T0.out.b0 (And.intro T0.out.b1 T0.out.b2)
      clear ht
      go_enter Tryz.func114, Tryz.ntmps114
      go_wp2_with fail
      refine (risfree_any x t A c _ (by exact T0.out.tree)).mono ?_
      rintro e w1 ⟨rfl, hb1⟩
      rw [hf]
      have T1 := Lib.hid (T0.out.keep hb1)
      obtain ⟨z0, z1, z2⟩ := And.intro T1.out.b0 (And.intro T1.out.b1 T1.out.b2)
      clear hb1 y0 y1 y2
      go_wp2_with fail
      go_ret
      exact ⟨ret_intw (by rw [F.out]; rfl), T1.out.below⟩
    | true =>
      by_cases hq : t.k = 7 ∨ t.k = 10
      · cases hh : hasN own t.i with
        | true =>
          have F := Lib.hid (show catT own x t = withN 0 t.i ||| catL own x t.ks by rw [E.out, if_pos hf, if_pos ⟨hq, hh⟩])
          have BU := Lib.hid (show U64 (withN 0 t.i) from withU _ zero_U)
          have T0 := Lib.hid (One.new ht)
          obtain ⟨y0, y1, y2⟩ := And.intro T0.out.b0 (And.intro T0.out.b1 T0.out.b2)
          clear ht
          go_enter Tryz.func114, Tryz.ntmps114
          go_wp2_with fail
          refine (risfree_any x t A c _ (by exact T0.out.tree)).mono ?_
          rintro e w1 ⟨rfl, hb1⟩
          rw [hf]
          have T1 := Lib.hid (T0.out.keep hb1)
          obtain ⟨z0, z1, z2⟩ := And.intro T1.out.b0 (And.intro T1.out.b1 T1.out.b2)
          clear hb1 y0 y1 y2
          go_wp2_with fail
          refine (rquantified_any t.k t.i A t.ks.length c _).mono ?_
          rintro e w2 ⟨rfl, hb2⟩
          rw [decide_eq_true hq]
          have T2 := Lib.hid (T1.out.keep hb2)
          obtain ⟨y0, y1, y2⟩ := And.intro T2.out.b0 (And.intro T2.out.b1 T2.out.b2)
          clear hb2 z0 z1 z2
          go_wp2_with fail
          refine (rhas_any own t.i _ HU.out).mono ?_
          rintro e w3 ⟨rfl, hw3⟩
          rw [← hw3]
          clear hw3
          rw [hh]
          go_wp2_with fail
          refine (rpow_any t.i _).mono ?_
          rintro e w3 ⟨rfl, hw3⟩
          rw [← hw3]
          clear hw3
          go_wp2_with fail
          have TS := Lib.hid T2.out
          go_loopw [7, 29] (fun s i wr => ∃ m : Nat, m ≤ t.ks.length ∧ i = .int .i64 m ∧ s = .int .u64 ((withN 0 t.i ||| catL own x (t.ks.take m) : Nat) : Int) ∧ One w wr t A c) (fun _ i _ => t.ks.length - (intOf i).toNat)
          case atStart => exact ⟨0, Nat.zero_le _, rfl, by simp [catL_nil], TS.out⟩
          case round =>
            obtain ⟨m, hm', rfl, rfl, hO⟩ := hrel
            have U0 := Lib.hid (show U64 (withN 0 t.i ||| catL own x (t.ks.take m)) from Nat.or_lt_two_pow BU.out (catL_U own x _))
            have HO := Lib.hid hO
            have hbr := hO.below
            clear hO TS
            by_cases hlt : m < t.ks.length
            · obtain ⟨b, o, A', c', rfl, hlt', c0, c1, c2, hk⟩ := HO.out.tree.kid m hlt
              have S := Lib.hid (catL_take own x t.ks m hlt)
              have kz := kid_sz t m hlt
              obtain ⟨q, hq'⟩ : ∃ q, q = t.ks[m] := ⟨_, rfl⟩
              rw [← hq'] at c0 c1 c2 hk kz S
              clear hq'
              have ha : ∀ o, Below wr.heap.size wr (wr.alloc o) := fun o => (Below.refl _ _).alloc (Nat.le_refl _) _
              have HK := Lib.hid (fun o => hk.keep (ha o) (ha o).size)
              have QU := Lib.hid (catT_U own x q)
              have NX := Lib.hid (show (withN 0 t.i ||| catL own x (t.ks.take m)) ||| catT own x q = withN 0 t.i ||| catL own x (t.ks.take (m + 1)) by rw [S.out, Nat.or_assoc])
              obtain ⟨s, hs⟩ : ∃ s, s = withN 0 t.i ||| catL own x (t.ks.take m) := ⟨_, rfl⟩
              rw [← hs] at NX U0 ⊢
              have HA := Lib.hid ha
              clear hk hs S ha
              go_wp2_with fail
              refine (IH.out q A' c' _ (by omega) (by exact HK.out _)).mono ?_
              rintro e w' ⟨rfl, hb2⟩
              have HO2 := Lib.hid ((HO.out.keep (HA.out _)).keep hb2)
              clear hb2
              go_wp2_with fail
              refine (runion_any s (catT own x q) _ U0.out QU.out).mono ?_
              rintro e w9 ⟨rfl, hw9⟩
              rw [← hw9]
              clear hw9
              rw [NX.out]
              go_wp2_with fail
              go_roundw
              case rel => exact ⟨m + 1, by omega, by go_num, by first | rfl | simp, HO2.out⟩
              case measure => simp [intOf]; omega
            · obtain rfl : m = t.ks.length := by omega
              rw [List.take_length] at U0 ⊢
              obtain ⟨s, hs⟩ : ∃ s, s = withN 0 t.i ||| catL own x t.ks := ⟨_, rfl⟩
              rw [← hs] at F ⊢
              clear hs
              go_wp2_with fail
              go_ret
              exact ⟨ret_intw (by rw [F.out]), hbr⟩
        | false =>
          have F := Lib.hid (show catT own x t = 0 ||| catL own x t.ks by rw [E.out, if_pos hf, if_neg (by rw [hh]; simp)])
          have BU := Lib.hid (show U64 0 from zero_U)
          have T0 := Lib.hid (One.new ht)
          obtain ⟨y0, y1, y2⟩ := And.intro T0.out.b0 (And.intro T0.out.b1 T0.out.b2)
          clear ht
          go_enter Tryz.func114, Tryz.ntmps114
          go_wp2_with fail
          refine (risfree_any x t A c _ (by exact T0.out.tree)).mono ?_
          rintro e w1 ⟨rfl, hb1⟩
          rw [hf]
          have T1 := Lib.hid (T0.out.keep hb1)
          obtain ⟨z0, z1, z2⟩ := And.intro T1.out.b0 (And.intro T1.out.b1 T1.out.b2)
          clear hb1 y0 y1 y2
          go_wp2_with fail
          refine (rquantified_any t.k t.i A t.ks.length c _).mono ?_
          rintro e w2 ⟨rfl, hb2⟩
          rw [decide_eq_true hq]
          have T2 := Lib.hid (T1.out.keep hb2)
          obtain ⟨y0, y1, y2⟩ := And.intro T2.out.b0 (And.intro T2.out.b1 T2.out.b2)
          clear hb2 z0 z1 z2
          go_wp2_with fail
          refine (rhas_any own t.i _ HU.out).mono ?_
          rintro e w3 ⟨rfl, hw3⟩
          rw [← hw3]
          clear hw3
          rw [hh]
          go_wp2_with fail
          have TS := Lib.hid T2.out
          go_loopw [7, 29] (fun s i wr => ∃ m : Nat, m ≤ t.ks.length ∧ i = .int .i64 m ∧ s = .int .u64 ((0 ||| catL own x (t.ks.take m) : Nat) : Int) ∧ One w wr t A c) (fun _ i _ => t.ks.length - (intOf i).toNat)
          case atStart => exact ⟨0, Nat.zero_le _, rfl, by simp [catL_nil], TS.out⟩
          case round =>
            obtain ⟨m, hm', rfl, rfl, hO⟩ := hrel
            have U0 := Lib.hid (show U64 (0 ||| catL own x (t.ks.take m)) from Nat.or_lt_two_pow BU.out (catL_U own x _))
            have HO := Lib.hid hO
            have hbr := hO.below
            clear hO TS
            by_cases hlt : m < t.ks.length
            · obtain ⟨b, o, A', c', rfl, hlt', c0, c1, c2, hk⟩ := HO.out.tree.kid m hlt
              have S := Lib.hid (catL_take own x t.ks m hlt)
              have kz := kid_sz t m hlt
              obtain ⟨q, hq'⟩ : ∃ q, q = t.ks[m] := ⟨_, rfl⟩
              rw [← hq'] at c0 c1 c2 hk kz S
              clear hq'
              have ha : ∀ o, Below wr.heap.size wr (wr.alloc o) := fun o => (Below.refl _ _).alloc (Nat.le_refl _) _
              have HK := Lib.hid (fun o => hk.keep (ha o) (ha o).size)
              have QU := Lib.hid (catT_U own x q)
              have NX := Lib.hid (show (0 ||| catL own x (t.ks.take m)) ||| catT own x q = 0 ||| catL own x (t.ks.take (m + 1)) by rw [S.out, Nat.or_assoc])
              obtain ⟨s, hs⟩ : ∃ s, s = 0 ||| catL own x (t.ks.take m) := ⟨_, rfl⟩
              rw [← hs] at NX U0 ⊢
              have HA := Lib.hid ha
              clear hk hs S ha
              go_wp2_with fail
              refine (IH.out q A' c' _ (by omega) (by exact HK.out _)).mono ?_
              rintro e w' ⟨rfl, hb2⟩
              have HO2 := Lib.hid ((HO.out.keep (HA.out _)).keep hb2)
              clear hb2
              go_wp2_with fail
              refine (runion_any s (catT own x q) _ U0.out QU.out).mono ?_
              rintro e w9 ⟨rfl, hw9⟩
              rw [← hw9]
              clear hw9
              rw [NX.out]
              go_wp2_with fail
              go_roundw
              case rel => exact ⟨m + 1, by omega, by go_num, by first | rfl | simp, HO2.out⟩
              case measure => simp [intOf]; omega
            · obtain rfl : m = t.ks.length := by omega
              rw [List.take_length] at U0 ⊢
              obtain ⟨s, hs⟩ : ∃ s, s = 0 ||| catL own x t.ks := ⟨_, rfl⟩
              rw [← hs] at F ⊢
              clear hs
              go_wp2_with fail
              go_ret
              exact ⟨ret_intw (by rw [F.out]), hbr⟩
      · have F := Lib.hid (show catT own x t = 0 ||| catL own x t.ks by rw [E.out, if_pos hf, if_neg (fun e => hq e.1)])
        have BU := Lib.hid (show U64 0 from zero_U)
        have T0 := Lib.hid (One.new ht)
        obtain ⟨y0, y1, y2⟩ := And.intro T0.out.b0 (And.intro T0.out.b1 T0.out.b2)
        clear ht
        go_enter Tryz.func114, Tryz.ntmps114
        go_wp2_with fail
        refine (risfree_any x t A c _ (by exact T0.out.tree)).mono ?_
        rintro e w1 ⟨rfl, hb1⟩
        rw [hf]
        have T1 := Lib.hid (T0.out.keep hb1)
        obtain ⟨z0, z1, z2⟩ := And.intro T1.out.b0 (And.intro T1.out.b1 T1.out.b2)
        clear hb1 y0 y1 y2
        go_wp2_with fail
        refine (rquantified_any t.k t.i A t.ks.length c _).mono ?_
        rintro e w2 ⟨rfl, hb2⟩
        rw [decide_eq_false hq]
        have T2 := Lib.hid (T1.out.keep hb2)
        obtain ⟨y0, y1, y2⟩ := And.intro T2.out.b0 (And.intro T2.out.b1 T2.out.b2)
        clear hb2 z0 z1 z2
        go_wp2_with fail
        have TS := Lib.hid T2.out
        go_loopw [7, 29] (fun s i wr => ∃ m : Nat, m ≤ t.ks.length ∧ i = .int .i64 m ∧ s = .int .u64 ((0 ||| catL own x (t.ks.take m) : Nat) : Int) ∧ One w wr t A c) (fun _ i _ => t.ks.length - (intOf i).toNat)
        case atStart => exact ⟨0, Nat.zero_le _, rfl, by simp [catL_nil], TS.out⟩
        case round =>
          obtain ⟨m, hm', rfl, rfl, hO⟩ := hrel
          have U0 := Lib.hid (show U64 (0 ||| catL own x (t.ks.take m)) from Nat.or_lt_two_pow BU.out (catL_U own x _))
          have HO := Lib.hid hO
          have hbr := hO.below
          clear hO TS
          by_cases hlt : m < t.ks.length
          · obtain ⟨b, o, A', c', rfl, hlt', c0, c1, c2, hk⟩ := HO.out.tree.kid m hlt
            have S := Lib.hid (catL_take own x t.ks m hlt)
            have kz := kid_sz t m hlt
            obtain ⟨q, hq'⟩ : ∃ q, q = t.ks[m] := ⟨_, rfl⟩
            rw [← hq'] at c0 c1 c2 hk kz S
            clear hq'
            have ha : ∀ o, Below wr.heap.size wr (wr.alloc o) := fun o => (Below.refl _ _).alloc (Nat.le_refl _) _
            have HK := Lib.hid (fun o => hk.keep (ha o) (ha o).size)
            have QU := Lib.hid (catT_U own x q)
            have NX := Lib.hid (show (0 ||| catL own x (t.ks.take m)) ||| catT own x q = 0 ||| catL own x (t.ks.take (m + 1)) by rw [S.out, Nat.or_assoc])
            obtain ⟨s, hs⟩ : ∃ s, s = 0 ||| catL own x (t.ks.take m) := ⟨_, rfl⟩
            rw [← hs] at NX U0 ⊢
            have HA := Lib.hid ha
            clear hk hs S ha
            go_wp2_with fail
            refine (IH.out q A' c' _ (by omega) (by exact HK.out _)).mono ?_
            rintro e w' ⟨rfl, hb2⟩
            have HO2 := Lib.hid ((HO.out.keep (HA.out _)).keep hb2)
            clear hb2
            go_wp2_with fail
            refine (runion_any s (catT own x q) _ U0.out QU.out).mono ?_
            rintro e w9 ⟨rfl, hw9⟩
            rw [← hw9]
            clear hw9
            rw [NX.out]
            go_wp2_with fail
            go_roundw
            case rel => exact ⟨m + 1, by omega, by go_num, by first | rfl | simp, HO2.out⟩
            case measure => simp [intOf]; omega
          · obtain rfl : m = t.ks.length := by omega
            rw [List.take_length] at U0 ⊢
            obtain ⟨s, hs⟩ : ∃ s, s = 0 ||| catL own x t.ks := ⟨_, rfl⟩
            rw [← hs] at F ⊢
            clear hs
            go_wp2_with fail
            go_ret
            exact ⟨ret_intw (by rw [F.out]), hbr⟩
/-- what NotFree answers: the bool, the error -/
def nfB (x : Int) (t : Tr) : Bool := if 0 ≤ x ∧ x ≤ 63 then (if rightN t = 0 then !hasN (freeT t) x else false) else false
def nfE (x : Int) (t : Tr) : Nat := if 0 ≤ x ∧ x ≤ 63 then rightN t else 1
end Go.Proofs.YtgnfbhemkombaaaGreat
namespace Go.Proofs.YtgnfbhemkombaaaGreat
open Go.RowKit
set_option linter.unusedVariables false
set_option linter.unusedSimpArgs false
abbrev exprV (t : Tr) (A : Option Addr) (c : Nat) : Value := .agg #[.int .i64 t.k, .int .i64 t.i, .slice A t.ks.length c]
theorem env4 {w : World} {a b t u : Tr} {A B T U : Option Addr} {ca cb ct cu : Nat} (ha : IsT w w.heap.size a A ca) (hb : IsT w w.heap.size b B cb) (ht : IsT w w.heap.size t T ct) (hu : IsT w w.heap.size u U cu) :
    Env w ((((w.alloc (.cells #[.int .i64 a.k, .int .i64 a.i, .slice A a.ks.length ca] 24)).alloc (.cells #[.int .i64 b.k, .int .i64 b.i, .slice B b.ks.length cb] 24)).alloc (.cells #[.int .i64 t.k, .int .i64 t.i, .slice T t.ks.length ct] 24)).alloc (.cells #[.int .i64 u.k, .int .i64 u.i, .slice U u.ks.length cu] 24))
      [(w.heap.size + 3, u, U, cu), (w.heap.size + 2, t, T, ct), (w.heap.size + 1, b, B, cb), (w.heap.size, a, A, ca)] := by
  have := (env3 ha hb ht).push (((hu.keep (alB w _) (alB w _).size).keep (alB _ _) (alB _ _).size).keep (alB _ _) (alB _ _).size)
  rw [World.size_alloc, World.size_alloc, World.size_alloc] at this
  exact this
theorem turn_like (a b t u : Tr) : turnB a b t u = (likeB a t && likeB b u) := rfl
set_option maxHeartbeats 4000000 in
set_option maxRecDepth 100000 in
theorem rswap_any (t u : Tr) (own : Nat) (hU : U64 own) : ∀ (N : Nat) (a b : Tr) (A B T U : Option Addr) (ca cb ct cu : Nat) (may : Bool) (w : World), a.sz ≤ N → IsT w w.heap.size a A ca → IsT w w.heap.size b B cb → IsT w w.heap.size t T ct → IsT w w.heap.size u U cu →
    Calls Tryz.prog 55 #[.agg #[.int .i64 a.k, .int .i64 a.i, .slice A a.ks.length ca], .agg #[.int .i64 b.k, .int .i64 b.i, .slice B b.ks.length cb], .agg #[.int .i64 t.k, .int .i64 t.i, .slice T t.ks.length ct], .agg #[.int .i64 u.k, .int .i64 u.i, .slice U u.ks.length cu], .int .u64 (own : Int), .bool may] w fun e w' => e = .returned (.bool (swpT t u own a b may)) ∧ Below w.heap.size w w' := by
  intro N
  induction N with
  | zero => intro a b A B T U ca cb ct cu may w h; have := sz_pos a; omega
  | succ N ih =>
    intro a b A B T U ca cb ct cu may w hN ha hb ht hu
    have IH := Lib.hid ih
    have UU := Lib.hid hU
    have E0 := Lib.hid (env4 ha hb ht hu)
    have SE := Lib.hid (swpT_eq t u own a b may)
    have HH := Lib.hid (show headB a b = true → a.k = b.k ∧ a.i = b.i ∧ a.ks.length = b.ks.length from headB_iff.1)
    have hl := ha.len
    have hl2 := hb.len
    clear ih ha hb ht hu
    go_enter Tryz.func55, Tryz.ntmps55
    go_upto_region 1 with fail
    go_cut [25] (fun v wc => v = .bool (may && turnB a b t u) ∧ Env w wc [(w.heap.size + 3, u, U, cu), (w.heap.size + 2, t, T, ct), (w.heap.size + 1, b, B, cb), (w.heap.size, a, A, ca)])
    case first =>
      cases may with
      | false =>
        go_wp2_with fail
        go_meet
        exact ⟨by simp, E0.out⟩
      | true =>
        obtain ⟨a0, a1, a2⟩ := E0.out.cells w.heap.size a A ca (by simp)
        obtain ⟨t0, t1, t2⟩ := E0.out.cells (w.heap.size + 2) t T ct (by simp)
        go_wp2_with fail
        refine (like_any a t A T ca ct _ (by exact E0.out.tree w.heap.size a A ca (by simp)) (by exact E0.out.tree (w.heap.size + 2) t T ct (by simp))).mono ?_
        rintro e w1 ⟨rfl, hb1⟩
        have E1 := Lib.hid (E0.out.keep hb1)
        clear hb1 a0 a1 a2 t0 t1 t2 E0
        have TL := Lib.hid (turn_like a b t u)
        cases h1 : likeB a t with
        | false =>
          rw [h1] at TL
          go_wp2_with fail
          go_meet
          exact ⟨by rw [TL.out]; rfl, E1.out⟩
        | true =>
          rw [h1] at TL
          obtain ⟨a0, a1, a2⟩ := E1.out.cells (w.heap.size + 1) b B cb (by simp)
          obtain ⟨t0, t1, t2⟩ := E1.out.cells (w.heap.size + 3) u U cu (by simp)
          go_wp2_with fail
          refine (like_any b u B U cb cu _ (by exact E1.out.tree (w.heap.size + 1) b B cb (by simp)) (by exact E1.out.tree (w.heap.size + 3) u U cu (by simp))).mono ?_
          rintro e w2 ⟨rfl, hb2⟩
          have E2 := Lib.hid (E1.out.keep hb2)
          clear hb2 a0 a1 a2 t0 t1 t2 E1
          go_wp2_with fail
          go_meet
          exact ⟨by rw [TL.out]; simp, E2.out⟩
    case rest =>
      obtain ⟨rfl, hE⟩ := hcut
      have E1 := Lib.hid hE
      clear hE E0
      cases h1 : (may && turnB a b t u) with
      | true =>
        rw [h1] at SE
        go_wp2_with fail
        go_ret
        exact ⟨by rw [SE.out]; rfl, E1.out.below⟩
      | false =>
        rw [h1, Bool.false_or] at SE
        clear h1
        go_upto_region 3 with fail
        go_cut [46] (fun v wc => v = .bool (!headB a b) ∧ Env w wc [(w.heap.size + 3, u, U, cu), (w.heap.size + 2, t, T, ct), (w.heap.size + 1, b, B, cb), (w.heap.size, a, A, ca)])
        case first =>
          obtain ⟨a0, a1, a2⟩ := E1.out.cells w.heap.size a A ca (by simp)
          obtain ⟨b0, b1, b2⟩ := E1.out.cells (w.heap.size + 1) b B cb (by simp)
          by_cases hk : a.k = b.k
          · have hk' : (a.k != b.k) = false := by simp [hk]
            by_cases hi : a.i = b.i
            · have hi' : (a.i != b.i) = false := by simp [hi]
              by_cases hn : a.ks.length = b.ks.length
              · have hn' : ((a.ks.length : Int) != (b.ks.length : Int)) = false := by simp [hn]
                have HB := Lib.hid (show headB a b = true from headB_iff.2 ⟨hk, hi, hn⟩)
                clear hk hi hn
                go_wp2_with fail
                go_meet
                exact ⟨by rw [HB.out]; rfl, E1.out⟩
              · have hn' : ((a.ks.length : Int) != (b.ks.length : Int)) = true := by rw [bne_iff_ne]; omega
                have HB := Lib.hid (show headB a b = false from decide_eq_false fun h => hn h.2.2)
                clear hk hi hn
                go_wp2_with fail
                go_meet
                exact ⟨by rw [HB.out]; rfl, E1.out⟩
            · have hi' : (a.i != b.i) = true := by rw [bne_iff_ne]; exact hi
              have HB := Lib.hid (show headB a b = false from decide_eq_false fun h => hi h.2.1)
              clear hk hi
              go_wp2_with fail
              go_meet
              exact ⟨by rw [HB.out]; rfl, E1.out⟩
          · have hk' : (a.k != b.k) = true := by rw [bne_iff_ne]; exact hk
            have HB := Lib.hid (show headB a b = false from decide_eq_false fun h => hk h.1)
            clear hk
            go_wp2_with fail
            go_meet
            exact ⟨by rw [HB.out]; rfl, E1.out⟩
        case rest =>
          obtain ⟨rfl, hE⟩ := hcut
          have E2 := Lib.hid hE
          clear hE E1
          cases h1 : headB a b with
          | false =>
            rw [h1] at SE
            go_wp2_with fail
            go_ret
            exact ⟨by rw [SE.out]; rfl, E2.out.below⟩
          | true =>
            rw [h1, Bool.true_and] at SE
            have HN := Lib.hid (HH.out h1).2.2
            clear h1 HH
            go_upto_region 6 with fail
            go_cut [55] (fun v wc => v = .bool (namesB own a) ∧ Env w wc [(w.heap.size + 3, u, U, cu), (w.heap.size + 2, t, T, ct), (w.heap.size + 1, b, B, cb), (w.heap.size, a, A, ca)])
            case first =>
              obtain ⟨a0, a1, a2⟩ := E2.out.cells w.heap.size a A ca (by simp)
              go_wp2_with fail
              refine (rquantified_any a.k a.i A a.ks.length ca _).mono ?_
              rintro e w3 ⟨rfl, hb3⟩
              have E3 := Lib.hid (E2.out.keep hb3)
              clear hb3 a0 a1 a2 E2
              have NB := Lib.hid (show namesB own a = (decide (a.k = 7 ∨ a.k = 10) && hasN own a.i) from rfl)
              by_cases hq : a.k = 7 ∨ a.k = 10
              · rw [decide_eq_true hq] at NB ⊢
                clear hq
                obtain ⟨a0, a1, a2⟩ := E3.out.cells w.heap.size a A ca (by simp)
                go_wp2_with fail
                refine (rhas_any own a.i _ UU.out).mono ?_
                rintro e w4 ⟨rfl, hw4⟩
                rw [← hw4]
                clear hw4
                go_wp2_with fail
                go_meet
                exact ⟨by rw [NB.out]; rfl, E3.out⟩
              · rw [decide_eq_false hq] at NB ⊢
                clear hq
                go_wp2_with fail
                go_meet
                exact ⟨by rw [NB.out]; rfl, E3.out⟩
            case rest =>
              obtain ⟨rfl, hE⟩ := hcut
              have E3 := Lib.hid hE
              clear hE E2
              go_upto_if 55 with fail
              go_cut [13] (fun v wc => v = .bool (may && !namesB own a) ∧ Env w wc [(w.heap.size + 3, u, U, cu), (w.heap.size + 2, t, T, ct), (w.heap.size + 1, b, B, cb), (w.heap.size, a, A, ca)])
              case first =>
                cases h1 : namesB own a with
                | true =>
                  have NX := Lib.hid (show (may && !namesB own a) = false by rw [h1]; simp)
                  go_wp2_with fail
                  go_meet
                  exact ⟨by rw [NX.out], E3.out⟩
                | false =>
                  have NX := Lib.hid (show (may && !namesB own a) = may by rw [h1]; simp)
                  go_wp2_with fail
                  go_meet
                  exact ⟨by rw [NX.out], E3.out⟩
              case rest =>
                obtain ⟨rfl, hE⟩ := hcut
                have E4 := Lib.hid hE
                clear hE E3
                obtain ⟨mm, hmm⟩ : ∃ mm, mm = (may && !namesB own a) := ⟨_, rfl⟩
                rw [← hmm] at SE ⊢
                clear hmm
                obtain ⟨a0, a1, a2⟩ := E4.out.cells w.heap.size a A ca (by simp)
                go_wp2_with fail
                clear a0 a1 a2
                go_loopw [59] (fun i wr => ∃ m : Nat, m ≤ a.ks.length ∧ i = .int .i64 m ∧ swpL t u own (a.ks.take m) (b.ks.take m) mm = true ∧ Env w wr [(w.heap.size + 3, u, U, cu), (w.heap.size + 2, t, T, ct), (w.heap.size + 1, b, B, cb), (w.heap.size, a, A, ca)]) (fun i _ => a.ks.length - (intOf i).toNat)
                case atStart => exact ⟨0, Nat.zero_le _, rfl, by simp [swpL_nil], E4.out⟩
                case round =>
                  obtain ⟨m, hm', rfl, hal, hE⟩ := hrel
                  have AL := Lib.hid hal
                  have E5 := Lib.hid hE
                  clear hal hE E4
                  by_cases hlt : m < a.ks.length
                  · have hltb : m < b.ks.length := by rw [← HN.out]; exact hlt
                    have TK := Lib.hid (swpL_take t u own mm a.ks b.ks m hlt hltb)
                    have FF := Lib.hid (swpL_false t u own mm a.ks b.ks m hlt hltb)
                    have kz := kid_sz a m hlt
                    obtain ⟨ba, oa, Aa, ka, eA, hla, p0, p1, p2, hka⟩ := (E5.out.tree w.heap.size a A ca (by simp)).kid m hlt
                    obtain ⟨bb, ob, Ab, kb, eB, hlb, q0, q1, q2, hkb⟩ := (E5.out.tree (w.heap.size + 1) b B cb (by simp)).kid m hltb
                    obtain ⟨qa, hqa⟩ : ∃ qa, qa = a.ks[m] := ⟨_, rfl⟩
                    obtain ⟨qb, hqb⟩ : ∃ qb, qb = b.ks[m] := ⟨_, rfl⟩
                    rw [← hqa] at p0 p1 p2 hka TK FF kz
                    rw [← hqb] at q0 q1 q2 hkb TK FF
                    subst eA eB
                    have KA := Lib.hid hka
                    have KB := Lib.hid hkb
                    have x2 := (E5.out.cells w.heap.size a (some ⟨ba, oa, none⟩) ca (by simp)).2.2
                    have y2 := (E5.out.cells (w.heap.size + 1) b (some ⟨bb, ob, none⟩) cb (by simp)).2.2
                    obtain ⟨t0, t1, t2⟩ := E5.out.cells (w.heap.size + 2) t T ct (by simp)
                    obtain ⟨u0, u1, u2⟩ := E5.out.cells (w.heap.size + 3) u U cu (by simp)
                    have BB : Below wr.drew.heap.size wr.drew wr.drew := Below.refl _ _
                    have SS := Lib.hid (fun (W : World) (h : Below wr.drew.heap.size wr.drew W) => And.intro (And.intro ((h.cell (block_lt_of_cell x2)).trans x2) ((h.cell (block_lt_of_cell y2)).trans y2)) (And.intro (And.intro ((h.cell hla).trans p0) (And.intro ((h.cell hla).trans p1) ((h.cell hla).trans p2))) (And.intro (And.intro ((h.cell hlb).trans q0) (And.intro ((h.cell hlb).trans q1) ((h.cell hlb).trans q2))) (And.intro (And.intro ((h.cell (block_lt_of_cell t0)).trans t0) (And.intro ((h.cell (block_lt_of_cell t1)).trans t1) ((h.cell (block_lt_of_cell t2)).trans t2))) (And.intro ((h.cell (block_lt_of_cell u0)).trans u0) (And.intro ((h.cell (block_lt_of_cell u1)).trans u1) ((h.cell (block_lt_of_cell u2)).trans u2)))))))
                    have hm0 : (0 : Int) ≤ (m : Int) := by omega
                    have hm1 : (m : Int) < (a.ks.length : Int) := by omega
                    have hm2 : (m : Int) < (b.ks.length : Int) := by omega
                    clear hqa hqb hka hkb p0 p1 p2 q0 q1 q2 x2 y2 t0 t1 t2 u0 u1 u2
                    go_wp2_with fail
                    go_region_held3 (fun w' => (w'.cell? ⟨w.heap.size, 2, none⟩ = some (.slice (some ⟨ba, oa, none⟩) a.ks.length ca) ∧ w'.cell? ⟨w.heap.size + 1, 2, none⟩ = some (.slice (some ⟨bb, ob, none⟩) b.ks.length cb)) ∧ ((w'.cell? ⟨ba, oa + m * 3, none⟩ = some (.int .i64 qa.k) ∧ w'.cell? ⟨ba, oa + m * 3 + 1, none⟩ = some (.int .i64 qa.i) ∧ w'.cell? ⟨ba, oa + m * 3 + 2, none⟩ = some (.slice Aa qa.ks.length ka)) ∧ ((w'.cell? ⟨bb, ob + m * 3, none⟩ = some (.int .i64 qb.k) ∧ w'.cell? ⟨bb, ob + m * 3 + 1, none⟩ = some (.int .i64 qb.i) ∧ w'.cell? ⟨bb, ob + m * 3 + 2, none⟩ = some (.slice Ab qb.ks.length kb)) ∧ ((w'.cell? ⟨w.heap.size + 2, 0, none⟩ = some (.int .i64 t.k) ∧ w'.cell? ⟨w.heap.size + 2, 1, none⟩ = some (.int .i64 t.i) ∧ w'.cell? ⟨w.heap.size + 2, 2, none⟩ = some (.slice T t.ks.length ct)) ∧ (w'.cell? ⟨w.heap.size + 3, 0, none⟩ = some (.int .i64 u.k) ∧ w'.cell? ⟨w.heap.size + 3, 1, none⟩ = some (.int .i64 u.i) ∧ w'.cell? ⟨w.heap.size + 3, 2, none⟩ = some (.slice U u.ks.length cu))))))
                      (exact SS.out _ BB)
                      (first
                        | (go_at_call 55; refine (IH.out qa qb Aa Ab T U ka kb ct cu mm _ (by omega) (KA.out.keep ((Below.refl _ _).drew) (Nat.le_refl _)) (KB.out.keep ((Below.refl _ _).drew) (Nat.le_refl _)) ((E5.out.keep ((Below.refl _ _).drew)).tree (w.heap.size + 2) t T ct (by simp)) ((E5.out.keep ((Below.refl _ _).drew)).tree (w.heap.size + 3) u U cu (by simp))).mono ?_; rintro e w6 ⟨rfl, hb6⟩; replace BB := BB.trans (hb6.mono BB.size); clear hb6))
                    have E6 := Lib.hid ((E5.out.keep ((Below.refl _ _).drew)).keep BB)
                    rw [AL.out, Bool.true_and] at TK
                    cases hr : swpT t u own qa qb mm with
                    | true =>
                      rw [hr] at TK
                      go_wp2_with fail
                      go_roundw
                      case rel => exact ⟨m + 1, by omega, by go_num, TK.out, E6.out⟩
                      case measure => simp [intOf]; omega
                    | false =>
                      have F := Lib.hid (FF.out hr)
                      go_wp2_with fail
                      go_ret
                      exact ⟨by rw [SE.out, F.out]; rfl, E6.out.below⟩
                  · obtain rfl : m = a.ks.length := by omega
                    have F := Lib.hid (show swpL t u own a.ks b.ks mm = true by have := AL.out; rw [List.take_length, HN.out, List.take_length] at this; exact this)
                    go_wp2_with fail
                    go_ret
                    exact ⟨by rw [SE.out, F.out]; rfl, E5.out.below⟩
end Go.Proofs.YtgnfbhemkombaaaGreat
namespace Go.Proofs.YtgnfbhemkombaaaGreat
open Go.RowKit
set_option linter.unusedVariables false
set_option linter.unusedSimpArgs false
/-- block p is a variable that holds the function wf -/
def FnBox (W : World) (p wf : Nat) : Prop := W.heap[p]? = some (.cells #[.func (.func wf) #[] #[]] 124 (0, 0))
theorem FnBox.cell {W : World} {p wf : Nat} (h : FnBox W p wf) : W.cell? ⟨p, 0, none⟩ = some (.func (.func wf) #[] #[]) := by
  unfold FnBox at h
  simp [World.cell?, h]
theorem FnBox.lt {W : World} {p wf : Nat} (h : FnBox W p wf) : p < W.heap.size := (Array.getElem?_eq_some_iff.1 h).1
theorem FnBox.keep {W W' : World} {p wf : Nat} (h : FnBox W p wf) (hb : Below W.heap.size W W') : FnBox W' p wf := (hb.block p h.lt).trans h
/-- what asks of a node -/
def Asks (wf : Nat) (wB : Int → Int → Nat → Bool) : Prop := ∀ (k i : Int) (A : Option Addr) (n c ar : Nat) (W : World), U64 ar → Calls Tryz.prog wf #[.agg #[.int .i64 k, .int .i64 i, .slice A n c], .int .u64 (ar : Int)] W fun e W' => e = .returned (.bool (wB k i ar)) ∧ Below W.heap.size W W'
def gOf (wB : Int → Int → Nat → Bool) (k i : Int) (ar acc : Nat) : Nat := if wB k i ar = true then withN acc i else acc
set_option maxHeartbeats 2000000 in
set_option maxRecDepth 100000 in
theorem ids1_any (wf p b : Nat) (hpb : p ≠ b) (wB : Int → Int → Nat → Bool) (hE : ∀ (args : Array Value) (w : World), Sem.run Tryz.prog (callFunc wf args) w = .ok (.enter wf args) w) (hW : Asks wf wB) : Finds 139 p b (gOf wB) (fun W => FnBox W p wf) := by
  intro k i A n c ar s W hUa hUs hS hI
  have hbw := hS.lt
  have hpw := hI.lt
  have hb0 : Below W.heap.size W (W.alloc (.cells #[.int .i64 k, .int .i64 i, .slice A n c] 24)) := (Below.refl _ _).alloc (Nat.le_refl _) _
  obtain ⟨y0, y1, y2⟩ := box_new W (.int .i64 k) (.int .i64 i) (.slice A n c) 24
  have fc := (hI.keep hb0).cell
  have S0 := Lib.hid (hS.keep hb0)
  have HB0 := Lib.hid hb0
  have BX := Lib.hid (Box3.new W (.int .i64 k) (.int .i64 i) (.slice A n c))
  have WC := Lib.hid (hW k i A n c ar (W.alloc (.cells #[.int .i64 k, .int .i64 i, .slice A n c] 24)) hUa)
  have HUs := Lib.hid hUs
  clear hb0 hS hI hW hUa hUs
  go_enter Tryz.func139, Tryz.ntmps139
  go_wp2_with fail
  refine WC.out.mono ?_
  rintro e w1 ⟨rfl, hb1⟩
  have S1 := Lib.hid (S0.out.keep hb1)
  have K1 := Lib.hid ((KeepX.of_below (b := b) HB0.out).trans (KeepX.of_below hb1))
  obtain ⟨z0, z1, z2⟩ := (BX.out.keep hb1 BX.out.lt).cells
  have sc := S1.out.cell
  have sf := S1.out.frozen
  clear hb1 y0 y1 y2 fc
  cases hw : wB k i ar with
  | true =>
    have G := Lib.hid (show gOf wB k i ar s = withN s i by unfold gOf; rw [if_pos hw])
    go_wp2_with fail
    refine (with_any s i _ HUs.out).mono ?_
    rintro e w9 ⟨rfl, hw9⟩
    rw [← hw9]
    clear hw9
    go_wp2_with fail
    go_end0
    exact ⟨rfl, by rw [G.out]; exact S1.out.set _, K1.out.trans (KeepX.set b 0 _ _)⟩
  | false =>
    have G := Lib.hid (show gOf wB k i ar s = s by unfold gOf; rw [if_neg (by rw [hw]; simp)])
    go_wp2_with fail
    go_end0
    exact ⟨rfl, by rw [G.out]; exact S1.out, K1.out⟩
theorem stay_gOf (wB : Int → Int → Nat → Bool) : StayU (gOf wB) := fun k i ar acc _ hc => by unfold gOf; split; exact withU _ hc; exact hc
set_option maxHeartbeats 2000000 in
set_option maxRecDepth 100000 in
theorem idsOf_any (wf : Nat) (wB : Int → Int → Nat → Bool) (hE : ∀ (args : Array Value) (w : World), Sem.run Tryz.prog (callFunc wf args) w = .ok (.enter wf args) w) (hW : Asks wf wB) (t : Tr) (A : Option Addr) (c : Nat) (w : World) (ht : IsT w w.heap.size t A c) :
    Calls Tryz.prog 125 #[.agg #[.int .i64 t.k, .int .i64 t.i, .slice A t.ks.length c], .func (.func wf) #[] #[]] w fun e w' => e = .returned (.tuple #[.int .u64 (valR (fun t => foldV (gOf wB) t 0 0) t : Nat), .int .i64 (rightN t : Nat)]) ∧ Below w.heap.size w w' := by
  have hmf : ∀ (fn : Fn) (first cap : Array Value) (w : World), (Instr.makeFunc fn first cap).run Tryz.prog w = .ok (.func fn first cap) w := fun _ _ _ _ => rfl
  have O0 := One.new ht
  have hb1 : Below (w.alloc (.cells #[.int .i64 t.k, .int .i64 t.i, .slice A t.ks.length c] 24)).heap.size (w.alloc (.cells #[.int .i64 t.k, .int .i64 t.i, .slice A t.ks.length c] 24)) ((w.alloc (.cells #[.int .i64 t.k, .int .i64 t.i, .slice A t.ks.length c] 24)).alloc (.cells #[.func (.func wf) #[] #[]] 124)) := (Below.refl _ _).alloc (Nat.le_refl _) _
  have O1 := Lib.hid (O0.keep hb1)
  have FB := Lib.hid (show FnBox ((w.alloc (.cells #[.int .i64 t.k, .int .i64 t.i, .slice A t.ks.length c] 24)).alloc (.cells #[.func (.func wf) #[] #[]] 124)) (w.heap.size + 1) wf by
    have := World.alloc_heap_new (w.alloc (.cells #[.int .i64 t.k, .int .i64 t.i, .slice A t.ks.length c] 24)) (.cells #[.func (.func wf) #[] #[]] 124)
    rw [World.size_alloc] at this
    exact this)
  have b0 := O1.out.b0
  have b1 := O1.out.b1
  have b2 := O1.out.b2
  have HE := Lib.hid hE
  have HW := Lib.hid hW
  clear hb1 O0 ht hE hW
  go_enter Tryz.func125, Tryz.ntmps125
  go_wp2_with fail
  refine (right_any t A c _ (by exact O1.out.tree)).mono ?_
  rintro e w1 ⟨rfl, hb2⟩
  have O2 := Lib.hid (O1.out.keep hb2)
  have FB2 := Lib.hid (FB.out.keep hb2)
  clear hb2 b0 b1 b2
  by_cases hr : rightN t = 0
  · have h0 : ((rightN t : Int) != 0) = false := by simp [hr]
    have V := Lib.hid (valR_ok (f := fun t => foldV (gOf wB) t 0 0) hr)
    have R := Lib.hid hr
    have ha : ∀ o, Below w1.heap.size w1 (w1.alloc o) := fun o => (Below.refl _ _).alloc (Nat.le_refl _) _
    have O3 := Lib.hid (fun o => O2.out.keep (ha o))
    have c0 := fun o => (O3.out o).b0
    have c1 := fun o => (O3.out o).b1
    have c2 := fun o => (O3.out o).b2
    have VC := Lib.hid (fvisit_any 139 (w.heap.size + 1) w1.heap.size w1.heap.size (gOf wB) (fun W => FnBox W (w.heap.size + 1) wf) (Nat.le_refl _) (stay_gOf wB) (fun X Y hk hx => (hk.block _ hx.lt (by have := FB2.out.lt; omega)).trans hx) (fun _ _ => by first | (go_simp; done) | rfl) (ids1_any wf (w.heap.size + 1) w1.heap.size (by have := FB2.out.lt; omega) wB HE.out HW.out) t.sz t A c 0 0 (w1.alloc (.cells #[.int .u64 0] 69)) (Nat.le_refl _) (O2.out.tree.keep (ha _) (Nat.le_refl _)) zero_U zero_U (World.alloc_heap_new w1 _) (FB2.out.keep (ha _)))
    have HA := Lib.hid ha
    have hz := O2.out.size
    clear hr ha
    go_wp2_with fail
    refine VC.out.mono ?_
    rintro e w3 ⟨rfl, hS, hK⟩
    have sc := hS.cell
    have BB := Lib.hid ((O3.out _).below.trans (hK.below (B := w.heap.size) (by omega) (by simp; omega)))
    clear hS hK
    go_wp2_with fail
    go_ret2
    exact ⟨by rw [V.out, R.out]; rfl, BB.out⟩
  · have h0 : ((rightN t : Int) != 0) = true := by rw [bne_iff_ne]; omega
    have V := Lib.hid (valR_bad (f := fun t => foldV (gOf wB) t 0 0) hr)
    clear hr
    go_wp2_with fail
    go_ret2
    exact ⟨by rw [V.out]; rfl, O2.out.below⟩
end Go.Proofs.YtgnfbhemkombaaaGreat
namespace Go.Proofs.YtgnfbhemkombaaaGreat
open Go.RowKit
set_option linter.unusedVariables false
set_option linter.unusedSimpArgs false
theorem right_shp {t : Tr} (h : rightN t = 0) : t.shp = true := by
  unfold rightN at h
  split at h
  · cases h
  · split at h
    · cases h
    · split at h
      · assumption
      · cases h
def wVars (k i : Int) (ar : Nat) : Bool := decide (k = 1) || decide (k = 7 ∨ k = 10)
def wBound (k i : Int) (ar : Nat) : Bool := decide (k = 7 ∨ k = 10)
theorem gOf_vars : gOf wVars = gVars := by
  funext k i ar acc
  unfold gOf wVars gVars
  by_cases h : k = 1 ∨ k = 7 ∨ k = 10
  · rw [if_pos h, if_pos (by rcases h with h | h <;> simp [h])]
  · rw [if_neg h, if_neg (by simp; omega)]
theorem gOf_bound : gOf wBound = gBound := by
  funext k i ar acc
  unfold gOf wBound gBound
  by_cases h : k = 7 ∨ k = 10
  · rw [if_pos h, if_pos (by simp [h])]
  · rw [if_neg h, if_neg (by simp; omega)]
theorem gOf_free : gOf freeB = gFree := by
  funext k i ar acc
  unfold gOf freeB gFree
  by_cases h : k = 1 ∧ hasN ar i = false
  · rw [if_pos h, if_pos (by simp [h.1, h.2])]
  · rw [if_neg h, if_neg (by simp; intro e; cases hh : hasN ar i with | true => rfl | false => exact absurd ⟨e, hh⟩ h)]
theorem val_vars (t : Tr) : valR (fun t => foldV (gOf wVars) t 0 0) t = valR varsT t := by
  unfold valR
  split
  · rename_i h; rw [gOf_vars]; exact code_vars t (right_shp h)
  · rfl
theorem val_bound (t : Tr) : valR (fun t => foldV (gOf wBound) t 0 0) t = valR boundT t := by
  unfold valR
  split
  · rename_i h; rw [gOf_bound]; exact code_bound t
  · rfl
theorem val_free (t : Tr) : valR (fun t => foldV (gOf freeB) t 0 0) t = valR freeT t := by
  unfold valR
  split
  · rename_i h; rw [gOf_free]; exact code_free t (right_shp h)
  · rfl
set_option maxHeartbeats 1000000 in
theorem vars1_any : Asks 127 wVars := by
  intro k i A n c ar W hU
  have hb0 : Below W.heap.size W (W.alloc (.cells #[.int .i64 k, .int .i64 i, .slice A n c] 24)) := (Below.refl _ _).alloc (Nat.le_refl _) _
  have HB0 := Lib.hid hb0
  have BX := Lib.hid (Box3.new W (.int .i64 k) (.int .i64 i) (.slice A n c))
  obtain ⟨y0, y1, y2⟩ := BX.out.cells
  clear hb0 hU
  go_enter Tryz.func127, Tryz.ntmps127
  go_wp2_with fail
  refine (isVar_any k i A n c _).mono ?_
  rintro e w1 ⟨rfl, hb1⟩
  have B1 := Lib.hid (HB0.out.trans (hb1.mono HB0.out.size))
  obtain ⟨z0, z1, z2⟩ := (BX.out.keep hb1 BX.out.lt).cells
  clear hb1 y0 y1 y2
  by_cases h1 : k = 1
  · rw [decide_eq_true h1]
    have F := Lib.hid (show wVars k i ar = true by unfold wVars; rw [decide_eq_true h1]; rfl)
    clear h1
    go_wp2_with fail
    go_ret
    exact ⟨by rw [F.out]; rfl, B1.out⟩
  · rw [decide_eq_false h1]
    have F := Lib.hid (show wVars k i ar = decide (k = 7 ∨ k = 10) by unfold wVars; rw [decide_eq_false h1]; rfl)
    clear h1
    go_wp2_with fail
    refine (isQuant_any k i A n c _).mono ?_
    rintro e w2 ⟨rfl, hb2⟩
    obtain ⟨d, hd⟩ : ∃ d, d = decide (k = 7 ∨ k = 10) := ⟨_, rfl⟩
    rw [← hd] at F ⊢
    clear hd
    go_wp2_with fail
    go_ret
    exact ⟨by rw [F.out]; rfl, B1.out.trans (hb2.mono B1.out.size)⟩
set_option maxHeartbeats 1000000 in
set_option maxRecDepth 100000 in
theorem vars_any (t : Tr) (A : Option Addr) (c : Nat) (w : World) (ht : IsT w w.heap.size t A c) :
    Calls Tryz.prog 109 #[.agg #[.int .i64 t.k, .int .i64 t.i, .slice A t.ks.length c]] w fun e w' => e = .returned (.tuple #[.int .u64 (valR varsT t : Nat), .int .i64 (rightN t : Nat)]) ∧ Below w.heap.size w w' := by
  have hmf : ∀ (fn : Fn) (first cap : Array Value) (w : World), (Instr.makeFunc fn first cap).run Tryz.prog w = .ok (.func fn first cap) w := fun _ _ _ _ => rfl
  have T0 := Lib.hid (One.new ht)
  obtain ⟨y0, y1, y2⟩ := And.intro T0.out.b0 (And.intro T0.out.b1 T0.out.b2)
  have IC := Lib.hid (idsOf_any 127 wVars (fun _ _ => by first | (go_simp; done) | rfl) vars1_any t A c _ T0.out.tree)
  rw [val_vars] at IC
  clear ht
  go_enter Tryz.func109, Tryz.ntmps109
  go_wp2_with fail
  refine IC.out.mono ?_
  rintro e w1 ⟨rfl, hb1⟩
  go_wp2_with fail
  go_ret2
  exact ⟨rfl, (T0.out.keep hb1).below⟩
set_option maxHeartbeats 1000000 in
set_option maxRecDepth 100000 in
theorem free_any (t : Tr) (A : Option Addr) (c : Nat) (w : World) (ht : IsT w w.heap.size t A c) :
    Calls Tryz.prog 107 #[.agg #[.int .i64 t.k, .int .i64 t.i, .slice A t.ks.length c]] w fun e w' => e = .returned (.tuple #[.int .u64 (valR freeT t : Nat), .int .i64 (rightN t : Nat)]) ∧ Below w.heap.size w w' := by
  have hmf : ∀ (fn : Fn) (first cap : Array Value) (w : World), (Instr.makeFunc fn first cap).run Tryz.prog w = .ok (.func fn first cap) w := fun _ _ _ _ => rfl
  have T0 := Lib.hid (One.new ht)
  obtain ⟨y0, y1, y2⟩ := And.intro T0.out.b0 (And.intro T0.out.b1 T0.out.b2)
  have IC := Lib.hid (idsOf_any 124 freeB (fun _ _ => by first | (go_simp; done) | rfl) (fun k i A n c ar W hU => isFree_any k i A n c ar W hU) t A c _ T0.out.tree)
  rw [val_free] at IC
  clear ht
  go_enter Tryz.func107, Tryz.ntmps107
  go_wp2_with fail
  refine IC.out.mono ?_
  rintro e w1 ⟨rfl, hb1⟩
  go_wp2_with fail
  go_ret2
  exact ⟨rfl, (T0.out.keep hb1).below⟩
theorem valR_U {f : Tr → Nat} (hf : ∀ t, f t < 2 ^ 64) (t : Tr) : U64 (valR f t) := by unfold valR; split; exact hf t; exact zero_U
set_option maxHeartbeats 1000000 in
set_option maxRecDepth 100000 in
theorem notFree_any (x : Int) (t : Tr) (A : Option Addr) (c : Nat) (w : World) (ht : IsT w w.heap.size t A c) :
    Calls Tryz.prog 85 #[.int .i64 x, .agg #[.int .i64 t.k, .int .i64 t.i, .slice A t.ks.length c]] w fun e w' => e = .returned (.tuple #[.bool (nfB x t), .int .i64 (nfE x t : Nat)]) ∧ Below w.heap.size w w' := by
  have T0 := Lib.hid (One.new ht)
  obtain ⟨y0, y1, y2⟩ := And.intro T0.out.b0 (And.intro T0.out.b1 T0.out.b2)
  have VU := Lib.hid (valR_U freeT_U t)
  clear ht
  by_cases hx : 0 ≤ x ∧ x ≤ 63
  · have FX := Lib.hid (show fitsB x = true by unfold fitsB; rw [decide_eq_true hx])
    have E := Lib.hid (show nfE x t = rightN t by unfold nfE; rw [if_pos hx])
    go_enter Tryz.func85, Tryz.ntmps85
    go_wp2_with fail
    refine (isNumber_any x _).mono ?_
    rintro e w9 ⟨rfl, hw9⟩
    rw [← hw9, FX.out]
    clear hw9
    go_wp2_with fail
    refine (free_any t A c _ (by exact T0.out.tree)).mono ?_
    rintro e w1 ⟨rfl, hb1⟩
    have T1 := Lib.hid (T0.out.keep hb1)
    clear hb1
    by_cases hr : rightN t = 0
    · have h0 : ((rightN t : Int) != 0) = false := by simp [hr]
      have V := Lib.hid (show nfB x t = !hasN (valR freeT t) x by unfold nfB; rw [if_pos hx, if_pos hr, valR_ok hr])
      have R := Lib.hid hr
      clear hr hx
      obtain ⟨fv, hfv⟩ : ∃ fv, fv = valR freeT t := ⟨_, rfl⟩
      rw [← hfv] at V VU ⊢
      clear hfv
      go_wp2_with fail
      refine (has_any fv x _ VU.out).mono ?_
      rintro e w9 ⟨rfl, hw9⟩
      rw [← hw9]
      clear hw9
      go_wp2_with fail
      go_ret2
      exact ⟨by rw [V.out, E.out, R.out]; rfl, T1.out.below⟩
    · have h0 : ((rightN t : Int) != 0) = true := by rw [bne_iff_ne]; omega
      have V := Lib.hid (show nfB x t = false by unfold nfB; rw [if_pos hx, if_neg hr])
      clear hr hx
      go_wp2_with fail
      go_ret2
      exact ⟨by rw [V.out, E.out]; rfl, T1.out.below⟩
  · have FX := Lib.hid (show fitsB x = false by unfold fitsB; rw [decide_eq_false hx])
    have E := Lib.hid (show nfE x t = 1 by unfold nfE; rw [if_neg hx])
    have V := Lib.hid (show nfB x t = false by unfold nfB; rw [if_neg hx])
    clear hx
    go_enter Tryz.func85, Tryz.ntmps85
    go_wp2_with fail
    refine (isNumber_any x _).mono ?_
    rintro e w9 ⟨rfl, hw9⟩
    rw [← hw9, FX.out]
    clear hw9
    go_wp2_with fail
    go_ret2
    exact ⟨by rw [V.out, E.out]; rfl, T0.out.below⟩
end Go.Proofs.YtgnfbhemkombaaaGreat
namespace Go.Proofs.YtgnfbhemkombaaaGreat
open Go.RowKit
set_option linter.unusedVariables false
set_option linter.unusedSimpArgs false
def wantTN (t : Tr) : Nat := if rightN t = 0 then (if termB t.k = true then 0 else 40) else rightN t
def wantFN (t : Tr) : Nat := if rightN t = 0 then (if termB t.k = true then 40 else 0) else rightN t
set_option maxHeartbeats 1000000 in
theorem rwantT_any (t : Tr) (A : Option Addr) (c : Nat) (w : World) (ht : IsT w w.heap.size t A c) :
    Calls Tryz.prog 135 #[.agg #[.int .i64 t.k, .int .i64 t.i, .slice A t.ks.length c]] w fun e w' => e = .returned (.int .i64 (wantTN t : Nat)) ∧ Below w.heap.size w w' := by
  have T0 := Lib.hid (One.new ht)
  obtain ⟨y0, y1, y2⟩ := And.intro T0.out.b0 (And.intro T0.out.b1 T0.out.b2)
  clear ht
  go_enter Tryz.func135, Tryz.ntmps135
  go_wp2_with fail
  refine (rright_any t A c _ (by exact T0.out.tree)).mono ?_
  rintro e w1 ⟨rfl, hb1⟩
  have T1 := Lib.hid (T0.out.keep hb1)
  obtain ⟨z0, z1, z2⟩ := And.intro T1.out.b0 (And.intro T1.out.b1 T1.out.b2)
  clear hb1 y0 y1 y2
  by_cases hr : rightN t = 0
  · have h0 : ((rightN t : Int) != 0) = false := by simp [hr]
    have R := Lib.hid (show wantTN t = if termB t.k = true then 0 else 40 by unfold wantTN; rw [if_pos hr])
    clear hr
    go_wp2_with fail
    refine (term_any t.k t.i A t.ks.length c _).mono ?_
    rintro e w2 ⟨rfl, hb2⟩
    have T2 := Lib.hid (T1.out.keep hb2)
    clear hb2
    cases ht : termB t.k with
    | true =>
      rw [ht] at R
      go_wp2_with fail
      go_ret
      exact ⟨ret_intw (by rw [R.out]; rfl), T2.out.below⟩
    | false =>
      rw [ht] at R
      go_wp2_with fail
      go_ret
      exact ⟨ret_intw (by rw [R.out]; rfl), T2.out.below⟩
  · have h0 : ((rightN t : Int) != 0) = true := by rw [bne_iff_ne]; omega
    have R := Lib.hid (show wantTN t = rightN t by unfold wantTN; rw [if_neg hr])
    clear hr
    go_wp2_with fail
    refine (rright_any t A c _ (by exact T1.out.tree)).mono ?_
    rintro e w2 ⟨rfl, hb2⟩
    go_wp2_with fail
    go_ret
    exact ⟨ret_intw (by rw [R.out]), (T1.out.keep hb2).below⟩
set_option maxHeartbeats 1000000 in
theorem rwantF_any (t : Tr) (A : Option Addr) (c : Nat) (w : World) (ht : IsT w w.heap.size t A c) :
    Calls Tryz.prog 19 #[.agg #[.int .i64 t.k, .int .i64 t.i, .slice A t.ks.length c]] w fun e w' => e = .returned (.int .i64 (wantFN t : Nat)) ∧ Below w.heap.size w w' := by
  have T0 := Lib.hid (One.new ht)
  obtain ⟨y0, y1, y2⟩ := And.intro T0.out.b0 (And.intro T0.out.b1 T0.out.b2)
  clear ht
  go_enter Tryz.func19, Tryz.ntmps19
  go_wp2_with fail
  refine (rright_any t A c _ (by exact T0.out.tree)).mono ?_
  rintro e w1 ⟨rfl, hb1⟩
  have T1 := Lib.hid (T0.out.keep hb1)
  obtain ⟨z0, z1, z2⟩ := And.intro T1.out.b0 (And.intro T1.out.b1 T1.out.b2)
  clear hb1 y0 y1 y2
  by_cases hr : rightN t = 0
  · have h0 : ((rightN t : Int) != 0) = false := by simp [hr]
    have R := Lib.hid (show wantFN t = if termB t.k = true then 40 else 0 by unfold wantFN; rw [if_pos hr])
    clear hr
    go_wp2_with fail
    refine (term_any t.k t.i A t.ks.length c _).mono ?_
    rintro e w2 ⟨rfl, hb2⟩
    have T2 := Lib.hid (T1.out.keep hb2)
    clear hb2
    cases ht : termB t.k with
    | true =>
      rw [ht] at R
      go_wp2_with fail
      go_ret
      exact ⟨ret_intw (by rw [R.out]; rfl), T2.out.below⟩
    | false =>
      rw [ht] at R
      go_wp2_with fail
      go_ret
      exact ⟨ret_intw (by rw [R.out]; rfl), T2.out.below⟩
  · have h0 : ((rightN t : Int) != 0) = true := by rw [bne_iff_ne]; omega
    have R := Lib.hid (show wantFN t = rightN t by unfold wantFN; rw [if_neg hr])
    clear hr
    go_wp2_with fail
    refine (rright_any t A c _ (by exact T1.out.tree)).mono ?_
    rintro e w2 ⟨rfl, hb2⟩
    go_wp2_with fail
    go_ret
    exact ⟨ret_intw (by rw [R.out]), (T1.out.keep hb2).below⟩
/-- the errors of a term, a variable, an expression -/
def askN (x : Int) (t a : Tr) : Nat := if 0 ≤ x ∧ x ≤ 63 then (if firstN t a = 0 then wantTN t else firstN t a) else 1
theorem firstN_le (a b : Tr) : firstN a b ≤ 22 := by unfold firstN; split; exact rightN_le a; exact rightN_le b
set_option maxHeartbeats 1000000 in
set_option maxRecDepth 100000 in
theorem rasked_any (t a : Tr) (x : Int) (A A' : Option Addr) (c c' : Nat) (w : World) (ht : IsT w w.heap.size t A c) (ha : IsT w w.heap.size a A' c') :
    Calls Tryz.prog 113 #[.agg #[.int .i64 t.k, .int .i64 t.i, .slice A t.ks.length c], .int .i64 x, .agg #[.int .i64 a.k, .int .i64 a.i, .slice A' a.ks.length c']] w fun e w' => e = .returned (.int .i64 (askN x t a : Nat)) ∧ Below w.heap.size w w' := by
  have T0 := Lib.hid (two_start ht ha)
  have hl := firstN_le t a
  clear ht ha
  by_cases hx : 0 ≤ x ∧ x ≤ 63
  · have a1 : ¬ x < 0 := by omega
    have a2 : ¬ 63 < x := by omega
    have b0 := T0.out.b0
    have b1 := T0.out.b1
    have b2 := T0.out.b2
    have d0 := T0.out.d0
    have d1 := T0.out.d1
    have d2 := T0.out.d2
    go_enter Tryz.func113, Tryz.ntmps113
    go_wp2_with fail
    refine (first_any t a A A' c c' _ (by exact T0.out.ta) (by exact T0.out.tb)).mono ?_
    rintro e w1 ⟨rfl, hb1⟩
    have T1 := Lib.hid (T0.out.keep hb1)
    clear hb1 b0 b1 b2 d0 d1 d2
    have b0 := T1.out.b0
    have b1 := T1.out.b1
    have b2 := T1.out.b2
    by_cases hf : firstN t a = 0
    · have h0 : ((firstN t a : Int) != 0) = false := by simp [hf]
      have R := Lib.hid (show askN x t a = wantTN t by unfold askN; rw [if_pos hx, if_pos hf])
      clear hf hx
      go_wp2_with fail
      refine (rwantT_any t A c _ (by exact T1.out.ta)).mono ?_
      rintro e w2 ⟨rfl, hb2⟩
      go_wp2_with fail
      go_ret
      exact ⟨ret_intw (by rw [R.out]), (T1.out.keep hb2).below⟩
    · have h0 : ((firstN t a : Int) != 0) = true := by rw [bne_iff_ne]; omega
      have R := Lib.hid (show askN x t a = firstN t a by unfold askN; rw [if_pos hx, if_neg hf])
      clear hf hx
      go_wp2_with fail
      go_ret
      exact ⟨ret_intw (by rw [R.out]), T1.out.below⟩
  · have R := Lib.hid (show askN x t a = 1 by unfold askN; rw [if_neg hx])
    by_cases a1 : x < 0
    · clear hx
      go_enter Tryz.func113, Tryz.ntmps113
      go_wp2_with fail
      go_ret
      exact ⟨ret_intw (by rw [R.out]; rfl), T0.out.below⟩
    · have a2 : 63 < x := by omega
      clear hx
      go_enter Tryz.func113, Tryz.ntmps113
      go_wp2_with fail
      go_ret
      exact ⟨ret_intw (by rw [R.out]; rfl), T0.out.below⟩
/-- what Caught answers -/
def catV (x : Int) (t a : Tr) : Nat := if askN x t a = 0 then catT (varsT t) x a else 0
set_option maxHeartbeats 1000000 in
set_option maxRecDepth 100000 in
theorem rcaughtf_any (t a : Tr) (x : Int) (A A' : Option Addr) (c c' : Nat) (w : World) (ht : IsT w w.heap.size t A c) (ha : IsT w w.heap.size a A' c') :
    Calls Tryz.prog 89 #[.agg #[.int .i64 t.k, .int .i64 t.i, .slice A t.ks.length c], .int .i64 x, .agg #[.int .i64 a.k, .int .i64 a.i, .slice A' a.ks.length c']] w fun e w' => e = .returned (.tuple #[.int .u64 (catV x t a : Nat), .int .i64 (askN x t a : Nat)]) ∧ Below w.heap.size w w' := by
  have T0 := Lib.hid (two_start ht ha)
  have b0 := T0.out.b0
  have b1 := T0.out.b1
  have b2 := T0.out.b2
  have d0 := T0.out.d0
  have d1 := T0.out.d1
  have d2 := T0.out.d2
  have VU := Lib.hid (varsT_U t)
  clear ht ha
  go_enter Tryz.func89, Tryz.ntmps89
  go_wp2_with fail
  refine (rasked_any t a x A A' c c' _ (by exact T0.out.ta) (by exact T0.out.tb)).mono ?_
  rintro e w1 ⟨rfl, hb1⟩
  have T1 := Lib.hid (T0.out.keep hb1)
  clear hb1 b0 b1 b2 d0 d1 d2
  have b0 := T1.out.b0
  have b1 := T1.out.b1
  have b2 := T1.out.b2
  have d0 := T1.out.d0
  have d1 := T1.out.d1
  have d2 := T1.out.d2
  by_cases hf : askN x t a = 0
  · have h0 : ((askN x t a : Int) != 0) = false := by simp [hf]
    have R := Lib.hid (show catV x t a = catT (varsT t) x a by unfold catV; rw [if_pos hf])
    have Z := Lib.hid hf
    clear hf
    have T' := T1.out.keep (Below.refl _ _).drew
    clear b0 b1 b2 d0 d1 d2
    go_wp2_with fail
    go_region_held3 (fun w' => w'.cell? ⟨w.heap.size, 0, none⟩ = some (.int .i64 t.k) ∧ w'.cell? ⟨w.heap.size, 1, none⟩ = some (.int .i64 t.i) ∧ w'.cell? ⟨w.heap.size, 2, none⟩ = some (.slice A t.ks.length c) ∧ w'.cell? ⟨w.heap.size + 1, 0, none⟩ = some (.int .i64 a.k) ∧ w'.cell? ⟨w.heap.size + 1, 1, none⟩ = some (.int .i64 a.i) ∧ w'.cell? ⟨w.heap.size + 1, 2, none⟩ = some (.slice A' a.ks.length c'))
      (exact ⟨T'.b0, T'.b1, T'.b2, T'.d0, T'.d1, T'.d2⟩)
      (first
        | (go_at_call 54; refine (rofvars_any t A c _ (by exact T'.ta)).mono ?_; rintro e w3 ⟨rfl, hb3⟩; replace T' := T'.keep hb3; clear hb3)
        | (go_at_call 114; refine (rcaught_any (varsT t) x VU.out a.sz a A' c' _ (Nat.le_refl _) (by exact T'.tb)).mono ?_; rintro e w3 ⟨rfl, hb3⟩; replace T' := T'.keep hb3; clear hb3))
    all_goals (go_wp2_with fail)
    go_ret2
    exact ⟨by rw [R.out, Z.out]; rfl, T'.below⟩
  · have h0 : ((askN x t a : Int) != 0) = true := by rw [bne_iff_ne]; omega
    have R := Lib.hid (show catV x t a = 0 by unfold catV; rw [if_neg hf])
    clear hf
    go_wp2_with fail
    go_ret2
    exact ⟨by rw [R.out]; rfl, T1.out.below⟩
/-- what FreeFor answers -/
def ffB (x : Int) (t a : Tr) : Bool := decide (askN x t a = 0) && decide (catV x t a = 0)
set_option maxHeartbeats 1000000 in
set_option maxRecDepth 100000 in
theorem rfreefor_any (t a : Tr) (x : Int) (A A' : Option Addr) (c c' : Nat) (w : World) (ht : IsT w w.heap.size t A c) (ha : IsT w w.heap.size a A' c') :
    Calls Tryz.prog 51 #[.agg #[.int .i64 t.k, .int .i64 t.i, .slice A t.ks.length c], .int .i64 x, .agg #[.int .i64 a.k, .int .i64 a.i, .slice A' a.ks.length c']] w fun e w' => e = .returned (.tuple #[.bool (ffB x t a), .int .i64 (askN x t a : Nat)]) ∧ Below w.heap.size w w' := by
  have T0 := Lib.hid (two_start ht ha)
  have b0 := T0.out.b0
  have b1 := T0.out.b1
  have b2 := T0.out.b2
  have d0 := T0.out.d0
  have d1 := T0.out.d1
  have d2 := T0.out.d2
  clear ht ha
  go_enter Tryz.func51, Tryz.ntmps51
  go_wp2_with fail
  refine (rcaughtf_any t a x A A' c c' _ (by exact T0.out.ta) (by exact T0.out.tb)).mono ?_
  rintro e w1 ⟨rfl, hb1⟩
  have T1 := Lib.hid (T0.out.keep hb1)
  clear hb1 b0 b1 b2 d0 d1 d2
  by_cases hf : askN x t a = 0
  · have h0 : ((askN x t a : Int) == 0) = true := by simp [hf]
    have Z := Lib.hid hf
    by_cases hc : catV x t a = 0
    · have h1 : ((catV x t a : Int) == 0) = true := by simp [hc]
      have R := Lib.hid (show ffB x t a = true by unfold ffB; rw [decide_eq_true hf, decide_eq_true hc]; rfl)
      clear hf hc
      go_wp2_with fail
      go_ret2
      exact ⟨by rw [R.out]; rfl, T1.out.below⟩
    · have h1 : ((catV x t a : Int) == 0) = false := by rw [beq_eq_false_iff_ne]; omega
      have R := Lib.hid (show ffB x t a = false by unfold ffB; rw [decide_eq_false hc]; simp)
      clear hf hc
      go_wp2_with fail
      go_ret2
      exact ⟨by rw [R.out]; rfl, T1.out.below⟩
  · have h0 : ((askN x t a : Int) == 0) = false := by rw [beq_eq_false_iff_ne]; omega
    have R := Lib.hid (show ffB x t a = false by unfold ffB; rw [decide_eq_false hf]; rfl)
    clear hf
    go_wp2_with fail
    go_ret2
    exact ⟨by rw [R.out]; rfl, T1.out.below⟩
end Go.Proofs.YtgnfbhemkombaaaGreat
namespace Go.Proofs.YtgnfbhemkombaaaGreat
open Go.RowKit
set_option linter.unusedVariables false
set_option linter.unusedSimpArgs false
/-- block p is a variable that holds the number x -/
def IntBox (W : World) (p : Nat) (x : Int) : Prop := W.heap[p]? = some (.cells #[.int .i64 x] 3 (0, 0))
theorem IntBox.cell {W : World} {p : Nat} {x : Int} (h : IntBox W p x) : W.cell? ⟨p, 0, none⟩ = some (.int .i64 x) := by
  unfold IntBox at h
  simp [World.cell?, h]
theorem IntBox.lt {W : World} {p : Nat} {x : Int} (h : IntBox W p x) : p < W.heap.size := (Array.getElem?_eq_some_iff.1 h).1
theorem IntBox.keep {W W' : World} {p : Nat} {x : Int} (h : IntBox W p x) (hb : Below W.heap.size W W') : IntBox W' p x := (hb.block p h.lt).trans h
theorem or_walk64 (a b : Nat) (ha : U64 a) (hb : U64 b) : bits .or .u64 (a : Int) (b : Int) = ((a ||| b : Nat) : Int) := or64 a b ha hb
theorem and_walk64 (a b : Nat) (ha : U64 a) (hb : U64 b) : bits .and .u64 (a : Int) (b : Int) = ((a &&& b : Nat) : Int) := and64 a b ha hb
theorem gCatch_eq (x k i : Int) (ar acc : Nat) : gCatch x k i ar acc = if freeB k i ar = true ∧ i = x then acc ||| ar else acc := by
  unfold gCatch freeB
  by_cases h : k = 1 ∧ hasN ar i = false ∧ i = x
  · rw [if_pos h, if_pos ⟨by simp [h.1, h.2.1], h.2.2⟩]
  · rw [if_neg h, if_neg]
    rintro ⟨a, b⟩
    simp at a
    exact h ⟨a.1, a.2, b⟩
set_option maxHeartbeats 2000000 in
set_option maxRecDepth 100000 in
theorem caught1_any (p b : Nat) (hpb : p ≠ b) (x : Int) : Finds 123 p b (gCatch x) (fun W => IntBox W p x) := by
  intro k i A n c ar s W hUa hUs hS hI
  have hbw := hS.lt
  have hpw := hI.lt
  have hb0 : Below W.heap.size W (W.alloc (.cells #[.int .i64 k, .int .i64 i, .slice A n c] 24)) := (Below.refl _ _).alloc (Nat.le_refl _) _
  obtain ⟨y0, y1, y2⟩ := box_new W (.int .i64 k) (.int .i64 i) (.slice A n c) 24
  have S0 := Lib.hid (hS.keep hb0)
  have I0 := Lib.hid (hI.keep hb0)
  have HB0 := Lib.hid hb0
  have BX := Lib.hid (Box3.new W (.int .i64 k) (.int .i64 i) (.slice A n c))
  have HUa := Lib.hid hUa
  have OW := Lib.hid (or_walk64 s ar hUs hUa)
  clear hb0 hS hI hUa hUs
  go_enter Tryz.func123, Tryz.ntmps123
  go_wp2_with fail
  refine (isFree_any k i A n c ar _ HUa.out).mono ?_
  rintro e w1 ⟨rfl, hb1⟩
  have S1 := Lib.hid (S0.out.keep hb1)
  have K1 := Lib.hid ((KeepX.of_below (b := b) HB0.out).trans (KeepX.of_below hb1))
  obtain ⟨z0, z1, z2⟩ := (BX.out.keep hb1 BX.out.lt).cells
  have sc := S1.out.cell
  have sf := S1.out.frozen
  have ic := (I0.out.keep hb1).cell
  clear hb1 y0 y1 y2
  have G := Lib.hid (gCatch_eq x k i ar s)
  cases hw : freeB k i ar with
  | true =>
    by_cases hx : i = x
    · have hx' : (i == x) = true := by simp [hx]
      have G1 := Lib.hid (show gCatch x k i ar s = s ||| ar by rw [G.out, if_pos ⟨hw, hx⟩])
      have ow := OW.out
      clear hx G
      go_wp2_with fail
      go_end0
      refine ⟨rfl, ?_, ?_⟩
      · rw [G1.out]
        first | exact S1.out.set _ | (rw [ow]; exact S1.out.set _)
      · exact K1.out.trans (KeepX.set b 0 _ _)
    · have hx' : (i == x) = false := by simpa using hx
      have G1 := Lib.hid (show gCatch x k i ar s = s by rw [G.out, if_neg (fun h => hx h.2)])
      clear hx G
      go_wp2_with fail
      go_end0
      exact ⟨rfl, by rw [G1.out]; exact S1.out, K1.out⟩
  | false =>
    have G1 := Lib.hid (show gCatch x k i ar s = s by rw [G.out, if_neg (fun h => by rw [hw] at h; cases h.1)])
    clear G
    go_wp2_with fail
    go_end0
    exact ⟨rfl, by rw [G1.out]; exact S1.out, K1.out⟩
/-- is it right, and a term? as the code asks -/
def isTB (t : Tr) : Bool := decide (sortN t.k = 1) && decide (rightN t = 0)
set_option maxHeartbeats 1000000 in
theorem isTerm_any (t : Tr) (A : Option Addr) (c : Nat) (w : World) (ht : IsT w w.heap.size t A c) :
    Calls Tryz.prog 34 #[.agg #[.int .i64 t.k, .int .i64 t.i, .slice A t.ks.length c]] w fun e w' => e = .returned (.bool (isTB t)) ∧ Below w.heap.size w w' := by
  have T0 := Lib.hid (One.new ht)
  obtain ⟨y0, y1, y2⟩ := And.intro T0.out.b0 (And.intro T0.out.b1 T0.out.b2)
  clear ht
  go_enter Tryz.func34, Tryz.ntmps34
  go_wp2_with fail
  refine (sortOf_any t.k t.i A t.ks.length c _).mono ?_
  rintro e w1 ⟨rfl, hb1⟩
  have T1 := Lib.hid (T0.out.keep hb1)
  obtain ⟨z0, z1, z2⟩ := And.intro T1.out.b0 (And.intro T1.out.b1 T1.out.b2)
  clear hb1 y0 y1 y2
  by_cases hs : sortN t.k = 1
  · have h1 : (sortN t.k == 1) = true := by simp [hs]
    have F := Lib.hid (show isTB t = decide (rightN t = 0) by unfold isTB; rw [decide_eq_true hs]; rfl)
    clear hs
    go_wp2_with fail
    refine (right_any t A c _ (by exact T1.out.tree)).mono ?_
    rintro e w2 ⟨rfl, hb2⟩
    have T2 := Lib.hid (T1.out.keep hb2)
    clear hb2
    by_cases hr : rightN t = 0
    · have h0 : ((rightN t : Int) == 0) = true := by simp [hr]
      have F2 := Lib.hid (show isTB t = true by rw [F.out, decide_eq_true hr])
      clear hr
      go_wp2_with fail
      go_ret
      exact ⟨by rw [F2.out]; rfl, T2.out.below⟩
    · have h0 : ((rightN t : Int) == 0) = false := by rw [beq_eq_false_iff_ne]; omega
      have F2 := Lib.hid (show isTB t = false by rw [F.out, decide_eq_false hr])
      clear hr
      go_wp2_with fail
      go_ret
      exact ⟨by rw [F2.out]; rfl, T2.out.below⟩
  · have h1 : (sortN t.k == 1) = false := by simpa using hs
    have F := Lib.hid (show isTB t = false by unfold isTB; rw [decide_eq_false hs]; rfl)
    clear hs
    go_wp2_with fail
    go_ret
    exact ⟨by rw [F.out]; rfl, T1.out.below⟩
/-- what Caught was handed, boxed, in a later world -/
structure Cau (w wr : World) (t a : Tr) (x : Int) (A A' : Option Addr) (c c' : Nat) : Prop where
  b0 : wr.cell? ⟨w.heap.size, 0, none⟩ = some (.int .i64 t.k)
  b1 : wr.cell? ⟨w.heap.size, 1, none⟩ = some (.int .i64 t.i)
  b2 : wr.cell? ⟨w.heap.size, 2, none⟩ = some (.slice A t.ks.length c)
  xb : IntBox wr (w.heap.size + 1) x
  d0 : wr.cell? ⟨w.heap.size + 1 + 1, 0, none⟩ = some (.int .i64 a.k)
  d1 : wr.cell? ⟨w.heap.size + 1 + 1, 1, none⟩ = some (.int .i64 a.i)
  d2 : wr.cell? ⟨w.heap.size + 1 + 1, 2, none⟩ = some (.slice A' a.ks.length c')
  ta : IsT wr wr.heap.size t A c
  tb : IsT wr wr.heap.size a A' c'
  below : Below w.heap.size w wr
  size : w.heap.size + 3 ≤ wr.heap.size
theorem Cau.new {w : World} {t a : Tr} {A A' : Option Addr} {c c' : Nat} (x : Int) (ht : IsT w w.heap.size t A c) (ha : IsT w w.heap.size a A' c') :
    Cau w (((w.alloc (.cells #[.int .i64 t.k, .int .i64 t.i, .slice A t.ks.length c] 24)).alloc (.cells #[.int .i64 x] 3)).alloc (.cells #[.int .i64 a.k, .int .i64 a.i, .slice A' a.ks.length c'] 24)) t a x A A' c c' := by
  have h1 : Below w.heap.size w (((w.alloc (.cells #[.int .i64 t.k, .int .i64 t.i, .slice A t.ks.length c] 24)).alloc (.cells #[.int .i64 x] 3)).alloc (.cells #[.int .i64 a.k, .int .i64 a.i, .slice A' a.ks.length c'] 24)) := (((Below.refl _ _).alloc (Nat.le_refl _) _).alloc (by simp) _).alloc (by simp; omega) _
  have h2 : Below (w.heap.size + 1) (w.alloc (.cells #[.int .i64 t.k, .int .i64 t.i, .slice A t.ks.length c] 24)) (((w.alloc (.cells #[.int .i64 t.k, .int .i64 t.i, .slice A t.ks.length c] 24)).alloc (.cells #[.int .i64 x] 3)).alloc (.cells #[.int .i64 a.k, .int .i64 a.i, .slice A' a.ks.length c'] 24)) := ((Below.refl _ _).alloc (by simp) _).alloc (by simp) _
  obtain ⟨f0, f1, f2⟩ := (Box3.keep (Box3.new w (.int .i64 t.k) (.int .i64 t.i) (.slice A t.ks.length c)) h2 (Nat.lt_succ_self _)).cells
  have e1 := World.alloc_heap_new (w.alloc (.cells #[.int .i64 t.k, .int .i64 t.i, .slice A t.ks.length c] 24)) (.cells #[.int .i64 x] 3)
  rw [World.size_alloc] at e1
  have e3 := Box3.new ((w.alloc (.cells #[.int .i64 t.k, .int .i64 t.i, .slice A t.ks.length c] 24)).alloc (.cells #[.int .i64 x] 3)) (.int .i64 a.k) (.int .i64 a.i) (.slice A' a.ks.length c')
  rw [World.size_alloc, World.size_alloc] at e3
  obtain ⟨g0, g1, g2⟩ := e3.cells
  refine ⟨f0, f1, f2, ?_, g0, g1, g2, ht.keep h1 h1.size, ha.keep h1 h1.size, h1, by simp⟩
  exact (Below.heap_alloc _ _ _ (by simp)).trans e1
theorem Cau.keep {w wr w1 : World} {t a : Tr} {x : Int} {A A' : Option Addr} {c c' : Nat} (h : Cau w wr t a x A A' c c') (hb : Below wr.heap.size wr w1) : Cau w w1 t a x A A' c c' := by
  have e : ∀ {p : Addr} {v : Value}, wr.cell? p = some v → w1.cell? p = some v := fun hv => (hb.cell (block_lt_of_cell hv)).trans hv
  exact ⟨e h.b0, e h.b1, e h.b2, h.xb.keep hb, e h.d0, e h.d1, e h.d2, h.ta.keep hb hb.size, h.tb.keep hb hb.size, h.below.trans (hb.mono h.below.size), Nat.le_trans h.size hb.size⟩
theorem isTB_term {t : Tr} (hr : rightN t = 0) : isTB t = termB t.k := by
  unfold isTB
  rw [decide_eq_true hr, Bool.and_true]
  cases ht : termB t.k with
  | true => rw [decide_eq_true ((sort_term t.k).2 ht)]
  | false => rw [decide_eq_false (fun e => by rw [(sort_term t.k).1 e] at ht; cases ht)]
set_option maxHeartbeats 4000000 in
set_option maxRecDepth 100000 in
theorem caught_any (t a : Tr) (x : Int) (A A' : Option Addr) (c c' : Nat) (w : World) (ht : IsT w w.heap.size t A c) (ha : IsT w w.heap.size a A' c') :
    Calls Tryz.prog 105 #[.agg #[.int .i64 t.k, .int .i64 t.i, .slice A t.ks.length c], .int .i64 x, .agg #[.int .i64 a.k, .int .i64 a.i, .slice A' a.ks.length c']] w fun e w' => e = .returned (.tuple #[.int .u64 (catV x t a : Nat), .int .i64 (askN x t a : Nat)]) ∧ Below w.heap.size w w' := by
  have hmf : ∀ (fn : Fn) (first cap : Array Value) (w : World), (Instr.makeFunc fn first cap).run Tryz.prog w = .ok (.func fn first cap) w := fun _ _ _ _ => rfl
  have T0 := Lib.hid (Cau.new x ht ha)
  have b0 := T0.out.b0
  have b1 := T0.out.b1
  have b2 := T0.out.b2
  have xc := T0.out.xb.cell
  have d0 := T0.out.d0
  have d1 := T0.out.d1
  have d2 := T0.out.d2
  clear ht ha
  by_cases hx : 0 ≤ x ∧ x ≤ 63
  · have FX := Lib.hid (show fitsB x = true by unfold fitsB; rw [decide_eq_true hx])
    go_enter Tryz.func105, Tryz.ntmps105
    go_wp2_with fail
    refine (isNumber_any x _).mono ?_
    rintro e w9 ⟨rfl, hw9⟩
    rw [← hw9, FX.out]
    clear hw9
    go_wp2_with fail
    refine (vars_any t A c _ (by exact T0.out.ta)).mono ?_
    rintro e w1 ⟨rfl, hb1⟩
    have T1 := Lib.hid (T0.out.keep hb1)
    clear hb1 b0 b1 b2 xc d0 d1 d2
    have b0 := T1.out.b0
    have b1 := T1.out.b1
    have b2 := T1.out.b2
    have xc := T1.out.xb.cell
    have d0 := T1.out.d0
    have d1 := T1.out.d1
    have d2 := T1.out.d2
    by_cases hr : rightN t = 0
    · have h0 : ((rightN t : Int) != 0) = false := by simp [hr]
      have VV := Lib.hid (show valR varsT t = varsT t from valR_ok hr)
      have f1 : firstN t a = rightN a := by unfold firstN; rw [if_neg (by simp [hr])]
      have TT := Lib.hid (isTB_term hr)
      go_wp2_with fail
      refine (right_any a A' c' _ (by exact T1.out.tb)).mono ?_
      rintro e w2 ⟨rfl, hb2⟩
      have T2 := Lib.hid (T1.out.keep hb2)
      clear hb2 b0 b1 b2 xc d0 d1 d2
      have b0 := T2.out.b0
      have b1 := T2.out.b1
      have b2 := T2.out.b2
      have xc := T2.out.xb.cell
      have d0 := T2.out.d0
      have d1 := T2.out.d1
      have d2 := T2.out.d2
      by_cases hra : rightN a = 0
      · have h1 : ((rightN a : Int) != 0) = false := by simp [hra]
        go_wp2_with fail
        refine (isTerm_any t A c _ (by exact T2.out.ta)).mono ?_
        rintro e w3 ⟨rfl, hb3⟩
        rw [TT.out]
        have T3 := Lib.hid (T2.out.keep hb3)
        clear hb3 b0 b1 b2 xc d0 d1 d2
        have b0 := T3.out.b0
        have b1 := T3.out.b1
        have b2 := T3.out.b2
        have xc := T3.out.xb.cell
        have d0 := T3.out.d0
        have d1 := T3.out.d1
        have d2 := T3.out.d2
        cases htk : termB t.k with
        | false =>
          have AE := Lib.hid (show askN x t a = 40 by unfold askN; rw [if_pos hx, f1, if_pos hra]; unfold wantTN; rw [if_pos hr, htk]; rfl)
          have CE := Lib.hid (show catV x t a = 0 by unfold catV; rw [AE.out, if_neg (by omega)])
          clear hr hra hx
          go_wp2_with fail
          go_ret2
          exact ⟨by rw [AE.out, CE.out]; rfl, T3.out.below⟩
        | true =>
          have AE := Lib.hid (show askN x t a = 0 by unfold askN; rw [if_pos hx, f1, if_pos hra]; unfold wantTN; rw [if_pos hr, htk]; rfl)
          have CE := Lib.hid (show catV x t a = varsT t &&& foldV (gCatch x) a 0 0 by unfold catV; rw [if_pos AE.out, code_catch _ x hx.1 hx.2 a (right_shp hra)])
          have hal : ∀ o, Below w3.heap.size w3 (w3.alloc o) := fun o => (Below.refl _ _).alloc (Nat.le_refl _) _
          have T4 := Lib.hid (fun o => T3.out.keep (hal o))
          have VC := Lib.hid (fvisit_any 123 (w.heap.size + 1) w3.heap.size w3.heap.size (gCatch x) (fun W => IntBox W (w.heap.size + 1) x) (Nat.le_refl _) (gCatch_U x) (fun X Y hk hx => (hk.block _ hx.lt (by have := T3.out.size; omega)).trans hx) (fun _ _ => by first | (go_simp; done) | rfl) (caught1_any (w.heap.size + 1) w3.heap.size (by have := T3.out.size; omega) x) a.sz a A' c' 0 0 (w3.alloc (.cells #[.int .u64 0] 69)) (Nat.le_refl _) (T3.out.tb.keep (hal _) (Nat.le_refl _)) zero_U zero_U (World.alloc_heap_new w3 _) (T4.out _).xb)
          have AW := Lib.hid (and_walk64 (varsT t) (foldV (gCatch x) a 0 0) (varsT_U t) (foldV_U (gCatch_U x) a 0 0 zero_U zero_U))
          have hz := T3.out.size
          rw [VV.out]
          clear hr hra hx b0 b1 b2 xc d0 d1 d2
          have d0 := fun o => (T4.out o).d0
          have d1 := fun o => (T4.out o).d1
          have d2 := fun o => (T4.out o).d2
          go_wp2_with fail
          refine VC.out.mono ?_
          rintro e w5 ⟨rfl, hS, hK⟩
          have sc := hS.cell
          have BB := Lib.hid ((T4.out _).below.trans (hK.below (B := w.heap.size) (by omega) (by simp; omega)))
          have aw := AW.out
          clear hS hK d0 d1 d2
          go_wp2_with fail
          go_ret2
          refine ⟨?_, BB.out⟩
          rw [AE.out, CE.out]
          first | rfl | (rw [aw]; rfl) | (simp [aw])
      · have h1 : ((rightN a : Int) != 0) = true := by rw [bne_iff_ne]; omega
        have AE := Lib.hid (show askN x t a = rightN a by unfold askN; rw [if_pos hx, f1, if_neg hra])
        have CE := Lib.hid (show catV x t a = 0 by unfold catV; rw [AE.out, if_neg hra])
        clear hr hra hx
        go_wp2_with fail
        go_ret2
        exact ⟨by rw [AE.out, CE.out]; rfl, T2.out.below⟩
    · have h0 : ((rightN t : Int) != 0) = true := by rw [bne_iff_ne]; omega
      have AE := Lib.hid (show askN x t a = rightN t by
        have f1 : firstN t a = rightN t := by unfold firstN; rw [if_pos hr]
        unfold askN; rw [if_pos hx, f1, if_neg hr])
      have CE := Lib.hid (show catV x t a = 0 by unfold catV; rw [AE.out, if_neg hr])
      clear hr hx
      go_wp2_with fail
      go_ret2
      exact ⟨by rw [AE.out, CE.out]; rfl, T1.out.below⟩
  · have FX := Lib.hid (show fitsB x = false by unfold fitsB; rw [decide_eq_false hx])
    have AE := Lib.hid (show askN x t a = 1 by unfold askN; rw [if_neg hx])
    have CE := Lib.hid (show catV x t a = 0 by unfold catV; rw [AE.out, if_neg (by omega)])
    clear hx
    go_enter Tryz.func105, Tryz.ntmps105
    go_wp2_with fail
    refine (isNumber_any x _).mono ?_
    rintro e w9 ⟨rfl, hw9⟩
    rw [← hw9, FX.out]
    clear hw9
    go_wp2_with fail
    go_ret2
    exact ⟨by rw [AE.out, CE.out]; rfl, T0.out.below⟩
set_option maxHeartbeats 1000000 in
set_option maxRecDepth 100000 in
theorem freeFor_any (t a : Tr) (x : Int) (A A' : Option Addr) (c c' : Nat) (w : World) (ht : IsT w w.heap.size t A c) (ha : IsT w w.heap.size a A' c') :
    Calls Tryz.prog 83 #[.agg #[.int .i64 t.k, .int .i64 t.i, .slice A t.ks.length c], .int .i64 x, .agg #[.int .i64 a.k, .int .i64 a.i, .slice A' a.ks.length c']] w fun e w' => e = .returned (.tuple #[.bool (ffB x t a), .int .i64 (askN x t a : Nat)]) ∧ Below w.heap.size w w' := by
  have T0 := Lib.hid (two_start ht ha)
  have b0 := T0.out.b0
  have b1 := T0.out.b1
  have b2 := T0.out.b2
  have d0 := T0.out.d0
  have d1 := T0.out.d1
  have d2 := T0.out.d2
  clear ht ha
  go_enter Tryz.func83, Tryz.ntmps83
  go_wp2_with fail
  refine (caught_any t a x A A' c c' _ (by exact T0.out.ta) (by exact T0.out.tb)).mono ?_
  rintro e w1 ⟨rfl, hb1⟩
  have T1 := Lib.hid (T0.out.keep hb1)
  clear hb1 b0 b1 b2 d0 d1 d2
  by_cases hf : askN x t a = 0
  · have h0 : ((askN x t a : Int) == 0) = true := by simp [hf]
    by_cases hc : catV x t a = 0
    · have h1 : ((catV x t a : Int) == 0) = true := by simp [hc]
      have R := Lib.hid (show ffB x t a = true by unfold ffB; rw [decide_eq_true hf, decide_eq_true hc]; rfl)
      clear hf hc
      go_wp2_with fail
      go_ret2
      exact ⟨by rw [R.out]; rfl, T1.out.below⟩
    · have h1 : ((catV x t a : Int) == 0) = false := by rw [beq_eq_false_iff_ne]; omega
      have R := Lib.hid (show ffB x t a = false by unfold ffB; rw [decide_eq_false hc]; simp)
      clear hf hc
      go_wp2_with fail
      go_ret2
      exact ⟨by rw [R.out]; rfl, T1.out.below⟩
  · have h0 : ((askN x t a : Int) == 0) = false := by rw [beq_eq_false_iff_ne]; omega
    have R := Lib.hid (show ffB x t a = false by unfold ffB; rw [decide_eq_false hf]; rfl)
    clear hf
    go_wp2_with fail
    go_ret2
    exact ⟨by rw [R.out]; rfl, T1.out.below⟩
end Go.Proofs.YtgnfbhemkombaaaGreat
namespace Go.Proofs.YtgnfbhemkombaaaGreat
open Go.RowKit Go.Shelf
attribute [local go_sem] Oper.semAt_some
set_option maxRecDepth 100000 in
set_option maxHeartbeats 4000000 in
theorem size_small (t : Tr) (A : Option Addr) (c : Nat) (w : World) (ht : IsT w w.heap.size t A c) (hsm : t.sz ≤ 1000) :
    Calls Tryz.prog 79 #[.agg #[.int .i64 t.k, .int .i64 t.i, .slice A t.ks.length c]] w fun e w' => e = .returned (.int .i64 (t.sz : Nat)) ∧ Below w.heap.size w w' := by
  refine (callsIn_wide (n := 5)).1 ?_
  refine callsIn_of_wp_marks Tryz.func79 rfl trivial ?_ rfl
  simp only [Tryz.ntmps79, List.size_toArray, List.length_cons, List.length_nil, Nat.reduceAdd, Nat.reduceSub, Array.replicate_succ, Array.replicate_zero, List.push_toArray, List.append_toArray, List.nil_append, List.cons_append]
  gi_wp2_with ((try refine ⟨trivial, ?_⟩); gi_at_call 100; refine (nodes_in Fence.wide 4 trivial rfl _ _ _ _ _ _).mono ?_; rintro e w' ⟨rfl, rfl⟩)
  obtain ⟨W0, hW0⟩ : ∃ W0, ((w.alloc (.cells #[.int .i64 t.k, .int .i64 t.i, .slice A t.ks.length c] 24)).alloc (.cells #[.int .i64 0] 3)).alloc (.cells #[.int .i64 t.k, .int .i64 t.i, .slice A t.ks.length c] 24) = W0 := ⟨_, rfl⟩
  have b1 := (Boxed.new (w.alloc (.cells #[.int .i64 t.k, .int .i64 t.i, .slice A t.ks.length c] 24)) 3 (.int .i64 0)).alloc (.cells #[.int .i64 t.k, .int .i64 t.i, .slice A t.ks.length c] 24)
  have b5 := Box3.new ((w.alloc (.cells #[.int .i64 t.k, .int .i64 t.i, .slice A t.ks.length c] 24)).alloc (.cells #[.int .i64 0] 3)) (.int .i64 t.k) (.int .i64 t.i) (.slice A t.ks.length c)
  have hB0 : Below w.heap.size w (((w.alloc (.cells #[.int .i64 t.k, .int .i64 t.i, .slice A t.ks.length c] 24)).alloc (.cells #[.int .i64 0] 3)).alloc (.cells #[.int .i64 t.k, .int .i64 t.i, .slice A t.ks.length c] 24)) :=
    (((Below.refl _ w).alloc (Nat.le_refl _) _).alloc (by simp) _).alloc (by simp; omega) _
  have hsz : (((w.alloc (.cells #[.int .i64 t.k, .int .i64 t.i, .slice A t.ks.length c] 24)).alloc (.cells #[.int .i64 0] 3)).alloc (.cells #[.int .i64 t.k, .int .i64 t.i, .slice A t.ks.length c] 24)).heap.size = w.heap.size + 3 := by simp
  simp only [World.size_alloc] at b1 b5
  rw [hW0] at b1 b5 hB0 hsz ⊢
  clear hW0
  refine wpIn_rangeFunc_ownH (α := Nd w w.heap.size) rfl (by omega) (gf := 117) (lb := #[.pointer (some ⟨w.heap.size + 1 + 1, 0, none⟩)]) rfl trivial (enters_of Tryz.func117 (by kernel_rfl) rfl)
    (nodes_stops Fence.wide rfl _ trivial trivial rfl (w.heap.size + 1 + 1) w.heap.size (w.heap.size + 2) w t A c W0 (by omega) (by omega) (by omega) b5.cells ht hB0) (fun h k => h.trans k) (KB.putObj (by omega)) (Below.refl _ _) (fun _ => rfl)
    (fun pre W => Boxed W (w.heap.size + 1) 3 (.int .i64 (pre.length : Nat)) ∧ Below w.heap.size w W ∧ Box3 W (w.heap.size + 1 + 1) (.int .i64 t.k) (.int .i64 t.i) (.slice A t.ks.length c))
    (fun _ _ _ => False)
    ?hI ?hIx ⟨b1, hB0, b5⟩
    (fun x a' _ => a' = { tmps := #[.agg #[.int .i64 t.k, .int .i64 t.i, .slice A t.ks.length c], .pointer (some ⟨w.heap.size, 0, none⟩), .int .i64 0, .pointer (some ⟨w.heap.size + 1, 0, none⟩), .agg #[.int .i64 t.k, .int .i64 t.i, .slice A t.ks.length c], .func (.func 117) #[] #[.pointer (some ⟨w.heap.size + 1 + 1, 0, none⟩)], .int .i64 (wr64 x.d), .agg #[.int .i64 x.t.k, .int .i64 x.t.i, .slice x.A x.t.ks.length x.c], undef, undef, undef, undef, undef], defers := [] })
    ?hAx ?assign ?body ?done ?stop
  case hI =>
    exact OwnFrom.and (Own.from (boxed_own _ _ (fun pre : List (Nd w w.heap.size) => .int .i64 (pre.length : Nat))) _) (OwnFrom.and (ownFrom_below (Nat.le_refl _) (by omega)) (box3_own _ _ _ _ _))
  case hIx => exact fun co => fun _ _ _ _ h _ _ => h
  case hAx => intro x a'; exact ownFrom_pure _ _
  case assign =>
    rintro l pre x W K ⟨i1, iB, i6⟩ hK
    simp only [encN, Array.zip_eq_zipWith, List.zipWith_toArray, List.foldl_toArray]
    gi_wp2
    exact hK _ _ ((KeepsOthers.refl _).from _) (KB.refl _ _ _) ⟨i1, iB, i6⟩ rfl
  case body =>
    rintro l pre x a' W hl ⟨r, hr⟩ ⟨i1, iB, i6⟩ rfl hlt
    have c1 := i1.cell
    have f1 := i1.frozen
    have hn1 : ¬ (1000 : Int) < (pre.length : Int) + 1 := by omega
    gi_wp2_with fail
    have k2 : KB w.heap.size (w.heap.size + 2) W (W.setCell ⟨w.heap.size + 1, 0, none⟩ (.int .i64 ((pre.length : Int) + 1))) := KB.setCell _ _ (by show w.heap.size ≤ w.heap.size + 1; omega) (by show w.heap.size + 1 < _; omega)
    refine ⟨(KeepsOthers.setCell _ _ _).from _, k2, ?_, iB.trans k2.below, i6.set_other _ _ (by show w.heap.size + 1 + 1 ≠ w.heap.size + 1; omega)⟩
    rw [show ((pre ++ [x]).length : Int) = (pre.length : Int) + 1 by simp]; exact i1.set _
  case done =>
    rintro D ys W hD hS ⟨i1, iB, i6⟩ hK
    have c1 := i1.cell
    have LN := Lib.hid (len_of hS)
    have RB := Lib.hid iB
    have HK := Lib.hid hK
    gi_wp2_with fail
    refine ⟨by simp, .inl ⟨_, _, rfl, run_takeDeferred HK.out, ?_⟩⟩
    exact ⟨.int .i64 (ys.length : Nat), by simp [results, Tryz.results79, go_sem], ret_int (by rw [LN.out]), below_left RB.out (by omega) HK.out _⟩
  case stop => intro D co pre W hD hSp h; exact h.elim
set_option maxRecDepth 100000 in
set_option maxHeartbeats 4000000 in
theorem depth_small (t : Tr) (A : Option Addr) (c : Nat) (w : World) (ht : IsT w w.heap.size t A c) (hsm : t.sz ≤ 1000) :
    Calls Tryz.prog 143 #[.agg #[.int .i64 t.k, .int .i64 t.i, .slice A t.ks.length c]] w fun e w' => e = .returned (.int .i64 (min t.dp 101 : Nat)) ∧ Below w.heap.size w w' := by
  refine (callsIn_wide (n := 5)).1 ?_
  refine callsIn_of_wp_marks Tryz.func143 rfl trivial ?_ rfl
  simp only [Tryz.ntmps143, List.size_toArray, List.length_cons, List.length_nil, Nat.reduceAdd, Nat.reduceSub, Array.replicate_succ, Array.replicate_zero, List.push_toArray, List.append_toArray, List.nil_append, List.cons_append]
  gi_wp2_with ((try refine ⟨trivial, ?_⟩); gi_at_call 100; refine (nodes_in Fence.wide 4 trivial rfl _ _ _ _ _ _).mono ?_; rintro e w' ⟨rfl, rfl⟩)
  obtain ⟨W0, hW0⟩ : ∃ W0, ((((w.alloc (.cells #[.int .i64 t.k, .int .i64 t.i, .slice A t.ks.length c] 24)).alloc (.cells #[.int .i64 0] 3)).alloc (.cells #[.int .i64 0] 3)).alloc (.cells #[.int .i64 0] 3)).alloc (.cells #[.int .i64 t.k, .int .i64 t.i, .slice A t.ks.length c] 24) = W0 := ⟨_, rfl⟩
  have b1 := (((Boxed.new (w.alloc (.cells #[.int .i64 t.k, .int .i64 t.i, .slice A t.ks.length c] 24)) 3 (.int .i64 0)).alloc (.cells #[.int .i64 0] 3)).alloc (.cells #[.int .i64 0] 3)).alloc (.cells #[.int .i64 t.k, .int .i64 t.i, .slice A t.ks.length c] 24)
  have b2 := ((Boxed.new ((w.alloc (.cells #[.int .i64 t.k, .int .i64 t.i, .slice A t.ks.length c] 24)).alloc (.cells #[.int .i64 0] 3)) 3 (.int .i64 0)).alloc (.cells #[.int .i64 0] 3)).alloc (.cells #[.int .i64 t.k, .int .i64 t.i, .slice A t.ks.length c] 24)
  have b3 := (Boxed.new (((w.alloc (.cells #[.int .i64 t.k, .int .i64 t.i, .slice A t.ks.length c] 24)).alloc (.cells #[.int .i64 0] 3)).alloc (.cells #[.int .i64 0] 3)) 3 (.int .i64 0)).alloc (.cells #[.int .i64 t.k, .int .i64 t.i, .slice A t.ks.length c] 24)
  have b5 := Box3.new ((((w.alloc (.cells #[.int .i64 t.k, .int .i64 t.i, .slice A t.ks.length c] 24)).alloc (.cells #[.int .i64 0] 3)).alloc (.cells #[.int .i64 0] 3)).alloc (.cells #[.int .i64 0] 3)) (.int .i64 t.k) (.int .i64 t.i) (.slice A t.ks.length c)
  have hB0 : Below w.heap.size w (((((w.alloc (.cells #[.int .i64 t.k, .int .i64 t.i, .slice A t.ks.length c] 24)).alloc (.cells #[.int .i64 0] 3)).alloc (.cells #[.int .i64 0] 3)).alloc (.cells #[.int .i64 0] 3)).alloc (.cells #[.int .i64 t.k, .int .i64 t.i, .slice A t.ks.length c] 24)) :=
    (((((Below.refl _ w).alloc (Nat.le_refl _) _).alloc (by simp) _).alloc (by simp; omega) _).alloc (by simp; omega) _).alloc (by simp; omega) _
  have hsz : (((((w.alloc (.cells #[.int .i64 t.k, .int .i64 t.i, .slice A t.ks.length c] 24)).alloc (.cells #[.int .i64 0] 3)).alloc (.cells #[.int .i64 0] 3)).alloc (.cells #[.int .i64 0] 3)).alloc (.cells #[.int .i64 t.k, .int .i64 t.i, .slice A t.ks.length c] 24)).heap.size = w.heap.size + 5 := by simp
  simp only [World.size_alloc] at b1 b2 b3 b5
  rw [hW0] at b1 b2 b3 b5 hB0 hsz ⊢
  clear hW0
  refine wpIn_rangeFunc_ownH (α := Nd w w.heap.size) rfl (by omega) (gf := 117) (lb := #[.pointer (some ⟨w.heap.size + 1 + 1 + 1 + 1, 0, none⟩)]) rfl trivial (enters_of Tryz.func117 (by kernel_rfl) rfl)
    (nodes_stops Fence.wide rfl _ trivial trivial rfl (w.heap.size + 1 + 1 + 1 + 1) w.heap.size (w.heap.size + 4) w t A c W0 (by omega) (by omega) (by omega) b5.cells ht hB0) (fun h k => h.trans k) (KB.putObj (by omega)) (Below.refl _ _) (fun _ => rfl)
    (fun pre W => (Boxed W (w.heap.size + 1 + 1) 3 (.int .i64 (pre.length : Nat)) ∧ Boxed W (w.heap.size + 1 + 1 + 1) 3 (.int .i64 (deepW pre)) ∧ Boxed W (w.heap.size + 1) 3 (.int .i64 0)) ∧ Below w.heap.size w W ∧ Box3 W (w.heap.size + 1 + 1 + 1 + 1) (.int .i64 t.k) (.int .i64 t.i) (.slice A t.ks.length c))
    (fun _ _ _ => False)
    ?hI ?hIx ⟨⟨b2, b3, b1⟩, hB0, b5⟩
    (fun x a' _ => a' = { tmps := #[.agg #[.int .i64 t.k, .int .i64 t.i, .slice A t.ks.length c], .pointer (some ⟨w.heap.size, 0, none⟩), .pointer (some ⟨w.heap.size + 1, 0, none⟩), .pointer (some ⟨w.heap.size + 1 + 1, 0, none⟩), .pointer (some ⟨w.heap.size + 1 + 1 + 1, 0, none⟩), .int .i64 (wr64 x.d), .agg #[.int .i64 t.k, .int .i64 t.i, .slice A t.ks.length c], .func (.func 117) #[] #[.pointer (some ⟨w.heap.size + 1 + 1 + 1 + 1, 0, none⟩)], .int .i64 (wr64 x.d), .agg #[.int .i64 x.t.k, .int .i64 x.t.i, .slice x.A x.t.ks.length x.c], undef, undef, undef, undef, undef, undef, undef, undef, undef, undef, undef], defers := [] })
    ?hAx ?assign ?body ?done ?stop
  case hI =>
    exact OwnFrom.and (OwnFrom.and (Own.from (boxed_own _ _ (fun pre : List (Nd w w.heap.size) => .int .i64 (pre.length : Nat))) _) (OwnFrom.and (Own.from (boxed_own _ _ (fun pre : List (Nd w w.heap.size) => .int .i64 (deepW pre))) _) (Own.from (boxed_own _ _ (fun _ => .int .i64 0)) _))) (OwnFrom.and (ownFrom_below (Nat.le_refl _) (by omega)) (box3_own _ _ _ _ _))
  case hIx => exact fun co => fun _ _ _ _ h _ _ => h
  case hAx => intro x a'; exact ownFrom_pure _ _
  case assign =>
    rintro l pre x W K ⟨i1, iB, i6⟩ hK
    simp only [encN, Array.zip_eq_zipWith, List.zipWith_toArray, List.foldl_toArray]
    gi_wp2
    exact hK _ _ ((KeepsOthers.refl _).from _) (KB.refl _ _ _) ⟨i1, iB, i6⟩ rfl
  case body =>
    rintro l pre x a' W hl ⟨r, hr⟩ ⟨⟨i2, i3, i1⟩, iB, i6⟩ rfl hlt
    have c2 := i2.cell
    have c3 := i3.cell
    have f2 := i2.frozen
    have f3 := i3.frozen
    have hn1 : ¬ (1000 : Int) < (pre.length : Int) + 1 := by omega
    have DS := Lib.hid (deepW_snoc pre x)
    have FIN := Lib.hid (show ∀ (mx : Int), mx = deepW (pre ++ [x]) → ∀ a'' : Act, ownPostG (w.heap.size + 5) (KB w.heap.size (w.heap.size + 4))
        (fun pre W => (Boxed W (w.heap.size + 1 + 1) 3 (.int .i64 (pre.length : Nat)) ∧ Boxed W (w.heap.size + 1 + 1 + 1) 3 (.int .i64 (deepW pre)) ∧ Boxed W (w.heap.size + 1) 3 (.int .i64 0)) ∧ Below w.heap.size w W ∧ Box3 W (w.heap.size + 1 + 1 + 1 + 1) (.int .i64 t.k) (.int .i64 t.i) (.slice A t.ks.length c))
        (fun _ _ _ => False) (pre ++ [x]) W Exit.normal a'' ((W.setCell ⟨w.heap.size + 1 + 1, 0, none⟩ (.int .i64 ((pre.length : Int) + 1))).setCell ⟨w.heap.size + 1 + 1 + 1, 0, none⟩ (.int .i64 mx)) from by
      intro mx hmx a''
      have zk : KB w.heap.size (w.heap.size + 4) W ((W.setCell ⟨w.heap.size + 1 + 1, 0, none⟩ (.int .i64 ((pre.length : Int) + 1))).setCell ⟨w.heap.size + 1 + 1 + 1, 0, none⟩ (.int .i64 mx)) :=
        (KB.setCell _ _ (by show w.heap.size ≤ w.heap.size + 1 + 1; omega) (by show w.heap.size + 1 + 1 < _; omega)).trans (KB.setCell _ _ (by show w.heap.size ≤ w.heap.size + 1 + 1 + 1; omega) (by show w.heap.size + 1 + 1 + 1 < _; omega))
      refine ⟨((KeepsOthers.setCell _ _ _).trans (KeepsOthers.setCell _ _ _)).from _, zk, ⟨?_, ?_, (i1.other (by omega) _).other (by omega) _⟩, iB.trans zk.below, (i6.set_other _ _ (by show w.heap.size + 1 + 1 + 1 + 1 ≠ w.heap.size + 1 + 1; omega)).set_other _ _ (by show w.heap.size + 1 + 1 + 1 + 1 ≠ w.heap.size + 1 + 1 + 1; omega)⟩
      · rw [show ((pre ++ [x]).length : Int) = (pre.length : Int) + 1 by simp]; exact (i2.set _).other (by omega) _
      · rw [← hmx]; exact (i3.other (B' := w.heap.size + 1 + 1) (by omega) _).set _)
    by_cases hmx2 : deepW pre < wr64 x.d
    · have e : RowKit.Hid (wr64 x.d = deepW (pre ++ [x])) := Lib.hid (by rw [DS.out]; omega)
      gi_wp2_with fail
      exact FIN.out _ e.out _
    · have e : RowKit.Hid (deepW pre = deepW (pre ++ [x])) := Lib.hid (by rw [DS.out]; omega)
      gi_wp2_with fail
      exact FIN.out _ e.out _
  case done =>
    rintro D ys W hD hS ⟨⟨i2, i3, i1⟩, iB, i6⟩ hK
    have c3 := i3.cell
    have c1 := i1.cell
    have f1 := i1.frozen
    have hlen := len_of hS
    have DN := Lib.hid (deep_of hS (by omega))
    obtain ⟨dd, hdd⟩ : ∃ dd, dd = deepW ys := ⟨_, rfl⟩
    rw [← hdd] at c3 DN
    clear hdd i3 hlen
    have RB := Lib.hid (fun v : Int => (iB.setCell (p := ⟨w.heap.size + 1, 0, none⟩) (show w.heap.size ≤ w.heap.size + 1 by omega) (.int .i64 v)))
    have RK := Lib.hid (fun v : Int => (KeepsOthers.setCell W ⟨w.heap.size + 1, 0, none⟩ (.int .i64 v)).same D _ hK rfl)
    have RX := Lib.hid (fun v : Int => i1.set (.int .i64 v))
    by_cases h1 : 101 < dd
    · have F := Lib.hid (show min t.dp 101 = 101 by have := DN.out; omega)
      gi_wp2_with fail
      refine ⟨by simp, .inl ⟨_, _, rfl, run_takeDeferred (RK.out _), ?_⟩⟩
      have bx := (boxed_left (RX.out 101) (RK.out 101) rfl (.deferred none)).cell
      exact ⟨.int .i64 101, by simp [results, Tryz.results143, go_sem, bx], ret_int (by rw [F.out]; rfl), below_left (RB.out 101) (by omega) (RK.out 101) _⟩
    · have F := Lib.hid (show ((min t.dp 101 : Nat) : Int) = dd by have := DN.out; omega)
      gi_wp2_with fail
      refine ⟨by simp, .inl ⟨_, _, rfl, run_takeDeferred (RK.out _), ?_⟩⟩
      have bx := (boxed_left (RX.out dd) (RK.out dd) rfl (.deferred none)).cell
      exact ⟨.int .i64 dd, by simp [results, Tryz.results143, go_sem, bx], ret_int (by rw [F.out]), below_left (RB.out dd) (by omega) (RK.out dd) _⟩
  case stop => intro D co pre W hD hSp h; exact h.elim
end Go.Proofs.YtgnfbhemkombaaaGreat
namespace Go.Proofs.YtgnfbhemkombaaaGreat
open Go.RowKit
set_option linter.unusedVariables false
set_option linter.unusedSimpArgs false
theorem infoSp : (Tryz.prog.info? 136).map (fun i => (i.zero, i.size, i.bytes)) = some (some (.agg #[.int .i64 0, .int .i64 0, .slice none 0 0, .int .i64 0, .int .u64 0]), 5, 56) := by kernel_rfl
/-- the cells of a list of spots -/
def rowS : List Spot → List (Option Addr × Nat) → List Value
  | s :: r, (A, c) :: q => .int .i64 s.1.k :: .int .i64 s.1.i :: .slice A s.1.ks.length c :: .int .i64 (s.2.1 : Int) :: .int .u64 (s.2.2 : Int) :: rowS r q
  | _, _ => []
theorem rowS_len : ∀ (l : List Spot) (cs : List (Option Addr × Nat)), cs.length = l.length → (rowS l cs).length = l.length * 5
  | [], [], _ => rfl
  | t :: r, (A, c) :: s, h => by simp only [rowS, List.length_cons]; rw [rowS_len r s (by simpa using h)]; omega
theorem rowS_append : ∀ (l : List Spot) (cs : List (Option Addr × Nat)) (s : Spot) (A : Option Addr) (c : Nat), cs.length = l.length → rowS (l ++ [s]) (cs ++ [(A, c)]) = rowS l cs ++ [.int .i64 s.1.k, .int .i64 s.1.i, .slice A s.1.ks.length c, .int .i64 (s.2.1 : Int), .int .u64 (s.2.2 : Int)]
  | [], [], s, A, c, _ => rfl
  | x :: r, (B, d) :: q, s, A, c, h => by simp only [rowS, List.cons_append]; rw [rowS_append r q s A c (by simpa using h)]
/-- a box of five cells -/
def BoxS (w : World) (b : Nat) (x y z u v : Value) : Prop := w.heap[b]? = some (.cells #[x, y, z, u, v] 136 (0, 0))
theorem BoxS.cells {w : World} {b : Nat} {x y z u v : Value} (h : BoxS w b x y z u v) : w.cell? ⟨b, 0, none⟩ = some x ∧ w.cell? ⟨b, 1, none⟩ = some y ∧ w.cell? ⟨b, 2, none⟩ = some z ∧ w.cell? ⟨b, 3, none⟩ = some u ∧ w.cell? ⟨b, 4, none⟩ = some v := by
  unfold BoxS at h
  simp [World.cell?, h]
theorem BoxS.lt {w : World} {b : Nat} {x y z u v : Value} (h : BoxS w b x y z u v) : b < w.heap.size := (Array.getElem?_eq_some_iff.1 h).1
theorem BoxS.keep {w w' : World} {b B : Nat} {x y z u v : Value} (h : BoxS w b x y z u v) (hb : Below B w w') (hB : b < B) : BoxS w' b x y z u v := (hb.block b hB).trans h
theorem BoxS.grown {w w' : World} {b : Nat} {row : Option Nat} {x y z u v : Value} (h : BoxS w b x y z u v) (hg : w.grownBy w' row) (hne : some b ≠ row) : BoxS w' b x y z u v := (hg.block b h.lt hne).trans h
theorem BoxS.new (w : World) (x y z u v : Value) : BoxS (w.alloc (.cells #[x, y, z, u, v] 136)) w.heap.size x y z u v := by
  show (w.heap.push _)[w.heap.size]? = _
  simp
theorem news5s (w : World) (x y z u v : Value) (t : TypeId) (j : Nat) (q : Value) (h : [x, y, z, u, v][j]? = some q) : (w.alloc (.cells #[x, y, z, u, v] t)).cell? ((⟨w.heap.size, 0, none⟩ : Addr).add j) = some q := by
  have e2 : (⟨w.heap.size, 0, none⟩ : Addr).add j = ⟨w.heap.size, j, none⟩ := by unfold Addr.add; split <;> simp_all
  rw [e2, cell_new3]
  simpa using h
def goodS (s : Spot) : Prop := s.1.shp = true ∧ 1 ≤ s.2.1 ∧ s.2.1 - 1 + s.1.dp ≤ 100 ∧ U64 s.2.2
/-- the spots lie in a row of one's own; their trees lie where they lay -/
structure IsS (w wr : World) (st : List Spot) (A : Option Addr) (c : Nat) (cs : List (Option Addr × Nat)) : Prop where
  below : Below w.heap.size w wr
  len : cs.length = st.length
  own : wr.ownsRow (w.heap.size + 1) 136 5 (.slice A st.length c) st.length (rowS st cs)
  tree : ∀ m (h : m < st.length), IsT w w.heap.size st[m].1 (cs[m]'(by omega)).1 (cs[m]'(by omega)).2
  good : ∀ s ∈ st, goodS s
theorem IsS.keep {w wr wr' : World} {st : List Spot} {A : Option Addr} {c : Nat} {cs : List (Option Addr × Nat)} (h : IsS w wr st A c cs) (hb : Below wr.heap.size wr wr') : IsS w wr' st A c cs :=
  ⟨h.below.trans (hb.mono h.below.size), h.len, ownsRow_same (hi := wr.heap.size) h.own (fun k _ k2 => hb.block k k2) (fun g e => (h.own.lt g e).2), h.tree, h.good⟩
theorem IsS.pop {w wr : World} {st : List Spot} {s : Spot} {A : Option Addr} {c : Nat} {cs : List (Option Addr × Nat)} (h : IsS w wr (st ++ [s]) A c cs) :
    ∃ g cs0 A2 c2, A = some ⟨g, 0, none⟩ ∧ w.heap.size + 1 ≤ g ∧ g < wr.heap.size ∧ st.length + 1 ≤ c ∧ IsS w wr st (some ⟨g, 0, none⟩) c cs0 ∧ IsT w w.heap.size s.1 A2 c2 ∧ goodS s ∧
      wr.cell? ⟨g, st.length * 5, none⟩ = some (.int .i64 s.1.k) ∧ wr.cell? ⟨g, st.length * 5 + 1, none⟩ = some (.int .i64 s.1.i) ∧ wr.cell? ⟨g, st.length * 5 + 2, none⟩ = some (.slice A2 s.1.ks.length c2) ∧ wr.cell? ⟨g, st.length * 5 + 3, none⟩ = some (.int .i64 (s.2.1 : Int)) ∧ wr.cell? ⟨g, st.length * 5 + 4, none⟩ = some (.int .u64 (s.2.2 : Int)) := by
  have hl := h.len
  have e : (st ++ [s]).length = st.length + 1 := by simp
  obtain ⟨cs0, x, rfl⟩ : ∃ cs0 x, cs = cs0 ++ [x] := by
    have : cs ≠ [] := by intro e'; rw [e'] at hl; simp at hl
    exact ⟨cs.dropLast, cs.getLast this, (List.dropLast_concat_getLast this).symm⟩
  obtain ⟨A2, c2⟩ := x
  have hl0 : cs0.length = st.length := by simpa using hl
  have own := h.own
  rw [rowS_append st cs0 s A2 c2 hl0] at own
  obtain ⟨g, cap, hv, hg1, hg2⟩ := own.form (by omega)
  cases hv
  have hlen := rowS_len st cs0 hl0
  have hc : ∀ j u, [Value.int .i64 s.1.k, .int .i64 s.1.i, .slice A2 s.1.ks.length c2, .int .i64 (s.2.1 : Int), .int .u64 (s.2.2 : Int)][j]? = some u → wr.cell? ⟨g, st.length * 5 + j, none⟩ = some u := by
    intro j u hj
    have hjl : j < 5 := by
      have := (List.getElem?_eq_some_iff.1 hj).1
      simpa using this
    have := own.cellAt (st.length * 5 + j) (by rw [e]; omega)
    rw [this, List.getElem?_append_right (by omega), hlen]
    rw [show st.length * 5 + j - st.length * 5 = j by omega]
    exact hj
  have hcap : st.length + 1 ≤ c := by
    rcases own.2 with ⟨e', _⟩ | ⟨g', cap', cur, e', _, _, hc', _⟩
    · cases e'
    · cases e'; rw [e] at hc'; exact hc'
  have ht := h.tree st.length (by rw [e]; omega)
  refine ⟨g, cs0, A2, c2, rfl, hg1, hg2, hcap, ⟨h.below, hl0, ?_, fun m hm => ?_, fun s' hs' => h.good s' (by simp [hs'])⟩, ?_, h.good s (by simp), by simpa using hc 0 _ rfl, hc 1 _ rfl, hc 2 _ rfl, hc 3 _ rfl, hc 4 _ rfl⟩
  · refine ownsRow_pop hlen (last := [.int .i64 s.1.k, .int .i64 s.1.i, .slice A2 s.1.ks.length c2, .int .i64 (s.2.1 : Int), .int .u64 (s.2.2 : Int)]) ?_
    rw [e] at own
    exact own
  · have := h.tree m (by rw [e]; omega)
    simpa [List.getElem_append_left hm, List.getElem_append_left (show m < cs0.length by omega)] using this
  · simpa [hl0, List.getElem_append_right] using ht
theorem IsS.push {w wr w4 : World} {st : List Spot} {s : Spot} {A : Option Addr} {c : Nat} {cs : List (Option Addr × Nat)} {A2 : Option Addr} {c2 g cap : Nat} {wx : World} (h : IsS w wr st A c cs) (ht : IsT w w.heap.size s.1 A2 c2) (hgd : goodS s) (hx : Below wr.heap.size wr wx)
    (hown : w4.ownsRow (w.heap.size + 1) 136 5 (.slice (some ⟨g, 0, none⟩) (st.length + 1) cap) (st.length + 1) (rowS st cs ++ [.int .i64 s.1.k, .int .i64 s.1.i, .slice A2 s.1.ks.length c2, .int .i64 (s.2.1 : Int), .int .u64 (s.2.2 : Int)])) (hg : wx.grownBy w4 (Value.slice A st.length c).ownBlock) :
    IsS w w4 (st ++ [s]) (some ⟨g, 0, none⟩) cap (cs ++ [(A2, c2)]) := by
  have e : (st ++ [s]).length = st.length + 1 := by simp
  have hlt := h.own.lt
  have hz := h.below.size
  refine ⟨?_, by simp [h.len], by rw [e, rowS_append _ _ _ _ _ h.len]; exact hown, fun m hm => ?_, fun s' hs' => ?_⟩
  · refine (h.below.trans (hx.mono h.below.size)).trans ⟨hg.os, hg.tape, hg.output, hg.size, fun k hk => hg.block k ?_ ?_⟩
    · have := hx.size; omega
    · intro e'
      have := (hlt k e'.symm).1
      omega
  · rcases Nat.lt_or_ge m st.length with h1 | h1
    · have := h.tree m h1
      simpa [List.getElem_append_left h1, List.getElem_append_left (show m < cs.length by rw [h.len]; exact h1)] using this
    · obtain rfl : m = st.length := by rw [e] at hm; omega
      simpa [h.len, List.getElem_append_right] using ht
  · rcases List.mem_append.1 hs' with h1 | h1
    · exact h.good s' h1
    · simp at h1; rw [h1]; exact hgd
/-- how far the count has come -/
structure Cnt (a : Tr) (l : List (Int × Tr)) (st : List Spot) (sz dp : Nat) : Prop where
  size : sz + spS l st = (putE l a 0).sz
  deep : ∀ M, (dp ≤ M ∧ spD l st M) ↔ dpP l 1 a 0 ≤ M
  low : dp ≤ 200
  few : spN st ≤ 1000
theorem Cnt.some {a : Tr} {l : List (Int × Tr)} {st : List Spot} {s : Spot} {sz dp : Nat} {u : Tr} (h : Cnt a l (st ++ [s]) sz dp) (hk : lookE l s.2.2 s.1.k s.1.i = some u) (hs : goodS s) (hu : u.dp ≤ 100) : Cnt a l (st ++ kidSp s.1 s.2.1 s.2.2) (sz + u.sz) (max dp (s.2.1 - 1 + u.dp)) := by
  have hks : kidSp s.1 s.2.1 s.2.2 = [] := by unfold kidSp; rw [(shp_varT hs.1 (lookE_var hk).1).1]; rfl
  rw [hks, List.append_nil]
  have hd := dp_pos s.1
  refine ⟨?_, fun M => ?_, ?_, ?_⟩
  · rw [← h.size, spS_append]
    have : spS l [s] = u.sz := by unfold spS; simp [putE_some hk]
    omega
  · rw [← h.deep M]
    have e : dpP l s.2.1 s.1 s.2.2 = s.2.1 - 1 + u.dp := dpP_some hk
    constructor
    · rintro ⟨h1, h2⟩
      refine ⟨by omega, fun q hq => ?_⟩
      rcases List.mem_append.1 hq with h3 | h3
      · exact h2 q h3
      · simp at h3; subst h3; rw [e]; omega
    · rintro ⟨h1, h2⟩
      have := h2 s (by simp)
      rw [e] at this
      exact ⟨by omega, fun q hq => h2 q (by simp [hq])⟩
  · have := h.low
    have := hs.2.2.1
    omega
  · have := h.few
    rw [spN_append] at this
    omega
theorem Cnt.none {a : Tr} {l : List (Int × Tr)} {st : List Spot} {s : Spot} {sz dp : Nat} (h : Cnt a l (st ++ [s]) sz dp) (hk : lookE l s.2.2 s.1.k s.1.i = none) : Cnt a l (st ++ kidSp s.1 s.2.1 s.2.2) (sz + 1) dp := by
  refine ⟨?_, fun M => ?_, h.low, ?_⟩
  · rw [← h.size, spS_append, spS_append]
    have : spS l [s] = 1 + spS l (kidSp s.1 s.2.1 s.2.2) := by
      have := spS_kids (d := s.2.1) hk
      unfold spS at *
      simpa using this
    omega
  · rw [← h.deep M]
    have e : dpP l s.2.1 s.1 s.2.2 ≤ M ↔ ∀ q ∈ kidSp s.1 s.2.1 s.2.2, dpP l q.2.1 q.1 q.2.2 ≤ M := by
      rw [dpP_none hk, dpGo_le]
      unfold kidSp
      simp
    constructor
    · rintro ⟨h1, h2⟩
      refine ⟨h1, fun q hq => ?_⟩
      rcases List.mem_append.1 hq with h3 | h3
      · exact h2 q (by simp [h3])
      · simp at h3; subst h3; exact e.2 fun p hp => h2 p (by simp [hp])
    · rintro ⟨h1, h2⟩
      refine ⟨h1, fun q hq => ?_⟩
      rcases List.mem_append.1 hq with h3 | h3
      · exact h2 q (by simp [h3])
      · exact e.1 (h2 s (by simp)) q h3
  · have := h.few
    rw [spN_append] at *
    have h1 := spN_kids s.1 s.2.1 s.2.2
    have : spN [s] = s.1.sz := by simp [spN]
    omega
theorem Cnt.drop {a : Tr} {l : List (Int × Tr)} {st : List Spot} {s : Spot} {sz dp : Nat} (h : Cnt a l (st ++ [s]) sz dp) : spN (st ++ kidSp s.1 s.2.1 s.2.2) < spN (st ++ [s]) := by
  rw [spN_append, spN_append]
  have h1 := spN_kids s.1 s.2.1 s.2.2
  have : spN [s] = s.1.sz := by simp [spN]
  omega
def measN (l : List (Int × Tr)) (a : Tr) : Nat := if 1000 < (putE l a 0).sz then 20 else if 100 < (putE l a 0).dp then 21 else 0
theorem Cnt.many {a : Tr} {l : List (Int × Tr)} {st : List Spot} {sz dp : Nat} (h : Cnt a l st sz dp) (hs : 1000 < sz) : measN l a = 20 := by
  have := h.size
  unfold measN
  rw [if_pos (by omega)]
theorem Cnt.done {a : Tr} {l : List (Int × Tr)} {sz dp : Nat} (h : Cnt a l [] sz dp) (hs : sz ≤ 1000) (ha : a.dp ≤ 100) : measN l a = if 100 < dp then 21 else 0 := by
  have h1 := h.size
  have h2 : spS l [] = 0 := by simp [spS]
  have h3 := h.deep 100
  have h4 := dpP_iff l 100 a 1 0 (Nat.le_refl _) (by omega)
  have h5 : spD l [] 100 := by intro s hs; simp at hs
  unfold measN
  rw [if_neg (by omega)]
  by_cases hd : 100 < dp
  · rw [if_pos hd]
    have : ¬ dpP l 1 a 0 ≤ 100 := fun e => by have := (h3.2 e).1; omega
    rw [h4] at this
    rw [if_pos (by omega)]
  · rw [if_neg hd]
    have := h3.1 ⟨by omega, h5⟩
    rw [h4] at this
    rw [if_neg (by omega)]
theorem Cnt.start {a : Tr} {l : List (Int × Tr)} (ha : a.sz ≤ 1000) : Cnt a l [(a, 1, 0)] 0 0 := by
  refine ⟨by simp [spS], fun M => ?_, by omega, by simp [spN]; exact ha⟩
  unfold spD
  simp
theorem kid_good {s : Spot} (h : goodS s) {q : Tr} (hq : q ∈ s.1.ks) : goodS (q, s.2.1 + 1, bdB s.1.k s.1.i s.2.2) := by
  refine ⟨shp_kid h.1 hq, by show 1 ≤ s.2.1 + 1; omega, ?_, bdB_U h.2.2.2⟩
  have h1 := h.2.2.1
  have h2 := dpL_le.1 (Nat.le_refl (dpL s.1.ks)) q hq
  rw [dp_eq] at h1
  show s.2.1 + 1 - 1 + q.dp ≤ 100
  omega
theorem below_alloc' (w : World) (o : Obj) : Below w.heap.size w (w.alloc o) := (Below.refl _ _).alloc (Nat.le_refl _) _
theorem IsS.start {w : World} {a : Tr} {A : Option Addr} {c : Nat} (ha : IsT w w.heap.size a A c) (hg : goodS (a, 1, 0)) :
    IsS w ((w.alloc (.cells #[.int .i64 a.k, .int .i64 a.i, .slice A a.ks.length c] 24)).alloc (.cells #[.int .i64 a.k, .int .i64 a.i, .slice A a.ks.length c, .int .i64 1, .int .u64 0] 136)) [(a, 1, 0)] (some ⟨w.heap.size + 1, 0, none⟩) 1 [(A, c)] := by
  refine ⟨(below_alloc' w _).trans ((below_alloc' _ _).mono (by simp)), rfl, ⟨rfl, .inr ⟨w.heap.size + 1, 1, #[.int .i64 a.k, .int .i64 a.i, .slice A a.ks.length c, .int .i64 1, .int .u64 0], rfl, Nat.le_refl _, ?_, Nat.le_refl _, by unfold maxLen; omega, rfl, rfl⟩⟩, fun m hm => ?_, fun s hs => ?_⟩
  · show ((w.heap.push _).push _)[w.heap.size + 1]? = _
    rw [Array.getElem?_push, if_pos (by simp)]
  · obtain rfl : m = 0 := by simpa using hm
    exact ha
  · simp at hs; rw [hs]; exact hg
/-- what is held while the depth is reckoned -/
structure Reg9 (w1 w2 : World) (sb : Nat) (u : Tr) (A3 : Option Addr) (c3 : Nat) (t : Tr) (A2 : Option Addr) (c2 d bd : Nat) (W : World) : Prop where
  tb : Box3 W w1.heap.size (.int .i64 u.k) (.int .i64 u.i) (.slice A3 u.ks.length c3)
  nb : BoxS W sb (.int .i64 t.k) (.int .i64 t.i) (.slice A2 t.ks.length c2) (.int .i64 (d : Int)) (.int .u64 (bd : Int))
  tree : IsT W W.heap.size u A3 c3
  below : Below w2.heap.size w2 W
theorem Reg9.keep {w1 w2 W W' : World} {sb : Nat} {u : Tr} {A3 : Option Addr} {c3 : Nat} {t : Tr} {A2 : Option Addr} {c2 d bd : Nat} (h : Reg9 w1 w2 sb u A3 c3 t A2 c2 d bd W) (hb : Below W.heap.size W W') : Reg9 w1 w2 sb u A3 c3 t A2 c2 d bd W' :=
  ⟨h.tb.keep hb h.tb.lt, h.nb.keep hb h.nb.lt, h.tree.keep hb hb.size, h.below.trans (hb.mono h.below.size)⟩
/-- what is held while a kid is laid onto the stack -/
structure Reg15 (wx : World) (sb : Nat) (q : Tr) (A' : Option Addr) (c' : Nat) (t : Tr) (A2 : Option Addr) (c2 d bd : Nat) (W : World) : Prop where
  kid : Box3 W wx.heap.size (.int .i64 q.k) (.int .i64 q.i) (.slice A' q.ks.length c')
  nb : BoxS W sb (.int .i64 t.k) (.int .i64 t.i) (.slice A2 t.ks.length c2) (.int .i64 (d : Int)) (.int .u64 (bd : Int))
  below : Below wx.heap.size wx W
theorem Reg15.keep {wx W W' : World} {sb : Nat} {q : Tr} {A' : Option Addr} {c' : Nat} {t : Tr} {A2 : Option Addr} {c2 d bd : Nat} (h : Reg15 wx sb q A' c' t A2 c2 d bd W) (hb : Below W.heap.size W W') : Reg15 wx sb q A' c' t A2 c2 d bd W' :=
  ⟨h.kid.keep hb h.kid.lt, h.nb.keep hb h.nb.lt, h.below.trans (hb.mono h.below.size)⟩
theorem Reg15.alloc {wx W : World} {sb : Nat} {q : Tr} {A' : Option Addr} {c' : Nat} {t : Tr} {A2 : Option Addr} {c2 d bd : Nat} (h : Reg15 wx sb q A' c' t A2 c2 d bd W) (o : Obj) : Reg15 wx sb q A' c' t A2 c2 d bd (W.alloc o) := h.keep (below_alloc' _ _)
set_option maxHeartbeats 8000000 in
set_option maxRecDepth 100000 in
theorem measure_any (a : Tr) (A : Option Addr) (c : Nat) (l : List (Int × Tr)) (Al : Option Addr) (cl : Nat) (hlr : ∀ p ∈ l, rightN p.2 = 0) (har : rightN a = 0) (w : World) (ha : IsT w w.heap.size a A c) (hp : IsP w w.heap.size l Al cl) :
    Calls Tryz.prog 137 #[.agg #[.int .i64 a.k, .int .i64 a.i, .slice A a.ks.length c], .slice Al l.length cl] w fun e w' => e = .returned (.int .i64 ((measN l a : Nat) : Int)) ∧ Below w.heap.size w w' := by
  obtain ⟨hshp, hsz, hdp⟩ := right_shp' har
  have HLR := Lib.hid hlr
  have HP := Lib.hid hp
  have CNT0 := Lib.hid (Cnt.start (l := l) hsz)
  have hb0 := below_alloc' w (.cells #[.int .i64 a.k, .int .i64 a.i, .slice A a.ks.length c] 24)
  obtain ⟨y0, y1, y2⟩ := box_new w (.int .i64 a.k) (.int .i64 a.i) (.slice A a.ks.length c) 24
  have GS0 : goodS (a, 1, 0) := ⟨hshp, Nat.le_refl _, by show 1 - 1 + a.dp ≤ 100; omega, zero_U⟩
  have START := Lib.hid (IsS.start ha GS0)
  obtain ⟨i0, hi, hz0, hz1, hz2⟩ := info_parts infoSp
  have HI := Lib.hid (And.intro hi (And.intro hz0 (And.intro hz1 hz2)))
  clear hi hz0 hz1 hz2 hlr hp har hshp GS0
  go_enter Tryz.func137, Tryz.ntmps137
  go_wp2_with fail
  go_step3
  go_wp2_with fail
  go_step3
  go_wp2_with fail
  go_loopg [5, 6, 7] a.sz (fun g s5 s6 s7 wx => ∃ (sz dp : Nat) (st : List Spot) (A1 : Option Addr) (c1 : Nat) (cs : List (Option Addr × Nat)), spN st = g ∧ s5 = .int .i64 (sz : Int) ∧ s6 = .int .i64 (dp : Int) ∧ s7 = .slice A1 st.length c1 ∧ sz ≤ 1000 ∧ Cnt a l st sz dp ∧ IsS w wx st A1 c1 cs)
  case atStart => exact ⟨0, 0, [(a, 1, 0)], _, _, _, by simp [spN], rfl, rfl, rfl, by omega, CNT0.out, START.out⟩
  case round =>
    obtain ⟨wo, rfl⟩ : ∃ wo, wo = wr := ⟨_, rfl⟩
    obtain ⟨sz, dp, st, A1, c1, cs, rfl, rfl, rfl, rfl, hszl, hC, hS⟩ := hrel
    have CC := Lib.hid hC
    have SS := Lib.hid hS
    have hlow := hC.low
    clear hC hS START CNT0 y0 y1 y2
    rcases List.eq_nil_or_concat st with rfl | ⟨st0, s, rfl⟩
    · have F := Lib.hid (CC.out.done hszl hdp)
      have BB := Lib.hid SS.out.below
      have hs1 : ¬ (1000 : Int) < (sz : Int) := by omega
      by_cases hd : 100 < dp
      · rw [if_pos hd] at F
        have hd' : (100 : Int) < (dp : Int) := by omega
        go_wp2_with fail
        try rw [Exit.noGoto_ret]
        go_ret
        exact ⟨by rw [F.out]; rfl, BB.out⟩
      · rw [if_neg hd] at F
        have hd' : ¬ (100 : Int) < (dp : Int) := by omega
        go_wp2_with fail
        try rw [Exit.noGoto_ret]
        go_ret
        exact ⟨by rw [F.out]; rfl, BB.out⟩
    · rw [List.concat_eq_append] at CC SS ⊢
      have DRP := Lib.hid CC.out.drop
      obtain ⟨g, cs0, A2, c2, rfl, hg1, hg2, hcap, hS0, hT, hgd, p0, p1, p2, p3, p4⟩ := SS.out.pop
      have hfew := CC.out.few
      have hlen := spN_len (st0 ++ [s])
      have e : (st0 ++ [s]).length = st0.length + 1 := by simp
      rw [e] at hlen
      rw [e]
      have S0 := Lib.hid hS0
      have TT := Lib.hid hT
      have GD := Lib.hid hgd
      obtain ⟨hgs, hg3, hg4, hgu⟩ := hgd
      have hdpp := dp_pos s.1
      have hlT := hT.len
      have BR := Lib.hid hS0.below
      clear SS hS0 hT e
      obtain ⟨n, hn⟩ : ∃ n, n = st0.length := ⟨_, rfl⟩
      rw [← hn] at p0 p1 p2 p3 p4 hcap hlen ⊢
      have HN := Lib.hid hn
      obtain ⟨t, d, bd⟩ := s
      simp only at p0 p1 p2 p3 p4 hg3 hg4 hgu hdpp hlT
      have NB := Lib.hid (BoxS.new wo (.int .i64 t.k) (.int .i64 t.i) (.slice A2 t.ks.length c2) (.int .i64 (d : Int)) (.int .u64 (bd : Int)))
      have hal : ∀ o, Below wo.heap.size wo (wo.alloc o) := fun o => below_alloc' wo o
      have PW := Lib.hid (fun o => (HP.out.up BR.out).up (hal o))
      have hn1 : (0 : Int) < (n : Int) + 1 := by omega
      obtain ⟨n0, n1, n2, n3, n4⟩ := NB.out.cells
      have HAL := Lib.hid hal
      clear hal hn
      go_wp2_with fail
      refine (termFor_any t.k t.i A2 t.ks.length c2 l Al cl bd _ hgu (by exact PW.out _)).mono ?_
      rintro e w1 ⟨hb1, hr⟩
      have hs1 := hb1.size
      simp only [World.size_alloc] at hs1
      have NB1 := Lib.hid (NB.out.keep hb1 (by simp))
      have S1 := Lib.hid ((S0.out.keep (HAL.out _)).keep hb1)
      have W1 := Lib.hid (((HAL.out (.cells #[.int .i64 t.k, .int .i64 t.i, .slice A2 t.ks.length c2, .int .i64 (d : Int), .int .u64 (bd : Int)] 136)).mono BR.out.size).trans (hb1.mono (by have := BR.out.size; simp; omega)))
      clear n0 n1 n2 n3 n4 p0 p1 p2 p3 p4
      cases hk : lookE l bd t.k t.i with
      | some u =>
        rw [hk] at hr
        obtain ⟨A3, c3, rfl, hu⟩ := hr
        have hur := right_shp' (HLR.out _ (lookP_mem (lookE_var hk).2.2))
        have CN := Lib.hid (CC.out.some hk GD.out hur.2.2)
        have hk1 : t.ks = [] := (shp_varT hgs (lookE_var hk).1).1
        have KS := Lib.hid (show kidSp t d bd = [] by unfold kidSp; rw [hk1]; rfl)
        obtain ⟨_, hu1, hu2⟩ := hur
        have UT := Lib.hid (fun o => (hu.keep hb1 hb1.size).keep (below_alloc' w1 o) (below_alloc' w1 o).size)
        have hup := sz_pos u
        clear hb1 hk hu
        go_wp2_with fail
        refine (size_small u A3 c3 _ (by exact UT.out _) hu1).mono ?_
        rintro e w2 ⟨rfl, hb2⟩
        have hs2 := hb2.size
        simp only [World.size_alloc] at hs2
        have TB := Lib.hid ((Box3.new w1 (.int .i64 u.k) (.int .i64 u.i) (.slice A3 u.ks.length c3)).keep hb2 (by simp))
        have NB2 := Lib.hid ((NB1.out.keep (below_alloc' w1 _) NB1.out.lt).keep hb2 (by simp; have := NB1.out.lt; omega))
        have UT2 := Lib.hid ((UT.out _).keep hb2 hb2.size)
        have S2 := Lib.hid ((S1.out.keep (below_alloc' w1 _)).keep hb2)
        clear hb2
        go_wp2_with fail
        have TK : Reg9 w1 w2 wo.heap.size u A3 c3 t A2 c2 d bd w2.drew := ⟨TB.out.keep ((Below.refl _ _).drew) TB.out.lt, NB2.out.keep ((Below.refl _ _).drew) NB2.out.lt, UT2.out.keep ((Below.refl _ _).drew) (Nat.le_refl _), (Below.refl _ _).drew⟩
        have hd1 : (1 : Int) ≤ (d : Int) := by omega
        have hd2 : (d : Int) ≤ 100 := by omega
        have wr1 : IntKind.i64.wrap ((d : Int) - 1) = (d : Int) - 1 := by rw [IntKind.wrap_i64]; omega
        have wr2 : IntKind.i64.wrap ((d : Int) - 1 + (u.dp : Int)) = (d : Int) - 1 + (u.dp : Int) := by rw [IntKind.wrap_i64]; omega
        have mx : (if (dp : Int) < (d : Int) - 1 + (u.dp : Int) then (d : Int) - 1 + (u.dp : Int) else (dp : Int)) = ((max dp (d - 1 + u.dp) : Nat) : Int) := by split <;> omega
        have hu3 : (u.dp : Int) ≤ 100 := by omega
        have hmin : min u.dp 101 = u.dp := by omega
        go_region_held3 (fun w' => w'.cell? ⟨wo.heap.size, 3, none⟩ = some (.int .i64 (d : Int)) ∧ w'.cell? ⟨w1.heap.size, 0, none⟩ = some (.int .i64 u.k) ∧ w'.cell? ⟨w1.heap.size, 1, none⟩ = some (.int .i64 u.i) ∧ w'.cell? ⟨w1.heap.size, 2, none⟩ = some (.slice A3 u.ks.length c3))
          (exact ⟨TK.nb.cells.2.2.2.1, TK.tb.cells⟩)
          (first
            | (go_at_call 143; refine (depth_small u A3 c3 _ (by exact TK.tree) hu1).mono ?_; rintro e w3 ⟨rfl, hb3⟩; rw [hmin]; replace TK := TK.keep hb3; clear hb3))
        have S3 := Lib.hid (S2.out.keep TK.below)
        have hlw := CN.out.low
        obtain ⟨dp', hdp'⟩ : ∃ dp', dp' = max dp (d - 1 + u.dp) := ⟨_, rfl⟩
        rw [← hdp'] at CN hlw ⊢
        rw [KS.out, List.append_nil] at CN DRP
        obtain ⟨k0, k1, k2, k3, k4⟩ := TK.nb.cells
        clear hdp' mx wr1 wr2 hmin
        by_cases hbig : 1000 < sz + u.sz
        · have F := Lib.hid (CN.out.many hbig)
          have hbig' : (1000 : Int) < (sz : Int) + (u.sz : Int) := by omega
          go_wp2_with fail
          try rw [Exit.noGoto_ret]
          go_ret
          exact ⟨by rw [F.out]; rfl, S3.out.below⟩
        · have hbig' : ¬ (1000 : Int) < (sz : Int) + (u.sz : Int) := by omega
          go_wp2_with fail
          go_loopw [7, 60] (fun p i wx => p = .slice (some ⟨g, 0, none⟩) n c1 ∧ i = .int .i64 0 ∧ wx = w3) (fun _ _ _ => 0)
          case atStart => exact ⟨rfl, rfl, rfl⟩
          case round =>
            obtain ⟨rfl, rfl, rfl⟩ := hrel
            go_wp2_with fail
            go_roundg (spN st0)
            case measure => rw [List.concat_eq_append]; exact DRP.out
            case rel => exact ⟨sz + u.sz, dp', st0, _, _, _, rfl, by first | rfl | simp, rfl, by rw [HN.out], by omega, CN.out, S3.out⟩
      | none =>
        rw [hk] at hr
        obtain rfl := hr
        have CN := Lib.hid (CC.out.none hk)
        have hkl := (kind_of_shp t hgs).2.2.2.2
        have KG := Lib.hid (fun q hq => kid_good (s := (t, d, bd)) GD.out (q := q) hq)
        have S2 := Lib.hid (S1.out.keep (below_alloc' w1 (.cells #[.int .i64 0, .int .i64 0, .slice none 0 0] 24)))
        have NB2 := Lib.hid (NB1.out.keep (below_alloc' w1 (.cells #[.int .i64 0, .int .i64 0, .slice none 0 0] 24)) NB1.out.lt)
        obtain ⟨k0, k1, k2, k3, k4⟩ := NB2.out.cells
        clear hb1 hk
        by_cases hbig : 1000 < sz + 1
        · have F := Lib.hid (CN.out.many hbig)
          have hbig' : (1000 : Int) < (sz : Int) + 1 := by omega
          go_wp2_with fail
          try rw [Exit.noGoto_ret]
          go_ret
          exact ⟨by rw [F.out]; rfl, S2.out.below⟩
        · have hbig' : ¬ (1000 : Int) < (sz : Int) + 1 := by omega
          go_wp2_with fail
          go_loopw [7, 60] (fun p i wx => ∃ (m : Nat) (A4 : Option Addr) (c4 : Nat) (cs4 : List (Option Addr × Nat)), m ≤ t.ks.length ∧ i = .int .i64 m ∧ p = .slice A4 (n + m) c4 ∧ IsS w wx (st0 ++ (kidSp t d bd).take m) A4 c4 cs4 ∧ BoxS wx wo.heap.size (.int .i64 t.k) (.int .i64 t.i) (.slice A2 t.ks.length c2) (.int .i64 (d : Int)) (.int .u64 (bd : Int)) ∧ (∀ g', (Value.slice A4 (n + m) c4).ownBlock = some g' → g' ≠ wo.heap.size)) (fun _ i _ => t.ks.length - (intOf i).toNat)
          case atStart => exact ⟨0, _, _, _, Nat.zero_le _, rfl, rfl, by rw [List.take_zero, List.append_nil]; exact S2.out, NB2.out, fun g' e => by have : g = g' := (by simpa [Value.ownBlock] using e); omega⟩
          case round =>
            obtain ⟨m, A4, c4, cs4, hm', rfl, rfl, hSm, hNB, hgn⟩ := hrel
            have SM := Lib.hid hSm
            have NBM := Lib.hid hNB
            have GN := Lib.hid hgn
            have hll : (st0 ++ (kidSp t d bd).take m).length = n + m := by rw [List.length_append, List.length_take, ← HN.out]; unfold kidSp; rw [List.length_map]; omega
            have bel := hSm.below
            have hown := hSm.own
            rw [hll] at hown
            have OWN := Lib.hid (fun (W : World) (h : Below wr.heap.size wr W) => ownsRow_same (hi := wr.heap.size) (w' := W) hown (fun k _ k2 => h.block k k2) (fun g e => (hown.lt g e).2))
            have OLT := Lib.hid hown.lt
            have PUSH := Lib.hid (fun (s : Spot) (w4 wy : World) (A2 : Option Addr) (c2 g cap : Nat) => @IsS.push w wr w4 _ s A4 c4 cs4 A2 c2 g cap wy hSm)
            rw [hll] at PUSH
            clear hSm hNB hgn hown k0 k1 k2 k3 k4
            by_cases hlt : m < t.ks.length
            · obtain ⟨b, o, A', c', rfl, hlt', p0, p1, p2, hkT⟩ := TT.out.kid m hlt
              have KT := Lib.hid (kidSp_take t d bd m hlt)
              have GQ := Lib.hid (KG.out t.ks[m] (List.getElem_mem hlt))
              obtain ⟨q, hq⟩ : ∃ q, q = t.ks[m] := ⟨_, rfl⟩
              rw [← hq] at p0 p1 p2 hkT KT GQ
              have HKT := Lib.hid hkT
              have d0 := (bel.cell hlt').trans p0
              have d1 := (bel.cell hlt').trans p1
              have d2 := (bel.cell hlt').trans p2
              have ha := below_alloc' wr (.cells #[.int .i64 q.k, .int .i64 q.i, .slice A' q.ks.length c'] 24)
              have TK : Reg15 wr wo.heap.size q A' c' t (some ⟨b, o, none⟩) c2 d bd (wr.alloc (.cells #[.int .i64 q.k, .int .i64 q.i, .slice A' q.ks.length c'] 24)).drew :=
                (Reg15.mk (Box3.new _ _ _ _) (NBM.out.keep ha NBM.out.lt) ha).keep ((Below.refl _ _).drew)
              have hd2 : (d : Int) ≤ 100 := by omega
              have wr1 : IntKind.i64.wrap ((d : Int) + 1) = (d : Int) + 1 := by rw [IntKind.wrap_i64]; omega
              obtain ⟨bd', hbd'⟩ : ∃ bd', bd' = bdB t.k t.i bd := ⟨_, rfl⟩
              rw [← hbd'] at KT GQ
              have HBD := Lib.hid hbd'
              have hnbl := NBM.out.lt
              have hbz := bel.size
              clear p0 p1 p2 hkT hq hbd'
              go_wp2_with fail
              go_region_held3 (fun w' => (w'.cell? ⟨wr.heap.size, 0, none⟩ = some (.int .i64 q.k) ∧ w'.cell? ⟨wr.heap.size, 1, none⟩ = some (.int .i64 q.i) ∧ w'.cell? ⟨wr.heap.size, 2, none⟩ = some (.slice A' q.ks.length c')) ∧ (w'.cell? ⟨wo.heap.size, 0, none⟩ = some (.int .i64 t.k) ∧ w'.cell? ⟨wo.heap.size, 1, none⟩ = some (.int .i64 t.i) ∧ w'.cell? ⟨wo.heap.size, 2, none⟩ = some (.slice (some ⟨b, o, none⟩) t.ks.length c2) ∧ w'.cell? ⟨wo.heap.size, 3, none⟩ = some (.int .i64 (d : Int)) ∧ w'.cell? ⟨wo.heap.size, 4, none⟩ = some (.int .u64 (bd : Int))))
                (first | exact ⟨TK.kid.cells, TK.nb.cells⟩ | exact ⟨(TK.alloc _).kid.cells, (TK.alloc _).nb.cells⟩ | exact ⟨K4.out.1.cells, K4.out.2.cells⟩)
                (first
                  | (go_at_call 144; refine (sbound_any t.k t.i (some ⟨b, o, none⟩) t.ks.length c2 bd _ hgu).mono ?_; rintro e w3 ⟨rfl, hb3⟩; rw [← HBD.out]; replace TK := TK.keep hb3; clear hb3)
                  | (refine step_append_lies _ rfl _ _ _ rfl (w.heap.size + 1) 136 i0 _ 5 56 Tryz.underlying137 HI.out.1 HI.out.2.1 HI.out.2.2.1 HI.out.2.2.2 (by rfl) (by omega) (.slice A4 (n + m) c4) (n + m) (rowS (st0 ++ (kidSp t d bd).take m) cs4) (by rfl) (by exact OWN.out _ (TK.alloc _).below) ⟨w3.heap.size, 0, none⟩ 1 1 [.int .i64 q.k, .int .i64 q.i, .slice A' q.ks.length c', .int .i64 ((d : Int) + 1), .int .u64 (bd' : Int)] (by rfl) (by rfl) (by exact news5s _ _ _ _ _ _ _) (by simp [Value.oneCell']) (by omega) (by unfold maxLen; omega) (by omega) (by have := TK.below.size; simp; omega) (w3.heap.size + 1) (by simp) ?_; intro g4 cap4 w4 hown4 hgrow hat hlt4; have K4 := Lib.hid (And.intro ((TK.alloc _).kid.grown hgrow (fun e => by have := OLT.out _ e.symm; omega)) ((TK.alloc _).nb.grown hgrow (fun e => GN.out _ e.symm rfl))); have HO4 := Lib.hid hown4; have HG4 := Lib.hid hgrow; have HAT := Lib.hid hat; clear hown4 hgrow hat))
              have NS := Lib.hid (PUSH.out (q, d + 1, bd') w4 _ A' c' g4 cap4 HKT.out GQ.out (TK.alloc _).below HO4.out HG4.out)
              have NG := Lib.hid (show ∀ g', (Value.slice (some ⟨g4, 0, none⟩) (n + (m + 1)) cap4).ownBlock = some g' → g' ≠ wo.heap.size from fun g' e => by
                obtain rfl : g4 = g' := by simpa [Value.ownBlock] using e
                rcases HAT.out with h | h
                · exact GN.out _ h
                · have := TK.below.size; omega)
              go_wp2_with fail
              go_roundw
              case rel => exact ⟨m + 1, _, _, _, by omega, by go_num, rfl, by rw [KT.out, ← List.append_assoc]; exact NS.out, K4.out.2, NG.out⟩
              case measure => simp [intOf]; omega
            · obtain rfl : m = t.ks.length := by omega
              have KT := Lib.hid (show (kidSp t d bd).take t.ks.length = kidSp t d bd from List.take_of_length_le (by unfold kidSp; rw [List.length_map]; exact Nat.le_refl _))
              rw [KT.out] at SM hll
              go_wp2_with fail
              go_roundg (spN (st0 ++ kidSp t d bd))
              case measure => rw [List.concat_eq_append]; exact DRP.out
              case rel => exact ⟨sz + 1, dp, st0 ++ kidSp t d bd, _, _, _, rfl, by first | rfl | simp, rfl, by rw [hll], by omega, CN.out, SM.out⟩
end Go.Proofs.YtgnfbhemkombaaaGreat
namespace Go.Proofs.YtgnfbhemkombaaaGreat
open Go.RowKit
set_option linter.unusedVariables false
set_option linter.unusedSimpArgs false
/-- what may be is answered, else why not -/
def limR (t : Tr) : Tr × Nat := if rightN t = 0 then (t, 0) else (zeroT, rightN t)
theorem measN_right {l : List (Int × Tr)} {a : Tr} (hl : ∀ p ∈ l, rightN p.2 = 0) (ht : ∀ p ∈ l, termB p.2.k = true) (ha : rightN a = 0) : measN l a = rightN (putE l a 0) := by
  unfold measN
  rw [putE_right (fun p hp => ⟨ht p hp, (right_shp' (hl p hp)).1⟩) (right_shp' ha).1]
set_option maxHeartbeats 4000000 in
set_option maxRecDepth 100000 in
theorem repl_any (a : Tr) (A : Option Addr) (c : Nat) (l : List (Int × Tr)) (Al : Option Addr) (cl : Nat) (hl : ∀ p ∈ l, rightN p.2 = 0) (ht : ∀ p ∈ l, termB p.2.k = true) (har : rightN a = 0) (w : World) (ha : IsT w w.heap.size a A c) (hp : IsP w w.heap.size l Al cl) :
    Calls Tryz.prog 121 #[.agg #[.int .i64 a.k, .int .i64 a.i, .slice A a.ks.length c], .slice Al l.length cl] w (AnsPost w (limR (putE l a 0))) := by
  obtain ⟨e0, e1, hb0⟩ := two_boxes0 w (.int .i64 a.k) (.int .i64 a.i) (.slice A a.ks.length c) (.int .i64 0) (.int .i64 0) (.slice none 0 0)
  have E0 := Lib.hid e0
  have E1 := Lib.hid e1
  have HB0 := Lib.hid hb0
  have P0 := Lib.hid (hp.up hb0)
  have T0 := Lib.hid (ha.keep hb0 hb0.size)
  have M := Lib.hid (measN_right hl ht har)
  have HL := Lib.hid hl
  have HR := Lib.hid har
  obtain ⟨y0, y1, y2⟩ := e0.cells
  clear e0 e1 hb0 hp ha hl ht har
  go_enter Tryz.func121, Tryz.ntmps121
  go_wp2_with fail
  refine (measure_any a A c l Al cl HL.out HR.out _ (by exact T0.out) (by exact P0.out)).mono ?_
  rintro e w1 ⟨rfl, hb1⟩
  have X0 := Lib.hid (E0.out.keep hb1 E0.out.lt)
  have X1 := Lib.hid (E1.out.keep hb1 E1.out.lt)
  have W1 := Lib.hid (HB0.out.trans (hb1.mono HB0.out.size))
  have P1 := Lib.hid (P0.out.up hb1)
  have T1 := Lib.hid (T0.out.keep hb1 hb1.size)
  have hs1 : w.heap.size + 1 < w1.heap.size := X1.out.lt
  clear y0 y1 y2 hb1 E0 E1 HB0 P0 T0
  obtain ⟨y0, y1, y2⟩ := X0.out.cells
  by_cases h0 : measN l a = 0
  · have F := Lib.hid (show limR (putE l a 0) = (putE l a 0, 0) by unfold limR; rw [if_pos (by rw [← M.out]; exact h0)])
    have h1 : ((measN l a : Int) != 0) = false := by simp [h0]
    clear h0
    go_wp2_with fail
    refine (replaced_any l Al cl HL.out a.sz a A c 0 _ (Nat.le_refl _) zero_U (by exact T1.out) (by exact P1.out)).mono ?_
    rintro e w2 ⟨A2, c2, rfl, ho, hb2⟩
    have R2 := Lib.hid (X1.out.keep hb2 X1.out.lt)
    have W2 := Lib.hid (W1.out.trans (hb2.mono W1.out.size))
    have HO := Lib.hid ho
    obtain ⟨z0, z1, z2⟩ := R2.out.cells
    have f0 := R2.out.frozen 0
    have f1 := R2.out.frozen 1
    have f2 := R2.out.frozen 2
    clear hb2 ho y0 y1 y2
    obtain ⟨u, hu⟩ : ∃ u, u = putE l a 0 := ⟨_, rfl⟩
    have HU := Lib.hid hu.symm
    rw [← hu] at F HO ⊢
    clear hu
    go_wp2_with fail
    refine bodyPost_ret (v := .tuple #[.agg #[.int .i64 u.k, .int .i64 u.i, .slice A2 u.ks.length c2], .int .i64 0]) (by simp [results, Tryz.results121, go_sem, z0, z1, z2]) rfl ?_
    rw [HU.out]
    exact ans_tree F.out W2.out HO.out (by omega) (by omega)
  · have F := Lib.hid (show limR (putE l a 0) = (zeroT, measN l a) by unfold limR; rw [if_neg (by rw [← M.out]; exact h0), M.out])
    have h1 : ((measN l a : Int) != 0) = true := by rw [bne_iff_ne]; omega
    obtain ⟨z0, z1, z2⟩ := X1.out.cells
    have f0 := X1.out.frozen 0
    have f1 := X1.out.frozen 1
    have f2 := X1.out.frozen 2
    clear h0
    go_wp2_with fail
    refine bodyPost_ret (v := .tuple #[.agg #[.int .i64 0, .int .i64 0, .slice none 0 0], .int .i64 (measN l a : Int)]) (by simp [results, Tryz.results121, go_sem, z0, z1, z2]) rfl ?_
    exact ans_zero F.out W1.out (by omega)
set_option maxHeartbeats 4000000 in
set_option maxRecDepth 100000 in
theorem faultOf_any (a : Tr) (A : Option Addr) (c : Nat) (l : List (Int × Tr)) (Al : Option Addr) (cl : Nat) (w : World) (ha : IsT w w.heap.size a A c) (hp : IsP w w.heap.size l Al cl) :
    Calls Tryz.prog 120 #[.agg #[.int .i64 a.k, .int .i64 a.i, .slice A a.ks.length c], .slice Al l.length cl] w fun e w' => e = .returned (.int .i64 ((faultE a l : Nat) : Int)) ∧ Below w.heap.size w w' := by
  have T0 := Lib.hid (One.new ha)
  obtain ⟨y0, y1, y2⟩ := And.intro T0.out.b0 (And.intro T0.out.b1 T0.out.b2)
  have HP := Lib.hid hp
  have hcap := hp.cap
  have hle := hp.le
  clear ha hp
  go_enter Tryz.func120, Tryz.ntmps120
  go_wp2_with fail
  go_loopw [5, 16] (fun v i wr => ∃ m vs : Nat, m ≤ l.length ∧ i = .int .i64 m ∧ v = .int .u64 (vs : Int) ∧ U64 vs ∧ argE l 0 = argE (l.drop m) vs ∧ One w wr a A c) (fun _ i _ => l.length - (intOf i).toNat)
  case atStart => exact ⟨0, 0, Nat.zero_le _, rfl, rfl, zero_U, by rw [List.drop_zero], T0.out⟩
  case round =>
    obtain ⟨m, vs, hm', rfl, rfl, hU, hA, hO⟩ := hrel
    have HU := Lib.hid hU
    have AE := Lib.hid hA
    have OO := Lib.hid hO
    have PR := Lib.hid (HP.out.up hO.below)
    clear hU hA hO y0 y1 y2
    by_cases hlt : m < l.length
    · obtain ⟨b, o, A', c', rfl, hltb, p0, p1, p2, p3, ht⟩ := PR.out.at_ m hlt
      have DR := Lib.hid (List.drop_eq_getElem_cons hlt)
      obtain ⟨p, hp⟩ : ∃ p, p = l[m] := ⟨_, rfl⟩
      rw [← hp] at p0 p1 p2 p3 DR
      rw [DR.out] at AE
      have ha := below_alloc wr (.cells #[.int .i64 p.1, .int .i64 p.2.k, .int .i64 p.2.i, .slice A' p.2.ks.length c'] 108)
      have O1 := Lib.hid (OO.out.keep ha)
      obtain ⟨q0, q1, q2, q3⟩ := box4_new wr (.int .i64 p.1) (.int .i64 p.2.k) (.int .i64 p.2.i) (.slice A' p.2.ks.length c') 108
      clear hp ht
      by_cases h0 : p.1 < 0
      · have F := Lib.hid (show faultE a l = 1 by unfold faultE; rw [if_pos (by rw [AE.out]; simp [argE, show ¬ 0 ≤ p.1 by omega])])
        go_wp2_with fail
        go_ret
        exact ⟨by rw [F.out]; rfl, O1.out.below⟩
      · by_cases h1 : 63 < p.1
        · have F := Lib.hid (show faultE a l = 1 by unfold faultE; rw [if_pos (by rw [AE.out]; simp [argE, show ¬ p.1 ≤ 63 by omega])])
          go_wp2_with fail
          go_ret
          exact ⟨by rw [F.out]; rfl, O1.out.below⟩
        · cases hh : hasN vs p.1 with
          | true =>
            have F := Lib.hid (show faultE a l = 1 by unfold faultE; rw [if_pos (by rw [AE.out]; simp [argE, hh])])
            go_wp2_with fail
            refine (has_any vs p.1 _ HU.out).mono ?_
            rintro e w9 ⟨rfl, hw9⟩
            rw [← hw9, hh]
            clear hw9
            go_wp2_with fail
            go_ret
            exact ⟨by rw [F.out]; rfl, O1.out.below⟩
          | false =>
            have F := Lib.hid (show argE l 0 = argE (l.drop (m + 1)) (withN vs p.1) by rw [AE.out]; simp [argE, hh, show 0 ≤ p.1 by omega, show p.1 ≤ 63 by omega])
            go_wp2_with fail
            refine (has_any vs p.1 _ HU.out).mono ?_
            rintro e w9 ⟨rfl, hw9⟩
            rw [← hw9, hh]
            clear hw9
            go_wp2_with fail
            refine (with_any vs p.1 _ HU.out).mono ?_
            rintro e w9 ⟨rfl, hw9⟩
            rw [← hw9]
            clear hw9
            go_wp2_with fail
            go_roundw
            case rel => exact ⟨m + 1, withN vs p.1, by omega, by go_num, rfl, withU _ HU.out, F.out, O1.out⟩
            case measure => simp [intOf]; omega
    · obtain rfl : m = l.length := by omega
      have AT := Lib.hid (show argE l 0 = true by rw [AE.out, List.drop_length]; rfl)
      obtain ⟨y0, y1, y2⟩ := And.intro OO.out.b0 (And.intro OO.out.b1 OO.out.b2)
      have F0 := Lib.hid (show faultE a l = if rightN a ≠ 0 then rightN a else if rightL l ≠ 0 then rightL l else if termL l = false then 40 else 0 by unfold faultE; rw [if_neg (by rw [AT.out]; simp)])
      clear AE PR
      go_wp2_with fail
      refine (right_any a A c _ (by exact OO.out.tree)).mono ?_
      rintro e w1 ⟨rfl, hb1⟩
      have O1 := Lib.hid (OO.out.keep hb1)
      clear hb1 y0 y1 y2
      by_cases hr : rightN a = 0
      · have h0 : ((rightN a : Int) != 0) = false := by simp [hr]
        rw [if_neg (by simp [hr])] at F0
        clear hr
        go_wp2_with fail
        go_loopw [46] (fun i wr => ∃ m : Nat, m ≤ l.length ∧ i = .int .i64 m ∧ rightL l = rightL (l.drop m) ∧ One w wr a A c) (fun i _ => l.length - (intOf i).toNat)
        case atStart => exact ⟨0, Nat.zero_le _, rfl, by rw [List.drop_zero], O1.out⟩
        case round =>
          obtain ⟨m, hm', rfl, hA, hO⟩ := hrel
          have AE := Lib.hid hA
          have OO := Lib.hid hO
          have PR := Lib.hid (HP.out.up hO.below)
          clear hA hO O1
          by_cases hlt : m < l.length
          · obtain ⟨b, o, A', c', rfl, hltb, p0, p1, p2, p3, ht⟩ := PR.out.at_ m hlt
            have DR := Lib.hid (List.drop_eq_getElem_cons hlt)
            obtain ⟨p, hp⟩ : ∃ p, p = l[m] := ⟨_, rfl⟩
            rw [← hp] at p0 p1 p2 p3 DR ht
            rw [DR.out] at AE
            have ha := below_alloc wr (.cells #[.int .i64 p.1, .int .i64 p.2.k, .int .i64 p.2.i, .slice A' p.2.ks.length c'] 108)
            have O1 := Lib.hid (OO.out.keep ha)
            have TT := Lib.hid (ht.keep ha ha.size)
            obtain ⟨q0, q1, q2, q3⟩ := box4_new wr (.int .i64 p.1) (.int .i64 p.2.k) (.int .i64 p.2.i) (.slice A' p.2.ks.length c') 108
            clear hp ht
            go_wp2_with fail
            refine (right_any p.2 A' c' _ (by exact TT.out)).mono ?_
            rintro e w2 ⟨rfl, hb2⟩
            have O2 := Lib.hid (O1.out.keep hb2)
            clear hb2
            by_cases hr : rightN p.2 = 0
            · have h2 : ((rightN p.2 : Int) != 0) = false := by simp [hr]
              have F := Lib.hid (show rightL l = rightL (l.drop (m + 1)) by rw [AE.out]; simp [rightL, hr])
              clear hr
              go_wp2_with fail
              go_roundw
              case rel => exact ⟨m + 1, by omega, by go_num, F.out, O2.out⟩
              case measure => simp [intOf]; omega
            · have h2 : ((rightN p.2 : Int) != 0) = true := by rw [bne_iff_ne]; omega
              have F := Lib.hid (show faultE a l = rightN p.2 by rw [F0.out, AE.out]; simp [rightL, hr])
              clear hr
              go_wp2_with fail
              go_ret
              exact ⟨by rw [F.out]; rfl, O2.out.below⟩
          · obtain rfl : m = l.length := by omega
            have RL := Lib.hid (show rightL l = 0 by rw [AE.out, List.drop_length]; rfl)
            rw [RL.out] at F0
            simp only [ne_eq, not_true_eq_false, if_false] at F0
            have RA := Lib.hid (rightL_all RL.out)
            clear AE PR
            go_wp2_with fail
            go_loopw [59] (fun i wr => ∃ m : Nat, m ≤ l.length ∧ i = .int .i64 m ∧ termL l = termL (l.drop m) ∧ One w wr a A c) (fun i _ => l.length - (intOf i).toNat)
            case atStart => exact ⟨0, Nat.zero_le _, rfl, by rw [List.drop_zero], OO.out⟩
            case round =>
              obtain ⟨m, hm', rfl, hA, hO⟩ := hrel
              have AE := Lib.hid hA
              have PR := Lib.hid (HP.out.up hO.below)
              have O3 := Lib.hid hO
              clear hA hO OO
              by_cases hlt : m < l.length
              · obtain ⟨b, o, A', c', rfl, hltb, p0, p1, p2, p3, ht⟩ := PR.out.at_ m hlt
                have DR := Lib.hid (List.drop_eq_getElem_cons hlt)
                have RP := Lib.hid (RA.out l[m] (List.getElem_mem hlt))
                obtain ⟨p, hp⟩ : ∃ p, p = l[m] := ⟨_, rfl⟩
                rw [← hp] at p0 p1 p2 p3 DR ht RP
                rw [DR.out] at AE
                have ha := below_alloc wr (.cells #[.int .i64 p.1, .int .i64 p.2.k, .int .i64 p.2.i, .slice A' p.2.ks.length c'] 108)
                have O1 := Lib.hid (O3.out.keep ha)
                have TT := Lib.hid (ht.keep ha ha.size)
                obtain ⟨q0, q1, q2, q3⟩ := box4_new wr (.int .i64 p.1) (.int .i64 p.2.k) (.int .i64 p.2.i) (.slice A' p.2.ks.length c') 108
                clear hp ht
                go_wp2_with fail
                refine (isTerm_any p.2 A' c' _ (by exact TT.out)).mono ?_
                rintro e w2 ⟨rfl, hb2⟩
                rw [isTB_term RP.out]
                have O2 := Lib.hid (O1.out.keep hb2)
                clear hb2
                cases hr : termB p.2.k with
                | true =>
                  have F := Lib.hid (show termL l = termL (l.drop (m + 1)) by rw [AE.out]; simp [termL, hr])
                  go_wp2_with fail
                  go_roundw
                  case rel => exact ⟨m + 1, by omega, by go_num, F.out, O2.out⟩
                  case measure => simp [intOf]; omega
                | false =>
                  have F := Lib.hid (show faultE a l = 40 by rw [F0.out, if_pos (by rw [AE.out]; simp [termL, hr])])
                  go_wp2_with fail
                  go_ret
                  exact ⟨by rw [F.out]; rfl, O2.out.below⟩
              · obtain rfl : m = l.length := by omega
                have F := Lib.hid (show faultE a l = 0 by rw [F0.out, if_neg (by rw [AE.out, List.drop_length]; simp [termL])])
                go_wp2_with fail
                go_ret
                exact ⟨by rw [F.out]; rfl, O3.out.below⟩
      · have h0 : ((rightN a : Int) != 0) = true := by rw [bne_iff_ne]; omega
        rw [if_pos hr] at F0
        clear hr
        go_wp2_with fail
        go_ret
        exact ⟨by rw [F0.out]; rfl, O1.out.below⟩
end Go.Proofs.YtgnfbhemkombaaaGreat
namespace Go.Proofs.YtgnfbhemkombaaaGreat
open Go.RowKit
set_option linter.unusedVariables false
set_option linter.unusedSimpArgs false
/-- what Each answers -/
def eachR (a : Tr) (l : List (Int × Tr)) : Tr × Nat := if eachN a l = 0 then (putE l a 0, 0) else (zeroT, eachN a l)
theorem eachR_fault {a : Tr} {l : List (Int × Tr)} (h : faultE a l ≠ 0) : eachR a l = (zeroT, faultE a l) := by
  have e : eachN a l = faultE a l := by unfold eachN; rw [if_pos h]
  unfold eachR
  rw [e, if_neg h]
theorem eachR_cap {a : Tr} {l : List (Int × Tr)} (h : faultE a l = 0) (hc : capE a l = false) : eachR a l = (zeroT, 50) := by
  have e : eachN a l = 50 := by unfold eachN; rw [if_neg (by simp [h]), if_pos hc]
  unfold eachR
  rw [e]
  rfl
theorem eachR_ok {a : Tr} {l : List (Int × Tr)} (h : faultE a l = 0) (hc : capE a l = true) : eachR a l = limR (putE l a 0) := by
  have e : eachN a l = rightN (putE l a 0) := by unfold eachN; rw [if_neg (by simp [h]), if_neg (by simp [hc])]
  unfold eachR limR
  rw [e]
theorem ffB_ok {x : Int} {t a : Tr} (h0 : 0 ≤ x) (h1 : x ≤ 63) (ht : rightN t = 0) (ha : rightN a = 0) (hk : termB t.k = true) : askN x t a = 0 ∧ ffB x t a = decide (catT (varsT t) x a = 0) := by
  have f1 : firstN t a = 0 := by unfold firstN; rw [if_neg (by simp [ht]), ha]
  have h : askN x t a = 0 := by unfold askN wantTN; rw [if_pos ⟨h0, h1⟩, if_pos f1, if_pos ht, if_pos hk]
  refine ⟨h, ?_⟩
  unfold ffB catV
  rw [if_pos h, decide_eq_true h]
  rfl
theorem capE_drop {a : Tr} {l : List (Int × Tr)} {m : Nat} (h : m < l.length) : capE a (l.drop m) = (decide (catT (varsT l[m].2) l[m].1 a = 0) && capE a (l.drop (m + 1))) := by
  rw [List.drop_eq_getElem_cons h]
  unfold capE
  rw [List.all_cons]
  rfl
/-- an answer is handed on through a box -/
theorem ans_pass {w wr : World} {x : Tr × Nat} {A : Option Addr} {c lo b : Nat} (hbr : Below w.heap.size w wr) (ho : OwnT wr lo wr.heap.size x.1 A c) (hb : w.heap.size ≤ b) (hlo : b < lo) :
    AnsPost w x (.returned (.tuple #[.agg #[.int .i64 x.1.k, .int .i64 x.1.i, .slice A x.1.ks.length c], .int .i64 ((x.2 : Nat) : Int)])) (((wr.setCell ⟨b, 0, none⟩ (.int .i64 x.1.k)).setCell ⟨b, 1, none⟩ (.int .i64 x.1.i)).setCell ⟨b, 2, none⟩ (.slice A x.1.ks.length c)) := by
  refine ⟨below_set3 hbr _ _ _ hb, A, c, ?_, rfl⟩
  have hs : SameIn lo wr.heap.size wr (((wr.setCell ⟨b, 0, none⟩ (.int .i64 x.1.k)).setCell ⟨b, 1, none⟩ (.int .i64 x.1.i)).setCell ⟨b, 2, none⟩ (.slice A x.1.ks.length c)) := same_set3 _ _ _ _ _ hlo
  have := (OwnT.same _ hs ho).lower (lo' := w.heap.size) (by omega)
  simpa using this
/-- what Each holds -/
structure EK (w W : World) (a : Tr) (A : Option Addr) (c : Nat) (l : List (Int × Tr)) (Al : Option Addr) (cl : Nat) : Prop where
  ab : Box3 W w.heap.size (.int .i64 a.k) (.int .i64 a.i) (.slice A a.ks.length c)
  rb : Box3 W (w.heap.size + 1) (.int .i64 0) (.int .i64 0) (.slice none 0 0)
  tree : IsT W W.heap.size a A c
  pairs : IsP W W.heap.size l Al cl
  below : Below w.heap.size w W
theorem EK.keep {w W W' : World} {a : Tr} {A : Option Addr} {c : Nat} {l : List (Int × Tr)} {Al : Option Addr} {cl : Nat} (h : EK w W a A c l Al cl) (hb : Below W.heap.size W W') : EK w W' a A c l Al cl :=
  ⟨h.ab.keep hb h.ab.lt, h.rb.keep hb h.rb.lt, h.tree.keep hb hb.size, h.pairs.up hb, h.below.trans (hb.mono h.below.size)⟩
set_option maxHeartbeats 4000000 in
set_option maxRecDepth 100000 in
theorem each_any (a : Tr) (A : Option Addr) (c : Nat) (l : List (Int × Tr)) (Al : Option Addr) (cl : Nat) (w : World) (ha : IsT w w.heap.size a A c) (hp : IsP w w.heap.size l Al cl) :
    Calls Tryz.prog 104 #[.agg #[.int .i64 a.k, .int .i64 a.i, .slice A a.ks.length c], .slice Al l.length cl] w (AnsPost w (eachR a l)) := by
  obtain ⟨e0, e1, hb0⟩ := two_boxes0 w (.int .i64 a.k) (.int .i64 a.i) (.slice A a.ks.length c) (.int .i64 0) (.int .i64 0) (.slice none 0 0)
  have E0 := Lib.hid e0
  have E1 := Lib.hid e1
  have HB0 := Lib.hid hb0
  have P0 := Lib.hid (hp.up hb0)
  have T0 := Lib.hid (ha.keep hb0 hb0.size)
  have hcap := hp.cap
  have hle := hp.le
  obtain ⟨y0, y1, y2⟩ := e0.cells
  clear e0 e1 hb0 hp ha
  go_enter Tryz.func104, Tryz.ntmps104
  go_wp2_with fail
  refine (faultOf_any a A c l Al cl _ (by exact T0.out) (by exact P0.out)).mono ?_
  rintro e w1 ⟨rfl, hb1⟩
  have X0 := Lib.hid (E0.out.keep hb1 E0.out.lt)
  have X1 := Lib.hid (E1.out.keep hb1 E1.out.lt)
  have W1 := Lib.hid (HB0.out.trans (hb1.mono HB0.out.size))
  have P1 := Lib.hid (P0.out.up hb1)
  have T1 := Lib.hid (T0.out.keep hb1 hb1.size)
  have hs1 : w.heap.size + 1 < w1.heap.size := X1.out.lt
  clear y0 y1 y2 hb1 E0 E1 HB0 P0 T0
  by_cases h0 : faultE a l = 0
  · obtain ⟨q1, q2, q3, q4⟩ := faultE_zero h0
    have HR := Lib.hid q2
    have HL := Lib.hid q3
    have HT := Lib.hid q4
    have HX := Lib.hid (argE_mem q1)
    have F0 := Lib.hid h0
    have h1 : ((faultE a l : Int) != 0) = false := by simp [h0]
    clear h0 q1 q2 q3 q4
    go_wp2_with fail
    have K1 := Lib.hid (EK.mk X0.out X1.out T1.out P1.out W1.out)
    go_loopw [20] (fun i wr => ∃ m : Nat, m ≤ l.length ∧ i = .int .i64 m ∧ capE a l = capE a (l.drop m) ∧ EK w wr a A c l Al cl) (fun i _ => l.length - (intOf i).toNat)
    case atStart => exact ⟨0, Nat.zero_le _, rfl, by rw [List.drop_zero], K1.out⟩
    case round =>
      obtain ⟨m, hm', rfl, hA, hK⟩ := hrel
      have AE := Lib.hid hA
      have KR := Lib.hid hK
      clear hA hK X0 X1 W1 P1 T1 K1
      by_cases hlt : m < l.length
      · have CD := Lib.hid (AE.out.trans (capE_drop hlt))
        have FF := Lib.hid (ffB_ok (HX.out _ (List.getElem_mem hlt)).1 (HX.out _ (List.getElem_mem hlt)).2 (HL.out _ (List.getElem_mem hlt)) HR.out (HT.out _ (List.getElem_mem hlt)))
        obtain ⟨b, o, A', c', rfl, hltb, p0, p1, p2, p3, ht⟩ := KR.out.pairs.at_ m hlt
        obtain ⟨p, hp⟩ : ∃ p, p = l[m] := ⟨_, rfl⟩
        rw [← hp] at p0 p1 p2 p3 ht CD FF
        have ha := below_alloc wr (.cells #[.int .i64 p.1, .int .i64 p.2.k, .int .i64 p.2.i, .slice A' p.2.ks.length c'] 108)
        have K2 := Lib.hid (KR.out.keep ha)
        have TT := Lib.hid (ht.keep ha ha.size)
        obtain ⟨q0, q1, q2, q3⟩ := box4_new wr (.int .i64 p.1) (.int .i64 p.2.k) (.int .i64 p.2.i) (.slice A' p.2.ks.length c') 108
        obtain ⟨y0, y1, y2⟩ := K2.out.ab.cells
        clear hp ht ha AE
        go_wp2_with fail
        refine (freeFor_any p.2 a p.1 A' A c' c _ (by exact TT.out) (by exact K2.out.tree)).mono ?_
        rintro e w2 ⟨rfl, hb2⟩
        rw [FF.out.1, FF.out.2]
        have K3 := Lib.hid (K2.out.keep hb2)
        clear hb2 y0 y1 y2 q0 q1 q2 q3
        cases hd : decide (catT (varsT p.2) p.1 a = 0) with
        | true =>
          rw [hd, Bool.true_and] at CD
          go_wp2_with fail
          go_roundw
          case rel => exact ⟨m + 1, by omega, by go_num, CD.out, K3.out⟩
          case measure => simp [intOf]; omega
        | false =>
          rw [hd, Bool.false_and] at CD
          have F := Lib.hid (eachR_cap F0.out CD.out)
          obtain ⟨z0, z1, z2⟩ := K3.out.rb.cells
          have f0 := K3.out.rb.frozen 0
          have f1 := K3.out.rb.frozen 1
          have f2 := K3.out.rb.frozen 2
          go_wp2_with fail
          refine bodyPost_ret (v := .tuple #[.agg #[.int .i64 0, .int .i64 0, .slice none 0 0], .int .i64 50]) (by simp [results, Tryz.results104, go_sem, z0, z1, z2]) rfl ?_
          exact ans_zero F.out K3.out.below (by omega)
      · obtain rfl : m = l.length := by omega
        have CT := Lib.hid (show capE a l = true by rw [AE.out, List.drop_length]; rfl)
        have F := Lib.hid (eachR_ok F0.out CT.out)
        obtain ⟨y0, y1, y2⟩ := KR.out.ab.cells
        have hrl := KR.out.rb.lt
        go_wp2_with fail
        refine (repl_any a A c l Al cl HL.out HT.out HR.out _ (by exact KR.out.tree) (by exact KR.out.pairs)).mono ?_
        rintro e w2 ⟨hb2, A2, c2, ho, rfl⟩
        rw [← F.out] at ho ⊢
        have K3 := Lib.hid (KR.out.keep hb2)
        have HO := Lib.hid ho
        obtain ⟨z0, z1, z2⟩ := K3.out.rb.cells
        have f0 := K3.out.rb.frozen 0
        have f1 := K3.out.rb.frozen 1
        have f2 := K3.out.rb.frozen 2
        clear hb2 ho y0 y1 y2
        go_wp2_with fail
        refine bodyPost_ret (v := .tuple #[.agg #[.int .i64 (eachR a l).1.k, .int .i64 (eachR a l).1.i, .slice A2 (eachR a l).1.ks.length c2], .int .i64 ((eachR a l).2 : Int)]) (by simp [results, Tryz.results104, go_sem, z0, z1, z2]) rfl ?_
        exact ans_pass K3.out.below HO.out (by omega) (by omega)
  · have F := Lib.hid (eachR_fault h0)
    have h1 : ((faultE a l : Int) != 0) = true := by rw [bne_iff_ne]; omega
    obtain ⟨z0, z1, z2⟩ := X1.out.cells
    have f0 := X1.out.frozen 0
    have f1 := X1.out.frozen 1
    have f2 := X1.out.frozen 2
    clear h0
    go_wp2_with fail
    refine bodyPost_ret (v := .tuple #[.agg #[.int .i64 0, .int .i64 0, .slice none 0 0], .int .i64 (faultE a l : Int)]) (by simp [results, Tryz.results104, go_sem, z0, z1, z2]) rfl ?_
    exact ans_zero F.out W1.out (by omega)
/-- a row of one pair -/
theorem IsP.one {w : World} {x : Int} {t : Tr} {A : Option Addr} {c : Nat} (ht : IsT w w.heap.size t A c) : IsP (w.alloc (.cells #[.int .i64 x, .int .i64 t.k, .int .i64 t.i, .slice A t.ks.length c] 108)) (w.heap.size + 1) [(x, t)] (some ⟨w.heap.size, 0, none⟩) 1 := by
  obtain ⟨q0, q1, q2, q3⟩ := box4_new w (.int .i64 x) (.int .i64 t.k) (.int .i64 t.i) (.slice A t.ks.length c) 108
  refine ⟨Nat.le_refl _, by show 1 * 48 ≤ _; omega, fun m hm => ?_⟩
  obtain rfl : m = 0 := by simpa using hm
  exact ⟨w.heap.size, 0, A, c, rfl, Nat.lt_succ_self _, by simp, by simp, by simp, by simp, ht.keep (below_alloc w _) (Nat.le_succ _)⟩
set_option maxHeartbeats 4000000 in
set_option maxRecDepth 100000 in
theorem sput_any (a : Tr) (A : Option Addr) (c : Nat) (x : Int) (t : Tr) (A' : Option Addr) (c' : Nat) (w : World) (ha : IsT w w.heap.size a A c) (ht : IsT w w.heap.size t A' c') :
    Calls Tryz.prog 81 #[.agg #[.int .i64 a.k, .int .i64 a.i, .slice A a.ks.length c], .int .i64 x, .agg #[.int .i64 t.k, .int .i64 t.i, .slice A' t.ks.length c']] w (AnsPost w (eachR a [(x, t)])) := by
  obtain ⟨e0, e1, e2, hb0⟩ := three_boxes w (.int .i64 a.k) (.int .i64 a.i) (.slice A a.ks.length c) (.int .i64 t.k) (.int .i64 t.i) (.slice A' t.ks.length c') (.int .i64 0) (.int .i64 0) (.slice none 0 0)
  have TA := Lib.hid (ha.keep hb0 hb0.size)
  have TT := Lib.hid (ht.keep hb0 hb0.size)
  have E2 := Lib.hid e2
  have HB0 := Lib.hid hb0
  obtain ⟨y0, y1, y2⟩ := e0.cells
  obtain ⟨t0, t1, t2⟩ := e1.cells
  clear e0 e1 e2 hb0 ha ht
  have PP := Lib.hid (IsP.one (x := x) TT.out)
  have TA4 := Lib.hid (fun o => TA.out.keep (below_alloc _ o) (below_alloc _ o).size)
  have R4 := Lib.hid (fun o => E2.out.keep (below_alloc _ o) E2.out.lt)
  have B4 := Lib.hid (fun o => HB0.out.trans ((below_alloc _ o).mono HB0.out.size))
  go_enter Tryz.func81, Tryz.ntmps81
  go_wp2_with fail
  refine (each_any a A c [(x, t)] _ 1 _ (by exact TA4.out _) (by simpa using PP.out)).mono ?_
  rintro e w2 ⟨hb2, A2, c2, ho, rfl⟩
  have hs2 := hb2.size
  simp only [World.size_alloc] at hs2 ho
  have R5 := Lib.hid ((R4.out _).keep hb2 (R4.out _).lt)
  have B5 := Lib.hid ((B4.out _).trans (hb2.mono (by simp; omega)))
  have HO := Lib.hid ho
  obtain ⟨z0, z1, z2⟩ := R5.out.cells
  have f0 := R5.out.frozen 0
  have f1 := R5.out.frozen 1
  have f2 := R5.out.frozen 2
  clear hb2 ho y0 y1 y2 t0 t1 t2
  go_wp2_with fail
  refine bodyPost_ret (v := .tuple #[.agg #[.int .i64 (eachR a [(x, t)]).1.k, .int .i64 (eachR a [(x, t)]).1.i, .slice A2 (eachR a [(x, t)]).1.ks.length c2], .int .i64 ((eachR a [(x, t)]).2 : Int)]) (by simp [results, Tryz.results81, go_sem, z0, z1, z2]) rfl ?_
  exact ans_pass B5.out HO.out (by omega) (by omega)
end Go.Proofs.YtgnfbhemkombaaaGreat
namespace Go.Proofs.YtgnfbhemkombaaaGreat
open Go.RowKit
set_option linter.unusedVariables false
set_option linter.unusedSimpArgs false
theorem right_fit {t : Tr} (h : rightN t = 0) : t.fit := by
  have : ∀ t : Tr, t.shp = true → t.fit := by
    intro t
    induction t using Tr.ind with
    | h t ih =>
      intro hs
      have := (kind_of_shp t hs).2.2.2.2
      exact (fit_eq t).2 ⟨by unfold Cap; omega, fun q hq => ih q hq (shp_kid hs hq)⟩
  exact this t (right_shp' h).1
theorem zero_fit : zeroT.fit := (fit_eq zeroT).2 ⟨by unfold Cap zeroT; simp [Tr.ks], fun q hq => by simp [zeroT, Tr.ks] at hq⟩
theorem eachR_fit (a : Tr) (l : List (Int × Tr)) : (eachR a l).1.fit := by
  unfold eachR
  split
  · rename_i h
    unfold eachN at h
    split at h
    · rename_i h1; exact absurd h h1
    · split at h
      · cases h
      · exact right_fit h
  · exact zero_fit
theorem eachR_snd (a : Tr) (l : List (Int × Tr)) : (eachR a l).2 = eachN a l := by
  unfold eachR
  split
  · rename_i h; exact h.symm
  · rfl
/-- what is answered lies in memory -/
theorem AnsPost.is {w' : World} {x : Tr × Nat} {lo : Nat} {A : Option Addr} {c : Nat} (h : OwnT w' lo w'.heap.size x.1 A c) (hf : x.1.fit) : IsT w' w'.heap.size x.1 A c := h.isT _ (Nat.le_refl _) hf
/-- one pair alone -/
theorem faultE_one {a t : Tr} {x : Int} : faultE a [(x, t)] = if ¬ (0 ≤ x ∧ x ≤ 63) then 1 else if rightN a ≠ 0 then rightN a else if rightN t ≠ 0 then rightN t else if termB t.k = false then 40 else 0 := by
  have e1 : argE [(x, t)] 0 = decide (0 ≤ x ∧ x ≤ 63) := by
    simp [argE, hasN_zero]
  have e2 : rightL [(x, t)] = rightN t := by
    simp only [rightL]
    split
    · rfl
    · rename_i h; simp at h; exact h.symm
  have e3 : termL [(x, t)] = termB t.k := by simp [termL]
  unfold faultE
  rw [e1, e2, e3]
  by_cases hx : 0 ≤ x ∧ x ≤ 63
  · rw [decide_eq_true hx, if_neg (by simp), if_neg (show ¬ ¬ (0 ≤ x ∧ x ≤ 63) from fun h => h hx)]
  · rw [decide_eq_false hx, if_pos rfl, if_pos hx]
theorem capE_one {a t : Tr} {x : Int} : capE a [(x, t)] = decide (catT (varsT t) x a = 0) := by
  unfold capE capE.ffB'
  simp
/-- a good call -/
theorem eachN_one {a t : Tr} {x : Int} (hx : 0 ≤ x ∧ x ≤ 63) (ha : rightN a = 0) (ht : rightN t = 0) (hk : termB t.k = true) : eachN a [(x, t)] = if catT (varsT t) x a = 0 then rightN (putX x t a) else 50 := by
  have hf : faultE a [(x, t)] = 0 := by rw [faultE_one, if_neg (show ¬ ¬ (0 ≤ x ∧ x ≤ 63) from fun h => h hx), if_neg (by simp [ha]), if_neg (by simp [ht]), if_neg (by simp [hk])]
  unfold eachN
  rw [hf, capE_one]
  by_cases hc : catT (varsT t) x a = 0
  · rw [decide_eq_true hc, if_pos hc]; rfl
  · rw [decide_eq_false hc, if_neg hc]; rfl
theorem eachR_one_ok {a t : Tr} {x : Int} (h : eachN a [(x, t)] = 0) : eachR a [(x, t)] = (putX x t a, 0) := by unfold eachR; rw [if_pos h]
theorem eachR_nil {a : Tr} (ha : rightN a = 0) : eachR a [] = (a, 0) := by
  have h : eachN a [] = 0 := by
    unfold eachN faultE
    simp [argE, ha, rightL, termL, capE, putE_nil]
  unfold eachR
  rw [if_pos h, putE_nil]
theorem like_refl (a : Tr) : likeB a a = true := by unfold likeB; exact decide_eq_true (cmpT_self a)
theorem like_iff {a b : Tr} : likeB a b = true ↔ a = b := by unfold likeB; rw [decide_eq_true_eq]; exact cmpT_zero a b
/-- a box that was laid ahead is filled with what is answered -/
theorem Env.box {w w2 W : World} {bs : List (Nat × Tr × Option Addr × Nat)} (E : Env w w2 bs) (BB : Below w2.heap.size w2 W) {nb lo : Nat} {t : Tr} {A : Option Addr} {c : Nat} {x y z : Value} (NB : Box3 W nb x y z) (hnb : w2.heap.size ≤ nb) (hlo : nb < lo) (ho : OwnT W lo W.heap.size t A c) (hf : t.fit) :
    Env w (((W.setCell ⟨nb, 0, none⟩ (.int .i64 t.k)).setCell ⟨nb, 1, none⟩ (.int .i64 t.i)).setCell ⟨nb, 2, none⟩ (.slice A t.ks.length c)) ((nb, t, A, c) :: bs) := by
  have b3 := below_set3 BB (.int .i64 t.k) (.int .i64 t.i) (.slice A t.ks.length c) hnb
  refine ⟨E.below.trans (b3.mono E.below.size), fun q hq => ?_⟩
  rcases List.mem_cons.1 hq with rfl | hq
  · obtain ⟨c0, c1, c2⟩ := (NB.set3 (.int .i64 t.k) (.int .i64 t.i) (.slice A t.ks.length c)).cells
    refine ⟨c0, c1, c2, (OwnT.same _ (same_set3 _ _ _ _ _ hlo) ho).isT _ (by simp) hf⟩
  · exact (E.bts q hq).keep b3
theorem Env.fresh {w w2 W : World} {bs : List (Nat × Tr × Option Addr × Nat)} (E : Env w w2 bs) (BB : Below w2.heap.size w2 W) {lo : Nat} {t : Tr} {A : Option Addr} {c : Nat} (ho : OwnT W lo W.heap.size t A c) (hf : t.fit) :
    Env w (W.alloc (.cells #[.int .i64 t.k, .int .i64 t.i, .slice A t.ks.length c] 24)) ((W.heap.size, t, A, c) :: bs) := (E.keep BB).push (ho.isT _ (Nat.le_refl _) hf)
theorem stepA {w W W' : World} {o : Obj} (BB : Below w.heap.size w W) (h : Below (W.alloc o).heap.size (W.alloc o) W') : Below w.heap.size w W' := (BB.trans ((below_alloc W o).mono BB.size)).trans (h.mono (Nat.le_trans BB.size (below_alloc W o).size))
theorem stepB {w W W' : World} (BB : Below w.heap.size w W) (h : Below W.heap.size W W') : Below w.heap.size w W' := BB.trans (h.mono BB.size)
theorem boxA {W W' : World} {x y z : Value} (h : Below (W.alloc (.cells #[x, y, z] 24)).heap.size (W.alloc (.cells #[x, y, z] 24)) W') : Box3 W' W.heap.size x y z := (Box3.new W x y z).keep h (by simp)
theorem stepD {w W' : World} {o : Obj} (h : Below (w.alloc o).drew.heap.size (w.alloc o).drew W') : Below w.drew.heap.size w.drew W' := by
  refine Below.trans (b := (w.alloc o).drew) ?_ (h.mono (below_alloc w o).size)
  exact (below_alloc w.drew o)
theorem boxD {w W' : World} {x y z : Value} (h : Below (w.alloc (.cells #[x, y, z] 24)).drew.heap.size (w.alloc (.cells #[x, y, z] 24)).drew W') : Box3 W' w.heap.size x y z := Box3.keep (w := (w.alloc (.cells #[x, y, z] 24)).drew) (Box3.new w x y z) h (by show w.heap.size < (w.alloc _).heap.size; simp)
theorem isT_var (W : World) (B : Nat) (x : Int) : IsT W B (varT x) none 0 := IsT.mk (Nat.le_refl _) (by simp [Tr.ks, Cap]) fun m hm => by simp [Tr.ks] at hm
end Go.Proofs.YtgnfbhemkombaaaGreat
namespace Go.Proofs.YtgnfbhemkombaaaGreat
open Go.RowKit
theorem Tryz.cells24 : Tryz.prog.cellsOf 24 = 3 := by kernel_rfl
theorem Tryz.cells22 : Tryz.prog.cellsOf 22 = 1 := by kernel_rfl
theorem Tryz.cells3 : Tryz.prog.cellsOf 3 = 1 := by kernel_rfl
theorem Tryz.bytes24 : Tryz.prog.bytesOf 24 = 40 := by kernel_rfl
theorem weightsAll_mem {H : Type} {P : Program} {e : TypeId} : ∀ {l : List (DataW H)} {d : DataW H}, d ∈ l → ∀ n, n ∈ d.weights P e → n ∈ DataW.weightsAll P e l
  | x :: r, d, hd, n, hn => by
    rw [DataW.weightsAll]
    rcases List.mem_cons.1 hd with rfl | hd
    · exact List.mem_append_left _ hn
    · exact List.mem_append_right _ (weightsAll_mem hd n hn)
theorem spot_none {w : World} {a : Addr} {v : Value} (h : w.cell? a = some v) : a.spot = none := by
  unfold World.cell? at h
  split at h
  · cases hs : a.spot with
    | none => rfl
    | some x => rw [hs] at h; simp at h
  · cases h
theorem add_plain (b o m : Nat) : (⟨b, o, none⟩ : Addr).add m = ⟨b, o + m, none⟩ := by unfold Addr.add; split <;> simp_all
set_option maxRecDepth 100000 in
set_option maxHeartbeats 1000000 in
theorem open_expr {H : Type} {enc : TypeId × Value → H} {W : World} {spare : Nat → Bool} {held : Bool} (hsp : ∀ b, spare b = true) : ∀ (fuel : Nat) (cs : List Value) (x : DataW H × List MemPlace),
    DataW.trod enc Tryz.prog W 0 spare held fuel 24 cs = some x → (∀ n, n ∈ DataW.weights Tryz.prog 24 x.1 → n ≤ reachBytes) →
    ∃ t A c, cs = [.int .i64 t.k, .int .i64 t.i, .slice A t.ks.length c] ∧ IsT W W.heap.size t A c := by
  intro fuel
  induction fuel using Nat.strongRecOn with
  | ind fuel ih =>
    intro cs x h hw
    obtain ⟨xs, n, hn, hx, hlen, hxl, hf⟩ := DataW.trod_struct Tryz.underlying24 h
    rw [Tryz.cells24] at hlen
    match xs, hxl, cs, hlen with
    | [y0, y1, y2], _, [v0, v1, v2], _ =>
      have g0 := hf 0 _ rfl
      have g1 := hf 1 _ rfl
      have g2 := hf 2 _ rfl
      simp [Tryz.cells3, Tryz.cells22] at g0 g1 g2
      obtain ⟨k, e0, _, _⟩ := DataW.trod_int Tryz.underlying3 g0
      obtain ⟨i, e1, _, _⟩ := DataW.trod_int Tryz.underlying3 g1
      simp only [List.cons.injEq, and_true] at e0 e1
      subst e0 e1
      have hw2 : ∀ m, m ∈ DataW.weights Tryz.prog 22 y2.1 → m ≤ reachBytes := fun m hm => hw m (by
        rw [hx]
        simp only [List.map_cons, List.map_nil, DataW.weights, Tryz.underlying24]
        exact DataW.weights_mem_each (j := 2) (ds := [y0.1, y1.1, y2.1]) rfl rfl m hm)
      rcases DataW.trod_slice Tryz.underlying22 g2 with ⟨hcs, _⟩ | ⟨a, len, cap, elems, rest, n', hn', hcs, hy, _, hl, hm, hlen', hel, hsp', _⟩
      · simp only [List.cons.injEq, and_true] at hcs
        subst hcs
        exact ⟨.node k i [], none, 0, rfl, IsT.mk (t := .node k i []) (Nat.le_refl _) (by unfold Cap; simp [Tr.ks]) (fun m hm => absurd hm (by simp [Tr.ks]))⟩
      · simp only [List.cons.injEq, and_true] at hcs
        subst hcs
        obtain ⟨hrl, _⟩ := hsp' (hsp _)
        rw [Tryz.cells24] at hel
        have hy1 : y2.1 = .slice (elems.map (·.1)) (rest.map (·.1)) := by rw [hy]
        have hcap : len * 40 ≤ 140737488351232 := by
          have : (elems.length + rest.length) * 40 ≤ reachBytes := by
            refine hw2 _ ?_
            rw [hy1]
            simp only [DataW.weights, Tryz.underlying22, Tryz.bytes24, List.length_map]
            exact List.mem_cons_self
          unfold reachBytes at this
          omega
        have each : ∀ j, j < len → ∃ q : Tr × Option Addr × Nat, (∃ b o, some a = some (⟨b, o, none⟩ : Addr) ∧ b < W.heap.size ∧ W.cell? ⟨b, o + j * 3, none⟩ = some (.int .i64 q.1.k) ∧ W.cell? ⟨b, o + j * 3 + 1, none⟩ = some (.int .i64 q.1.i) ∧ W.cell? ⟨b, o + j * 3 + 2, none⟩ = some (.slice q.2.1 q.1.ks.length q.2.2)) ∧ IsT W W.heap.size q.1 q.2.1 q.2.2 := by
          intro j hj
          have h0 := hel j hj
          rw [List.getElem?_eq_getElem (by omega)] at h0
          obtain ⟨cs', h1, h2⟩ := Option.bind_eq_some_iff.1 h0
          obtain ⟨t, A, c, hcs', ht⟩ := ih n' (by omega) cs' _ h2 (fun n hn => hw2 n (by
            rw [hy1]
            simp only [DataW.weights, Tryz.underlying22]
            refine List.mem_cons_of_mem _ (List.mem_append_left _ (weightsAll_mem ?_ n hn))
            exact List.mem_map.2 ⟨elems[j], List.getElem_mem _, rfl⟩))
          obtain ⟨_, _, hcell⟩ := World.cells?_some h1
          subst hcs'
          have e0 := hcell 0 (by omega)
          have e1 := hcell 1 (by omega)
          have e2 := hcell 2 (by omega)
          rw [Deep.add_add] at e0 e1 e2
          simp only [List.getElem?_cons_zero, List.getElem?_cons_succ] at e0 e1 e2
          refine ⟨(t, A, c), ?_, ht⟩
          have hsp0 : a.spot = none := by
            have h0' := hel 0 (by omega)
            rw [List.getElem?_eq_getElem (by omega)] at h0'
            obtain ⟨cs2, h1', h2'⟩ := Option.bind_eq_some_iff.1 h0'
            obtain ⟨t', A', c', hcs2, _⟩ := ih n' (by omega) cs2 _ h2' (fun n hn => hw2 n (by
              rw [hy1]
              simp only [DataW.weights, Tryz.underlying22]
              refine List.mem_cons_of_mem _ (List.mem_append_left _ (weightsAll_mem ?_ n hn))
              exact List.mem_map.2 ⟨elems[0], List.getElem_mem _, rfl⟩))
            obtain ⟨_, _, hcell'⟩ := World.cells?_some h1'
            subst hcs2
            have e := hcell' 0 (by omega)
            rw [Deep.add_add] at e
            exact spot_none (a := a) (by simpa [Addr.add] using e)
          obtain ⟨b, o, sp⟩ := a
          obtain rfl : sp = none := hsp0
          rw [add_plain] at e0 e1 e2
          exact ⟨b, o, rfl, block_lt_of_cell e0, by simpa using e0, by simpa [Nat.add_assoc] using e1, by simpa [Nat.add_assoc] using e2⟩
        obtain ⟨q, hq⟩ := Deep.choose_lt each
        refine ⟨.node k i ((List.range len).map fun j => (q j).1), some a, cap, by simp [Tr.k, Tr.i, Tr.ks], ?_⟩
        refine IsT.mk (t := .node k i ((List.range len).map fun j => (q j).1)) (by simpa [Tr.ks] using hl) (by simpa [Tr.ks, Cap] using hcap) fun j hj => ?_
        have hj' : j < len := by simpa [Tr.ks] using hj
        obtain ⟨⟨b, o, h1, h2, h3, h4, h5⟩, h6⟩ := hq j hj'
        have e : (Tr.node k i ((List.range len).map fun j => (q j).1)).ks[j] = (q j).1 := by simp [Tr.ks]
        rw [e]
        exact ⟨b, o, _, _, h1, h2, h3, h4, h5, h6⟩
end Go.Proofs.YtgnfbhemkombaaaGreat
namespace Go.Proofs.YtgnfbhemkombaaaGreat
open Go.RowKit
theorem open_list {H : Type} {enc : TypeId × Value → H} {W : World} {spare : Nat → Bool} {held : Bool} (hsp : ∀ b, spare b = true) (fuel : Nat) (cs : List Value) (x : DataW H × List MemPlace)
    (h : DataW.trod enc Tryz.prog W 0 spare held fuel 22 cs = some x) (hw : ∀ n, n ∈ DataW.weights Tryz.prog 22 x.1 → n ≤ reachBytes) :
    ∃ (l : List Tr) (A : Option Addr) (c : Nat), cs = [.slice A l.length c] ∧ IsT W W.heap.size (.node 0 0 l) A c := by
  rcases DataW.trod_slice Tryz.underlying22 h with ⟨hcs, _⟩ | ⟨a, len, cap, elems, rest, n', hn', hcs, hy, _, hl, hm, hlen', hel, hsp', _⟩
  · subst hcs
    exact ⟨[], none, 0, rfl, IsT.mk (t := .node 0 0 []) (Nat.le_refl _) (by unfold Cap; simp [Tr.ks]) (fun m hm => absurd hm (by simp [Tr.ks]))⟩
  · subst hcs
    obtain ⟨hrl, _⟩ := hsp' (hsp _)
    rw [Tryz.cells24] at hel
    have hy1 : x.1 = .slice (elems.map (·.1)) (rest.map (·.1)) := by rw [hy]
    have hcap : len * 40 ≤ 140737488351232 := by
      have : (elems.length + rest.length) * 40 ≤ reachBytes := by
        refine hw _ ?_
        rw [hy1]
        simp only [DataW.weights, Tryz.underlying22, Tryz.bytes24, List.length_map]
        exact List.mem_cons_self
      unfold reachBytes at this
      omega
    have each : ∀ j, j < len → ∃ q : Tr × Option Addr × Nat, (∃ b o, some a = some (⟨b, o, none⟩ : Addr) ∧ b < W.heap.size ∧ W.cell? ⟨b, o + j * 3, none⟩ = some (.int .i64 q.1.k) ∧ W.cell? ⟨b, o + j * 3 + 1, none⟩ = some (.int .i64 q.1.i) ∧ W.cell? ⟨b, o + j * 3 + 2, none⟩ = some (.slice q.2.1 q.1.ks.length q.2.2)) ∧ IsT W W.heap.size q.1 q.2.1 q.2.2 := by
      intro j hj
      have h0 := hel j hj
      rw [List.getElem?_eq_getElem (by omega)] at h0
      obtain ⟨cs', h1, h2⟩ := Option.bind_eq_some_iff.1 h0
      obtain ⟨t, A, c, hcs', ht⟩ := open_expr hsp n' cs' _ h2 (fun n hn => hw n (by
        rw [hy1]
        simp only [DataW.weights, Tryz.underlying22]
        refine List.mem_cons_of_mem _ (List.mem_append_left _ (weightsAll_mem ?_ n hn))
        exact List.mem_map.2 ⟨elems[j], List.getElem_mem _, rfl⟩))
      obtain ⟨_, _, hcell⟩ := World.cells?_some h1
      subst hcs'
      have e0 := hcell 0 (by omega)
      have e1 := hcell 1 (by omega)
      have e2 := hcell 2 (by omega)
      rw [Deep.add_add] at e0 e1 e2
      simp only [List.getElem?_cons_zero, List.getElem?_cons_succ] at e0 e1 e2
      refine ⟨(t, A, c), ?_, ht⟩
      have hsp0 : a.spot = none := by
        have h0' := hel 0 (by omega)
        rw [List.getElem?_eq_getElem (by omega)] at h0'
        obtain ⟨cs2, h1', h2'⟩ := Option.bind_eq_some_iff.1 h0'
        obtain ⟨t', A', c', hcs2, _⟩ := open_expr hsp n' cs2 _ h2' (fun n hn => hw n (by
          rw [hy1]
          simp only [DataW.weights, Tryz.underlying22]
          refine List.mem_cons_of_mem _ (List.mem_append_left _ (weightsAll_mem ?_ n hn))
          exact List.mem_map.2 ⟨elems[0], List.getElem_mem _, rfl⟩))
        obtain ⟨_, _, hcell'⟩ := World.cells?_some h1'
        subst hcs2
        have e := hcell' 0 (by omega)
        rw [Deep.add_add] at e
        exact spot_none (a := a) (by simpa [Addr.add] using e)
      obtain ⟨b, o, sp⟩ := a
      obtain rfl : sp = none := hsp0
      rw [add_plain] at e0 e1 e2
      exact ⟨b, o, rfl, block_lt_of_cell e0, by simpa using e0, by simpa [Nat.add_assoc] using e1, by simpa [Nat.add_assoc] using e2⟩
    obtain ⟨q, hq⟩ := Deep.choose_lt each
    refine ⟨(List.range len).map fun j => (q j).1, some a, cap, by simp, ?_⟩
    refine IsT.mk (t := .node 0 0 ((List.range len).map fun j => (q j).1)) (by simpa [Tr.ks] using hl) (by simpa [Tr.ks, Cap] using hcap) fun j hj => ?_
    have hj' : j < len := by simpa [Tr.ks] using hj
    obtain ⟨⟨b, o, h1, h2, h3, h4, h5⟩, h6⟩ := hq j hj'
    have e : (Tr.node 0 0 ((List.range len).map fun j => (q j).1)).ks[j] = (q j).1 := by simp [Tr.ks]
    rw [e]
    exact ⟨b, o, _, _, h1, h2, h3, h4, h5, h6⟩
theorem Tryz.cellsParts : Tryz.prog.cellsOf 32 = 2 := by kernel_rfl
set_option maxRecDepth 100000 in
theorem open_parts {H : Type} {enc : TypeId × Value → H} {W : World} {spare : Nat → Bool} {held : Bool} (hsp : ∀ b, spare b = true) (fuel : Nat) (cs : List Value) (x : DataW H × List MemPlace)
    (h : DataW.trod enc Tryz.prog W 0 spare held fuel 32 cs = some x) (hw : ∀ n, n ∈ DataW.weights Tryz.prog 32 x.1 → n ≤ reachBytes) :
    ∃ (l : List Tr) (A : Option Addr) (c : Nat) (y : Int), cs = [.slice A l.length c, .int .i64 y] ∧ IsT W W.heap.size (.node 0 0 l) A c := by
  obtain ⟨xs, n, hn, hx, hlen, hxl, hf⟩ := DataW.trod_struct Tryz.underlying32 h
  rw [Tryz.cellsParts] at hlen
  match xs, hxl, cs, hlen with
  | [y0, y1], _, [v0, v1], _ =>
    have g0 := hf 0 _ rfl
    have g1 := hf 1 _ rfl
    simp [Tryz.cells3, Tryz.cells22] at g0 g1
    obtain ⟨k, e1, _, _⟩ := DataW.trod_int Tryz.underlying3 g1
    simp only [List.cons.injEq, and_true] at e1
    subst e1
    obtain ⟨l, A, c, hcs, ht⟩ := open_list hsp n _ _ g0 (fun m hm => hw m (by
      rw [hx]
      simp only [List.map_cons, List.map_nil, DataW.weights, Tryz.underlying32]
      exact DataW.weights_mem_each (j := 0) (ds := [y0.1, y1.1]) rfl rfl m hm))
    simp only [List.cons.injEq, and_true] at hcs
    exact ⟨l, A, c, k, by rw [hcs], ht⟩
end Go.Proofs.YtgnfbhemkombaaaGreat
