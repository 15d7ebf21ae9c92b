/- Into of the document's layer 5; made of the document's layer 7: schema 4. -/
import Derived.Test.YtgnfbhemkombaaaGreatH8
import Derived.Test.YtgnfbhemkombaaaGreatU1
import Derived.Test.YtgnfbhemkombaaaGreatT21
namespace Go.Proofs.YtgnfbhemkombaaaGreat
open Go.RowKit
set_option linter.unusedVariables false
set_option linter.unusedSimpArgs false
set_option maxHeartbeats 2000000 in
set_option maxRecDepth 100000 in
theorem into_any (x : Int) (x0 : 0 ≤ x) (x1 : x ≤ 63) (a t : Tr) (A A' : Option Addr) (c c' : Nat) (w : World) (sa : a.sz ≤ 1000) (st : t.sz ≤ 1000) (ha : IsT w w.heap.size a A c) (ht : IsT w w.heap.size t A' c') :
    Calls Tryz.prog 58 #[.agg #[.int .i64 a.k, .int .i64 a.i, .slice A a.ks.length c], .int .i64 x, .agg #[.int .i64 t.k, .int .i64 t.i, .slice A' t.ks.length c']] w (WinP w (putX x t a) 1000) := by
  have K0 := Lib.hid (WK.start ha ht)
  obtain ⟨a0, a1, a2⟩ := K0.out.ab.cells
  obtain ⟨t0, t1, t2⟩ := K0.out.tb.cells
  clear ha ht
  go_enter Tryz.func58, Tryz.ntmps58
  go_wp2_with fail
  refine (within_any x x0 x1 t A' c' st a.sz a A c 1000 _ (Nat.le_refl _) sa (Nat.le_refl _) (by exact K0.out.ta) (by exact K0.out.tt)).mono ?_
  rintro e w1 ⟨hb1, hc⟩
  have K1 := Lib.hid (K0.out.keep hb1)
  have z0 := K0.out.rb.lt
  clear hb1 a0 a1 a2 t0 t1 t2 K0
  obtain ⟨P, hP⟩ : ∃ P, P = putX x t a := ⟨_, rfl⟩
  rw [← hP] at hc
  have HP := Lib.hid hP
  obtain ⟨r0, r1, r2, r3, r4⟩ := K1.out.rb.cells
  have f0 := K1.out.rb.frozen 0
  have f1 := K1.out.rb.frozen 1
  have f2 := K1.out.rb.frozen 2
  have f3 := K1.out.rb.frozen 3
  have f4 := K1.out.rb.frozen 4
  by_cases hfit : P.sz ≤ 1000
  · rw [if_pos hfit] at hc
    obtain ⟨Q, cq, rfl, ho⟩ := hc
    have HO := Lib.hid ho
    obtain ⟨q0, q1, q2, q3, q4⟩ := (K1.out.rb.set5 (.bool true) (.int .i64 P.k) (.int .i64 P.i) (.slice Q P.ks.length cq) (.int .i64 (P.sz : Int))).cells
    clear ho hP
    unfold gotW
    go_wp2_with fail
    exact bodyPost_ret (v := .agg #[.bool true, .int .i64 P.k, .int .i64 P.i, .slice Q P.ks.length cq, .int .i64 (P.sz : Int)]) (by simp [results, Tryz.results58, go_sem, q0, q1, q2, q3, q4]) rfl (show WinP w (putX x t a) 1000 _ _ by rw [← HP.out]; exact win_got K1.out.below HO.out (by omega) hfit)
  · rw [if_neg hfit] at hc
    subst hc
    obtain ⟨q0, q1, q2, q3, q4⟩ := (K1.out.rb.set5 (.bool false) (.int .i64 0) (.int .i64 0) (.slice none 0 0) (.int .i64 0)).cells
    clear hP
    unfold noW
    go_wp2_with fail
    exact bodyPost_ret (v := .agg #[.bool false, .int .i64 0, .int .i64 0, .slice none 0 0, .int .i64 0]) (by simp [results, Tryz.results58, go_sem, q0, q1, q2, q3, q4]) rfl (show WinP w (putX x t a) 1000 _ _ by rw [← HP.out]; exact win_no (below_setW K1.out.below (by omega) _ _ _ _ _) hfit)
end Go.Proofs.YtgnfbhemkombaaaGreat
