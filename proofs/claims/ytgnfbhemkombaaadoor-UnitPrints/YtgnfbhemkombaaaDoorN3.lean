/- why of the document's layer 9. -/
import Derived.Test.YtgnfbhemkombaaaDoorN2
namespace Go.Proofs.YtgnfbhemkombaaaDoor
open Go.RowKit Go.Sort
set_option linter.unusedVariables false
set_option linter.unusedSimpArgs false
set_option maxHeartbeats 4000000 in
set_option maxRecDepth 100000 in
/-- why of the document's layer 9 -/
theorem rwhy_any (k i : Int) (A : Option Addr) (n c : Nat) (y a b : Int) (q : ByteArray) (w : World) (ha0 : 0 ≤ a) (ha1 : a ≤ 999999999) (hb0 : 0 ≤ b) (hb1 : b ≤ 999999999) (hq : q.size ≤ 12) (hT : TB w) :
    Calls Tryd.prog 42 #[.agg #[.int .i64 k, .int .i64 i, .slice A n c, .int .i64 y, .int .i64 a, .int .i64 b, .string q]] w fun e w' => e = .returned (.string ⟨(whyT y a b q).toArray⟩) ∧ Below w.heap.size w w' := by
  have S0 := Lib.hid (SY.start w k i A n c y a b q)
  have la := itB_len ha0 ha1
  have lb := itB_len hb0 hb1
  have lq : q.data.toList.length ≤ 12 := by rw [Array.length_toList]; exact hq
  obtain ⟨sa, hsa⟩ : ∃ sa : ByteArray, sa = ⟨(itB a).toArray⟩ := ⟨_, rfl⟩
  obtain ⟨sb, hsb⟩ : ∃ sb : ByteArray, sb = ⟨(itB b).toArray⟩ := ⟨_, rfl⟩
  obtain ⟨fin, hfin⟩ : ∃ fin : ByteArray, fin = ⟨(whyT y a b q).toArray⟩ := ⟨_, rfl⟩
  have IA := Lib.hid (fun (W : World) (h : Below w.heap.size w W) => hsa ▸ itoa_any a (by omega) (by omega) W (hT.keep h))
  have IB := Lib.hid (fun (W : World) (h : Below w.heap.size w W) => hsb ▸ itoa_any b (by omega) (by omega) W (hT.keep h))
  rw [← hfin]
  have W1 := Lib.hid (fun h : y = 1 => (show ∀ W : World, (Op.stringOp .add { data := #[97, 120, 105, 111, 109, 32] } sa).run Tryd.prog W = .ok (.string fin) W from fun W => addS (x := [97, 120, 105, 111, 109, 32]) (y := itB a) rfl hsa hfin (by unfold whyT; rw [if_pos h]) (by simp only [List.length_cons, List.length_nil]; omega) W))
  obtain ⟨d0, hd0⟩ : ∃ d0 : ByteArray, d0 = ⟨([100, 101, 116, 97, 99, 104, 32] ++ itB a).toArray⟩ := ⟨_, rfl⟩
  obtain ⟨d1, hd1⟩ : ∃ d1 : ByteArray, d1 = ⟨([100, 101, 116, 97, 99, 104, 32] ++ itB a ++ [32]).toArray⟩ := ⟨_, rfl⟩
  have W2 := Lib.hid (fun (h1 : ¬ y = 1) (h : y = 2) => (show (∀ W : World, (Op.stringOp .add { data := #[100, 101, 116, 97, 99, 104, 32] } sa).run Tryd.prog W = .ok (.string d0) W) ∧ (∀ W : World, (Op.stringOp .add d0 { data := #[32] }).run Tryd.prog W = .ok (.string d1) W) ∧ (∀ W : World, (Op.stringOp .add d1 sb).run Tryd.prog W = .ok (.string fin) W) from
    ⟨fun W => addS (x := [100, 101, 116, 97, 99, 104, 32]) (y := itB a) rfl hsa hd0 rfl (by simp only [List.length_cons, List.length_nil]; omega) W,
     fun W => addS (y := [32]) hd0 rfl hd1 rfl (by simp only [List.length_append, List.length_cons, List.length_nil]; omega) W,
     fun W => addS hd1 hsb hfin (by unfold whyT; rw [if_neg h1, if_pos h]) (by simp only [List.length_append, List.length_cons, List.length_nil]; omega) W⟩))
  obtain ⟨g0, hg0⟩ : ∃ d0 : ByteArray, d0 = ⟨([103, 101, 110, 32] ++ itB a).toArray⟩ := ⟨_, rfl⟩
  obtain ⟨g1, hg1⟩ : ∃ d1 : ByteArray, d1 = ⟨([103, 101, 110, 32] ++ itB a ++ [32, 120]).toArray⟩ := ⟨_, rfl⟩
  have W3 := Lib.hid (fun (h1 : ¬ y = 1) (h2 : ¬ y = 2) (h : y = 3) => (show (∀ W : World, (Op.stringOp .add { data := #[103, 101, 110, 32] } sa).run Tryd.prog W = .ok (.string g0) W) ∧ (∀ W : World, (Op.stringOp .add g0 { data := #[32, 120] }).run Tryd.prog W = .ok (.string g1) W) ∧ (∀ W : World, (Op.stringOp .add g1 sb).run Tryd.prog W = .ok (.string fin) W) from
    ⟨fun W => addS (x := [103, 101, 110, 32]) (y := itB a) rfl hsa hg0 rfl (by simp only [List.length_cons, List.length_nil]; omega) W,
     fun W => addS (y := [32, 120]) hg0 rfl hg1 rfl (by simp only [List.length_append, List.length_cons, List.length_nil]; omega) W,
     fun W => addS hg1 hsb hfin (by unfold whyT; rw [if_neg h1, if_neg h2, if_pos h]) (by simp only [List.length_append, List.length_cons, List.length_nil]; omega) W⟩))
  have W4 := Lib.hid (fun (h1 : ¬ y = 1) (h2 : ¬ y = 2) (h3 : ¬ y = 3) => (show ∀ W : World, (Op.stringOp .add { data := #[99, 105, 116, 101, 32] } q).run Tryd.prog W = .ok (.string fin) W from fun W => addS (x := [99, 105, 116, 101, 32]) (y := q.data.toList) rfl (bytes_eta q) hfin (by unfold whyT; rw [if_neg h1, if_neg h2, if_neg h3]) (by simp only [List.length_cons, List.length_nil]; omega) W))
  clear hsa hsb hfin hd0 hd1 hg0 hg1 la lb lq hT ha0 ha1 hb0 hb1 hq
  obtain ⟨x0, x1, x2, x3, x4, x5, x6⟩ := S0.out.box.cells
  by_cases h1 : y = 1
  · have a1 := W1.out h1
    subst h1
    go_enter Tryd.func42, Tryd.ntmps42
    go_wp2_with fail
    refine (IA.out _ S0.out.below).mono ?_
    rintro e w5 ⟨rfl, hb5⟩
    have S5 := Lib.hid (S0.out.keep hb5)
    clear hb5
    go_wp2_with fail
    go_ret
    exact ⟨rfl, S5.out.below⟩
  · have e1 : (y == 1) = false := by simpa using h1
    by_cases h2 : y = 2
    · obtain ⟨a1, a2, a3⟩ := W2.out h1 h2
      subst h2
      go_enter Tryd.func42, Tryd.ntmps42
      go_wp2_with fail
      obtain ⟨w1, hw1⟩ : ∃ w1, w1 = w.alloc (.cells #[.int .i64 k, .int .i64 i, .slice A n c, .int .i64 2, .int .i64 a, .int .i64 b, .string q] 71) := ⟨_, rfl⟩
      rw [← hw1] at S0 ⊢
      clear hw1 x0 x1 x2 x3 x4 x5 x6
      have CA := Lib.hid (fun d os => Calls.regrown_of (d := d) (os := os) (IA.out (grow (redrawn w1 d) os) (S0.out.below.trans ((below_regrown w1 d os).mono S0.out.below.size))))
      have CB := Lib.hid (fun d os => Calls.regrown_of (d := d) (os := os) (IB.out (grow (redrawn w1 d) os) (S0.out.below.trans ((below_regrown w1 d os).mono S0.out.below.size))))
      have x4' := cell_regrown S0.out.box.cells.2.2.2.2.1
      have x5' := cell_regrown S0.out.box.cells.2.2.2.2.2.1
      refine wp_region_quiet_below (by kernel_rfl) (by kernel_rfl) ?_
      repeat (go_big_quiet_step (first | exact CA.out _ _ | exact CB.out _ _))
      refine wpQuiet_nil ?_
      intro w5 hw'
      obtain ⟨⟨dq, osq⟩, hw''⟩ := hw'
      have S5 := Lib.hid (S0.out.keep (by rw [hw'']; exact below_regrown w1 dq osq : Below w1.heap.size w1 w5))
      clear hw'' x4' x5' CA CB IA IB S0
      go_wp2_with fail
      go_ret
      exact ⟨rfl, S5.out.below⟩
    · have e2 : (y == 2) = false := by simpa using h2
      by_cases h3 : y = 3
      · obtain ⟨a1, a2, a3⟩ := W3.out h1 h2 h3
        subst h3
        go_enter Tryd.func42, Tryd.ntmps42
        go_wp2_with fail
        obtain ⟨w1, hw1⟩ : ∃ w1, w1 = w.alloc (.cells #[.int .i64 k, .int .i64 i, .slice A n c, .int .i64 3, .int .i64 a, .int .i64 b, .string q] 71) := ⟨_, rfl⟩
        rw [← hw1] at S0 ⊢
        clear hw1 x0 x1 x2 x3 x4 x5 x6
        have CA := Lib.hid (fun d os => Calls.regrown_of (d := d) (os := os) (IA.out (grow (redrawn w1 d) os) (S0.out.below.trans ((below_regrown w1 d os).mono S0.out.below.size))))
        have CB := Lib.hid (fun d os => Calls.regrown_of (d := d) (os := os) (IB.out (grow (redrawn w1 d) os) (S0.out.below.trans ((below_regrown w1 d os).mono S0.out.below.size))))
        have x4' := cell_regrown S0.out.box.cells.2.2.2.2.1
        have x5' := cell_regrown S0.out.box.cells.2.2.2.2.2.1
        refine wp_region_quiet_below (by kernel_rfl) (by kernel_rfl) ?_
        repeat (go_big_quiet_step (first | exact CA.out _ _ | exact CB.out _ _))
        refine wpQuiet_nil ?_
        intro w5 hw'
        obtain ⟨⟨dq, osq⟩, hw''⟩ := hw'
        have S5 := Lib.hid (S0.out.keep (by rw [hw'']; exact below_regrown w1 dq osq : Below w1.heap.size w1 w5))
        clear hw'' x4' x5' CA CB IA IB S0
        go_wp2_with fail
        go_ret
        exact ⟨rfl, S5.out.below⟩
      · have e3 : (y == 3) = false := by simpa using h3
        have a1 := W4.out h1 h2 h3
        clear h1 h2 h3
        go_enter Tryd.func42, Tryd.ntmps42
        go_wp2_with fail
        go_ret
        exact ⟨rfl, S0.out.below⟩
end Go.Proofs.YtgnfbhemkombaaaDoor
