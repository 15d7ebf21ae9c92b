/- Numbers in texts; formula and reason of package unit; why of the document's layer 9. -/
import Derived.Test.YtgnfbhemkombaaaDoorN1
import Derived.Test.YtgnfbhemkombaaaDoorYS
import Derived.Lib.AppendIntMem
import Derived.Lib.QuietBelow
import Derived.BigQuiet
namespace Go.Proofs.YtgnfbhemkombaaaDoor
open Go.RowKit Go.Sort
set_option linter.unusedVariables false
set_option linter.unusedSimpArgs false
/-- the table of tens is laid -/
def TB (w : World) : Prop := Lib.TabIs Tryd.prog w "internal/strconv.uint64pow10" .u64 Lib.pow10Tab
theorem TB.keep {w w' : World} (h : TB w) (hb : Below w.heap.size w w') : TB w' := by
  unfold TB Lib.TabIs World.var? at *
  cases hg : Tryd.prog.globalNamed "internal/strconv.uint64pow10" with
  | none => rw [hg] at h; cases h
  | some g =>
    rw [hg] at h
    simp only [Option.bind_some] at h ⊢
    cases hh : w.heap[g]? with
    | none => rw [hh] at h; cases h
    | some o =>
      have hlt := (Array.getElem?_eq_some_iff.1 hh).1
      rw [hb.block g hlt]
      exact h
theorem itoa_any (n : Int) (h0 : -9223372036854775808 ≤ n) (h1 : n ≤ 9223372036854775807) (w : World) (h : TB w) :
    Calls Tryd.prog 41 #[.int .i64 n] w fun e w' => e = .returned (.string ⟨(itB n).toArray⟩) ∧ Below w.heap.size w w' :=
  (Tryd.strconv_Itoa n h0 h1 w h).mono fun e w' hp => by
    obtain ⟨he, k, os, hw⟩ := hp
    exact ⟨he, by rw [hw]; exact Lib.below_grow _ _ (Nat.le_refl _) k os⟩
set_option maxHeartbeats 1000000 in
/-- formula of package unit: a right formula's text -/
theorem uformula_any (t : Tr) (A : Option Addr) (c : Nat) (w : World) (hr : rightN t = 0) (ht : IsT w w.heap.size t A c) :
    Calls Tryd.prog 82 #[.agg #[.int .i64 t.k, .int .i64 t.i, .slice A t.ks.length c]] w fun e w' => e = .returned (.string ⟨(textT t).toArray⟩) ∧ Below w.heap.size w w' := by
  have T0 := Lib.hid (TY.start w t.k t.i A t.ks.length c)
  obtain ⟨S, hS⟩ : ∃ S : ByteArray, S = ⟨(textT t).toArray⟩ := ⟨_, rfl⟩
  have PR := Lib.hid (fun (W : World) (h : Below w.heap.size w W) => (show Calls Tryd.prog 8 #[.agg #[.int .i64 t.k, .int .i64 t.i, .slice A t.ks.length c]] W fun e w' => e = .returned (.tuple #[.string S, .int .i64 0]) ∧ Below W.heap.size W w' from by
    have := print_any t A c W (ht.keep h h.size)
    unfold printL at this
    rw [if_pos hr, hr, ← hS] at this
    exact this))
  rw [← hS]
  clear hS ht hr
  obtain ⟨x0, x1, x2⟩ := T0.out.box.cells
  go_enter Tryd.func82, Tryd.ntmps82
  go_wp2_with fail
  refine (PR.out _ T0.out.below).mono ?_
  rintro e w1 ⟨rfl, hb1⟩
  have T1 := Lib.hid (T0.out.keep hb1)
  clear hb1 x0 x1 x2 T0
  go_wp2_with fail
  go_ret
  exact ⟨rfl, T1.out.below⟩
/-- the box of a step -/
structure SY (w W : World) (k i : Int) (A : Option Addr) (n c : Nat) (y a b : Int) (q : ByteArray) : Prop where
  below : Below w.heap.size w W
  box : BoxS W w.heap.size (.int .i64 k) (.int .i64 i) (.slice A n c) (.int .i64 y) (.int .i64 a) (.int .i64 b) (.string q)
theorem SY.start (w : World) (k i : Int) (A : Option Addr) (n c : Nat) (y a b : Int) (q : ByteArray) : SY w (w.alloc (.cells #[.int .i64 k, .int .i64 i, .slice A n c, .int .i64 y, .int .i64 a, .int .i64 b, .string q] 71)) k i A n c y a b q := ⟨(Below.refl _ _).alloc (Nat.le_refl _) _, BoxS.new _ _ _ _ _ _ _ _⟩
theorem SY.keep {w W W' : World} {k i : Int} {A : Option Addr} {n c : Nat} {y a b : Int} {q : ByteArray} (h : SY w W k i A n c y a b q) (hb : Below W.heap.size W W') : SY w W' k i A n c y a b q := ⟨h.below.trans (hb.mono h.below.size), h.box.keep hb h.box.lt⟩
theorem bytes_eta (q : ByteArray) : q = ⟨q.data.toList.toArray⟩ := by cases q; simp
set_option maxHeartbeats 4000000 in
set_option maxRecDepth 100000 in
/-- reason of package unit -/
theorem ureason_any (k i : Int) (A : Option Addr) (n c : Nat) (y a b : Int) (q : ByteArray) (w : World) (ha0 : 0 ≤ a) (ha1 : a ≤ 999999999) (hb0 : 0 ≤ b) (hb1 : b ≤ 999999999) (hq : q.size ≤ 12) (hT : TB w) :
    Calls Tryd.prog 83 #[.agg #[.int .i64 k, .int .i64 i, .slice A n c, .int .i64 y, .int .i64 a, .int .i64 b, .string q]] w fun e w' => e = .returned (.string ⟨(whyT y a b q).toArray⟩) ∧ Below w.heap.size w w' := by
  have S0 := Lib.hid (SY.start w k i A n c y a b q)
  have la := itB_len ha0 ha1
  have lb := itB_len hb0 hb1
  have lq : q.data.toList.length ≤ 12 := by rw [Array.length_toList]; exact hq
  obtain ⟨sa, hsa⟩ : ∃ sa : ByteArray, sa = ⟨(itB a).toArray⟩ := ⟨_, rfl⟩
  obtain ⟨sb, hsb⟩ : ∃ sb : ByteArray, sb = ⟨(itB b).toArray⟩ := ⟨_, rfl⟩
  obtain ⟨fin, hfin⟩ : ∃ fin : ByteArray, fin = ⟨(whyT y a b q).toArray⟩ := ⟨_, rfl⟩
  have IA := Lib.hid (fun (W : World) (h : Below w.heap.size w W) => hsa ▸ itoa_any a (by omega) (by omega) W (hT.keep h))
  have IB := Lib.hid (fun (W : World) (h : Below w.heap.size w W) => hsb ▸ itoa_any b (by omega) (by omega) W (hT.keep h))
  rw [← hfin]
  have W1 := Lib.hid (fun h : y = 1 => (show ∀ W : World, (Op.stringOp .add { data := #[97, 120, 105, 111, 109, 32] } sa).run Tryd.prog W = .ok (.string fin) W from fun W => addS (x := [97, 120, 105, 111, 109, 32]) (y := itB a) rfl hsa hfin (by unfold whyT; rw [if_pos h]) (by simp only [List.length_cons, List.length_nil]; omega) W))
  obtain ⟨d0, hd0⟩ : ∃ d0 : ByteArray, d0 = ⟨([100, 101, 116, 97, 99, 104, 32] ++ itB a).toArray⟩ := ⟨_, rfl⟩
  obtain ⟨d1, hd1⟩ : ∃ d1 : ByteArray, d1 = ⟨([100, 101, 116, 97, 99, 104, 32] ++ itB a ++ [32]).toArray⟩ := ⟨_, rfl⟩
  have W2 := Lib.hid (fun (h1 : ¬ y = 1) (h : y = 2) => (show (∀ W : World, (Op.stringOp .add { data := #[100, 101, 116, 97, 99, 104, 32] } sa).run Tryd.prog W = .ok (.string d0) W) ∧ (∀ W : World, (Op.stringOp .add d0 { data := #[32] }).run Tryd.prog W = .ok (.string d1) W) ∧ (∀ W : World, (Op.stringOp .add d1 sb).run Tryd.prog W = .ok (.string fin) W) from
    ⟨fun W => addS (x := [100, 101, 116, 97, 99, 104, 32]) (y := itB a) rfl hsa hd0 rfl (by simp only [List.length_cons, List.length_nil]; omega) W,
     fun W => addS (y := [32]) hd0 rfl hd1 rfl (by simp only [List.length_append, List.length_cons, List.length_nil]; omega) W,
     fun W => addS hd1 hsb hfin (by unfold whyT; rw [if_neg h1, if_pos h]) (by simp only [List.length_append, List.length_cons, List.length_nil]; omega) W⟩))
  obtain ⟨g0, hg0⟩ : ∃ d0 : ByteArray, d0 = ⟨([103, 101, 110, 32] ++ itB a).toArray⟩ := ⟨_, rfl⟩
  obtain ⟨g1, hg1⟩ : ∃ d1 : ByteArray, d1 = ⟨([103, 101, 110, 32] ++ itB a ++ [32, 120]).toArray⟩ := ⟨_, rfl⟩
  have W3 := Lib.hid (fun (h1 : ¬ y = 1) (h2 : ¬ y = 2) (h : y = 3) => (show (∀ W : World, (Op.stringOp .add { data := #[103, 101, 110, 32] } sa).run Tryd.prog W = .ok (.string g0) W) ∧ (∀ W : World, (Op.stringOp .add g0 { data := #[32, 120] }).run Tryd.prog W = .ok (.string g1) W) ∧ (∀ W : World, (Op.stringOp .add g1 sb).run Tryd.prog W = .ok (.string fin) W) from
    ⟨fun W => addS (x := [103, 101, 110, 32]) (y := itB a) rfl hsa hg0 rfl (by simp only [List.length_cons, List.length_nil]; omega) W,
     fun W => addS (y := [32, 120]) hg0 rfl hg1 rfl (by simp only [List.length_append, List.length_cons, List.length_nil]; omega) W,
     fun W => addS hg1 hsb hfin (by unfold whyT; rw [if_neg h1, if_neg h2, if_pos h]) (by simp only [List.length_append, List.length_cons, List.length_nil]; omega) W⟩))
  have W4 := Lib.hid (fun (h1 : ¬ y = 1) (h2 : ¬ y = 2) (h3 : ¬ y = 3) => (show ∀ W : World, (Op.stringOp .add { data := #[99, 105, 116, 101, 32] } q).run Tryd.prog W = .ok (.string fin) W from fun W => addS (x := [99, 105, 116, 101, 32]) (y := q.data.toList) rfl (bytes_eta q) hfin (by unfold whyT; rw [if_neg h1, if_neg h2, if_neg h3]) (by simp only [List.length_cons, List.length_nil]; omega) W))
  clear hsa hsb hfin hd0 hd1 hg0 hg1 la lb lq hT ha0 ha1 hb0 hb1 hq
  go_enter Tryd.func83, Tryd.ntmps83
  go_wp2_with fail
  obtain ⟨w1, hw1⟩ : ∃ w1, w1 = w.alloc (.cells #[.int .i64 k, .int .i64 i, .slice A n c, .int .i64 y, .int .i64 a, .int .i64 b, .string q] 71) := ⟨_, rfl⟩
  rw [← hw1] at S0 ⊢
  clear hw1
  have CA := Lib.hid (fun d os => Calls.regrown_of (d := d) (os := os) (IA.out (grow (redrawn w1 d) os) (S0.out.below.trans ((below_regrown w1 d os).mono S0.out.below.size))))
  have CB := Lib.hid (fun d os => Calls.regrown_of (d := d) (os := os) (IB.out (grow (redrawn w1 d) os) (S0.out.below.trans ((below_regrown w1 d os).mono S0.out.below.size))))
  have x4' := cell_regrown S0.out.box.cells.2.2.2.2.1
  have x5' := cell_regrown S0.out.box.cells.2.2.2.2.2.1
  refine wp_region_quiet_below (by kernel_rfl) (by kernel_rfl) ?_
  repeat (go_big_quiet_step (first | exact CA.out _ _ | exact CB.out _ _))
  refine wpQuiet_nil ?_
  intro w5 hw'
  obtain ⟨⟨dq, osq⟩, hw''⟩ := hw'
  have S5 := Lib.hid (S0.out.keep (by rw [hw'']; exact below_regrown w1 dq osq : Below w1.heap.size w1 w5))
  clear hw'' x4' x5' CA CB IA IB S0
  obtain ⟨x0, x1, x2, x3, x4, x5, x6⟩ := S5.out.box.cells
  by_cases h1 : y = 1
  · have a1 := W1.out h1
    subst h1
    go_wp2_with fail
    go_ret
    exact ⟨rfl, S5.out.below⟩
  · have e1 : (y == 1) = false := by simpa using h1
    by_cases h2 : y = 2
    · obtain ⟨a1, a2, a3⟩ := W2.out h1 h2
      subst h2
      go_wp2_with fail
      go_ret
      exact ⟨rfl, S5.out.below⟩
    · have e2 : (y == 2) = false := by simpa using h2
      by_cases h3 : y = 3
      · obtain ⟨a1, a2, a3⟩ := W3.out h1 h2 h3
        subst h3
        go_wp2_with fail
        go_ret
        exact ⟨rfl, S5.out.below⟩
      · have e3 : (y == 3) = false := by simpa using h3
        have a1 := W4.out h1 h2 h3
        clear h1 h2 h3
        go_wp2_with fail
        go_ret
        exact ⟨rfl, S5.out.below⟩
end Go.Proofs.YtgnfbhemkombaaaDoor
