/- Size and Depth of package expr, of trees that are not too large. -/
import Derived.Test.YtgnfbhemkombaaaDoorE9
namespace Go.Proofs.YtgnfbhemkombaaaDoor
open Go.RowKit Go.Shelf
attribute [local go_sem] Oper.semAt_some
set_option maxRecDepth 100000 in
set_option maxHeartbeats 4000000 in
theorem size_small (t : Tr) (A : Option Addr) (c : Nat) (w : World) (ht : IsT w w.heap.size t A c) (hsm : t.sz ≤ 1000) :
    Calls Tryd.prog 107 #[.agg #[.int .i64 t.k, .int .i64 t.i, .slice A t.ks.length c]] w fun e w' => e = .returned (.int .i64 (t.sz : Nat)) ∧ Below w.heap.size w w' := by
  refine (callsIn_wide (n := 5)).1 ?_
  refine callsIn_of_wp_marks Tryd.func107 rfl trivial ?_ rfl
  simp only [Tryd.ntmps107, List.size_toArray, List.length_cons, List.length_nil, Nat.reduceAdd, Nat.reduceSub, Array.replicate_succ, Array.replicate_zero, List.push_toArray, List.append_toArray, List.nil_append, List.cons_append]
  gi_wp2_with ((try refine ⟨trivial, ?_⟩); gi_at_call 43; refine (nodes_in Fence.wide 4 trivial rfl _ _ _ _ _ _).mono ?_; rintro e w' ⟨rfl, rfl⟩)
  obtain ⟨W0, hW0⟩ : ∃ W0, ((w.alloc (.cells #[.int .i64 t.k, .int .i64 t.i, .slice A t.ks.length c] 24)).alloc (.cells #[.int .i64 0] 3)).alloc (.cells #[.int .i64 t.k, .int .i64 t.i, .slice A t.ks.length c] 24) = W0 := ⟨_, rfl⟩
  have b1 := (Boxed.new (w.alloc (.cells #[.int .i64 t.k, .int .i64 t.i, .slice A t.ks.length c] 24)) 3 (.int .i64 0)).alloc (.cells #[.int .i64 t.k, .int .i64 t.i, .slice A t.ks.length c] 24)
  have b5 := Box3.new ((w.alloc (.cells #[.int .i64 t.k, .int .i64 t.i, .slice A t.ks.length c] 24)).alloc (.cells #[.int .i64 0] 3)) (.int .i64 t.k) (.int .i64 t.i) (.slice A t.ks.length c)
  have hB0 : Below w.heap.size w (((w.alloc (.cells #[.int .i64 t.k, .int .i64 t.i, .slice A t.ks.length c] 24)).alloc (.cells #[.int .i64 0] 3)).alloc (.cells #[.int .i64 t.k, .int .i64 t.i, .slice A t.ks.length c] 24)) :=
    (((Below.refl _ w).alloc (Nat.le_refl _) _).alloc (by simp) _).alloc (by simp; omega) _
  have hsz : (((w.alloc (.cells #[.int .i64 t.k, .int .i64 t.i, .slice A t.ks.length c] 24)).alloc (.cells #[.int .i64 0] 3)).alloc (.cells #[.int .i64 t.k, .int .i64 t.i, .slice A t.ks.length c] 24)).heap.size = w.heap.size + 3 := by simp
  simp only [World.size_alloc] at b1 b5
  rw [hW0] at b1 b5 hB0 hsz ⊢
  clear hW0
  refine wpIn_rangeFunc_ownH (α := Nd w w.heap.size) rfl (by omega) (gf := 88) (lb := #[.pointer (some ⟨w.heap.size + 1 + 1, 0, none⟩)]) rfl trivial (enters_of Tryd.func88 (by kernel_rfl) rfl)
    (nodes_stops Fence.wide rfl _ trivial trivial rfl (w.heap.size + 1 + 1) w.heap.size (w.heap.size + 2) w t A c W0 (by omega) (by omega) (by omega) b5.cells ht hB0) (fun h k => h.trans k) (KB.putObj (by omega)) (Below.refl _ _) (fun _ => rfl)
    (fun pre W => Boxed W (w.heap.size + 1) 3 (.int .i64 (pre.length : Nat)) ∧ Below w.heap.size w W ∧ Box3 W (w.heap.size + 1 + 1) (.int .i64 t.k) (.int .i64 t.i) (.slice A t.ks.length c))
    (fun _ _ _ => False)
    ?hI ?hIx ⟨b1, hB0, b5⟩
    (fun x a' _ => a' = { tmps := #[.agg #[.int .i64 t.k, .int .i64 t.i, .slice A t.ks.length c], .pointer (some ⟨w.heap.size, 0, none⟩), .int .i64 0, .pointer (some ⟨w.heap.size + 1, 0, none⟩), .agg #[.int .i64 t.k, .int .i64 t.i, .slice A t.ks.length c], .func (.func 88) #[] #[.pointer (some ⟨w.heap.size + 1 + 1, 0, none⟩)], .int .i64 (wr64 x.d), .agg #[.int .i64 x.t.k, .int .i64 x.t.i, .slice x.A x.t.ks.length x.c], undef, undef, undef, undef, undef], defers := [] })
    ?hAx ?assign ?body ?done ?stop
  case hI =>
    exact OwnFrom.and (Own.from (boxed_own _ _ (fun pre : List (Nd w w.heap.size) => .int .i64 (pre.length : Nat))) _) (OwnFrom.and (ownFrom_below (Nat.le_refl _) (by omega)) (box3_own _ _ _ _ _))
  case hIx => exact fun co => fun _ _ _ _ h _ _ => h
  case hAx => intro x a'; exact ownFrom_pure _ _
  case assign =>
    rintro l pre x W K ⟨i1, iB, i6⟩ hK
    simp only [encN, Array.zip_eq_zipWith, List.zipWith_toArray, List.foldl_toArray]
    gi_wp2
    exact hK _ _ ((KeepsOthers.refl _).from _) (KB.refl _ _ _) ⟨i1, iB, i6⟩ rfl
  case body =>
    rintro l pre x a' W hl ⟨r, hr⟩ ⟨i1, iB, i6⟩ rfl hlt
    have c1 := i1.cell
    have f1 := i1.frozen
    have hn1 : ¬ (1000 : Int) < (pre.length : Int) + 1 := by omega
    gi_wp2_with fail
    have k2 : KB w.heap.size (w.heap.size + 2) W (W.setCell ⟨w.heap.size + 1, 0, none⟩ (.int .i64 ((pre.length : Int) + 1))) := KB.setCell _ _ (by show w.heap.size ≤ w.heap.size + 1; omega) (by show w.heap.size + 1 < _; omega)
    refine ⟨(KeepsOthers.setCell _ _ _).from _, k2, ?_, iB.trans k2.below, i6.set_other _ _ (by show w.heap.size + 1 + 1 ≠ w.heap.size + 1; omega)⟩
    rw [show ((pre ++ [x]).length : Int) = (pre.length : Int) + 1 by simp]; exact i1.set _
  case done =>
    rintro D ys W hD hS ⟨i1, iB, i6⟩ hK
    have c1 := i1.cell
    have LN := Lib.hid (len_of hS)
    have RB := Lib.hid iB
    have HK := Lib.hid hK
    gi_wp2_with fail
    refine ⟨by simp, .inl ⟨_, _, rfl, run_takeDeferred HK.out, ?_⟩⟩
    exact ⟨.int .i64 (ys.length : Nat), by simp [results, Tryd.results107, go_sem], ret_int (by rw [LN.out]), below_left RB.out (by omega) HK.out _⟩
  case stop => intro D co pre W hD hSp h; exact h.elim
set_option maxRecDepth 100000 in
set_option maxHeartbeats 4000000 in
theorem depth_small (t : Tr) (A : Option Addr) (c : Nat) (w : World) (ht : IsT w w.heap.size t A c) (hsm : t.sz ≤ 1000) :
    Calls Tryd.prog 108 #[.agg #[.int .i64 t.k, .int .i64 t.i, .slice A t.ks.length c]] w fun e w' => e = .returned (.int .i64 (min t.dp 101 : Nat)) ∧ Below w.heap.size w w' := by
  refine (callsIn_wide (n := 5)).1 ?_
  refine callsIn_of_wp_marks Tryd.func108 rfl trivial ?_ rfl
  simp only [Tryd.ntmps108, List.size_toArray, List.length_cons, List.length_nil, Nat.reduceAdd, Nat.reduceSub, Array.replicate_succ, Array.replicate_zero, List.push_toArray, List.append_toArray, List.nil_append, List.cons_append]
  gi_wp2_with ((try refine ⟨trivial, ?_⟩); gi_at_call 43; refine (nodes_in Fence.wide 4 trivial rfl _ _ _ _ _ _).mono ?_; rintro e w' ⟨rfl, rfl⟩)
  obtain ⟨W0, hW0⟩ : ∃ W0, ((((w.alloc (.cells #[.int .i64 t.k, .int .i64 t.i, .slice A t.ks.length c] 24)).alloc (.cells #[.int .i64 0] 3)).alloc (.cells #[.int .i64 0] 3)).alloc (.cells #[.int .i64 0] 3)).alloc (.cells #[.int .i64 t.k, .int .i64 t.i, .slice A t.ks.length c] 24) = W0 := ⟨_, rfl⟩
  have b1 := (((Boxed.new (w.alloc (.cells #[.int .i64 t.k, .int .i64 t.i, .slice A t.ks.length c] 24)) 3 (.int .i64 0)).alloc (.cells #[.int .i64 0] 3)).alloc (.cells #[.int .i64 0] 3)).alloc (.cells #[.int .i64 t.k, .int .i64 t.i, .slice A t.ks.length c] 24)
  have b2 := ((Boxed.new ((w.alloc (.cells #[.int .i64 t.k, .int .i64 t.i, .slice A t.ks.length c] 24)).alloc (.cells #[.int .i64 0] 3)) 3 (.int .i64 0)).alloc (.cells #[.int .i64 0] 3)).alloc (.cells #[.int .i64 t.k, .int .i64 t.i, .slice A t.ks.length c] 24)
  have b3 := (Boxed.new (((w.alloc (.cells #[.int .i64 t.k, .int .i64 t.i, .slice A t.ks.length c] 24)).alloc (.cells #[.int .i64 0] 3)).alloc (.cells #[.int .i64 0] 3)) 3 (.int .i64 0)).alloc (.cells #[.int .i64 t.k, .int .i64 t.i, .slice A t.ks.length c] 24)
  have b5 := Box3.new ((((w.alloc (.cells #[.int .i64 t.k, .int .i64 t.i, .slice A t.ks.length c] 24)).alloc (.cells #[.int .i64 0] 3)).alloc (.cells #[.int .i64 0] 3)).alloc (.cells #[.int .i64 0] 3)) (.int .i64 t.k) (.int .i64 t.i) (.slice A t.ks.length c)
  have hB0 : Below w.heap.size w (((((w.alloc (.cells #[.int .i64 t.k, .int .i64 t.i, .slice A t.ks.length c] 24)).alloc (.cells #[.int .i64 0] 3)).alloc (.cells #[.int .i64 0] 3)).alloc (.cells #[.int .i64 0] 3)).alloc (.cells #[.int .i64 t.k, .int .i64 t.i, .slice A t.ks.length c] 24)) :=
    (((((Below.refl _ w).alloc (Nat.le_refl _) _).alloc (by simp) _).alloc (by simp; omega) _).alloc (by simp; omega) _).alloc (by simp; omega) _
  have hsz : (((((w.alloc (.cells #[.int .i64 t.k, .int .i64 t.i, .slice A t.ks.length c] 24)).alloc (.cells #[.int .i64 0] 3)).alloc (.cells #[.int .i64 0] 3)).alloc (.cells #[.int .i64 0] 3)).alloc (.cells #[.int .i64 t.k, .int .i64 t.i, .slice A t.ks.length c] 24)).heap.size = w.heap.size + 5 := by simp
  simp only [World.size_alloc] at b1 b2 b3 b5
  rw [hW0] at b1 b2 b3 b5 hB0 hsz ⊢
  clear hW0
  refine wpIn_rangeFunc_ownH (α := Nd w w.heap.size) rfl (by omega) (gf := 88) (lb := #[.pointer (some ⟨w.heap.size + 1 + 1 + 1 + 1, 0, none⟩)]) rfl trivial (enters_of Tryd.func88 (by kernel_rfl) rfl)
    (nodes_stops Fence.wide rfl _ trivial trivial rfl (w.heap.size + 1 + 1 + 1 + 1) w.heap.size (w.heap.size + 4) w t A c W0 (by omega) (by omega) (by omega) b5.cells ht hB0) (fun h k => h.trans k) (KB.putObj (by omega)) (Below.refl _ _) (fun _ => rfl)
    (fun pre W => (Boxed W (w.heap.size + 1 + 1) 3 (.int .i64 (pre.length : Nat)) ∧ Boxed W (w.heap.size + 1 + 1 + 1) 3 (.int .i64 (deepW pre)) ∧ Boxed W (w.heap.size + 1) 3 (.int .i64 0)) ∧ Below w.heap.size w W ∧ Box3 W (w.heap.size + 1 + 1 + 1 + 1) (.int .i64 t.k) (.int .i64 t.i) (.slice A t.ks.length c))
    (fun _ _ _ => False)
    ?hI ?hIx ⟨⟨b2, b3, b1⟩, hB0, b5⟩
    (fun x a' _ => a' = { tmps := #[.agg #[.int .i64 t.k, .int .i64 t.i, .slice A t.ks.length c], .pointer (some ⟨w.heap.size, 0, none⟩), .pointer (some ⟨w.heap.size + 1, 0, none⟩), .pointer (some ⟨w.heap.size + 1 + 1, 0, none⟩), .pointer (some ⟨w.heap.size + 1 + 1 + 1, 0, none⟩), .int .i64 (wr64 x.d), .agg #[.int .i64 t.k, .int .i64 t.i, .slice A t.ks.length c], .func (.func 88) #[] #[.pointer (some ⟨w.heap.size + 1 + 1 + 1 + 1, 0, none⟩)], .int .i64 (wr64 x.d), .agg #[.int .i64 x.t.k, .int .i64 x.t.i, .slice x.A x.t.ks.length x.c], undef, undef, undef, undef, undef, undef, undef, undef, undef, undef, undef], defers := [] })
    ?hAx ?assign ?body ?done ?stop
  case hI =>
    exact OwnFrom.and (OwnFrom.and (Own.from (boxed_own _ _ (fun pre : List (Nd w w.heap.size) => .int .i64 (pre.length : Nat))) _) (OwnFrom.and (Own.from (boxed_own _ _ (fun pre : List (Nd w w.heap.size) => .int .i64 (deepW pre))) _) (Own.from (boxed_own _ _ (fun _ => .int .i64 0)) _))) (OwnFrom.and (ownFrom_below (Nat.le_refl _) (by omega)) (box3_own _ _ _ _ _))
  case hIx => exact fun co => fun _ _ _ _ h _ _ => h
  case hAx => intro x a'; exact ownFrom_pure _ _
  case assign =>
    rintro l pre x W K ⟨i1, iB, i6⟩ hK
    simp only [encN, Array.zip_eq_zipWith, List.zipWith_toArray, List.foldl_toArray]
    gi_wp2
    exact hK _ _ ((KeepsOthers.refl _).from _) (KB.refl _ _ _) ⟨i1, iB, i6⟩ rfl
  case body =>
    rintro l pre x a' W hl ⟨r, hr⟩ ⟨⟨i2, i3, i1⟩, iB, i6⟩ rfl hlt
    have c2 := i2.cell
    have c3 := i3.cell
    have f2 := i2.frozen
    have f3 := i3.frozen
    have hn1 : ¬ (1000 : Int) < (pre.length : Int) + 1 := by omega
    have DS := Lib.hid (deepW_snoc pre x)
    have FIN := Lib.hid (show ∀ (mx : Int), mx = deepW (pre ++ [x]) → ∀ a'' : Act, ownPostG (w.heap.size + 5) (KB w.heap.size (w.heap.size + 4))
        (fun pre W => (Boxed W (w.heap.size + 1 + 1) 3 (.int .i64 (pre.length : Nat)) ∧ Boxed W (w.heap.size + 1 + 1 + 1) 3 (.int .i64 (deepW pre)) ∧ Boxed W (w.heap.size + 1) 3 (.int .i64 0)) ∧ Below w.heap.size w W ∧ Box3 W (w.heap.size + 1 + 1 + 1 + 1) (.int .i64 t.k) (.int .i64 t.i) (.slice A t.ks.length c))
        (fun _ _ _ => False) (pre ++ [x]) W Exit.normal a'' ((W.setCell ⟨w.heap.size + 1 + 1, 0, none⟩ (.int .i64 ((pre.length : Int) + 1))).setCell ⟨w.heap.size + 1 + 1 + 1, 0, none⟩ (.int .i64 mx)) from by
      intro mx hmx a''
      have zk : KB w.heap.size (w.heap.size + 4) W ((W.setCell ⟨w.heap.size + 1 + 1, 0, none⟩ (.int .i64 ((pre.length : Int) + 1))).setCell ⟨w.heap.size + 1 + 1 + 1, 0, none⟩ (.int .i64 mx)) :=
        (KB.setCell _ _ (by show w.heap.size ≤ w.heap.size + 1 + 1; omega) (by show w.heap.size + 1 + 1 < _; omega)).trans (KB.setCell _ _ (by show w.heap.size ≤ w.heap.size + 1 + 1 + 1; omega) (by show w.heap.size + 1 + 1 + 1 < _; omega))
      refine ⟨((KeepsOthers.setCell _ _ _).trans (KeepsOthers.setCell _ _ _)).from _, zk, ⟨?_, ?_, (i1.other (by omega) _).other (by omega) _⟩, iB.trans zk.below, (i6.set_other _ _ (by show w.heap.size + 1 + 1 + 1 + 1 ≠ w.heap.size + 1 + 1; omega)).set_other _ _ (by show w.heap.size + 1 + 1 + 1 + 1 ≠ w.heap.size + 1 + 1 + 1; omega)⟩
      · rw [show ((pre ++ [x]).length : Int) = (pre.length : Int) + 1 by simp]; exact (i2.set _).other (by omega) _
      · rw [← hmx]; exact (i3.other (B' := w.heap.size + 1 + 1) (by omega) _).set _)
    by_cases hmx2 : deepW pre < wr64 x.d
    · have e : RowKit.Hid (wr64 x.d = deepW (pre ++ [x])) := Lib.hid (by rw [DS.out]; omega)
      gi_wp2_with fail
      exact FIN.out _ e.out _
    · have e : RowKit.Hid (deepW pre = deepW (pre ++ [x])) := Lib.hid (by rw [DS.out]; omega)
      gi_wp2_with fail
      exact FIN.out _ e.out _
  case done =>
    rintro D ys W hD hS ⟨⟨i2, i3, i1⟩, iB, i6⟩ hK
    have c3 := i3.cell
    have c1 := i1.cell
    have f1 := i1.frozen
    have hlen := len_of hS
    have DN := Lib.hid (deep_of hS (by omega))
    obtain ⟨dd, hdd⟩ : ∃ dd, dd = deepW ys := ⟨_, rfl⟩
    rw [← hdd] at c3 DN
    clear hdd i3 hlen
    have RB := Lib.hid (fun v : Int => (iB.setCell (p := ⟨w.heap.size + 1, 0, none⟩) (show w.heap.size ≤ w.heap.size + 1 by omega) (.int .i64 v)))
    have RK := Lib.hid (fun v : Int => (KeepsOthers.setCell W ⟨w.heap.size + 1, 0, none⟩ (.int .i64 v)).same D _ hK rfl)
    have RX := Lib.hid (fun v : Int => i1.set (.int .i64 v))
    by_cases h1 : 101 < dd
    · have F := Lib.hid (show min t.dp 101 = 101 by have := DN.out; omega)
      gi_wp2_with fail
      refine ⟨by simp, .inl ⟨_, _, rfl, run_takeDeferred (RK.out _), ?_⟩⟩
      have bx := (boxed_left (RX.out 101) (RK.out 101) rfl (.deferred none)).cell
      exact ⟨.int .i64 101, by simp [results, Tryd.results108, go_sem, bx], ret_int (by rw [F.out]; rfl), below_left (RB.out 101) (by omega) (RK.out 101) _⟩
    · have F := Lib.hid (show ((min t.dp 101 : Nat) : Int) = dd by have := DN.out; omega)
      gi_wp2_with fail
      refine ⟨by simp, .inl ⟨_, _, rfl, run_takeDeferred (RK.out _), ?_⟩⟩
      have bx := (boxed_left (RX.out dd) (RK.out dd) rfl (.deferred none)).cell
      exact ⟨.int .i64 dd, by simp [results, Tryd.results108, go_sem, bx], ret_int (by rw [F.out]), below_left (RB.out dd) (by omega) (RK.out dd) _⟩
  case stop => intro D co pre W hD hSp h; exact h.elim
end Go.Proofs.YtgnfbhemkombaaaDoor
