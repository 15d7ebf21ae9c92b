/- Tokens of package parse: a fault that was raised is caught. -/
import Derived.Test.YtgnfbhemkombaaaDoorP4
import Derived.Defers
import Derived.Recover
import Derived.RangeFuncBox
namespace Go.Proofs.YtgnfbhemkombaaaDoor
open Go.RowKit
set_option linter.unusedVariables false
set_option maxHeartbeats 1000000 in
set_option maxRecDepth 100000 in
theorem caught_any (c i : Nat) (w : World) : Calls Tryd.prog 30 #[faultV c i] w fun e w' => e = .returned (.tuple #[.int .i64 (c : Int), .int .i64 (i : Int)]) ∧ Below w.heap.size w w' := by
  unfold faultV
  have hta : ∀ (v : Value) (w : World), (Instr.typeAssert (.iface 88 v) 20 88 true).run Tryd.prog w = .ok (.tuple #[v, .bool true]) w := fun v w => by rfl
  go_enter Tryd.func30, Tryd.ntmps30
  go_wp2_with fail
  go_quiet (fail)
  go_wp2_with fail
  go_ret2
  exact ⟨rfl, below_drewN ((Below.refl _ _).alloc (Nat.le_refl _) _) _⟩
set_option maxHeartbeats 1000000 in
set_option maxRecDepth 100000 in
theorem tokens_catch (bp bq c i : Nat) (older : List PanicEntry) (w : World) (x y : Value) (hne : bq ≠ bp) (hp : w.cell? ⟨bp, 0, none⟩ = some x) (hpf : w.frozen? ⟨bp, 0, none⟩ = false) (hq : w.cell? ⟨bq, 0, none⟩ = some y) (hqf : w.frozen? ⟨bq, 0, none⟩ = false) :
    CallsD Tryd.prog 29 #[.pointer (some ⟨bp, 0, none⟩), .pointer (some ⟨bq, 0, none⟩)] (.panicking ({ v := faultV c i, recovered := false } :: older)) w fun e u' w' =>
      e = .returned (.tuple #[]) ∧ u' = .panicking ({ v := faultV c i, recovered := true } :: older) ∧ ∃ w1, Below w.heap.size w w1 ∧ w' = (w1.setCell ⟨bp, 0, none⟩ (.int .i64 (c : Int))).setCell ⟨bq, 0, none⟩ (.int .i64 (i : Int)) := by
  refine callsD_of_wpS Tryd.func29 rfl fun c₀ cs hu => ?_
  apply wpS_seq
  apply wpS_region
  simp [wpOpsS, go_sem, recoverD, hu, Tryd.ntmps29, Exit.thenS, faultV]
  refine wpS_of_wp ?_
  simp only [Array.replicate_succ, Array.replicate_zero, List.push_toArray, List.append_toArray, List.nil_append, List.cons_append, List.setIfInBounds_toArray, List.set_cons_zero, List.set_cons_succ]
  have hnil : ∀ w : World, (binOp BinOp.neq 20 (Value.iface 88 (Value.agg #[Value.int IntKind.i64 (c : Int), Value.int IntKind.i64 (i : Int)])) Value.nilIface).run Tryd.prog w = .ok (.bool true) w := fun _ => by rfl
  go_wp2_with (go_at_call 30; refine (caught_any c i _).mono ?_; rintro e w1 ⟨rfl, hb1⟩; have p1 := (hb1.cell (block_lt_of_cell hp)).trans hp; have p2 := (hb1.frozen (p := ⟨bp, 0, none⟩) (block_lt_of_cell hp)).trans hpf; have q1 := (hb1.cell (block_lt_of_cell hq)).trans hq; have q2 := (hb1.frozen (p := ⟨bq, 0, none⟩) (block_lt_of_cell hq)).trans hqf)
  simp [bodyPostS, results, Tryd.results29]
  exact ⟨w1, hb1, rfl⟩
set_option maxHeartbeats 1000000 in
set_option maxRecDepth 100000 in
theorem tokens_idle (bp bq : Nat) (w : World) :
    CallsD Tryd.prog 29 #[.pointer (some ⟨bp, 0, none⟩), .pointer (some ⟨bq, 0, none⟩)] .returning w fun e u' w' => e = .returned (.tuple #[]) ∧ u' = .returning ∧ w = w' := by
  refine callsD_of_wpS Tryd.func29 rfl fun c₀ cs hu => ?_
  apply wpS_seq
  apply wpS_region
  simp [wpOpsS, go_sem, recoverD, hu, Tryd.ntmps29, Exit.thenS]
  refine wpS_of_wp ?_
  simp only [Array.replicate_succ, Array.replicate_zero, List.push_toArray, List.append_toArray, List.nil_append, List.cons_append, List.setIfInBounds_toArray, List.set_cons_zero, List.set_cons_succ]
  have hnil : ∀ w : World, (binOp BinOp.neq 20 Value.nilIface Value.nilIface).run Tryd.prog w = .ok (.bool false) w := fun _ => by rfl
  go_wp2_with fail
  cases c₀
  simp_all [bodyPostS, results, Tryd.results29]
/-- the two named results' variables, in a later world -/
theorem two_vars {w w1 : World} {t t' : TypeId} {x y : Value} (hb : Below ((w.alloc (.cells #[x] t)).alloc (.cells #[y] t')).heap.size ((w.alloc (.cells #[x] t)).alloc (.cells #[y] t')) w1) :
    w1.cell? ⟨w.heap.size, 0, none⟩ = some x ∧ w1.frozen? ⟨w.heap.size, 0, none⟩ = false ∧ w1.cell? ⟨w.heap.size + 1, 0, none⟩ = some y ∧ w1.frozen? ⟨w.heap.size + 1, 0, none⟩ = false ∧ Below w.heap.size w w1 ∧ w.heap.size + 2 ≤ w1.heap.size := by
  have hs : ((w.alloc (.cells #[x] t)).alloc (.cells #[y] t')).heap.size = w.heap.size + 2 := by simp
  have b1 : Boxed w1 w.heap.size t x := (hb.block _ (by omega)).trans ((Boxed.new w t x).alloc _)
  have n2 := Boxed.new (w.alloc (.cells #[x] t)) t' y
  rw [World.size_alloc] at n2
  have b2 : Boxed w1 (w.heap.size + 1) t' y := (hb.block _ (by omega)).trans n2
  have ha : Below w.heap.size w ((w.alloc (.cells #[x] t)).alloc (.cells #[y] t')) := ((Below.refl _ w).alloc (Nat.le_refl _) _).alloc (by simp) _
  exact ⟨b1.cell, b1.frozen, b2.cell, b2.frozen, ha.trans (hb.mono (by omega)), by have := hb.size; omega⟩
/-- what Tokens answers -/
def ToksPost (w : World) (r : LexR) (e : Ending) (w' : World) : Prop :=
  Below w.heap.size w w' ∧ match r with
    | .ok l => ∃ v, e = .returned (.tuple #[v, .int .i64 0, .int .i64 0]) ∧ w'.ownsRow w.heap.size 37 3 v l.length (tokC l)
    | .bad c i => e = .returned (.tuple #[.slice none 0 0, .int .i64 (c : Int), .int .i64 (i : Int)])
set_option maxHeartbeats 1000000 in
set_option maxRecDepth 100000 in
theorem tokens_any (s : ByteArray) (w : World) (hs : s.size ≤ maxLen) :
    Calls Tryd.prog 13 #[.string s] w (ToksPost w (lexAll (bytesN s))) := by
  have hmf : ∀ (fn : Fn) (first cap : Array Value) (w : World), (Instr.makeFunc fn first cap).run Tryd.prog w = .ok (.func fn first cap) w := fun _ _ _ _ => rfl
  obtain ⟨r, hr⟩ : ∃ r, r = lexAll (bytesN s) := ⟨_, rfl⟩
  have PC := Lib.hid (fun W => pcut_any s W hs)
  rw [← hr] at PC ⊢
  clear hr
  cases r with
  | ok l =>
    go_enter_defers Tryd.func13, Tryd.ntmps13
    go_wp2_with (go_at_call 31; refine (PC.out _).mono ?_; rintro e w1 ⟨hb1, v, rfl, ho⟩; obtain ⟨c1, f1, c2, f2, bl, hz⟩ := two_vars hb1; have HO := Lib.hid (own_lower (base' := w.heap.size + 2) ho (by simp)); clear hb1 ho)
    refine leaves_cons (f := 29) (args := #[.pointer (some ⟨w.heap.size, 0, none⟩), .pointer (some ⟨w.heap.size + 1, 0, none⟩)]) (by simp) (by simp [go_sem]) ?_
    refine (tokens_idle w.heap.size (w.heap.size + 1) _).mono ?_
    rintro e u' w'' ⟨rfl, rfl, rfl⟩
    simp [Leaves, settle, results, Tryd.results13, go_sem, c1, c2]
    exact ⟨(bl.setCell (p := ⟨w.heap.size, 0, none⟩) (Nat.le_refl _) _).setCell (p := ⟨w.heap.size + 1, 0, none⟩) (Nat.le_succ _) _, v, rfl, own_lower (ownsRow_setCell_below (ownsRow_setCell_below HO.out (by show w.heap.size < _; omega) _) (by show w.heap.size + 1 < _; omega) _) (by omega)⟩
  | bad c i =>
    go_enter_defers Tryd.func13, Tryd.ntmps13
    go_wp2_with (go_at_call 31; refine (PC.out _).mono ?_; rintro e w1 ⟨hb1, rfl⟩; obtain ⟨c1, f1, c2, f2, bl, hz⟩ := two_vars hb1; clear hb1)
    refine leaves_cons (f := 29) (args := #[.pointer (some ⟨w.heap.size, 0, none⟩), .pointer (some ⟨w.heap.size + 1, 0, none⟩)]) (by simp) (by simp [go_sem]) ?_
    refine (tokens_catch w.heap.size (w.heap.size + 1) c i [] _ _ _ (by omega) c1 f1 c2 f2).mono ?_
    rintro e u' w'' ⟨rfl, rfl, w2, hb2, rfl⟩
    have d1 := (hb2.cell (block_lt_of_cell c1)).trans c1
    have d2 := (hb2.cell (block_lt_of_cell c2)).trans c2
    simp [Leaves, settle, results, Tryd.results13, go_sem, d1, d2]
    exact ⟨((bl.trans (hb2.mono bl.size)).setCell (p := ⟨w.heap.size, 0, none⟩) (Nat.le_refl _) _).setCell (p := ⟨w.heap.size + 1, 0, none⟩) (Nat.le_succ _) _, rfl⟩
end Go.Proofs.YtgnfbhemkombaaaDoor
