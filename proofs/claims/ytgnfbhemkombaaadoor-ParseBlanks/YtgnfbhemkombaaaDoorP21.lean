/- what Formula and Term defer: a fault that was raised is caught. -/
import Derived.Test.YtgnfbhemkombaaaDoorP20
namespace Go.Proofs.YtgnfbhemkombaaaDoor
open Go.RowKit
set_option linter.unusedVariables false
set_option maxHeartbeats 1000000 in
set_option maxRecDepth 100000 in
theorem pform_catch (bp bq c i : Nat) (older : List PanicEntry) (w : World) (x y : Value) (hne : bq ≠ bp) (hp : w.cell? ⟨bp, 0, none⟩ = some x) (hpf : w.frozen? ⟨bp, 0, none⟩ = false) (hq : w.cell? ⟨bq, 0, none⟩ = some y) (hqf : w.frozen? ⟨bq, 0, none⟩ = false) :
    CallsD Tryd.prog 35 #[.pointer (some ⟨bp, 0, none⟩), .pointer (some ⟨bq, 0, none⟩)] (.panicking ({ v := faultV c i, recovered := false } :: older)) w fun e u' w' =>
      e = .returned (.tuple #[]) ∧ u' = .panicking ({ v := faultV c i, recovered := true } :: older) ∧ ∃ w1, Below w.heap.size w w1 ∧ w' = (w1.setCell ⟨bp, 0, none⟩ (.int .i64 (c : Int))).setCell ⟨bq, 0, none⟩ (.int .i64 (i : Int)) := by
  refine callsD_of_wpS Tryd.func35 rfl fun c₀ cs hu => ?_
  apply wpS_seq
  apply wpS_region
  simp [wpOpsS, go_sem, recoverD, hu, Tryd.ntmps35, Exit.thenS, faultV]
  refine wpS_of_wp ?_
  simp only [Array.replicate_succ, Array.replicate_zero, List.push_toArray, List.append_toArray, List.nil_append, List.cons_append, List.setIfInBounds_toArray, List.set_cons_zero, List.set_cons_succ]
  have hnil : ∀ w : World, (binOp BinOp.neq 20 (Value.iface 88 (Value.agg #[Value.int IntKind.i64 (c : Int), Value.int IntKind.i64 (i : Int)])) Value.nilIface).run Tryd.prog w = .ok (.bool true) w := fun _ => by rfl
  go_wp2_with (go_at_call 30; refine (caught_any c i _).mono ?_; rintro e w1 ⟨rfl, hb1⟩; have p1 := (hb1.cell (block_lt_of_cell hp)).trans hp; have p2 := (hb1.frozen (p := ⟨bp, 0, none⟩) (block_lt_of_cell hp)).trans hpf; have q1 := (hb1.cell (block_lt_of_cell hq)).trans hq; have q2 := (hb1.frozen (p := ⟨bq, 0, none⟩) (block_lt_of_cell hq)).trans hqf)
  simp [bodyPostS, results, Tryd.results35]
  exact ⟨w1, hb1, rfl⟩
set_option maxHeartbeats 1000000 in
set_option maxRecDepth 100000 in
theorem pform_idle (bp bq : Nat) (w : World) :
    CallsD Tryd.prog 35 #[.pointer (some ⟨bp, 0, none⟩), .pointer (some ⟨bq, 0, none⟩)] .returning w fun e u' w' => e = .returned (.tuple #[]) ∧ u' = .returning ∧ w = w' := by
  refine callsD_of_wpS Tryd.func35 rfl fun c₀ cs hu => ?_
  apply wpS_seq
  apply wpS_region
  simp [wpOpsS, go_sem, recoverD, hu, Tryd.ntmps35, Exit.thenS]
  refine wpS_of_wp ?_
  simp only [Array.replicate_succ, Array.replicate_zero, List.push_toArray, List.append_toArray, List.nil_append, List.cons_append, List.setIfInBounds_toArray, List.set_cons_zero, List.set_cons_succ]
  have hnil : ∀ w : World, (binOp BinOp.neq 20 Value.nilIface Value.nilIface).run Tryd.prog w = .ok (.bool false) w := fun _ => by rfl
  go_wp2_with fail
  cases c₀
  simp_all [bodyPostS, results, Tryd.results35]
set_option maxHeartbeats 1000000 in
set_option maxRecDepth 100000 in
theorem ptermd_catch (bp bq c i : Nat) (older : List PanicEntry) (w : World) (x y : Value) (hne : bq ≠ bp) (hp : w.cell? ⟨bp, 0, none⟩ = some x) (hpf : w.frozen? ⟨bp, 0, none⟩ = false) (hq : w.cell? ⟨bq, 0, none⟩ = some y) (hqf : w.frozen? ⟨bq, 0, none⟩ = false) :
    CallsD Tryd.prog 54 #[.pointer (some ⟨bp, 0, none⟩), .pointer (some ⟨bq, 0, none⟩)] (.panicking ({ v := faultV c i, recovered := false } :: older)) w fun e u' w' =>
      e = .returned (.tuple #[]) ∧ u' = .panicking ({ v := faultV c i, recovered := true } :: older) ∧ ∃ w1, Below w.heap.size w w1 ∧ w' = (w1.setCell ⟨bp, 0, none⟩ (.int .i64 (c : Int))).setCell ⟨bq, 0, none⟩ (.int .i64 (i : Int)) := by
  refine callsD_of_wpS Tryd.func54 rfl fun c₀ cs hu => ?_
  apply wpS_seq
  apply wpS_region
  simp [wpOpsS, go_sem, recoverD, hu, Tryd.ntmps54, Exit.thenS, faultV]
  refine wpS_of_wp ?_
  simp only [Array.replicate_succ, Array.replicate_zero, List.push_toArray, List.append_toArray, List.nil_append, List.cons_append, List.setIfInBounds_toArray, List.set_cons_zero, List.set_cons_succ]
  have hnil : ∀ w : World, (binOp BinOp.neq 20 (Value.iface 88 (Value.agg #[Value.int IntKind.i64 (c : Int), Value.int IntKind.i64 (i : Int)])) Value.nilIface).run Tryd.prog w = .ok (.bool true) w := fun _ => by rfl
  go_wp2_with (go_at_call 30; refine (caught_any c i _).mono ?_; rintro e w1 ⟨rfl, hb1⟩; have p1 := (hb1.cell (block_lt_of_cell hp)).trans hp; have p2 := (hb1.frozen (p := ⟨bp, 0, none⟩) (block_lt_of_cell hp)).trans hpf; have q1 := (hb1.cell (block_lt_of_cell hq)).trans hq; have q2 := (hb1.frozen (p := ⟨bq, 0, none⟩) (block_lt_of_cell hq)).trans hqf)
  simp [bodyPostS, results, Tryd.results54]
  exact ⟨w1, hb1, rfl⟩
set_option maxHeartbeats 1000000 in
set_option maxRecDepth 100000 in
theorem ptermd_idle (bp bq : Nat) (w : World) :
    CallsD Tryd.prog 54 #[.pointer (some ⟨bp, 0, none⟩), .pointer (some ⟨bq, 0, none⟩)] .returning w fun e u' w' => e = .returned (.tuple #[]) ∧ u' = .returning ∧ w = w' := by
  refine callsD_of_wpS Tryd.func54 rfl fun c₀ cs hu => ?_
  apply wpS_seq
  apply wpS_region
  simp [wpOpsS, go_sem, recoverD, hu, Tryd.ntmps54, Exit.thenS]
  refine wpS_of_wp ?_
  simp only [Array.replicate_succ, Array.replicate_zero, List.push_toArray, List.append_toArray, List.nil_append, List.cons_append, List.setIfInBounds_toArray, List.set_cons_zero, List.set_cons_succ]
  have hnil : ∀ w : World, (binOp BinOp.neq 20 Value.nilIface Value.nilIface).run Tryd.prog w = .ok (.bool false) w := fun _ => by rfl
  go_wp2_with fail
  cases c₀
  simp_all [bodyPostS, results, Tryd.results54]
/-- the rule of a formula, as read wants it -/
theorem form_rule (b : Nat) (A : Option Addr) (c : Nat) (l : List Tok) (sl : Nat) (w : World) (hl : l.length ≤ 8000) (h : Rdr w b A c l l sl 0 0) : Calls Tryd.prog 37 #[.pointer (some ⟨b, 0, none⟩), .int .i64 1] w (ReadP b A c l sl 0 0 1 w (formP 16100 l)) :=
  form_any 16100 b A c l l sl 0 0 1 w (by omega) hl (by omega) (by omega) h
theorem term_rule (b : Nat) (A : Option Addr) (c : Nat) (l : List Tok) (sl : Nat) (w : World) (hl : l.length ≤ 8000) (h : Rdr w b A c l l sl 0 0) : Calls Tryd.prog 55 #[.pointer (some ⟨b, 0, none⟩), .int .i64 1] w (ReadP b A c l sl 0 0 1 w (termP 16100 l)) :=
  pterm_any 16100 b A c l l sl 0 0 1 w (by omega) hl (by omega) (by omega) h
set_option maxRecDepth 100000 in
theorem read_form (s : ByteArray) (w : World) (hs : s.size ≤ maxLen) : Calls Tryd.prog 36 #[.string s, .func (.func 37) #[] #[]] w (WholeP w (wholeR (formP 16100) s.size (lexAll (bytesN s)))) :=
  pread_any 37 (formP 16100) (fun _ _ => by first | (go_simp; done) | rfl) form_rule s w hs
set_option maxRecDepth 100000 in
theorem read_term (s : ByteArray) (w : World) (hs : s.size ≤ maxLen) : Calls Tryd.prog 36 #[.string s, .func (.func 55) #[] #[]] w (WholeP w (wholeR (termP 16100) s.size (lexAll (bytesN s)))) :=
  pread_any 55 (termP 16100) (fun _ _ => by first | (go_simp; done) | rfl) term_rule s w hs
end Go.Proofs.YtgnfbhemkombaaaDoor
