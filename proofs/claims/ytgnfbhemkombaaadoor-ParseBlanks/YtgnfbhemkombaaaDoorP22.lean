/- Formula and Term of package parse. -/
import Derived.Test.YtgnfbhemkombaaaDoorP21
namespace Go.Proofs.YtgnfbhemkombaaaDoor
open Go.RowKit
set_option linter.unusedVariables false
/-- the three named results' variables, in a later world -/
theorem three_vars {w w1 : World} {t t' : TypeId} {x y : Value} {a b c : Value} (hb : Below (((w.alloc (.cells #[a, b, c] 24)).alloc (.cells #[x] t)).alloc (.cells #[y] t')).heap.size (((w.alloc (.cells #[a, b, c] 24)).alloc (.cells #[x] t)).alloc (.cells #[y] t')) w1) :
    Box3 w1 w.heap.size a b c ∧ w1.cell? ⟨w.heap.size + 1, 0, none⟩ = some x ∧ w1.frozen? ⟨w.heap.size + 1, 0, none⟩ = false ∧ w1.cell? ⟨w.heap.size + 2, 0, none⟩ = some y ∧ w1.frozen? ⟨w.heap.size + 2, 0, none⟩ = false ∧ Below w.heap.size w w1 ∧ w.heap.size + 3 ≤ w1.heap.size := by
  obtain ⟨h1, h2, h3, h4, h5, h6⟩ := two_vars hb
  rw [World.size_alloc] at h1 h2 h3 h4 h5 h6
  have ha : Below w.heap.size w (w.alloc (.cells #[a, b, c] 24)) := (Below.refl _ _).alloc (Nat.le_refl _) _
  exact ⟨(Box3.new w a b c).keep h5 (Nat.lt_succ_self _), h1, h2, h3, h4, ha.trans (h5.mono (Nat.le_succ _)), by omega⟩
/-- what Formula and Term answer -/
def ExprPost (w : World) (r : WR) (e : Ending) (w' : World) : Prop :=
  Below w.heap.size w w' ∧ match r with
    | .ok t => ∃ A c, e = .returned (.tuple #[.agg #[.int .i64 t.k, .int .i64 t.i, .slice A t.ks.length c], .int .i64 0, .int .i64 0]) ∧ OwnT w' w.heap.size w'.heap.size t A c
    | .bad c i => e = .returned (.tuple #[.agg #[.int .i64 0, .int .i64 0, .slice none 0 0], .int .i64 (c : Int), .int .i64 (i : Int)])
set_option maxHeartbeats 2000000 in
set_option maxRecDepth 100000 in
theorem pformula_any (s : ByteArray) (w : World) (hs : s.size ≤ maxLen) :
    Calls Tryd.prog 15 #[.string s] w (ExprPost w (wholeR (formP 16100) s.size (lexAll (bytesN s)))) := by
  have hmf : ∀ (fn : Fn) (first cap : Array Value) (w : World), (Instr.makeFunc fn first cap).run Tryd.prog w = .ok (.func fn first cap) w := fun _ _ _ _ => rfl
  obtain ⟨r, hr⟩ : ∃ r, r = wholeR (formP 16100) s.size (lexAll (bytesN s)) := ⟨_, rfl⟩
  have PC := Lib.hid (fun W => read_form s W hs)
  rw [← hr] at PC ⊢
  clear hr
  cases r with
  | bad c i =>
    go_enter_defers Tryd.func15, Tryd.ntmps15
    go_wp2_with (go_at_call 36; refine (PC.out _).mono ?_; rintro e w1 ⟨hb1, rfl⟩; obtain ⟨b3, c1, f1, c2, f2, bl, hz⟩ := three_vars hb1; clear hb1)
    refine leaves_cons (f := 35) (args := #[.pointer (some ⟨w.heap.size + 1, 0, none⟩), .pointer (some ⟨w.heap.size + 2, 0, none⟩)]) (by simp) (by simp [go_sem]) ?_
    refine (pform_catch (w.heap.size + 1) (w.heap.size + 2) c i [] _ _ _ (by omega) c1 f1 c2 f2).mono ?_
    rintro e u' w'' ⟨rfl, rfl, w2, hb2, rfl⟩
    have d1 := (hb2.cell (block_lt_of_cell c1)).trans c1
    have d2 := (hb2.cell (block_lt_of_cell c2)).trans c2
    obtain ⟨y0, y1, y2⟩ := (b3.keep hb2 b3.lt).cells
    simp [Leaves, settle, results, Tryd.results15, go_sem, d1, d2, y0, y1, y2]
    exact ⟨((bl.trans (hb2.mono bl.size)).setCell (p := ⟨w.heap.size + 1, 0, none⟩) (Nat.le_succ _) _).setCell (p := ⟨w.heap.size + 2, 0, none⟩) (by show _ ≤ w.heap.size + 2; omega) _, rfl⟩
  | ok t =>
    go_enter_defers Tryd.func15, Tryd.ntmps15
    go_wp2_with (go_at_call 36; refine (PC.out _).mono ?_; rintro e w1 ⟨hb1, A, c, rfl, ho⟩; obtain ⟨b3, c1, f1, c2, f2, bl, hz⟩ := three_vars hb1; have HO := Lib.hid ho; obtain ⟨y0, y1, y2⟩ := b3.cells; have g0 := b3.frozen 0; have g1 := b3.frozen 1; have g2 := b3.frozen 2; clear hb1 ho)
    refine leaves_cons (f := 35) (args := #[.pointer (some ⟨w.heap.size + 1, 0, none⟩), .pointer (some ⟨w.heap.size + 2, 0, none⟩)]) (by simp) (by simp [go_sem]) ?_
    refine (pform_idle (w.heap.size + 1) (w.heap.size + 2) _).mono ?_
    rintro e u' w'' ⟨rfl, rfl, rfl⟩
    simp [Leaves, settle, results, Tryd.results15, go_sem, c1, c2, y0, y1, y2]
    have hsz : (((w.alloc (.cells #[.int .i64 0, .int .i64 0, .slice none 0 0] 24)).alloc (.cells #[.int .i64 0] 25)).alloc (.cells #[.int .i64 0] 3)).heap.size = w.heap.size + 3 := by simp
    have O := HO.out
    rw [hsz] at O
    refine ⟨((((bl.setCell (p := ⟨w.heap.size, 0, none⟩) (Nat.le_refl _) _).setCell (p := ⟨w.heap.size, 1, none⟩) (Nat.le_refl _) _).setCell (p := ⟨w.heap.size, 2, none⟩) (Nat.le_refl _) _).setCell (p := ⟨w.heap.size + 1, 0, none⟩) (Nat.le_succ _) _).setCell (p := ⟨w.heap.size + 1 + 1, 0, none⟩) (by show _ ≤ w.heap.size + 1 + 1; omega) _, A, c, rfl, ?_⟩
    exact ((OwnT.same _ (fun k h1 h2 => (heap_setCell_other _ _ _ _ (show k ≠ w.heap.size + 1 + 1 by omega)).trans ((heap_setCell_other _ _ _ _ (show k ≠ w.heap.size + 1 by omega)).trans (set3_other _ _ _ _ _ _ (show k ≠ w.heap.size by omega)))) O).widen (by rw [size_set, size_set, set3_size]; exact Nat.le_refl _)).lower (by omega)
set_option maxHeartbeats 2000000 in
set_option maxRecDepth 100000 in
theorem ptermf_any (s : ByteArray) (w : World) (hs : s.size ≤ maxLen) :
    Calls Tryd.prog 27 #[.string s] w (ExprPost w (wholeR (termP 16100) s.size (lexAll (bytesN s)))) := by
  have hmf : ∀ (fn : Fn) (first cap : Array Value) (w : World), (Instr.makeFunc fn first cap).run Tryd.prog w = .ok (.func fn first cap) w := fun _ _ _ _ => rfl
  obtain ⟨r, hr⟩ : ∃ r, r = wholeR (termP 16100) s.size (lexAll (bytesN s)) := ⟨_, rfl⟩
  have PC := Lib.hid (fun W => read_term s W hs)
  rw [← hr] at PC ⊢
  clear hr
  cases r with
  | bad c i =>
    go_enter_defers Tryd.func27, Tryd.ntmps27
    go_wp2_with (go_at_call 36; refine (PC.out _).mono ?_; rintro e w1 ⟨hb1, rfl⟩; obtain ⟨b3, c1, f1, c2, f2, bl, hz⟩ := three_vars hb1; clear hb1)
    refine leaves_cons (f := 54) (args := #[.pointer (some ⟨w.heap.size + 1, 0, none⟩), .pointer (some ⟨w.heap.size + 2, 0, none⟩)]) (by simp) (by simp [go_sem]) ?_
    refine (ptermd_catch (w.heap.size + 1) (w.heap.size + 2) c i [] _ _ _ (by omega) c1 f1 c2 f2).mono ?_
    rintro e u' w'' ⟨rfl, rfl, w2, hb2, rfl⟩
    have d1 := (hb2.cell (block_lt_of_cell c1)).trans c1
    have d2 := (hb2.cell (block_lt_of_cell c2)).trans c2
    obtain ⟨y0, y1, y2⟩ := (b3.keep hb2 b3.lt).cells
    simp [Leaves, settle, results, Tryd.results27, go_sem, d1, d2, y0, y1, y2]
    exact ⟨((bl.trans (hb2.mono bl.size)).setCell (p := ⟨w.heap.size + 1, 0, none⟩) (Nat.le_succ _) _).setCell (p := ⟨w.heap.size + 2, 0, none⟩) (by show _ ≤ w.heap.size + 2; omega) _, rfl⟩
  | ok t =>
    go_enter_defers Tryd.func27, Tryd.ntmps27
    go_wp2_with (go_at_call 36; refine (PC.out _).mono ?_; rintro e w1 ⟨hb1, A, c, rfl, ho⟩; obtain ⟨b3, c1, f1, c2, f2, bl, hz⟩ := three_vars hb1; have HO := Lib.hid ho; obtain ⟨y0, y1, y2⟩ := b3.cells; have g0 := b3.frozen 0; have g1 := b3.frozen 1; have g2 := b3.frozen 2; clear hb1 ho)
    refine leaves_cons (f := 54) (args := #[.pointer (some ⟨w.heap.size + 1, 0, none⟩), .pointer (some ⟨w.heap.size + 2, 0, none⟩)]) (by simp) (by simp [go_sem]) ?_
    refine (ptermd_idle (w.heap.size + 1) (w.heap.size + 2) _).mono ?_
    rintro e u' w'' ⟨rfl, rfl, rfl⟩
    simp [Leaves, settle, results, Tryd.results27, go_sem, c1, c2, y0, y1, y2]
    have hsz : (((w.alloc (.cells #[.int .i64 0, .int .i64 0, .slice none 0 0] 24)).alloc (.cells #[.int .i64 0] 25)).alloc (.cells #[.int .i64 0] 3)).heap.size = w.heap.size + 3 := by simp
    have O := HO.out
    rw [hsz] at O
    refine ⟨((((bl.setCell (p := ⟨w.heap.size, 0, none⟩) (Nat.le_refl _) _).setCell (p := ⟨w.heap.size, 1, none⟩) (Nat.le_refl _) _).setCell (p := ⟨w.heap.size, 2, none⟩) (Nat.le_refl _) _).setCell (p := ⟨w.heap.size + 1, 0, none⟩) (Nat.le_succ _) _).setCell (p := ⟨w.heap.size + 1 + 1, 0, none⟩) (by show _ ≤ w.heap.size + 1 + 1; omega) _, A, c, rfl, ?_⟩
    exact ((OwnT.same _ (fun k h1 h2 => (heap_setCell_other _ _ _ _ (show k ≠ w.heap.size + 1 + 1 by omega)).trans ((heap_setCell_other _ _ _ _ (show k ≠ w.heap.size + 1 by omega)).trans (set3_other _ _ _ _ _ _ (show k ≠ w.heap.size by omega)))) O).widen (by rw [size_set, size_set, set3_size]; exact Nat.le_refl _)).lower (by omega)
end Go.Proofs.YtgnfbhemkombaaaDoor
