/- Tokens of package parse: a fault that was raised is caught. -/
import Derived.Test.YtfleomamhkeiiaaP4
import Derived.Defers
import Derived.Recover
import Derived.RangeFuncBox
namespace Go.Proofs.Ytfleomamhkeiiaa
open Go.RowKit
set_option linter.unusedVariables false
set_option maxHeartbeats 1000000 in
set_option maxRecDepth 100000 in
theorem caught_any (c i : Nat) (w : World) : Calls Try.prog 37 #[faultV c i] w fun e w' => e = .returned (.tuple #[.int .i64 (c : Int), .int .i64 (i : Int)]) ∧ Below w.heap.size w w' := by
  unfold faultV
  have hta : ∀ (v : Value) (w : World), (Instr.typeAssert (.iface 78 v) 20 78 true).run Try.prog w = .ok (.tuple #[v, .bool true]) w := fun v w => by rfl
  go_enter Try.func37, Try.ntmps37
  go_wp2_with fail
  go_quiet (fail)
  go_wp2_with fail
  go_ret2
  exact ⟨rfl, below_drewN ((Below.refl _ _).alloc (Nat.le_refl _) _) _⟩
/-- the two named results' variables, in a later world -/
theorem two_vars {w w1 : World} {t t' : TypeId} {x y : Value} (hb : Below ((w.alloc (.cells #[x] t)).alloc (.cells #[y] t')).heap.size ((w.alloc (.cells #[x] t)).alloc (.cells #[y] t')) w1) :
    w1.cell? ⟨w.heap.size, 0, none⟩ = some x ∧ w1.frozen? ⟨w.heap.size, 0, none⟩ = false ∧ w1.cell? ⟨w.heap.size + 1, 0, none⟩ = some y ∧ w1.frozen? ⟨w.heap.size + 1, 0, none⟩ = false ∧ Below w.heap.size w w1 ∧ w.heap.size + 2 ≤ w1.heap.size := by
  have hs : ((w.alloc (.cells #[x] t)).alloc (.cells #[y] t')).heap.size = w.heap.size + 2 := by simp
  have b1 : Boxed w1 w.heap.size t x := (hb.block _ (by omega)).trans ((Boxed.new w t x).alloc _)
  have n2 := Boxed.new (w.alloc (.cells #[x] t)) t' y
  rw [World.size_alloc] at n2
  have b2 : Boxed w1 (w.heap.size + 1) t' y := (hb.block _ (by omega)).trans n2
  have ha : Below w.heap.size w ((w.alloc (.cells #[x] t)).alloc (.cells #[y] t')) := ((Below.refl _ w).alloc (Nat.le_refl _) _).alloc (by simp) _
  exact ⟨b1.cell, b1.frozen, b2.cell, b2.frozen, ha.trans (hb.mono (by omega)), by have := hb.size; omega⟩
/-- what Tokens answers -/
def ToksPost (w : World) (r : LexR) (e : Ending) (w' : World) : Prop :=
  Below w.heap.size w w' ∧ match r with
    | .ok l => ∃ v, e = .returned (.tuple #[v, .int .i64 0, .int .i64 0]) ∧ w'.ownsRow w.heap.size 87 3 v l.length (tokC l)
    | .bad c i => e = .returned (.tuple #[.slice none 0 0, .int .i64 (c : Int), .int .i64 (i : Int)])
end Go.Proofs.Ytfleomamhkeiiaa
