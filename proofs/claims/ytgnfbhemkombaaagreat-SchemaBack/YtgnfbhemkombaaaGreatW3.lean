/- Count, Least and List of package word, and the document's: what they return, in new memory where they make a list. -/
import Derived.Test.YtgnfbhemkombaaaGreatW2
import Derived.Test.YtgnfbhemkombaaaGreatMath2
namespace Go.Proofs.YtgnfbhemkombaaaGreat
open Go.RowKit
set_option maxRecDepth 100000
def icells (l : List Nat) : List Value := l.map fun (n : Nat) => Value.int .i64 (n : Int)
theorem icells_app (l m : List Nat) : icells (l ++ m) = icells l ++ icells m := by simp [icells]
theorem icells_len (l : List Nat) : (icells l).length = l.length := by simp [icells]
theorem has_nat (s k : Nat) (h : k < 64) : hasN s (k : Int) = s.testBit k := by
  rw [hasN_in s k (by omega) (by omega)]; rfl
theorem Tryz.info_int : (Tryz.prog.info? 3).map (fun i => (i.zero, i.size, i.bytes)) = some (some (.int .i64 0), 1, 8) := by kernel_rfl
/-- a list of numbers in memory of the call's own -/
def OwnInts (w : World) (l : List Nat) (e : Ending) (w' : World) : Prop :=
  ∃ v, e = .returned v ∧ w'.ownsRow w.heap.size 3 1 v l.length (icells l) ∧ Below w.heap.size w w'
theorem own_step {w wr w1 : World} {B : Nat} {e : TypeId} {v : Value} {n : Nat} {xs : List Value} {o : Obj} (hown : wr.ownsRow B e 1 v n xs) (hb : Below B w wr) (hB : B ≤ w.heap.size)
    (hg : (wr.alloc o).grownBy w1 v.ownBlock) : Below B w w1 :=
  (hb.alloc (Nat.le_trans hB hb.size) o).grown hg (by have := hb.size; simp; omega) (fun k hk => (hown.lt k hk).1)
theorem own_none (w : World) (B : Nat) (hB : B ≤ w.heap.size) (t : TypeId) : (w.alloc (.cells #[] t)).ownsRow B t 1 (.slice (some ⟨w.heap.size, 0, none⟩) 0 0) 0 [] :=
  World.ownsRow_made w #[] 0 hB (by unfold maxLen; omega) (by simp)
/-- what is owned is nil and empty, or stands at the head of a row -/
theorem own_form {w : World} {B : Nat} {t : TypeId} {v : Value} {n : Nat} {xs : List Value} (h : w.ownsRow B t 1 v n xs) :
    (v = .slice none 0 0 ∧ n = 0) ∨ ∃ g cap, v = .slice (some ⟨g, 0, none⟩) n cap ∧ B ≤ g ∧ n ≤ cap ∧ cap ≤ maxLen ∧ ∀ j, j < n → w.cell? ⟨g, j, none⟩ = xs[j]? := by
  rcases h.2 with h1 | ⟨g, cap, cur, rfl, hb, hh, hn, hm, hs, ht⟩
  · exact .inl h1
  · exact .inr ⟨g, cap, rfl, hb, hn, hm, fun j hj => h.cellAt j (by omega)⟩
end Go.Proofs.YtgnfbhemkombaaaGreat
