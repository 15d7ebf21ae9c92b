/- a node of two kids that have been read one behind the other. -/
import Derived.Test.YtgnfbhemkombaaaDoorP15
namespace Go.Proofs.YtgnfbhemkombaaaDoor
open Go.RowKit
set_option linter.unusedVariables false
theorem node_two {w w1 w2 w3 w4 w5 : World} {b : Nat} {A : Option Addr} {c : Nat} {l : List Tok} {sl z m d k i : Nat} {q1 q2 : Tr} {r : List Tok} {x1 y1 x2 y2 : Int} {A1 A2 : Option Addr} {n1 c1 n2 c2 : Nat} (hb : b < w.heap.size) (hk : KeepR b w w1) (hk2 : KeepR b w1 w2)
    (hv1 : ExprV w2 w1.heap.size (z + q1.sz) (max m (d + 1 + dpL q1.ks)) q1 (.agg #[.int .i64 x1, .int .i64 y1, .slice A1 n1 c1])) (hk3 : KeepR b w2 w3) (hk4 : KeepR b w3 w4)
    (hv2 : ExprV w4 w3.heap.size (z + q1.sz + q2.sz) (max (max m (d + 1 + dpL q1.ks)) (d + 1 + dpL q2.ks)) q2 (.agg #[.int .i64 x2, .int .i64 y2, .slice A2 n2 c2])) (hk5 : KeepR b w4 w5)
    (hr : Rdr w5 b A c l r sl (z + q1.sz + q2.sz) (max (max m (d + 1 + dpL q1.ks)) (d + 1 + dpL q2.ks))) :
    Calls Tryd.prog 74 #[.pointer (some ⟨b, 0, none⟩), .int .i64 (k : Int), .int .i64 (i : Int), .slice (some ⟨w5.heap.size, 0, none⟩) 2 2] (w5.alloc (.cells #[.int .i64 x1, .int .i64 y1, .slice A1 n1 c1, .int .i64 x2, .int .i64 y2, .slice A2 n2 c2] 24)) fun e w' =>
      Below (w5.heap.size + 1) (w5.alloc (.cells #[.int .i64 x1, .int .i64 y1, .slice A1 n1 c1, .int .i64 x2, .int .i64 y2, .slice A2 n2 c2] 24)) w' ∧ KeepR b w w' ∧ Rdr w' b A c l r sl (z + szL [q1, q2]) (max m (d + dpL [q1, q2])) ∧ ∃ x' y' B p q', e = .returned (.agg #[.int .i64 x', .int .i64 y', .slice B p q']) ∧ ExprV w' w.heap.size (z + szL [q1, q2]) (max m (d + dpL [q1, q2])) (.node (k : Int) (i : Int) [q1, q2]) (.agg #[.int .i64 x', .int .i64 y', .slice B p q']) := by
  obtain ⟨_, _, _, _, _, e0, hv1⟩ := hv1
  cases e0
  obtain ⟨_, _, _, _, _, e0, hv2⟩ := hv2
  cases e0
  have es : z + szL [q1, q2] = z + q1.sz + q2.sz := by simp only [szL]; omega
  have ed : max m (d + dpL [q1, q2]) = max (max m (d + 1 + dpL q1.ks)) (d + 1 + dpL q2.ks) := by have := dp_eq q1; have := dp_eq q2; simp only [dpL]; omega
  have s1 := hk.size
  have s2 := hk2.size
  have s3 := hk3.size
  have s4 := hk4.size
  have s5 := hk5.size
  have ha : Below w5.heap.size w5 (w5.alloc (.cells #[.int .i64 x1, .int .i64 y1, .slice A1 n1 c1, .int .i64 x2, .int .i64 y2, .slice A2 n2 c2] 24)) := (Below.refl _ _).alloc (Nat.le_refl _) _
  have a1 : KeepR b w (w5.alloc (.cells #[.int .i64 x1, .int .i64 y1, .slice A1 n1 c1, .int .i64 x2, .int .i64 y2, .slice A2 n2 c2] 24)) := ((((hk.trans hk2).trans hk3).trans hk4).trans hk5).trans (KeepR.of_below ha)
  have a2 := hr.keep ha
  rw [← es, ← ed] at a2
  refine (node_tree (.node (k : Int) (i : Int) [q1, q2]) _ 2 2 _ a2 (lo := w.heap.size) (fun he => ⟨rfl, ?_⟩)).mono ?_
  · rw [es, ed] at he
    obtain ⟨rfl, rfl, rfl, o1⟩ := hv1 (exc_mono he (by omega) (by omega))
    obtain ⟨rfl, rfl, rfl, o2⟩ := hv2 he
    refine ownT_eq.2 ⟨[(A1, c1), (A2, c2)], rfl, ?_, ?_, ?_⟩
    · exact ⟨rfl, .inr ⟨w5.heap.size, 2, _, rfl, by omega, World.alloc_heap_new w5 _, Nat.le_refl _, by unfold maxLen; omega, rfl, rfl⟩⟩
    · intro g e
      simp [Value.ownBlock] at e
      rw [World.size_alloc]
      omega
    · have k1 : ∀ j, w1.heap.size ≤ j → j < w2.heap.size → (w5.alloc (.cells #[.int .i64 q1.k, .int .i64 q1.i, .slice A1 q1.ks.length c1, .int .i64 q2.k, .int .i64 q2.i, .slice A2 q2.ks.length c2] 24)).heap[j]? = w2.heap[j]? := fun j h1 h2 =>
        (ha.block j (by omega)).trans ((hk5.block j (by omega) (by omega)).trans ((hk4.block j (by omega) (by omega)).trans (hk3.block j h2 (by omega))))
      have k2 : ∀ j, w3.heap.size ≤ j → j < w4.heap.size → (w5.alloc (.cells #[.int .i64 q1.k, .int .i64 q1.i, .slice A1 q1.ks.length c1, .int .i64 q2.k, .int .i64 q2.i, .slice A2 q2.ks.length c2] 24)).heap[j]? = w4.heap[j]? := fun j h1 h2 =>
        (ha.block j (by omega)).trans (hk5.block j h2 (by omega))
      refine ownL_cons.2 ⟨w1.heap.size, w2.heap.size, by omega, s2, ?_, OwnT.same _ k1 o1, ownL_cons.2 ⟨w3.heap.size, w4.heap.size, by omega, s4, ?_, OwnT.same _ k2 o2, by simp [OwnL]; omega⟩⟩
      · intro g e hin
        simp [Value.ownBlock] at e
        omega
      · intro g e hin
        simp [Value.ownBlock] at e
        omega
  · rintro e w6 ⟨hb6, x', y', B, p, q', rfl, hV⟩
    rw [World.size_alloc] at hb6
    exact ⟨hb6, a1.trans (KeepR.of_below (by rw [World.size_alloc]; exact hb6)), a2.keep (by rw [World.size_alloc]; exact hb6), x', y', B, p, q', rfl, hV⟩
end Go.Proofs.YtgnfbhemkombaaaDoor
