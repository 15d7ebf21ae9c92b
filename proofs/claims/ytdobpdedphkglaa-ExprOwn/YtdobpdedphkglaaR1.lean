/- A region that draws its order, inside a fence: each of its orders, written out, is a list of operations to be walked. -/
import Derived.OrdersIn
import Derived.TacticsIn
namespace Go.Proofs.Ytdobpdedphkglaa
/-- the orders in which a region's operations may come up -/
def ordersOf (md : Region.Mode) (ops : Array Oper) : Nat → Array Bool → List (List Nat)
  | 0, _ => [[]]
  | fuel + 1, listed => if (Region.ready md ops listed).isEmpty then [[]] else (Region.ready md ops listed).flatMap fun i => (ordersOf md ops fuel (listed.setIfInBounds i true)).map (i :: ·)
theorem go_orders (md : Region.Mode) (ops : Array Oper) : ∀ (fuel t : Nat) (listed : Array Bool), Region.linearise.go md ops fuel t listed [] ∈ ordersOf md ops fuel listed := by
  intro fuel
  induction fuel with
  | zero => intro t listed; simp [Region.linearise.go, ordersOf]
  | succ fuel ih =>
    intro t listed
    simp only [Region.linearise.go, ordersOf]
    change (match (Region.ready md ops listed)[t % (Region.ready md ops listed).length]? with
      | some i => Region.linearise.go md ops fuel (t / (Region.ready md ops listed).length) (listed.setIfInBounds i true) [i]
      | none => [].reverse) ∈ _
    cases hi : (Region.ready md ops listed)[t % (Region.ready md ops listed).length]? with
    | none =>
      have hnil : Region.ready md ops listed = [] := by
        cases hr : Region.ready md ops listed with
        | nil => rfl
        | cons x xs =>
          rw [hr] at hi
          have hlt : t % (x :: xs).length < (x :: xs).length := Nat.mod_lt _ (by simp)
          simp at hi
          simp at hlt
          omega
      simp [hnil]
    | some i =>
      have hm := List.mem_of_getElem? hi
      have hne : (Region.ready md ops listed).isEmpty = false := by cases h : Region.ready md ops listed with
        | nil => rw [h] at hm; cases hm
        | cons x xs => rfl
      rw [hne]
      simp only [Bool.false_eq_true, if_false, List.mem_flatMap, List.mem_map]
      refine ⟨i, hm, _, ih (t / (Region.ready md ops listed).length) (listed.setIfInBounds i true), ?_⟩
      rw [linearise_go_acc (acc := [i]), List.reverse_singleton, List.singleton_append]
theorem wpOpsIn_list {F : Fence} {n : Nat} {P : Program} {ops : Array Oper} {Q : Exit → Act → World → Prop} (is : List Nat) : wpOpsIn F n P ops Q is = wpListIn F n P ops Q (is.filterMap fun i => ops[i]?) := by
  induction is with
  | nil => funext a w; simp [wpOpsIn, wpListIn]
  | cons i r ih =>
    funext a w
    cases h : ops[i]? with
    | none => simp only [wpOpsIn, h, List.filterMap_cons, ih]
    | some o => simp only [wpOpsIn, h, List.filterMap_cons, wpListIn, ih]
theorem wpIn_region_lists {F : Fence} {n : Nat} {P : Program} {ops : Array Oper} {Q : Exit → Act → World → Prop} {id : Nat} {a : Act} {w : World} (hm : P.follows .mixedOrders = true)
    (iss : List (List Nat)) (hi : ordersOf .any ops ops.size (Array.replicate ops.size false) = iss) (h : ∀ is ∈ iss, wpListIn F n P ops Q (is.filterMap fun i => ops[i]?) a w.drew) : (Code.region id ops true).wpIn F n P Q a w :=
  wpIn_region_draw fun t => by
    simp only [Region.schedule, hm, Bool.true_or, if_true]
    rw [wpOpsIn_list]
    exact h _ (by rw [← hi]; exact go_orders _ _ _ _ _)
end Go.Proofs.Ytdobpdedphkglaa
