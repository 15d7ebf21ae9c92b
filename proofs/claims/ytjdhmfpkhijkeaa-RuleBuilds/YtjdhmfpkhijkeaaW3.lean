/- Count, Least and List of package word, and the document's: what they return, in new memory where they make a list. -/
import Derived.Test.YtjdhmfpkhijkeaaW2
import Derived.Test.YtjdhmfpkhijkeaaMath2
namespace Go.Proofs.Ytjdhmfpkhijkeaa
open Go.RowKit
set_option maxRecDepth 100000
def icells (l : List Nat) : List Value := l.map fun (n : Nat) => Value.int .i64 (n : Int)
theorem icells_app (l m : List Nat) : icells (l ++ m) = icells l ++ icells m := by simp [icells]
theorem icells_len (l : List Nat) : (icells l).length = l.length := by simp [icells]
theorem has_nat (s k : Nat) (h : k < 64) : hasN s (k : Int) = s.testBit k := by
  rw [hasN_in s k (by omega) (by omega)]; rfl
set_option maxHeartbeats 400000 in
theorem least_any (s : Nat) (w : World) (hs : U64 s) :
    Calls Try.prog 90 #[.int .u64 s] w fun e w' => e = .returned (.int .i64 (leastI s)) ∧ w = w' := by
  go_enter Try.func90, Try.ntmps90
  go_wp2
  go_loop [4] (fun i => ∃ k : Nat, k ≤ 64 ∧ i = .int .i64 k ∧ listTo s k = []) (fun i => 64 - (intOf i).toNat)
  case atStart => exact ⟨0, Nat.zero_le _, rfl, rfl⟩
  case round =>
    obtain ⟨k, hk, rfl, hl⟩ := hrel
    have L := Lib.hid hl
    clear hl
    by_cases hlt : k < 64
    · have e := has_nat s k hlt
      cases hb : hasN s (k : Int) with
      | true =>
        have E := Lib.hid (leastI_at s k hlt L.out (e.symm.trans hb))
        clear e
        go_wp2_with (go_at_call 84; refine (has_any _ _ _ hs).mono ?_; rintro e w' ⟨rfl, rfl⟩)
        go_ret
        exact ⟨ret_intw E.out.symm, rfl⟩
      | false =>
        have E := Lib.hid (listTo_no s k (e.symm.trans hb))
        clear e
        go_wp2_with (go_at_call 84; refine (has_any _ _ _ hs).mono ?_; rintro e w' ⟨rfl, rfl⟩)
        go_round
        case rel => exact ⟨k + 1, by omega, by go_num, by rw [E.out]; exact L.out⟩
        case measure => simp [intOf]; omega
    · obtain rfl : k = 64 := by omega
      have E := Lib.hid (leastI_none s L.out)
      go_wp2
      go_ret
      exact ⟨ret_intw E.out.symm, rfl⟩
theorem Try.info_int : (Try.prog.info? 3).map (fun i => (i.zero, i.size, i.bytes)) = some (some (.int .i64 0), 1, 8) := by kernel_rfl
/-- a list of numbers in memory of the call's own -/
def OwnInts (w : World) (l : List Nat) (e : Ending) (w' : World) : Prop :=
  ∃ v, e = .returned v ∧ w'.ownsRow w.heap.size 3 1 v l.length (icells l) ∧ Below w.heap.size w w'
theorem own_step {w wr w1 : World} {B : Nat} {e : TypeId} {v : Value} {n : Nat} {xs : List Value} {o : Obj} (hown : wr.ownsRow B e 1 v n xs) (hb : Below B w wr) (hB : B ≤ w.heap.size)
    (hg : (wr.alloc o).grownBy w1 v.ownBlock) : Below B w w1 :=
  (hb.alloc (Nat.le_trans hB hb.size) o).grown hg (by have := hb.size; simp; omega) (fun k hk => (hown.lt k hk).1)
theorem own_none (w : World) (B : Nat) (hB : B ≤ w.heap.size) (t : TypeId) : (w.alloc (.cells #[] t)).ownsRow B t 1 (.slice (some ⟨w.heap.size, 0, none⟩) 0 0) 0 [] :=
  World.ownsRow_made w #[] 0 hB (by unfold maxLen; omega) (by simp)
/-- what is owned is nil and empty, or stands at the head of a row -/
theorem own_form {w : World} {B : Nat} {t : TypeId} {v : Value} {n : Nat} {xs : List Value} (h : w.ownsRow B t 1 v n xs) :
    (v = .slice none 0 0 ∧ n = 0) ∨ ∃ g cap, v = .slice (some ⟨g, 0, none⟩) n cap ∧ B ≤ g ∧ n ≤ cap ∧ cap ≤ maxLen ∧ ∀ j, j < n → w.cell? ⟨g, j, none⟩ = xs[j]? := by
  rcases h.2 with h1 | ⟨g, cap, cur, rfl, hb, hh, hn, hm, hs, ht⟩
  · exact .inl h1
  · exact .inr ⟨g, cap, rfl, hb, hn, hm, fun j hj => h.cellAt j (by omega)⟩
end Go.Proofs.Ytjdhmfpkhijkeaa
