/- Count, Least and List of package word, and the document's: what they return, in new memory where they make a list. -/
import Derived.Test.YtfleomamhkeiiaaW2
import Derived.Test.YtfleomamhkeiiaaMath2
namespace Go.Proofs.Ytfleomamhkeiiaa
open Go.RowKit
set_option maxRecDepth 100000
def icells (l : List Nat) : List Value := l.map fun (n : Nat) => Value.int .i64 (n : Int)
theorem icells_app (l m : List Nat) : icells (l ++ m) = icells l ++ icells m := by simp [icells]
theorem icells_len (l : List Nat) : (icells l).length = l.length := by simp [icells]
theorem has_nat (s k : Nat) (h : k < 64) : hasN s (k : Int) = s.testBit k := by
  rw [hasN_in s k (by omega) (by omega)]; rfl
set_option maxHeartbeats 400000 in
theorem count_any (s : Nat) (w : World) (hs : U64 s) :
    Calls Try.prog 67 #[.int .u64 s] w fun e w' => e = .returned (.int .i64 (countN s : Nat)) ∧ w = w' := by
  go_enter Try.func67, Try.ntmps67
  go_wp2
  go_loop [3, 5] (fun c i => ∃ k : Nat, k ≤ 64 ∧ i = .int .i64 k ∧ c = .int .i64 (countTo s k : Nat)) (fun _ i => 64 - (intOf i).toNat)
  case atStart => exact ⟨0, Nat.zero_le _, rfl, rfl⟩
  case round =>
    obtain ⟨k, hk, rfl, rfl⟩ := hrel
    have hc := countTo_le s k
    by_cases hlt : k < 64
    · have e := has_nat s k hlt
      cases hb : hasN s (k : Int) with
      | true =>
        have E := Lib.hid (countTo_yes s k (e.symm.trans hb))
        clear e
        go_wp2_with (go_at_call 57; refine (has_any _ _ _ hs).mono ?_; rintro e w' ⟨rfl, rfl⟩)
        go_round
        case rel => exact ⟨k + 1, by omega, by go_num, by rw [E.out]; go_num⟩
        case measure => simp [intOf]; omega
      | false =>
        have E := Lib.hid (countTo_no s k (e.symm.trans hb))
        clear e
        go_wp2_with (go_at_call 57; refine (has_any _ _ _ hs).mono ?_; rintro e w' ⟨rfl, rfl⟩)
        go_round
        case rel => exact ⟨k + 1, by omega, by go_num, by rw [E.out]⟩
        case measure => simp [intOf]; omega
    · obtain rfl : k = 64 := by omega
      go_wp2
      go_ret
      exact ⟨rfl, rfl⟩
theorem Try.info_int : (Try.prog.info? 3).map (fun i => (i.zero, i.size, i.bytes)) = some (some (.int .i64 0), 1, 8) := by kernel_rfl
/-- a list of numbers in memory of the call's own -/
def OwnInts (w : World) (l : List Nat) (e : Ending) (w' : World) : Prop :=
  ∃ v, e = .returned v ∧ w'.ownsRow w.heap.size 3 1 v l.length (icells l) ∧ Below w.heap.size w w'
theorem own_step {w wr w1 : World} {B : Nat} {e : TypeId} {v : Value} {n : Nat} {xs : List Value} {o : Obj} (hown : wr.ownsRow B e 1 v n xs) (hb : Below B w wr) (hB : B ≤ w.heap.size)
    (hg : (wr.alloc o).grownBy w1 v.ownBlock) : Below B w w1 :=
  (hb.alloc (Nat.le_trans hB hb.size) o).grown hg (by have := hb.size; simp; omega) (fun k hk => (hown.lt k hk).1)
set_option maxHeartbeats 1000000 in
theorem list_any (s : Nat) (w : World) (hs : U64 s) :
    Calls Try.prog 71 #[.int .u64 s] w (OwnInts w (listN s)) := by
  obtain ⟨i0, hi, hz0, hz1, hz2⟩ := info_parts Try.info_int
  have hc64 : countN s ≤ 64 := countTo_le s 64
  go_enter Try.func71, Try.ntmps71
  go_wp2_with fail
  refine (count_any _ _ hs).mono ?_
  rintro e w' ⟨rfl, rfl⟩
  go_wp2_with (at_make; refine wpList_make_own _ rfl _ _ 75 rfl w.heap.size 3 i0 (.int .i64 0) 1 Try.underlying75 hi hz0 hz1 _ _ _ (countN s) rfl rfl rfl ?b2 ?b3 (Nat.le_refl _) ?_)
  case b2 => rw [hz2]; omega
  case b3 => unfold maxLen; omega
  intro w0 hown0 hgrow0
  have hb0 : Below w.heap.size w w0 := (Below.refl _ _).grown hgrow0 (Nat.le_refl _) (fun k h => by cases h)
  clear hgrow0
  go_wp2
  go_loopw [3, 8] (fun v i wr => ∃ k : Nat, k ≤ 64 ∧ i = .int .i64 k ∧ wr.ownsRow w.heap.size 3 1 v (listTo s k).length (icells (listTo s k)) ∧ Below w.heap.size w wr) (fun _ i _ => 64 - (intOf i).toNat)
  case atStart => exact ⟨0, Nat.zero_le _, rfl, hown0, hb0⟩
  case round =>
    obtain ⟨k, hk, rfl, hown, hnx⟩ := hrel
    clear hown0 hb0
    have hl := listTo_le s k
    by_cases hlt : k < 64
    · have e := has_nat s k hlt
      cases hb : hasN s (k : Int) with
      | true =>
        have E := Lib.hid (listTo_yes s k (e.symm.trans hb))
        clear e
        go_wp2_with (first
          | (go_at_call 57; refine (has_any _ _ _ hs).mono ?_; rintro e w' ⟨rfl, rfl⟩)
          | (at_builtin; refine wpList_append_own _ rfl _ _ 75 rfl w.heap.size 3 i0 (.int .i64 0) 1 8 Try.underlying75 hi hz0 hz1 hz2 rfl (by decide) _ _ _ rfl (hown.alloc _) ⟨wr.heap.size, 0, none⟩ 1 1 [.int .i64 (k : Int)] rfl rfl (cell_one_new _ _ _) ?c2 ?c3 ?c4 ?c5 ?_))
        case c2 => intro u hu; simp at hu; subst hu; rfl
        case c3 => unfold maxLen; omega
        case c4 => omega
        case c5 => have := hnx.size; simp; omega
        intro v' w1 hown' hgrow _
        have R := own_step hown hnx (Nat.le_refl _) hgrow
        have O : w1.ownsRow w.heap.size 3 1 v' (listTo s (k + 1)).length (icells (listTo s (k + 1))) := by
          rw [E.out, icells_app, List.length_append]; exact hown'
        clear hown' hgrow hown
        go_wp2
        go_roundw
        case rel => exact ⟨k + 1, by omega, by go_num, O, R⟩
        case measure => simp [intOf]; omega
      | false =>
        have E := Lib.hid (listTo_no s k (e.symm.trans hb))
        clear e
        go_wp2_with (go_at_call 57; refine (has_any _ _ _ hs).mono ?_; rintro e w' ⟨rfl, rfl⟩)
        go_roundw
        case rel => exact ⟨k + 1, by omega, by go_num, by rw [E.out]; exact hown, hnx⟩
        case measure => simp [intOf]; omega
    · obtain rfl : k = 64 := by omega
      go_wp2
      go_ret
      exact ⟨_, rfl, hown, hnx⟩
theorem own_none (w : World) (B : Nat) (hB : B ≤ w.heap.size) (t : TypeId) : (w.alloc (.cells #[] t)).ownsRow B t 1 (.slice (some ⟨w.heap.size, 0, none⟩) 0 0) 0 [] :=
  World.ownsRow_made w #[] 0 hB (by unfold maxLen; omega) (by simp)
/-- what is owned is nil and empty, or stands at the head of a row -/
theorem own_form {w : World} {B : Nat} {t : TypeId} {v : Value} {n : Nat} {xs : List Value} (h : w.ownsRow B t 1 v n xs) :
    (v = .slice none 0 0 ∧ n = 0) ∨ ∃ g cap, v = .slice (some ⟨g, 0, none⟩) n cap ∧ B ≤ g ∧ n ≤ cap ∧ cap ≤ maxLen ∧ ∀ j, j < n → w.cell? ⟨g, j, none⟩ = xs[j]? := by
  rcases h.2 with h1 | ⟨g, cap, cur, rfl, hb, hh, hn, hm, hs, ht⟩
  · exact .inl h1
  · exact .inr ⟨g, cap, rfl, hb, hn, hm, fun j hj => h.cellAt j (by omega)⟩
end Go.Proofs.Ytfleomamhkeiiaa
