/- A slice of ints that came in reads as a list; the walk of WordLists. -/
import Derived.Test.YtpahkgcndlccnaaW11
namespace Go.Proofs.Ytpahkgcndlccnaa
open Go.RowKit
theorem ints_of_row {k : IntKind} {w : World} {a : Option Addr} {len cap : Nat} {zs : List Int}
    (h : (a = none ∧ len = 0 ∧ cap = 0 ∧ zs = []) ∨ ∃ x, a = some x ∧ len ≤ cap ∧ cap ≤ maxLen ∧ zs.length = cap ∧ (∀ i, i < zs.length → w.cell? (x.add i) = some (.int k (zs.getD i 0))) ∧ ∀ n ∈ zs, (Lit.int k n).wf = true) :
    ∃ ys : List Int, ys.length = len ∧ Rd k w w.heap.size a ys ∧ len ≤ maxLen := by
  rcases h with ⟨rfl, rfl, rfl, rfl⟩ | ⟨x, rfl, hl, hm, hz, hc, hw⟩
  · exact ⟨[], rfl, Rd.nil _ _ _ _, Nat.zero_le _⟩
  · refine ⟨zs.take len, by simp; omega, Rd.take (fun j hj => ⟨x, rfl, ?_, hc j hj⟩) len, by omega⟩
    have := block_lt_of_cell (hc j hj)
    rwa [add_block] at this
/-! ### WordLists: the numbers of a set rise, are in it, and make it again -/
theorem bcast_app (l m : List Nat) : bcast (l ++ m) = bcast l ++ bcast m := by simp [bcast]
theorem fold_list (s k : Nat) (hk : k ≤ 64) : (bcast (listTo s k)).foldl withN 0 = s % 2 ^ k := by
  induction k with
  | zero => simp [listTo, bcast, Nat.mod_one]
  | succ k ih =>
    have ih := ih (by omega)
    rw [mod_step s k]
    cases hb : s.testBit k with
    | false => rw [listTo_no s k hb, ih]; simp
    | true =>
      rw [listTo_yes s k hb, bcast_app, List.foldl_append, ih]
      show withN (s % 2 ^ k) ((k : Nat) : Int) = _
      unfold withN
      rw [if_pos (by omega), Int.toNat_natCast, or_pow_add _ _ (by rw [Nat.testBit_mod_two_pow]; simp)]
      simp
theorem set_list (s : Nat) (hs : U64 s) : setV (bcast (listN s)) = s ∧ setE (bcast (listN s)) = 0 := by
  have hok : okTo (bcast (listN s)) (bcast (listN s)).length := fun j hj => by
    rw [bcast_get]
    rw [bcast_len] at hj
    have hm : (listN s).getD j 0 ∈ listN s := by rw [List.getD_eq_getElem?_getD, List.getElem?_eq_getElem hj]; exact List.getElem_mem hj
    have := (mem_listTo s 64 _).1 hm
    omega
  have h := setV_ok _ hok
  refine ⟨h.1.trans ?_, h.2⟩
  unfold setTo
  rw [List.take_length]
  unfold listN
  rw [fold_list s 64 (Nat.le_refl _)]
  exact Nat.mod_eq_of_lt hs
theorem list_rises (s : Nat) (i j : Nat) (hij : i < j) (hj : j < (listN s).length) : (listN s).getD i 0 < (listN s).getD j 0 := by
  have hp : (listN s).Pairwise (· < ·) := List.Pairwise.filter _ List.pairwise_lt_range
  have := List.pairwise_iff_getElem.1 hp i j (by omega) hj hij
  rw [List.getD_eq_getElem?_getD, List.getD_eq_getElem?_getD, List.getElem?_eq_getElem hj, List.getElem?_eq_getElem (by omega : i < (listN s).length)]
  exact this
theorem list_in (s j : Nat) (hj : j < (listN s).length) : (listN s).getD j 0 < 64 ∧ s.testBit ((listN s).getD j 0) = true := by
  have hm : (listN s).getD j 0 ∈ listN s := by rw [List.getD_eq_getElem?_getD, List.getElem?_eq_getElem hj]; exact List.getElem_mem hj
  exact (mem_listTo s 64 _).1 hm
/-- how many of -1, 0, .. (k of them) are in s -/
def manyTo (s k : Nat) : Nat := countTo s (min (k - 1) 64)
theorem many_yes (s k : Nat) (h : hasN s ((k : Int) - 1) = true) : manyTo s (k + 1) = manyTo s k + 1 := by
  have hr := has_range s _ h
  obtain ⟨j, rfl⟩ : ∃ j, k = j + 1 := ⟨k - 1, by omega⟩
  rw [show (((j + 1 : Nat) : Int) - 1) = (j : Int) from by omega, has_nat s j (by omega)] at h
  unfold manyTo
  rw [show min (j + 1 + 1 - 1) 64 = j + 1 from by omega, show min (j + 1 - 1) 64 = j from by omega, countTo_yes s j h]
theorem many_no (s k : Nat) (hk : k ≤ 65) (h : hasN s ((k : Int) - 1) = false) : manyTo s (k + 1) = manyTo s k := by
  unfold manyTo
  by_cases h0 : k = 0
  · subst h0; rfl
  · by_cases h65 : k = 65
    · subst h65; rfl
    · obtain ⟨j, rfl⟩ : ∃ j, k = j + 1 := ⟨k - 1, by omega⟩
      rw [show (((j + 1 : Nat) : Int) - 1) = (j : Int) from by omega, has_nat s j (by omega)] at h
      rw [show min (j + 1 + 1 - 1) 64 = j + 1 from by omega, show min (j + 1 - 1) 64 = j from by omega, countTo_no s j h]
theorem many_le (s k : Nat) : manyTo s k ≤ 64 := by unfold manyTo; have := countTo_le s (min (k - 1) 64); omega
set_option maxHeartbeats 1000000 in
set_option maxRecDepth 100000 in
theorem lists_any (s : Nat) (w : World) (hs : U64 s) :
    Calls Try.prog 4 #[.int .u64 s] w fun e w' => e = .returned (.bool true) ∧ Below w.heap.size w w' := by
  have S := Lib.hid (set_list s hs)
  have RI := Lib.hid (list_rises s)
  have IN := Lib.hid (list_in s)
  have CN := Lib.hid (show manyTo s 66 = countN s from rfl)
  have CL := Lib.hid (show countN s = (listN s).length from rfl)
  go_enter Try.func4, Try.ntmps4
  go_wp2_with fail
  refine (list_any _ _ hs).mono ?_
  intro e w1 h1
  obtain ⟨A1, c1, rfl, r1, _, m1, b1⟩ := h1.rd
  clear h1
  have R1 := Lib.hid r1
  have M1 := Lib.hid m1
  have hn := m1
  unfold maxLen at hn
  clear r1 m1
  generalize hm : (listN s).length = m at *
  have LM := Lib.hid hm
  clear hm
  go_wp2
  go_loop [4, 15] (fun z i => ∃ (k : Nat) (y : Int), k ≤ m ∧ i = .int .i64 k ∧ z = .int .i64 y ∧ ∀ j, k ≤ j → j < m → y < ((listN s).getD j 0 : Nat)) (fun _ i => m - (intOf i).toNat)
  case atStart => exact ⟨0, -1, Nat.zero_le _, rfl, rfl, fun j _ _ => by omega⟩
  case round =>
    obtain ⟨k, y, hk, rfl, rfl, hy⟩ := hrel
    have Y := Lib.hid hy
    clear hy
    by_cases hlt : k < m
    · obtain ⟨ad, rfl, hc⟩ := (show ∃ ad, A1 = some ad ∧ w1.cell? (ad.add k) = some (.int .i64 (((listN s).getD k 0 : Nat) : Int)) by
        obtain ⟨ad, e, _, hc⟩ := R1.out k (by rw [bcast_len, LM.out]; exact hlt)
        exact ⟨ad, e, by rw [hc, bcast_get]⟩)
      have hin := IN.out k hlt
      have hyk := Y.out k (Nat.le_refl _) hlt
      have hnext : ∀ j, k + 1 ≤ j → j < m → (((listN s).getD k 0 : Nat) : Int) < ((listN s).getD j 0 : Nat) := fun j h1 h2 => by
        have := RI.out k j (by omega) h2
        omega
      have NX := Lib.hid hnext
      clear hnext
      generalize (listN s).getD k 0 = x at *
      obtain ⟨hx64, hbit⟩ := hin
      have hh : hasN s (x : Int) = true := (has_nat s x hx64).trans hbit
      have t1 : ¬ (x : Int) ≤ y := by omega
      have t2 : ¬ (63 : Int) < (x : Int) := by omega
      clear hbit
      go_wp2_with (go_at_call 27; refine (has_any _ _ _ hs).mono ?_; rintro e w' ⟨rfl, rfl⟩)
      go_round
      case rel => exact ⟨k + 1, _, by omega, by go_num, rfl, NX.out⟩
      case measure => simp [intOf]; omega
    · obtain rfl : k = m := by omega
      clear Y
      go_wp2
      go_loop [7, 8] (fun q i => ∃ j : Nat, j ≤ 66 ∧ i = .int .i64 ((j : Int) - 1) ∧ q = .int .i64 (manyTo s j : Nat)) (fun _ i => (65 - intOf i).toNat)
      case atStart => exact ⟨0, Nat.zero_le _, rfl, rfl⟩
      case round =>
        obtain ⟨j, hj, rfl, rfl⟩ := hrel
        have hml := many_le s j
        by_cases hjt : j < 66
        · cases hb : hasN s ((j : Int) - 1) with
          | true =>
            have E := Lib.hid (many_yes s j hb)
            go_wp2_with (go_at_call 27; refine (has_any _ _ _ hs).mono ?_; rintro e w' ⟨rfl, rfl⟩)
            go_round
            case rel => exact ⟨j + 1, by omega, by go_num, by rw [E.out]; go_num⟩
            case measure => simp [intOf]; omega
          | false =>
            have E := Lib.hid (many_no s j (by omega) hb)
            go_wp2_with (go_at_call 27; refine (has_any _ _ _ hs).mono ?_; rintro e w' ⟨rfl, rfl⟩)
            go_round
            case rel => exact ⟨j + 1, by omega, by go_num, by rw [E.out]⟩
            case measure => simp [intOf]; omega
        · obtain rfl : j = 66 := by omega
          rw [CN.out, CL.out]
          go_wp2_with fail
          refine (set_any _ _ _ (bcast (listN s)) _ _ R1.out (by rw [bcast_len, LM.out]) M1.out).mono ?_
          rintro e w' ⟨rfl, rfl⟩
          rw [S.out.1, S.out.2]
          go_wp2_with fail
          refine (count_any _ _ hs).mono ?_
          rintro e w' ⟨rfl, rfl⟩
          rw [CL.out]
          go_wp2_with fail
          go_ret
          exact ⟨rfl, b1⟩
end Go.Proofs.Ytpahkgcndlccnaa
