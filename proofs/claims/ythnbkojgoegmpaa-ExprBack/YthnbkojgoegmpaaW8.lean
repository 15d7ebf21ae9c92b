/- The document's Put; Get of package word and the document's. -/
import Derived.Test.YthnbkojgoegmpaaW7
namespace Go.Proofs.Ythnbkojgoegmpaa
open Go.RowKit
set_option maxHeartbeats 1000000 in
theorem rput_any (n : Nat) (w : World) (hn : U64 n) :
    Calls Try.prog 74 #[.int .u64 n] w (OwnBytes w (putN n)) := by
  obtain ⟨i0, hi, hz0, hz1, hz2⟩ := info_parts Try.info_byte
  have hown0 := own_none w w.heap.size (Nat.le_refl _) 5
  have hb0 : Below w.heap.size w (w.alloc (.cells #[] 5)) := (Below.refl _ _).alloc (Nat.le_refl _) _
  go_enter Try.func74, Try.ntmps74
  go_wp2
  go_loopw [0, 3] (fun x v wr => ∃ (m : Nat) (acc : List Nat), x = .int .u64 m ∧ m < 2 ^ (64 - 7 * acc.length) ∧ 7 * acc.length ≤ 63 ∧ acc ++ putN m = putN n ∧ wr.ownsRow w.heap.size 5 1 v acc.length (bcells acc) ∧ Below w.heap.size w wr) (fun x _ _ => (intOf x).toNat)
  case atStart => exact ⟨n, [], rfl, hn, by simp, rfl, hown0, hb0⟩
  case round =>
    obtain ⟨m, acc, rfl, hm, hlen, hput, hown, hnx⟩ := hrel
    clear hown0 hb0
    have hmU : U64 m := Nat.lt_of_lt_of_le hm (Nat.pow_le_pow_right (by decide) (by omega))
    have M := Lib.hid hm
    have T := Lib.hid hput
    clear hm hput
    by_cases hlt : m ≤ 127
    · have P := Lib.hid (putN_small m hlt)
      go_wp2_with (at_builtin; refine wpList_append_own _ rfl _ _ 34 rfl w.heap.size 5 i0 (.int .u8 0) 1 1 Try.underlying34 hi hz0 hz1 hz2 rfl (by decide) _ _ _ rfl (hown.alloc _) ⟨wr.heap.size, 0, none⟩ 1 1 [.int .u8 (m : Int)] rfl rfl (cell_one_new _ _ _) ?c2 ?c3 ?c4 ?c5 ?_)
      case c2 => intro u hu; simp at hu; subst hu; rfl
      case c3 => unfold maxLen; omega
      case c4 => omega
      case c5 => have := hnx.size; simp; omega
      intro v' w1 hown' hgrow _
      obtain ⟨O, R⟩ := own_byte hown hnx (Nat.le_refl _) hgrow hown'
      have t := T.out
      rw [P.out] at t
      rw [t] at O
      clear hown' hgrow hown t
      go_wp2
      go_ret
      exact ⟨_, rfl, O, R⟩
    · obtain ⟨hr1, hr2⟩ := put_room m acc.length M.out hlen hlt
      have R1 := Lib.hid hr1
      have P := Lib.hid (putN_big m hmU hlt)
      clear hr1
      go_wp2_with (at_builtin; refine wpList_append_own _ rfl _ _ 34 rfl w.heap.size 5 i0 (.int .u8 0) 1 1 Try.underlying34 hi hz0 hz1 hz2 rfl (by decide) _ _ _ rfl (hown.alloc _) ⟨wr.heap.size, 0, none⟩ 1 1 [.int .u8 ((m : Int) % 128 + 128)] rfl rfl (cell_one_new _ _ _) ?d2 ?d3 ?d4 ?d5 ?_)
      case d2 => intro u hu; simp at hu; subst hu; rfl
      case d3 => unfold maxLen; omega
      case d4 => omega
      case d5 => have := hnx.size; simp; omega
      intro v' w1 hown' hgrow _
      rw [show ((m : Int) % 128 + 128) = ((m % 128 + 128 : Nat) : Int) from by omega] at hown'
      obtain ⟨O, R⟩ := own_byte hown hnx (Nat.le_refl _) hgrow hown'
      have t : (acc ++ [m % 128 + 128]) ++ putN (m / 128) = putN n := by
        rw [← T.out, P.out, List.append_assoc]; rfl
      have T2 := Lib.hid t
      have L2 := Lib.hid (show (acc ++ [m % 128 + 128]).length = acc.length + 1 by simp)
      have Q2 := Lib.hid (show IntKind.u64.wrap ((m : Int) / 128) = ((m / 128 : Nat) : Int) by rw [IntKind.wrap_u64]; unfold U64 at hmU; omega)
      clear hown' hgrow hown t
      go_wp2
      go_roundw
      case rel => exact ⟨m / 128, acc ++ [m % 128 + 128], by rw [← Q2.out], by rw [L2.out]; exact R1.out, by rw [L2.out]; exact hr2, T2.out, O, R⟩
      case measure => simp [intOf]; rw [Q2.out]; omega
theorem or_walk (k acc c : Nat) (h : acc < 2 ^ (7 * k)) (hk : k ≤ 9) (hc : ¬ (k = 9 ∧ 1 < c)) :
    bits .or .u64 (acc : Int) (IntKind.u64.wrap ((c : Int) % 128 * 2 ^ (7 * k))) = ((acc + c % 128 * 2 ^ (7 * k) : Nat) : Int) := by
  rw [show ((c : Int) % 128) = ((c % 128 : Nat) : Int) from by omega, shl_group k c hk hc, or_group k acc c h hk hc]
set_option maxHeartbeats 4000000 in
theorem get_any (A : Option Addr) (n cap : Nat) (bs : List Nat) (B : Nat) (w : World) (hl : bs.length = n) (hb : Bytes bs) (hr : Rd .u8 w B A (bcast bs)) (hn : n ≤ maxLen) :
    Calls Try.prog 75 #[.slice A n cap] w fun e w' => e = .returned (.tuple #[.int .u64 ((getN bs).val : Nat), .int .i64 ((getN bs).len : Nat), .int .i64 ((getN bs).err : Nat)]) ∧ w = w' := by
  unfold maxLen at hn
  have L := Lib.hid hl
  have hk0 : ∀ k, k < n → ∃ (ad : Addr) (c : Nat), A = some ad ∧ w.cell? (ad.add k) = some (.int .u8 (c : Int)) ∧ c < 256 ∧ bs.drop k = c :: bs.drop (k + 1) := fun k hk => by
    obtain ⟨ad, e, hc⟩ := hr.byte k (by omega)
    refine ⟨ad, _, e, hc, hb.get k, ?_⟩
    rw [List.drop_eq_getElem_cons (by omega : k < bs.length), List.getD_eq_getElem?_getD, List.getElem?_eq_getElem (by omega)]; rfl
  have R := Lib.hid hk0
  clear hl hk0 hr
  go_enter Try.func75, Try.ntmps75
  go_wp2
  go_loop [5, 10] (fun h i => ∃ k acc : Nat, k ≤ n ∧ k ≤ 9 ∧ i = .int .i64 k ∧ h = .int .u64 acc ∧ acc < 2 ^ (7 * k) ∧ getN bs = getF k acc (bs.drop k)) (fun _ i => n - (intOf i).toNat)
  case atStart => exact ⟨0, 0, Nat.zero_le _, Nat.zero_le _, rfl, rfl, by decide, rfl⟩
  case round =>
    obtain ⟨k, acc, hk, hk9, rfl, rfl, hacc, hg⟩ := hrel
    have G := Lib.hid hg
    have AC := Lib.hid hacc
    clear hg hacc
    by_cases hlt : k < n
    · obtain ⟨ad, c, rfl, hc, hc256, hd⟩ := R.out k hlt
      have D := Lib.hid hd
      have e127 : bits .and .u8 (c : Int) 127 = ((c % 128 : Nat) : Int) := and127_u8 c hc256
      have e128 := and128_u8 c hc256
      clear hd
      by_cases hT : k = 9 ∧ 1 < c
      · obtain ⟨h9, hc1⟩ := hT
        have b9 : ((k : Int) == 9) = true := by rw [beq_iff_eq]; omega
        have E := Lib.hid (getF_tenth k acc c (bs.drop (k + 1)) ⟨h9, hc1⟩)
        clear h9 e128
        go_wp2
        go_ret3
        exact ⟨by rw [G.out, D.out, E.out]; rfl, rfl⟩
      · have W := Lib.hid (or_walk k acc c AC.out hk9 hT)
        by_cases hM : 128 ≤ c
        · rw [if_pos hM] at e128
          have h9 : ¬ k = 9 := by omega
          have b9 : ((k : Int) == 9) = false := by rw [beq_eq_false_iff_ne]; omega
          have E := Lib.hid (getF_more k acc c (bs.drop (k + 1)) hT hM)
          have AL := Lib.hid (group_lt k acc c AC.out)
          clear hT h9
          go_wp2
          go_round
          case rel => exact ⟨k + 1, acc + c % 128 * 2 ^ (7 * k), by omega, by have := ne_of_beq_false b9; omega, by go_num, by rw [W.out], AL.out, by rw [G.out, D.out, E.out]⟩
          case measure => simp [intOf]; omega
        · rw [if_neg hM] at e128
          by_cases hZ : c = 0 ∧ 0 < k
          · have E := Lib.hid (getF_zero k acc c (bs.drop (k + 1)) hT hM hZ)
            obtain ⟨hz0, hkp⟩ := hZ
            have bz : ((c : Int) == 0) = true := by rw [beq_iff_eq]; omega
            have hc1 : ¬ (1 : Int) < (c : Int) := by omega
            clear hT hz0
            by_cases h9 : k = 9
            · have b9 : ((k : Int) == 9) = true := by rw [beq_iff_eq]; omega
              clear h9
              go_wp2
              go_ret3
              exact ⟨by rw [G.out, D.out, E.out]; rfl, rfl⟩
            · have b9 : ((k : Int) == 9) = false := by rw [beq_eq_false_iff_ne]; omega
              clear h9
              go_wp2
              go_ret3
              exact ⟨by rw [G.out, D.out, E.out]; rfl, rfl⟩
          · have E := Lib.hid (getF_last k acc c (bs.drop (k + 1)) hT hM hZ)
            have F : Hid (getN bs = ⟨acc + c % 128 * 2 ^ (7 * k), k + 1, 0⟩) := by show getN bs = _; rw [G.out, D.out, E.out]
            by_cases h9 : k = 9
            · have b9 : ((k : Int) == 9) = true := by rw [beq_iff_eq]; omega
              have hc1 : ¬ (1 : Int) < (c : Int) := by omega
              have bz : ((c : Int) == 0) = false := by rw [beq_eq_false_iff_ne]; omega
              clear h9 hT hZ
              go_wp2
              go_ret3
              exact ⟨by rw [F.out]; exact ret_three W.out rfl rfl, rfl⟩
            · have b9 : ((k : Int) == 9) = false := by rw [beq_eq_false_iff_ne]; omega
              by_cases hc0 : c = 0
              · have bz : ((c : Int) == 0) = true := by rw [beq_iff_eq]; omega
                have hk0 : ¬ 0 < k := fun h => hZ ⟨hc0, h⟩
                clear h9 hT hZ hc0
                go_wp2
                go_ret3
                exact ⟨by rw [F.out]; exact ret_three W.out rfl rfl, rfl⟩
              · have bz : ((c : Int) == 0) = false := by rw [beq_eq_false_iff_ne]; omega
                clear h9 hT hZ hc0
                go_wp2
                go_ret3
                exact ⟨by rw [F.out]; exact ret_three W.out rfl rfl, rfl⟩
    · obtain rfl : k = n := by omega
      have F : Hid (getN bs = ⟨0, 0, 10⟩) := by show getN bs = _; rw [G.out, List.drop_eq_nil_of_le (Nat.le_of_eq L.out), getF_end]
      go_wp2
      go_ret3
      exact ⟨by rw [F.out]; rfl, rfl⟩
end Go.Proofs.Ythnbkojgoegmpaa
