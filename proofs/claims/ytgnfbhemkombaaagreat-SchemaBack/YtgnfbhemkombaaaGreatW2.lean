/- What the document's answers of layer 1 compute: powers, rotations, the bits in which two words differ; each leaves the world as it is. -/
import Derived.Test.YtgnfbhemkombaaaGreatW1
namespace Go.Proofs.YtgnfbhemkombaaaGreat
open Go.RowKit
theorem pow_dbl (k : Nat) (h : k < 63) : IntKind.u64.wrap (((2 ^ k : Nat) : Int) * 2) = ((2 ^ (k + 1) : Nat) : Int) := by
  have e : (2 : Nat) ^ (k + 1) = 2 ^ k * 2 := Nat.pow_succ 2 k
  have b : (2 : Nat) ^ (k + 1) < 2 ^ 64 := Nat.pow_lt_pow_right (by decide) (by omega)
  rw [IntKind.wrap_u64, e]
  omega
def powN (k : Nat) : Nat := 2 ^ k
set_option maxHeartbeats 400000 in
theorem power_any (n : Int) (w : World) (h0 : 0 ≤ n) (h1 : n ≤ 63) :
    Calls Tryz.prog 115 #[.int .i64 n] w fun e w' => e = .returned (.int .u64 (powN n.toNat : Nat)) ∧ w = w' := by
  obtain ⟨m, rfl⟩ := Int.eq_ofNat_of_zero_le h0
  rw [Int.toNat_natCast]
  have b1 : decide ((m : Int) < 0) = false := by simp
  have b2 : decide ((63 : Int) < (m : Int)) = false := by simp; omega
  go_enter Tryz.func115, Tryz.ntmps115
  go_wp2
  go_loop [3, 4] (fun p i => ∃ k : Nat, k ≤ m ∧ i = .int .i64 k ∧ p = .int .u64 (powN k : Nat)) (fun _ i => m - (intOf i).toNat)
  case atStart => exact ⟨0, Nat.zero_le _, rfl, rfl⟩
  case round =>
    obtain ⟨k, hk, rfl, rfl⟩ := hrel
    by_cases hlt : k < m
    · have H := Lib.hid (pow_dbl k (by omega))
      go_wp2
      go_round
      case rel => exact ⟨k + 1, by omega, by go_num, by rw [← show ((2 ^ (k + 1) : Nat) : Int) = ((powN (k + 1) : Nat) : Int) from rfl, ← H.out]; rfl⟩
      case measure => simp [intOf]; omega
    · obtain rfl : k = m := by omega
      go_wp2
      go_ret
      exact ⟨rfl, rfl⟩
set_option maxHeartbeats 400000 in
theorem power_out (n : Int) (w : World) (h : n < 0 ∨ 63 < n) :
    Calls Tryz.prog 115 #[.int .i64 n] w fun e w' => e = .returned (.int .u64 0) ∧ w = w' := by
  rcases h with h | h
  all_goals
    go_enter Tryz.func115, Tryz.ntmps115
    go_wp2
    go_ret
    exact ⟨rfl, rfl⟩
theorem rot_step_walk (u i : Nat) (hu : U64 u) (h : i < 64) :
    IntKind.u64.wrap (IntKind.u64.wrap ((rotN i u : Nat) * 2) + IntKind.u64.wrap ((rotN i u : Nat) / 9223372036854775808)) = ((rotN (i + 1) u : Nat) : Int) := by
  have hU := rotN_U u i hu (by omega)
  have hV := rotN_U u (i + 1) hu (by omega)
  rw [← rot_step u i hu h] at *
  unfold rot1 U64 at *
  simp only [IntKind.wrap_u64]
  omega
theorem rturn_key (n : Int) : ∃ (t : Int) (k : Nat), n.tmod 64 = t ∧ -63 ≤ t ∧ t ≤ 63 ∧ k < 64 ∧ k = (n % 64).toNat ∧ (t < 0 → (k : Int) = t + 64) ∧ (0 ≤ t → (k : Int) = t) := by
  refine ⟨n.tmod 64, (n % 64).toNat, rfl, ?_⟩
  have : n.tmod 64 = n % 64 ∨ n.tmod 64 = n % 64 - 64 := by
    rw [Int.tmod_eq_emod]; split <;> simp
  have : 0 ≤ n → 0 ≤ n.tmod 64 := fun h => Int.tmod_nonneg 64 h
  have : n < 0 → n.tmod 64 ≤ 0 := fun h => by
    have a := Int.neg_tmod n 64
    have b := Int.tmod_nonneg 64 (show 0 ≤ -n by omega)
    omega
  have := Int.lt_tmod_of_pos n (show (0 : Int) < 64 by decide)
  omega
/-! ### Has, With, Without of the document -/
theorem rhas_walk (s k : Nat) (hs : U64 s) : ((IntKind.u64.wrap ((s : Int) / ((powN k : Nat) : Int))).tmod 2 == 1) = s.testBit k := by
  have hlt : s / powN k < 2 ^ 64 := Nat.lt_of_le_of_lt (Nat.div_le_self _ _) hs
  rw [← Int.natCast_ediv, wrapu64_nat _ hlt, testBit_div, Int.tmod_eq_emod_of_nonneg (Int.natCast_nonneg _), show s / 2 ^ k = s / powN k from rfl]
  generalize s / powN k = q
  rw [Bool.eq_iff_iff]
  simp
  omega
set_option maxHeartbeats 400000 in
theorem rhas_any (s : Nat) (n : Int) (w : World) (hs : U64 s) :
    Calls Tryz.prog 90 #[.int .u64 s, .int .i64 n] w fun e w' => e = .returned (.bool (hasN s n)) ∧ w = w' := by
  by_cases h : 0 ≤ n ∧ n ≤ 63
  · obtain ⟨h0, h1⟩ := h
    have H := Lib.hid (rhas_walk s n.toNat hs)
    have E := Lib.hid (hasN_in s n h0 h1)
    have hp : 0 < powN n.toNat := Nat.two_pow_pos _
    have hb : (((powN n.toNat : Nat) : Int) != 0) = true := by rw [bne_iff_ne]; omega
    go_enter Tryz.func90, Tryz.ntmps90
    go_wp2_with (go_at_call 115; refine (power_any _ _ h0 h1).mono ?_; rintro e w' ⟨rfl, rfl⟩)
    go_ret
    exact ⟨ret_bool (by rw [H.out, E.out]), rfl⟩
  · have h' : n < 0 ∨ 63 < n := by omega
    have H := Lib.hid h'
    have E := Lib.hid (hasN_out s n h')
    clear h h'
    go_enter Tryz.func90, Tryz.ntmps90
    go_wp2_with (go_at_call 115; refine (power_out _ _ H.out).mono ?_; rintro e w' ⟨rfl, rfl⟩)
    go_ret
    exact ⟨ret_bool (by rw [E.out]), rfl⟩
theorem rwith_walk (s : Nat) (n : Int) (hs : U64 s) (h0 : 0 ≤ n) (h1 : n ≤ 63) (hb : hasN s n = false) :
    IntKind.u64.wrap ((s : Int) + ((powN n.toNat : Nat) : Int)) = ((withN s n : Nat) : Int) := by
  rw [hasN_in s n h0 h1] at hb
  have hU := withN_U s n hs
  unfold withN at hU ⊢
  rw [if_pos ⟨h0, h1⟩, or_pow_add s _ hb] at hU ⊢
  rw [← Int.natCast_add]
  exact wrapu64_nat _ hU
theorem withN_has (s : Nat) (n : Int) (hb : hasN s n = true) : withN s n = s := by
  unfold withN
  split
  · next h => rw [hasN_in s n h.1 h.2] at hb; exact or_pow_same s _ hb
  · rfl
theorem withN_out (s : Nat) (n : Int) (h : n < 0 ∨ 63 < n) : withN s n = s := by unfold withN; rw [if_neg (by omega)]
theorem withoutN_not (s : Nat) (n : Int) (hb : hasN s n = false) : withoutN s n = s := by
  unfold withoutN
  split
  · next h => rw [hasN_in s n h.1 h.2] at hb; rw [hb]; rfl
  · rfl
theorem has_range (s : Nat) (n : Int) (hb : hasN s n = true) : 0 ≤ n ∧ n ≤ 63 := by
  have h : ¬ (n < 0 ∨ 63 < n) := fun h => by rw [hasN_out s n h] at hb; cases hb
  omega
theorem rwithout_walk (s : Nat) (n : Int) (hs : U64 s) (hb : hasN s n = true) :
    IntKind.u64.wrap ((s : Int) - ((powN n.toNat : Nat) : Int)) = ((withoutN s n : Nat) : Int) := by
  obtain ⟨h0, h1⟩ := has_range s n hb
  have hU := withoutN_U s n hs
  unfold withoutN at hU ⊢
  rw [hasN_in s n h0 h1] at hb
  have hle := bit_le s _ hb
  rw [if_pos ⟨h0, h1⟩, hb, if_pos rfl] at hU ⊢
  unfold powN
  rw [← Int.natCast_sub hle]
  exact wrapu64_nat _ hU
set_option maxHeartbeats 400000 in
theorem rwith_any (s : Nat) (n : Int) (w : World) (hs : U64 s) :
    Calls Tryz.prog 92 #[.int .u64 s, .int .i64 n] w fun e w' => e = .returned (.int .u64 (withN s n : Nat)) ∧ w = w' := by
  cases hb : hasN s n with
  | true =>
    have E := Lib.hid (withN_has s n hb)
    go_enter Tryz.func92, Tryz.ntmps92
    go_wp2_with (go_at_call 90; refine (rhas_any _ _ _ hs).mono ?_; rintro e w' ⟨rfl, rfl⟩)
    go_ret
    exact ⟨ret_intw (by rw [E.out]), rfl⟩
  | false =>
    by_cases h : 0 ≤ n ∧ n ≤ 63
    · obtain ⟨h0, h1⟩ := h
      have E := Lib.hid (rwith_walk s n hs h0 h1 hb)
      go_enter Tryz.func92, Tryz.ntmps92
      go_wp2_with (first | (go_at_call 90; refine (rhas_any _ _ _ hs).mono ?_; rintro e w' ⟨rfl, rfl⟩) | (go_at_call 115; refine (power_any _ _ h0 h1).mono ?_; rintro e w' ⟨rfl, rfl⟩))
      go_ret
      exact ⟨ret_intw E.out, rfl⟩
    · have h' : n < 0 ∨ 63 < n := by omega
      have H := Lib.hid h'
      have E := Lib.hid (withN_out s n h')
      have Z := Lib.hid (wrapu64_nat s hs)
      clear h h'
      go_enter Tryz.func92, Tryz.ntmps92
      go_wp2_with (first | (go_at_call 90; refine (rhas_any _ _ _ hs).mono ?_; rintro e w' ⟨rfl, rfl⟩) | (go_at_call 115; refine (power_out _ _ H.out).mono ?_; rintro e w' ⟨rfl, rfl⟩))
      go_ret
      exact ⟨ret_intw (by rw [E.out]; exact Z.out), rfl⟩
set_option maxHeartbeats 400000 in
theorem rwithout_any (s : Nat) (n : Int) (w : World) (hs : U64 s) :
    Calls Tryz.prog 116 #[.int .u64 s, .int .i64 n] w fun e w' => e = .returned (.int .u64 (withoutN s n : Nat)) ∧ w = w' := by
  cases hb : hasN s n with
  | false =>
    have E := Lib.hid (withoutN_not s n hb)
    go_enter Tryz.func116, Tryz.ntmps116
    go_wp2_with (go_at_call 90; refine (rhas_any _ _ _ hs).mono ?_; rintro e w' ⟨rfl, rfl⟩)
    go_ret
    exact ⟨ret_intw (by rw [E.out]), rfl⟩
  | true =>
    obtain ⟨h0, h1⟩ := has_range s n hb
    have E := Lib.hid (rwithout_walk s n hs hb)
    go_enter Tryz.func116, Tryz.ntmps116
    go_wp2_with (first | (go_at_call 90; refine (rhas_any _ _ _ hs).mono ?_; rintro e w' ⟨rfl, rfl⟩) | (go_at_call 115; refine (power_any _ _ h0 h1).mono ?_; rintro e w' ⟨rfl, rfl⟩))
    go_ret
    exact ⟨ret_intw E.out, rfl⟩
/-! ### Narrow and Cut of the document -/
theorem rest_tmod (n : Int) (k : Nat) (h : k ≤ 63) : (IntKind.u64.wrap n).tmod ((powN k : Nat) : Int) = n % 2 ^ k := by
  rw [Int.tmod_eq_emod_of_nonneg (by rw [IntKind.wrap_u64]; omega)]
  exact rest_walk n k (by omega)
theorem half_walk (k : Nat) (h0 : 1 ≤ k) (h : k ≤ 63) : IntKind.u64.wrap (((powN k : Nat) : Int) / 2) = 2 ^ (k - 1) := by
  have b : (2 : Nat) ^ (k - 1) < 2 ^ 64 := Nat.pow_lt_pow_right (by decide) (by omega)
  have e : (powN k : Nat) = 2 * 2 ^ (k - 1) := by
    obtain ⟨j, rfl⟩ : ∃ j, k = j + 1 := ⟨k - 1, by omega⟩
    rw [Nat.add_sub_cancel]; unfold powN; rw [Nat.pow_succ]; omega
  rw [e, IntKind.wrap_u64, pow_cast]
  omega
theorem rcut_walk (d : Nat) (n : Int) (hd : U64 d) : IntKind.u64.wrap ((d : Int) / ((powN (64 - n).toNat : Nat) : Int)) = ((d / 2 ^ (64 - n).toNat : Nat) : Int) := by
  rw [← Int.natCast_ediv, wrapu64_nat _ (Nat.lt_of_le_of_lt (Nat.div_le_self _ _) hd)]
  rfl
end Go.Proofs.YtgnfbhemkombaaaGreat
