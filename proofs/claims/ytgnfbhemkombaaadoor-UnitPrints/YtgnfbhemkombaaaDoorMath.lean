/- Plain facts on 64-bit words as numbers: bits, sums, rotations, groups of seven. No program is named here. -/
import Derived.WalkKit
namespace Go.Proofs.YtgnfbhemkombaaaDoor
open Go.RowKit

/-! ### bit operations on words of 64 bits, as numbers -/
theorem ofInt_nat (b a : Nat) (h : a < 2 ^ b) : (BitVec.ofInt b (a : Int)).toNat = a := by
  rw [BitVec.ofInt_natCast, BitVec.toNat_ofNat]; exact Nat.mod_eq_of_lt h
theorem wrapu64_nat (a : Nat) (h : a < 2 ^ 64) : IntKind.u64.wrap (a : Int) = (a : Int) := by
  rw [IntKind.wrap_u64]; omega
theorem or64 (a b : Nat) (ha : a < 2 ^ 64) (hb : b < 2 ^ 64) : bits .or .u64 (a : Int) (b : Int) = ((a ||| b : Nat) : Int) := by
  show IntKind.u64.wrap ((BitVec.ofInt 64 (a : Int) ||| BitVec.ofInt 64 (b : Int)).toNat : Int) = _
  rw [BitVec.toNat_or, ofInt_nat 64 a ha, ofInt_nat 64 b hb]
  exact wrapu64_nat _ (Nat.or_lt_two_pow ha hb)
theorem and64 (a b : Nat) (ha : a < 2 ^ 64) (hb : b < 2 ^ 64) : bits .and .u64 (a : Int) (b : Int) = ((a &&& b : Nat) : Int) := by
  show IntKind.u64.wrap ((BitVec.ofInt 64 (a : Int) &&& BitVec.ofInt 64 (b : Int)).toNat : Int) = _
  rw [BitVec.toNat_and, ofInt_nat 64 a ha, ofInt_nat 64 b hb]
  exact wrapu64_nat _ (Nat.and_lt_two_pow _ hb)
theorem xor64 (a b : Nat) (ha : a < 2 ^ 64) (hb : b < 2 ^ 64) : bits .xor .u64 (a : Int) (b : Int) = ((a ^^^ b : Nat) : Int) := by
  show IntKind.u64.wrap ((BitVec.ofInt 64 (a : Int) ^^^ BitVec.ofInt 64 (b : Int)).toNat : Int) = _
  rw [BitVec.toNat_xor, ofInt_nat 64 a ha, ofInt_nat 64 b hb]
  exact wrapu64_nat _ (Nat.xor_lt_two_pow ha hb)

/-! ### one bit put in, taken out -/
theorem testBit_div (s n : Nat) : s.testBit n = decide (s / 2 ^ n % 2 = 1) := by
  rw [Nat.testBit_eq_decide_div_mod_eq]
theorem mod_step (x k : Nat) : x % 2 ^ (k + 1) = x % 2 ^ k + 2 ^ k * (x.testBit k).toNat := by
  rw [Nat.mod_pow_succ, testBit_div]
  rcases Nat.mod_two_eq_zero_or_one (x / 2 ^ k) with h | h <;> simp [h]
theorem or_pow_add (s n : Nat) (h : s.testBit n = false) : s ||| 2 ^ n = s + 2 ^ n := by
  have e1 := Nat.div_add_mod s (2 ^ (n + 1))
  have hr : s % 2 ^ (n + 1) < 2 ^ n := by
    have h2 := mod_step s n
    rw [h] at h2
    have : s % 2 ^ n < 2 ^ n := Nat.mod_lt _ (Nat.two_pow_pos n)
    simp at h2
    omega
  have hp : 2 ^ (n + 1) = 2 ^ n * 2 := Nat.pow_succ 2 n
  have hr2 : s % 2 ^ (n + 1) + 2 ^ n < 2 ^ (n + 1) := by omega
  have a1 : s = 2 ^ (n + 1) * (s / 2 ^ (n + 1)) ||| s % 2 ^ (n + 1) := by
    rw [← Nat.two_pow_add_eq_or_of_lt (Nat.mod_lt _ (Nat.two_pow_pos _))]; exact e1.symm
  have a2 : s % 2 ^ (n + 1) ||| 2 ^ n = s % 2 ^ (n + 1) + 2 ^ n := by
    have := Nat.two_pow_add_eq_or_of_lt hr 1
    rw [Nat.or_comm]
    simp at this
    omega
  have a3 := Nat.two_pow_add_eq_or_of_lt hr2 (s / 2 ^ (n + 1))
  calc s ||| 2 ^ n = (2 ^ (n + 1) * (s / 2 ^ (n + 1)) ||| s % 2 ^ (n + 1)) ||| 2 ^ n := by rw [← a1]
    _ = 2 ^ (n + 1) * (s / 2 ^ (n + 1)) ||| (s % 2 ^ (n + 1) + 2 ^ n) := by rw [Nat.or_assoc, a2]
    _ = s + 2 ^ n := by rw [← a3]; omega
theorem or_pow_same (s n : Nat) (h : s.testBit n = true) : s ||| 2 ^ n = s := by
  apply Nat.eq_of_testBit_eq
  intro i
  rw [Nat.testBit_or, Nat.testBit_two_pow]
  by_cases e : n = i
  · subst e; simp [h]
  · simp [e]
theorem bit_le (s n : Nat) (h : s.testBit n = true) : 2 ^ n ≤ s := Nat.ge_two_pow_of_testBit h
theorem sub_pow_bit (s n : Nat) (h : s.testBit n = true) : (s - 2 ^ n).testBit n = false := by
  have hle := bit_le s n h
  have e : s = 2 ^ n + (s - 2 ^ n) := by omega
  rw [e, Nat.testBit_two_pow_add_eq] at h
  simpa using h
theorem andNot_pow (s n : Nat) (hs : s < 2 ^ 64) (hn : n < 64) :
    bits .andNot .u64 (s : Int) ((2 ^ n : Nat) : Int) = ((if s.testBit n then s - 2 ^ n else s : Nat) : Int) := by
  have hp : 2 ^ n < 2 ^ 64 := Nat.pow_lt_pow_right (by decide) hn
  show IntKind.u64.wrap ((BitVec.ofInt 64 (s : Int) &&& ~~~ BitVec.ofInt 64 ((2 ^ n : Nat) : Int)).toNat : Int) = _
  have key : (BitVec.ofInt 64 (s : Int) &&& ~~~ BitVec.ofInt 64 ((2 ^ n : Nat) : Int)).toNat = (if s.testBit n then s - 2 ^ n else s) := by
    apply Nat.eq_of_testBit_eq
    intro i
    rw [BitVec.toNat_and, BitVec.toNat_not, ofInt_nat 64 s hs, ofInt_nat 64 _ hp, Nat.testBit_and]
    rw [show 2 ^ 64 - 1 - 2 ^ n = 2 ^ 64 - (2 ^ n + 1) from by omega, Nat.testBit_two_pow_sub_succ hp, Nat.testBit_two_pow]
    by_cases hb : s.testBit n = true
    · rw [if_pos hb]
      have e := or_pow_add (s - 2 ^ n) n (sub_pow_bit s n hb)
      have hle := bit_le s n hb
      have e2 : (s - 2 ^ n) ||| 2 ^ n = s := by rw [e]; omega
      by_cases hi : n = i
      · subst hi; simp [sub_pow_bit s n hb]
      · have : s.testBit i = (s - 2 ^ n).testBit i := by
          conv => lhs; rw [← e2]
          rw [Nat.testBit_or, Nat.testBit_two_pow]; simp [hi]
        rw [this]
        by_cases h64 : i < 64
        · simp [hi, h64]
        · have : (s - 2 ^ n).testBit i = false := Nat.testBit_lt_two_pow (Nat.lt_of_lt_of_le (Nat.lt_of_le_of_lt (Nat.sub_le _ _) hs) (Nat.pow_le_pow_right (by decide) (by omega)))
          simp [this]
    · rw [if_neg hb]
      have hb' : s.testBit n = false := by simpa using hb
      by_cases hi : n = i
      · subst hi; simp [hb']
      · by_cases h64 : i < 64
        · simp [hi, h64]
        · have : s.testBit i = false := Nat.testBit_lt_two_pow (Nat.lt_of_lt_of_le hs (Nat.pow_le_pow_right (by decide) (by omega)))
          simp [this]
  rw [key]
  apply wrapu64_nat
  split
  · exact Nat.lt_of_le_of_lt (Nat.sub_le _ _) hs
  · exact hs

/-! ### what the functions of package word compute, as functions on numbers -/
def U64 (s : Nat) : Prop := s < 2 ^ 64
def hasN (s : Nat) (n : Int) : Bool := decide (0 ≤ n) && (decide (n ≤ 63) && s.testBit n.toNat)
def withN (s : Nat) (n : Int) : Nat := if 0 ≤ n ∧ n ≤ 63 then s ||| 2 ^ n.toNat else s
def withoutN (s : Nat) (n : Int) : Nat := if 0 ≤ n ∧ n ≤ 63 then (if s.testBit n.toNat then s - 2 ^ n.toNat else s) else s
def fitsB (n : Int) : Bool := decide (0 ≤ n ∧ n ≤ 63)
theorem hasN_in (s : Nat) (n : Int) (h0 : 0 ≤ n) (h1 : n ≤ 63) : hasN s n = s.testBit n.toNat := by simp [hasN, h0, h1]
theorem hasN_out (s : Nat) (n : Int) (h : n < 0 ∨ 63 < n) : hasN s n = false := by
  unfold hasN
  rcases h with h | h
  · have : ¬ 0 ≤ n := by omega
    simp [this]
  · have : ¬ n ≤ 63 := by omega
    simp [this]
theorem withN_U (s : Nat) (n : Int) (h : U64 s) : U64 (withN s n) := by
  unfold withN U64 at *
  split
  · next hn => exact Nat.or_lt_two_pow h (Nat.pow_lt_pow_right (by decide) (by omega))
  · exact h
theorem withoutN_U (s : Nat) (n : Int) (h : U64 s) : U64 (withoutN s n) := by
  unfold withoutN U64 at *
  split
  · split
    · exact Nat.lt_of_le_of_lt (Nat.sub_le _ _) h
    · exact h
  · exact h
/-- the walk's spelling of 's >> n & 1 == 1' -/
theorem has_walk (s : Nat) (n : Int) (hs : U64 s) : (bits .and .u64 ((s : Int) / 2 ^ n.toNat) 1 == 1) = s.testBit n.toNat := by
  have e : ((s : Int) / 2 ^ n.toNat) = ((s / 2 ^ n.toNat : Nat) : Int) := by rw [Int.natCast_ediv]; simp
  have h1 : ((1 : Int)) = ((1 : Nat) : Int) := rfl
  have hlt : s / 2 ^ n.toNat < 2 ^ 64 := Nat.lt_of_le_of_lt (Nat.div_le_self _ _) hs
  rw [e]
  have a := and64 (s / 2 ^ n.toNat) 1 hlt (by decide)
  rw [show bits .and .u64 ((s / 2 ^ n.toNat : Nat) : Int) 1 = bits .and .u64 ((s / 2 ^ n.toNat : Nat) : Int) ((1 : Nat) : Int) from rfl, a, testBit_div, Nat.and_one_is_mod]
  rw [Bool.eq_iff_iff]
  simp
  omega
theorem pow_cast (n : Nat) : (2 : Int) ^ n = ((2 ^ n : Nat) : Int) := by simp
theorem wrap_pow (n : Int) (h0 : 0 ≤ n) (h1 : n ≤ 63) : IntKind.u64.wrap ((2 : Int) ^ n.toNat) = ((2 ^ n.toNat : Nat) : Int) := by
  rw [pow_cast]
  exact wrapu64_nat _ (Nat.pow_lt_pow_right (by decide) (by omega))
theorem with_walk (s : Nat) (n : Int) (hs : U64 s) (h0 : 0 ≤ n) (h1 : n ≤ 63) : bits .or .u64 (s : Int) (IntKind.u64.wrap ((2 : Int) ^ n.toNat)) = ((withN s n : Nat) : Int) := by
  rw [wrap_pow n h0 h1, or64 _ _ hs (Nat.pow_lt_pow_right (by decide) (by omega))]
  simp [withN, h0, h1]
theorem without_walk (s : Nat) (n : Int) (hs : U64 s) (h0 : 0 ≤ n) (h1 : n ≤ 63) : bits .andNot .u64 (s : Int) (IntKind.u64.wrap ((2 : Int) ^ n.toNat)) = ((withoutN s n : Nat) : Int) := by
  rw [wrap_pow n h0 h1, andNot_pow _ _ hs (by omega)]
  simp only [withoutN, h0, h1, and_self, if_true]

def foldN (n : Int) : Nat := if 0 ≤ n then (2 * n).toNat else (-2 * n - 1).toNat
def unfoldI (u : Nat) : Int := if u % 2 = 0 then ((u / 2 : Nat) : Int) else -((u / 2 : Nat) : Int) - 1
def I64 (n : Int) : Prop := -9223372036854775808 ≤ n ∧ n ≤ 9223372036854775807
theorem compl64 (a : Nat) (ha : a < 2 ^ 64) : a ^^^ (2 ^ 64 - 1) = 2 ^ 64 - 1 - a := by
  apply Nat.eq_of_testBit_eq
  intro i
  rw [Nat.testBit_xor, Nat.testBit_two_pow_sub_one, show 2 ^ 64 - 1 - a = 2 ^ 64 - (a + 1) from by omega, Nat.testBit_two_pow_sub_succ ha]
  by_cases h : i < 64
  · simp [h]
  · have : a.testBit i = false := Nat.testBit_lt_two_pow (Nat.lt_of_lt_of_le ha (Nat.pow_le_pow_right (by decide) (by omega)))
    simp [h, this]
theorem fold_walk (n : Int) (h : I64 n) :
    bits .xor .u64 (IntKind.u64.wrap (IntKind.u64.wrap n * 2)) (IntKind.u64.wrap (n / 9223372036854775808)) = ((foldN n : Nat) : Int) := by
  unfold I64 at h
  unfold foldN
  simp only [IntKind.wrap_u64]
  by_cases h0 : 0 ≤ n
  · obtain ⟨m, rfl⟩ := Int.eq_ofNat_of_zero_le h0
    rw [if_pos h0]
    have e1 : ((m : Int) % 18446744073709551616 * 2 % 18446744073709551616) = ((2 * m : Nat) : Int) := by omega
    have e2 : ((m : Int) / 9223372036854775808 % 18446744073709551616) = ((0 : Nat) : Int) := by omega
    rw [e1, e2, xor64 _ _ (by omega) (by omega), Nat.xor_zero]
    omega
  · rw [if_neg h0]
    have e1 : (n % 18446744073709551616 * 2 % 18446744073709551616) = ((18446744073709551616 - (-2 * n).toNat : Nat) : Int) ∨ n = -9223372036854775808 := by omega
    have e2 : (n / 9223372036854775808 % 18446744073709551616) = ((2 ^ 64 - 1 : Nat) : Int) := by omega
    rw [e2]
    rcases e1 with e1 | e1
    · rw [e1, xor64 _ _ (by omega) (by omega), compl64 _ (by omega)]
      omega
    · subst e1
      rw [show ((-9223372036854775808 : Int) % 18446744073709551616 * 2 % 18446744073709551616) = ((0 : Nat) : Int) from by omega, xor64 _ _ (by omega) (by omega), compl64 _ (by omega)]
      omega
theorem xor_i64_zero (a : Int) (h : I64 a) : bits .xor .i64 a 0 = a := by
  unfold I64 at h
  show IntKind.i64.wrap ((BitVec.ofInt 64 a ^^^ BitVec.ofInt 64 0).toNat : Int) = _
  have : BitVec.ofInt 64 0 = 0#64 := rfl
  rw [this, BitVec.xor_zero, BitVec.toNat_ofInt, IntKind.wrap_i64]
  omega
theorem xor_i64_ones (a : Int) (h0 : 0 ≤ a) (h : a ≤ 9223372036854775807) : bits .xor .i64 a (-1) = -a - 1 := by
  obtain ⟨m, rfl⟩ := Int.eq_ofNat_of_zero_le h0
  show IntKind.i64.wrap ((BitVec.ofInt 64 (m : Int) ^^^ BitVec.ofInt 64 (-1)).toNat : Int) = _
  rw [BitVec.toNat_xor, ofInt_nat 64 m (by omega), show (BitVec.ofInt 64 (-1)).toNat = 2 ^ 64 - 1 from by decide, compl64 _ (by omega), IntKind.wrap_i64]
  omega
theorem and_one (u : Nat) (hu : U64 u) : bits .and .u64 (u : Int) 1 = ((u % 2 : Nat) : Int) := by
  have a := and64 u 1 hu (by decide)
  rw [Nat.and_one_is_mod] at a
  exact a
theorem unfold_walk (u : Nat) (hu : U64 u) : bits .xor .i64 (wrap64 ((u : Int) / 2)) (wrap64 (-wrap64 (bits .and .u64 (u : Int) 1))) = unfoldI u := by
  rw [and_one u hu]
  unfold U64 at hu
  have e1 : wrap64 ((u : Int) / 2) = ((u / 2 : Nat) : Int) := by unfold wrap64; omega
  rw [e1]
  unfold unfoldI
  rcases Nat.mod_two_eq_zero_or_one u with h | h
  · rw [h, if_pos rfl, show wrap64 (-wrap64 ((0 : Nat) : Int)) = 0 from by unfold wrap64; omega]
    exact xor_i64_zero _ ⟨by omega, by omega⟩
  · rw [h, if_neg (by decide), show wrap64 (-wrap64 ((1 : Nat) : Int)) = -1 from by unfold wrap64; omega]
    exact xor_i64_ones _ (by omega) (by omega)
theorem foldN_U (n : Int) (h : I64 n) : U64 (foldN n) := by unfold foldN U64; unfold I64 at h; split <;> omega
theorem unfoldI_I (u : Nat) (h : U64 u) : I64 (unfoldI u) := by unfold unfoldI I64; unfold U64 at h; split <;> omega
theorem unfold_fold (n : Int) : unfoldI (foldN n) = n := by unfold unfoldI foldN; split <;> split <;> omega
theorem fold_unfold (u : Nat) : foldN (unfoldI u) = u := by unfold unfoldI foldN; split <;> split <;> omega
theorem rfold_pos (n : Int) (h : I64 n) (h0 : 0 ≤ n) : IntKind.u64.wrap (IntKind.u64.wrap n * 2) = ((foldN n : Nat) : Int) := by
  unfold I64 at h; unfold foldN; rw [if_pos h0]; simp only [IntKind.wrap_u64]; omega
theorem rfold_neg (n : Int) (h : I64 n) (h0 : n < 0) : IntKind.u64.wrap (IntKind.u64.wrap (IntKind.u64.wrap (wrap64 (-wrap64 (n + 1))) * 2) + 1) = ((foldN n : Nat) : Int) := by
  unfold I64 at h; unfold foldN; rw [if_neg (by omega)]; simp only [IntKind.wrap_u64, wrap64]; omega
theorem runfold_even (u : Nat) (h : U64 u) (h0 : ((u : Int) % 2 == 0) = true) : wrap64 (IntKind.u64.wrap ((u : Int) / 2)) = unfoldI u := by
  unfold U64 at h; unfold unfoldI; have : u % 2 = 0 := by have := eq_of_beq h0; omega
  rw [if_pos this]; simp only [IntKind.wrap_u64, wrap64]; omega
theorem runfold_odd (u : Nat) (h : U64 u) (h0 : ((u : Int) % 2 == 0) = false) : wrap64 (wrap64 (-wrap64 (IntKind.u64.wrap ((u : Int) / 2))) - 1) = unfoldI u := by
  unfold U64 at h; unfold unfoldI; have : ¬ u % 2 = 0 := by have := ne_of_beq_false h0; omega
  rw [if_neg this]; simp only [IntKind.wrap_u64, wrap64]; omega

/-! ### a number narrowed to a width -/
def narrowI (n : Int) (k : Nat) : Int := (n + 2 ^ (k - 1)) % 2 ^ k - 2 ^ (k - 1)
theorem two_pos (k : Nat) : (0 : Int) < 2 ^ k := Int.pow_pos (by decide)
theorem pow_half (k : Nat) (h : 1 ≤ k) : (2 : Int) ^ k = 2 * 2 ^ (k - 1) := by
  obtain ⟨j, rfl⟩ : ∃ j, k = j + 1 := ⟨k - 1, by omega⟩
  rw [Int.pow_succ, Nat.add_sub_cancel]; omega
theorem narrow_walk (n w : Int) (h0 : 1 ≤ w) (h1 : w ≤ 64) : wrap64 (n * 2 ^ (64 - w).toNat) / 2 ^ (64 - w).toNat = narrowI n w.toNat := by
  obtain ⟨k, rfl⟩ := Int.eq_ofNat_of_zero_le (show 0 ≤ w by omega)
  have er : (64 - (k : Int)).toNat = 64 - k := by omega
  rw [er, Int.toNat_natCast]
  have hr := two_pos (64 - k)
  have e63 : (9223372036854775808 : Int) = 2 ^ (64 - k) * 2 ^ (k - 1) := by rw [← Int.pow_add, show 64 - k + (k - 1) = 63 from by omega]; rfl
  have e64 : (18446744073709551616 : Int) = 2 ^ (64 - k) * 2 ^ k := by rw [← Int.pow_add, show 64 - k + k = 64 from by omega]; rfl
  unfold wrap64 narrowI
  rw [e63, e64, Int.mul_comm n, ← Int.mul_add, Int.mul_emod_mul_of_pos _ _ hr, ← Int.mul_sub, Int.mul_ediv_cancel_left _ (by omega)]
theorem narrow_cases (n : Int) (k : Nat) (hk : 1 ≤ k) : narrowI n k = if n % 2 ^ k < 2 ^ (k - 1) then n % 2 ^ k else n % 2 ^ k - 2 ^ k := by
  unfold narrowI
  have hp := two_pos (k - 1)
  have e := pow_half k hk
  have hr0 : 0 ≤ n % 2 ^ k := Int.emod_nonneg _ (by omega)
  have hr1 : n % 2 ^ k < 2 ^ k := Int.emod_lt_of_pos _ (by omega)
  have ed := Int.mul_ediv_add_emod n (2 ^ k)
  generalize hq : n / 2 ^ k = q at ed
  generalize n % 2 ^ k = r at *
  generalize (2 : Int) ^ (k - 1) = H at *
  generalize (2 : Int) ^ k = P at *
  subst e
  rw [← ed]
  split
  · rw [show 2 * H * q + r + H = (r + H) + 2 * H * q from by omega, Int.add_mul_emod_self_left, Int.emod_eq_of_lt (by omega) (by omega)]; omega
  · rw [show 2 * H * q + r + H = (r - H) + 2 * H * (q + 1) from by rw [Int.mul_add]; omega, Int.add_mul_emod_self_left, Int.emod_eq_of_lt (by omega) (by omega)]; omega
theorem narrow_range (n : Int) (k : Nat) (hk : 1 ≤ k) : -2 ^ (k - 1) ≤ narrowI n k ∧ narrowI n k < 2 ^ (k - 1) := by
  unfold narrowI
  have e := pow_half k hk
  have hp := two_pos (k - 1)
  have hr0 : 0 ≤ (n + 2 ^ (k - 1)) % 2 ^ k := Int.emod_nonneg _ (by omega)
  have hr1 : (n + 2 ^ (k - 1)) % 2 ^ k < 2 ^ k := Int.emod_lt_of_pos _ (by omega)
  omega
theorem pow_mono_int (i j : Nat) (h : i ≤ j) : (2 : Int) ^ i ≤ 2 ^ j := by
  rw [pow_cast, pow_cast]
  exact Int.ofNat_le.2 (Nat.pow_le_pow_right (by decide) h)
theorem narrow_keep (n : Int) (k : Nat) (hk : 1 ≤ k) (h0 : -2 ^ (k - 1) ≤ n) (h1 : n < 2 ^ (k - 1)) : narrowI n k = n := by
  unfold narrowI
  have e := pow_half k hk
  rw [Int.emod_eq_of_lt (by omega) (by omega)]; omega
theorem narrow_again (n : Int) (k j : Nat) (hk : 1 ≤ k) (hj : k ≤ j) : narrowI (narrowI n k) j = narrowI n k := by
  have h := narrow_range n k hk
  have m := pow_mono_int (k - 1) (j - 1) (by omega)
  exact narrow_keep _ j (by omega) (by omega) (by omega)
theorem narrow_64 (n : Int) (h : I64 n) : narrowI n 64 = n := by
  unfold I64 at h
  exact narrow_keep n 64 (by decide) (by omega) (by omega)
theorem narrow_I (n : Int) (k : Nat) (hk : 1 ≤ k) (h64 : k ≤ 64) : I64 (narrowI n k) := by
  have h := narrow_range n k hk
  have m := pow_mono_int (k - 1) 63 (by omega)
  have e : (2 : Int) ^ 63 = 9223372036854775808 := rfl
  unfold I64
  omega
/-- the walk's spelling of the document's answer: the rest, and what is below 0 -/
theorem rest_walk (n : Int) (k : Nat) (h64 : k ≤ 64) : IntKind.u64.wrap n % ((2 ^ k : Nat) : Int) = n % 2 ^ k := by
  rw [IntKind.wrap_u64, ← pow_cast]
  have e64 : (18446744073709551616 : Int) = 2 ^ k * 2 ^ (64 - k) := by rw [← Int.pow_add, show k + (64 - k) = 64 from by omega]; rfl
  rw [e64, Int.emod_emod_of_dvd _ ⟨_, rfl⟩]
theorem rnarrow_lo (n : Int) (k : Nat) (hk : 1 ≤ k) (h63 : k ≤ 63) (h : ¬ 2 ^ (k - 1) ≤ n % 2 ^ k) : wrap64 (n % 2 ^ k) = narrowI n k := by
  rw [narrow_cases n k hk, if_pos (by omega)]
  have hr0 : 0 ≤ n % 2 ^ k := Int.emod_nonneg _ (by have := two_pos k; omega)
  have m := pow_mono_int (k - 1) 63 (by omega)
  have e : (2 : Int) ^ 63 = 9223372036854775808 := rfl
  unfold wrap64; omega
theorem rnarrow_hi (n : Int) (k : Nat) (hk : 1 ≤ k) (h63 : k ≤ 63) (h : 2 ^ (k - 1) ≤ n % 2 ^ k) : wrap64 (IntKind.u64.wrap (n % 2 ^ k - 2 ^ k)) = narrowI n k := by
  rw [narrow_cases n k hk, if_neg (by omega)]
  have hp := two_pos k
  have hr0 : 0 ≤ n % 2 ^ k := Int.emod_nonneg _ (by omega)
  have hr1 : n % 2 ^ k < 2 ^ k := Int.emod_lt_of_pos _ hp
  have m := pow_mono_int k 63 (by omega)
  have e : (2 : Int) ^ 63 = 9223372036854775808 := rfl
  rw [IntKind.wrap_u64]; unfold wrap64; omega

/-! ### rotation -/
def rotN (k u : Nat) : Nat := (u % 2 ^ (64 - k)) * 2 ^ k + u / 2 ^ (64 - k)
def rot1 (x : Nat) : Nat := x * 2 % 2 ^ 64 + x / 2 ^ 63
def rots : Nat → Nat → Nat
  | 0, u => u
  | i + 1, u => rot1 (rots i u)
def turnN (u : Nat) (n : Int) : Nat := rotN (n % 64).toNat u
theorem pow_split (k : Nat) (h : k ≤ 64) : 2 ^ (64 - k) * 2 ^ k = 2 ^ 64 := by rw [← Nat.pow_add, Nat.sub_add_cancel h]
theorem rot_lo (u k : Nat) (hu : U64 u) (h : k ≤ 64) : u / 2 ^ (64 - k) < 2 ^ k :=
  Nat.div_lt_of_lt_mul (by rw [pow_split k h]; exact hu)
theorem rotN_U (u k : Nat) (hu : U64 u) (h : k ≤ 64) : U64 (rotN k u) := by
  have a := rot_lo u k hu h
  have b : u % 2 ^ (64 - k) + 1 ≤ 2 ^ (64 - k) := Nat.mod_lt _ (Nat.two_pow_pos _)
  have c := Nat.mul_le_mul_right (2 ^ k) b
  rw [pow_split k h, Nat.add_mul] at c
  unfold rotN U64
  omega
theorem turn_walk (u k : Nat) (hu : U64 u) (h : k ≤ 64) : bits .or .u64 (IntKind.u64.wrap ((u : Int) * 2 ^ k)) ((u : Int) / 2 ^ (64 - k)) = ((rotN k u : Nat) : Int) := by
  have e1 : IntKind.u64.wrap ((u : Int) * 2 ^ k) = ((u % 2 ^ (64 - k) * 2 ^ k : Nat) : Int) := by
    rw [IntKind.wrap_u64, pow_cast, ← Int.natCast_mul, show (18446744073709551616 : Int) = ((2 ^ 64 : Nat) : Int) from rfl, ← Int.natCast_emod, ← pow_split k h, Nat.mul_mod_mul_right]
  have e2 : (u : Int) / 2 ^ (64 - k) = ((u / 2 ^ (64 - k) : Nat) : Int) := by rw [pow_cast, ← Int.natCast_ediv]
  have hlo := rot_lo u k hu h
  have hU := rotN_U u k hu h
  unfold rotN U64 at hU
  rw [e1, e2, or64 _ _ (Nat.lt_of_le_of_lt (Nat.le_add_right _ _) hU) (Nat.lt_of_le_of_lt (Nat.le_add_left _ _) hU), Nat.mul_comm (u % _), ← Nat.two_pow_add_eq_or_of_lt hlo, Nat.mul_comm]
  rfl
theorem rot_step (u i : Nat) (hu : U64 u) (h : i < 64) : rot1 (rotN i u) = rotN (i + 1) u := by
  unfold rotN rot1
  have eq1 : 2 ^ (64 - i) = 2 * 2 ^ (64 - (i + 1)) := by rw [show 64 - i = (64 - (i + 1)) + 1 from by omega, Nat.pow_succ]; omega
  have eP : 2 ^ (i + 1) = 2 * 2 ^ i := by rw [Nat.pow_succ]; omega
  have e63 : 2 ^ (64 - (i + 1)) * 2 ^ i = 2 ^ 63 := by rw [← Nat.pow_add, show 64 - (i + 1) + i = 63 from by omega]
  have hlo := rot_lo u i hu (by omega)
  rw [eq1] at hlo
  rw [eq1, eP]
  have hqp : 0 < 2 ^ (64 - (i + 1)) := Nat.two_pow_pos _
  generalize 2 ^ (64 - (i + 1)) = q at *
  generalize 2 ^ i = P at *
  have d1 : u / (2 * q) = u / q / 2 := by rw [Nat.mul_comm, Nat.div_div_eq_div_mul]
  have m1 : u % (2 * q) = u % q + q * (u / q % 2) := by rw [Nat.mul_comm, Nat.mod_mul]
  rw [d1] at hlo ⊢
  rw [m1]
  clear d1 m1 eq1 eP hu
  have hr : u % q < q := Nat.mod_lt _ hqp
  generalize u % q = r at *
  generalize u / q = d at *
  have hb : d % 2 < 2 := Nat.mod_lt _ (by decide)
  have hd : d = 2 * (d / 2) + d % 2 := by omega
  generalize d / 2 = a at *
  generalize d % 2 = b at *
  have hrP : r * P + P ≤ 2 ^ 63 := by
    have := Nat.mul_le_mul_right P (show r + 1 ≤ q from hr)
    rw [Nat.add_mul] at this; omega
  have ex : (r + q * b) * P + a = 2 ^ 63 * b + (r * P + a) := by
    rw [Nat.add_mul, Nat.mul_right_comm, e63]; omega
  rw [ex]
  have ey : r * (2 * P) = 2 * (r * P) := by rw [← Nat.mul_assoc, Nat.mul_comm r 2, Nat.mul_assoc]
  rw [ey]
  generalize r * P = X at *
  rcases (show b = 0 ∨ b = 1 by omega) with rfl | rfl <;> omega
theorem rotN_zero (u : Nat) (hu : U64 u) : rotN 0 u = u := by
  unfold rotN; unfold U64 at hu
  simp only [Nat.sub_zero, Nat.pow_zero]
  omega
theorem rotN_full (u : Nat) : rotN 64 u = u := by
  unfold rotN; simp [Nat.mod_one]
theorem rotN_rots (u i : Nat) (hu : U64 u) (h : i ≤ 64) : rotN i u = rots i u := by
  induction i with
  | zero => exact rotN_zero u hu
  | succ i ih => rw [← rot_step u i hu (by omega), ih (by omega)]; rfl
theorem rots_add (u i j : Nat) : rots (i + j) u = rots j (rots i u) := by
  induction j with
  | zero => rfl
  | succ j ih => show rot1 (rots (i + j) u) = rot1 (rots j (rots i u)); rw [ih]
theorem rots_full (u : Nat) (hu : U64 u) : rots 64 u = u := by rw [← rotN_rots u 64 hu (by decide), rotN_full]
theorem rotN_rotN (u i j : Nat) (hu : U64 u) (hi : i < 64) (hj : j < 64) : rotN j (rotN i u) = rotN ((i + j) % 64) u := by
  rw [rotN_rots _ j (rotN_U u i hu (by omega)) (by omega), rotN_rots u i hu (by omega), ← rots_add, rotN_rots u _ hu (by omega)]
  by_cases h : i + j < 64
  · rw [Nat.mod_eq_of_lt h]
  · obtain ⟨m, hm⟩ : ∃ m, i + j = 64 + m := ⟨i + j - 64, by omega⟩
    rw [hm, rots_add, rots_full u hu, show (64 + m) % 64 = m from by omega]
theorem turn_turn (u : Nat) (a b : Int) (hu : U64 u) : turnN (turnN u a) b = turnN u (a + b) := by
  unfold turnN
  rw [rotN_rotN u _ _ hu (by omega) (by omega)]
  congr 1
  omega
theorem turn_zero (u : Nat) (hu : U64 u) : turnN u 0 = u := rotN_zero u hu
theorem turnN_U (u : Nat) (n : Int) (hu : U64 u) : U64 (turnN u n) := rotN_U u _ hu (by omega)
end Go.Proofs.YtgnfbhemkombaaaDoor
