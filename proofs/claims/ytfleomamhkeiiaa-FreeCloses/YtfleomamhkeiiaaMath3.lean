/- Plain facts on varints: groups of seven bits, written and read. No program is named here. -/
import Derived.Test.YtfleomamhkeiiaaMath2
namespace Go.Proofs.Ytfleomamhkeiiaa
open Go.RowKit
def putF : Nat → Nat → List Nat
  | 0, n => [n]
  | f + 1, n => if n ≤ 127 then [n] else (n % 128 + 128) :: putF f (n / 128)
def putN (n : Nat) : List Nat := putF 9 n
theorem putF_more (f n : Nat) (h : n < 128 ^ (f + 1)) : putF (f + 1) n = putF f n := by
  induction f generalizing n with
  | zero => unfold putF; rw [if_pos (by simp at h; omega)]
  | succ f ih =>
    rw [putF]
    conv => rhs; rw [putF]
    split
    · rfl
    · rw [ih (n / 128) (Nat.div_lt_of_lt_mul (by rw [← Nat.pow_succ']; exact h))]
theorem pow_128 : (2 : Nat) ^ 64 ≤ 128 ^ 10 := by decide
theorem putN_small (n : Nat) (h : n ≤ 127) : putN n = [n] := by unfold putN; rw [putF, if_pos h]
theorem putN_big (n : Nat) (hn : U64 n) (h : ¬ n ≤ 127) : putN n = (n % 128 + 128) :: putN (n / 128) := by
  have e : putF 9 (n / 128) = putF 8 (n / 128) := putF_more 8 (n / 128) (by unfold U64 at hn; omega)
  unfold putN
  rw [e]
  conv => lhs; rw [putF]
  rw [if_neg h]
theorem putN_bytes (f n : Nat) (h : n < 128 ^ f * 256) : ∀ b ∈ putF f n, b < 256 := by
  induction f generalizing n with
  | zero => intro b hb; simp [putF] at hb; subst hb; simpa using h
  | succ f ih =>
    intro b hb
    rw [putF] at hb
    split at hb
    · simp at hb; omega
    · rcases List.mem_cons.1 hb with rfl | hb
      · omega
      · exact ih (n / 128) (Nat.div_lt_of_lt_mul (by rw [← Nat.mul_assoc, ← Nat.pow_succ']; exact h)) b hb
theorem putN_byte (n : Nat) (hn : U64 n) : ∀ b ∈ putN n, b < 256 := putN_bytes 9 n (Nat.lt_of_lt_of_le hn (by decide))
theorem putF_len (f n : Nat) : 1 ≤ (putF f n).length ∧ (putF f n).length ≤ f + 1 := by
  induction f generalizing n with
  | zero => simp [putF]
  | succ f ih => rw [putF]; split <;> simp; have := ih (n / 128); omega
theorem putN_len (n : Nat) : 1 ≤ (putN n).length ∧ (putN n).length ≤ 10 := putF_len 9 n
/-- what is left behind the first k groups is small -/
theorem put_room (n k : Nat) (h : n < 2 ^ (64 - 7 * k)) (hk : 7 * k ≤ 63) (hn : ¬ n ≤ 127) : n / 128 < 2 ^ (64 - 7 * (k + 1)) ∧ 7 * (k + 1) ≤ 63 := by
  have h1 : 7 * (k + 1) ≤ 63 := by
    rcases Nat.lt_or_ge (7 * k) 57 with h' | h'
    · omega
    · have : 2 ^ (64 - 7 * k) ≤ 2 ^ 7 := Nat.pow_le_pow_right (by decide) (by omega)
      omega
  refine ⟨Nat.div_lt_of_lt_mul ?_, h1⟩
  rw [show (128 : Nat) = 2 ^ 7 from rfl, ← Nat.pow_add, show 7 + (64 - 7 * (k + 1)) = 64 - 7 * k from by omega]
  exact h
/-! ### reading -/
structure Got where
  val : Nat
  len : Nat
  err : Nat
def getF : Nat → Nat → List Nat → Got
  | _, _, [] => ⟨0, 0, 10⟩
  | k, acc, c :: r =>
    if k = 9 ∧ 1 < c then ⟨0, 0, 11⟩
    else if 128 ≤ c then getF (k + 1) (acc + c % 128 * 2 ^ (7 * k)) r
    else if c = 0 ∧ 0 < k then ⟨0, 0, 11⟩
    else ⟨acc + c % 128 * 2 ^ (7 * k), k + 1, 0⟩
def getN (bs : List Nat) : Got := getF 0 0 bs
theorem getF_end (k acc : Nat) : getF k acc [] = ⟨0, 0, 10⟩ := by cases k <;> rfl
theorem getF_tenth (k acc c : Nat) (r : List Nat) (h : k = 9 ∧ 1 < c) : getF k acc (c :: r) = ⟨0, 0, 11⟩ := by
  rw [getF, if_pos h]
theorem getF_more (k acc c : Nat) (r : List Nat) (h : ¬ (k = 9 ∧ 1 < c)) (h1 : 128 ≤ c) : getF k acc (c :: r) = getF (k + 1) (acc + c % 128 * 2 ^ (7 * k)) r := by
  conv => lhs; rw [getF]
  rw [if_neg h, if_pos h1]
theorem getF_zero (k acc c : Nat) (r : List Nat) (h : ¬ (k = 9 ∧ 1 < c)) (h1 : ¬ 128 ≤ c) (h2 : c = 0 ∧ 0 < k) : getF k acc (c :: r) = ⟨0, 0, 11⟩ := by
  rw [getF, if_neg h, if_neg h1, if_pos h2]
theorem getF_last (k acc c : Nat) (r : List Nat) (h : ¬ (k = 9 ∧ 1 < c)) (h1 : ¬ 128 ≤ c) (h2 : ¬ (c = 0 ∧ 0 < k)) : getF k acc (c :: r) = ⟨acc + c % 128 * 2 ^ (7 * k), k + 1, 0⟩ := by
  rw [getF, if_neg h, if_neg h1, if_neg h2]
/-- a group more stays below the next power -/
theorem group_lt (k acc c : Nat) (h : acc < 2 ^ (7 * k)) : acc + c % 128 * 2 ^ (7 * k) < 2 ^ (7 * (k + 1)) := by
  have e : 2 ^ (7 * (k + 1)) = 128 * 2 ^ (7 * k) := by rw [show 7 * (k + 1) = 7 + 7 * k from by omega, Nat.pow_add]
  have hc : c % 128 + 1 ≤ 128 := Nat.mod_lt _ (by decide)
  have := Nat.mul_le_mul_right (2 ^ (7 * k)) hc
  rw [Nat.add_mul] at this
  omega
theorem group_U (k acc c : Nat) (h : acc < 2 ^ (7 * k)) (hk : k ≤ 9) (hc : ¬ (k = 9 ∧ 1 < c)) : acc + c % 128 * 2 ^ (7 * k) < 2 ^ 64 := by
  by_cases e : k = 9
  · subst e
    have : c % 128 ≤ 1 := by omega
    have := Nat.mul_le_mul_right (2 ^ (7 * 9)) this
    omega
  · have := group_lt k acc c h
    have : 2 ^ (7 * (k + 1)) ≤ 2 ^ 63 := Nat.pow_le_pow_right (by decide) (by omega)
    omega
theorem shl_group (k c : Nat) (hk : k ≤ 9) (hc : ¬ (k = 9 ∧ 1 < c)) : IntKind.u64.wrap (((c % 128 : Nat) : Int) * 2 ^ (7 * k)) = ((c % 128 * 2 ^ (7 * k) : Nat) : Int) := by
  rw [pow_cast, ← Int.natCast_mul]
  have := group_U k 0 c (Nat.two_pow_pos _) hk hc
  exact wrapu64_nat _ (by omega)
theorem or_group (k acc c : Nat) (h : acc < 2 ^ (7 * k)) (hk : k ≤ 9) (hc : ¬ (k = 9 ∧ 1 < c)) :
    bits .or .u64 (acc : Int) ((c % 128 * 2 ^ (7 * k) : Nat) : Int) = ((acc + c % 128 * 2 ^ (7 * k) : Nat) : Int) := by
  have hU := group_U k acc c h hk hc
  rw [or64 _ _ (Nat.lt_of_le_of_lt (Nat.le_add_right _ _) hU) (Nat.lt_of_le_of_lt (Nat.le_add_left _ _) hU), Nat.or_comm, Nat.mul_comm, ← Nat.two_pow_add_eq_or_of_lt h, Nat.add_comm, Nat.mul_comm]
theorem and127_u8 (c : Nat) (h : c < 256) : bits .and .u8 (c : Int) 127 = ((c % 128 : Nat) : Int) := by
  rw [show (127 : Int) = 2 ^ 7 - 1 from rfl, bits_mask .u8 8 (by decide) wraps_u8 7 (by decide) (c : Int) (by omega) (by omega)]
  omega
theorem and128_u8 (c : Nat) (h : c < 256) : bits .and .u8 (c : Int) 128 = if 128 ≤ c then 128 else 0 := by
  have e : bits .and .u8 (c : Int) ((128 : Nat) : Int) = ((c &&& 128 : Nat) : Int) := (bits_nat .u8 8 (by decide) wraps_u8 c 128 h (by decide)).1
  have e2 : ∀ c, c < 256 → c &&& 128 = if 128 ≤ c then 128 else 0 := by decide +kernel
  rw [show (128 : Int) = ((128 : Nat) : Int) from rfl, e, e2 c h]
  split <;> rfl
theorem put_walk (n : Nat) (hn : U64 n) : IntKind.u8.wrap (bits .or .u64 (bits .and .u64 (n : Int) 127) 128) = ((n % 128 + 128 : Nat) : Int) := by
  have e1 : bits .and .u64 (n : Int) ((127 : Nat) : Int) = ((n % 128 : Nat) : Int) := by
    rw [and64 n 127 hn (by decide), show (127 : Nat) = 2 ^ 7 - 1 from rfl, Nat.and_two_pow_sub_one_eq_mod]
  have e2 : bits .or .u64 ((n % 128 : Nat) : Int) ((128 : Nat) : Int) = ((n % 128 + 128 : Nat) : Int) := by
    rw [or64 _ _ (by omega) (by decide), Nat.or_comm]
    have := Nat.two_pow_add_eq_or_of_lt (show n % 128 < 2 ^ 7 by omega) 1
    rw [show (2 : Nat) ^ 7 * 1 = 128 from rfl] at this
    rw [← this, Nat.add_comm]
  rw [show (127 : Int) = ((127 : Nat) : Int) from rfl, e1, show (128 : Int) = ((128 : Nat) : Int) from rfl, e2, IntKind.wrap_u8]
  omega
end Go.Proofs.Ytfleomamhkeiiaa
