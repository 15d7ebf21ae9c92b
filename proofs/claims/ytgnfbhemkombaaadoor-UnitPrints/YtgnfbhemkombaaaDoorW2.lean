/- What the document's answers of layer 1 compute: powers, rotations, the bits in which two words differ; each leaves the world as it is. -/
import Derived.Test.YtgnfbhemkombaaaDoorW1
namespace Go.Proofs.YtgnfbhemkombaaaDoor
open Go.RowKit
theorem pow_dbl (k : Nat) (h : k < 63) : IntKind.u64.wrap (((2 ^ k : Nat) : Int) * 2) = ((2 ^ (k + 1) : Nat) : Int) := by
  have e : (2 : Nat) ^ (k + 1) = 2 ^ k * 2 := Nat.pow_succ 2 k
  have b : (2 : Nat) ^ (k + 1) < 2 ^ 64 := Nat.pow_lt_pow_right (by decide) (by omega)
  rw [IntKind.wrap_u64, e]
  omega
def powN (k : Nat) : Nat := 2 ^ k
theorem rot_step_walk (u i : Nat) (hu : U64 u) (h : i < 64) :
    IntKind.u64.wrap (IntKind.u64.wrap ((rotN i u : Nat) * 2) + IntKind.u64.wrap ((rotN i u : Nat) / 9223372036854775808)) = ((rotN (i + 1) u : Nat) : Int) := by
  have hU := rotN_U u i hu (by omega)
  have hV := rotN_U u (i + 1) hu (by omega)
  rw [← rot_step u i hu h] at *
  unfold rot1 U64 at *
  simp only [IntKind.wrap_u64]
  omega
theorem rturn_key (n : Int) : ∃ (t : Int) (k : Nat), n.tmod 64 = t ∧ -63 ≤ t ∧ t ≤ 63 ∧ k < 64 ∧ k = (n % 64).toNat ∧ (t < 0 → (k : Int) = t + 64) ∧ (0 ≤ t → (k : Int) = t) := by
  refine ⟨n.tmod 64, (n % 64).toNat, rfl, ?_⟩
  have : n.tmod 64 = n % 64 ∨ n.tmod 64 = n % 64 - 64 := by
    rw [Int.tmod_eq_emod]; split <;> simp
  have : 0 ≤ n → 0 ≤ n.tmod 64 := fun h => Int.tmod_nonneg 64 h
  have : n < 0 → n.tmod 64 ≤ 0 := fun h => by
    have a := Int.neg_tmod n 64
    have b := Int.tmod_nonneg 64 (show 0 ≤ -n by omega)
    omega
  have := Int.lt_tmod_of_pos n (show (0 : Int) < 64 by decide)
  omega
/-! ### Has, With, Without of the document -/
theorem rhas_walk (s k : Nat) (hs : U64 s) : ((IntKind.u64.wrap ((s : Int) / ((powN k : Nat) : Int))).tmod 2 == 1) = s.testBit k := by
  have hlt : s / powN k < 2 ^ 64 := Nat.lt_of_le_of_lt (Nat.div_le_self _ _) hs
  rw [← Int.natCast_ediv, wrapu64_nat _ hlt, testBit_div, Int.tmod_eq_emod_of_nonneg (Int.natCast_nonneg _), show s / 2 ^ k = s / powN k from rfl]
  generalize s / powN k = q
  rw [Bool.eq_iff_iff]
  simp
  omega
theorem rwith_walk (s : Nat) (n : Int) (hs : U64 s) (h0 : 0 ≤ n) (h1 : n ≤ 63) (hb : hasN s n = false) :
    IntKind.u64.wrap ((s : Int) + ((powN n.toNat : Nat) : Int)) = ((withN s n : Nat) : Int) := by
  rw [hasN_in s n h0 h1] at hb
  have hU := withN_U s n hs
  unfold withN at hU ⊢
  rw [if_pos ⟨h0, h1⟩, or_pow_add s _ hb] at hU ⊢
  rw [← Int.natCast_add]
  exact wrapu64_nat _ hU
theorem withN_has (s : Nat) (n : Int) (hb : hasN s n = true) : withN s n = s := by
  unfold withN
  split
  · next h => rw [hasN_in s n h.1 h.2] at hb; exact or_pow_same s _ hb
  · rfl
theorem withN_out (s : Nat) (n : Int) (h : n < 0 ∨ 63 < n) : withN s n = s := by unfold withN; rw [if_neg (by omega)]
theorem withoutN_not (s : Nat) (n : Int) (hb : hasN s n = false) : withoutN s n = s := by
  unfold withoutN
  split
  · next h => rw [hasN_in s n h.1 h.2] at hb; rw [hb]; rfl
  · rfl
theorem has_range (s : Nat) (n : Int) (hb : hasN s n = true) : 0 ≤ n ∧ n ≤ 63 := by
  have h : ¬ (n < 0 ∨ 63 < n) := fun h => by rw [hasN_out s n h] at hb; cases hb
  omega
theorem rwithout_walk (s : Nat) (n : Int) (hs : U64 s) (hb : hasN s n = true) :
    IntKind.u64.wrap ((s : Int) - ((powN n.toNat : Nat) : Int)) = ((withoutN s n : Nat) : Int) := by
  obtain ⟨h0, h1⟩ := has_range s n hb
  have hU := withoutN_U s n hs
  unfold withoutN at hU ⊢
  rw [hasN_in s n h0 h1] at hb
  have hle := bit_le s _ hb
  rw [if_pos ⟨h0, h1⟩, hb, if_pos rfl] at hU ⊢
  unfold powN
  rw [← Int.natCast_sub hle]
  exact wrapu64_nat _ hU
/-! ### Narrow and Cut of the document -/
theorem rest_tmod (n : Int) (k : Nat) (h : k ≤ 63) : (IntKind.u64.wrap n).tmod ((powN k : Nat) : Int) = n % 2 ^ k := by
  rw [Int.tmod_eq_emod_of_nonneg (by rw [IntKind.wrap_u64]; omega)]
  exact rest_walk n k (by omega)
theorem half_walk (k : Nat) (h0 : 1 ≤ k) (h : k ≤ 63) : IntKind.u64.wrap (((powN k : Nat) : Int) / 2) = 2 ^ (k - 1) := by
  have b : (2 : Nat) ^ (k - 1) < 2 ^ 64 := Nat.pow_lt_pow_right (by decide) (by omega)
  have e : (powN k : Nat) = 2 * 2 ^ (k - 1) := by
    obtain ⟨j, rfl⟩ : ∃ j, k = j + 1 := ⟨k - 1, by omega⟩
    rw [Nat.add_sub_cancel]; unfold powN; rw [Nat.pow_succ]; omega
  rw [e, IntKind.wrap_u64, pow_cast]
  omega
theorem rcut_walk (d : Nat) (n : Int) (hd : U64 d) : IntKind.u64.wrap ((d : Int) / ((powN (64 - n).toNat : Nat) : Int)) = ((d / 2 ^ (64 - n).toNat : Nat) : Int) := by
  rw [← Int.natCast_ediv, wrapu64_nat _ (Nat.lt_of_le_of_lt (Nat.div_le_self _ _) hd)]
  rfl
end Go.Proofs.YtgnfbhemkombaaaDoor
