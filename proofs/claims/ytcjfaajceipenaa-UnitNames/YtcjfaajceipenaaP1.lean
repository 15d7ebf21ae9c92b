/- strings.ContainsRune at the signs, whatever the rune. -/
import Derived.Test.YtcjfaajceipenaaP0
import Derived.WalkMore
import Derived.IntWalk
namespace Go.Proofs.Ytcjfaajceipenaa
open Go.RowKit
theorem ofNat_lt (n : Nat) (h : n < 256) : (UInt8.ofNat n).toNat = n := by simp [UInt8.toNat_ofNat']; omega
/-- a rune of more than one byte: two to four bytes, the last of them no ASCII -/
theorem encode_high (r : Int) (h : 128 ≤ r) : ∃ m : Nat, 1 ≤ m ∧ m ≤ 3 ∧ (Utf8.encode r).size = m + 1 ∧ ∀ hm : m < (Utf8.encode r).size, 128 ≤ ((Utf8.encode r)[m]'hm).toNat := by
  obtain ⟨c, hc, hc2⟩ : ∃ c, (if Utf8.valid r then r.toNat else Utf8.runeError) = c ∧ 128 ≤ c := ⟨_, rfl, by split; omega; unfold Utf8.runeError; omega⟩
  have e : Utf8.encode r = if c < 0x80 then ⟨#[UInt8.ofNat c]⟩ else if c < 0x800 then ⟨#[UInt8.ofNat (0xC0 + c / 64), UInt8.ofNat (0x80 + c % 64)]⟩
      else if c < 0x10000 then ⟨#[UInt8.ofNat (0xE0 + c / 4096), UInt8.ofNat (0x80 + c / 64 % 64), UInt8.ofNat (0x80 + c % 64)]⟩
      else ⟨#[UInt8.ofNat (0xF0 + c / 262144), UInt8.ofNat (0x80 + c / 4096 % 64), UInt8.ofNat (0x80 + c / 64 % 64), UInt8.ofNat (0x80 + c % 64)]⟩ := by
    unfold Utf8.encode
    simp only [hc]
  rw [if_neg (by omega)] at e
  have hl : 128 ≤ (UInt8.ofNat (0x80 + c % 64)).toNat := by rw [ofNat_lt _ (by omega)]; omega
  by_cases h1 : c < 0x800
  · rw [if_pos h1] at e
    rw [e]
    exact ⟨1, by omega, by omega, rfl, fun _ => hl⟩
  · rw [if_neg h1] at e
    by_cases h2 : c < 0x10000
    · rw [if_pos h2] at e
      rw [e]
      exact ⟨2, by omega, by omega, rfl, fun _ => hl⟩
    · rw [if_neg h2] at e
      rw [e]
      exact ⟨3, by omega, by omega, rfl, fun _ => hl⟩
theorem sign_rest (m : Nat) (x : UInt8) (hx : 128 ≤ x.toNat) : Lib.indexByte (signB.extract m signB.size).data.toList x = -1 := by
  apply indexByte_none
  intro h
  have h2 : x ∈ signB.data.toList := by
    have : (signB.extract m signB.size).data.toList = signB.data.toList.drop m := by
      simp [ByteArray.data_extract]
      exact List.take_of_length_le (by rw [List.length_drop]; exact Nat.le_refl _)
    rw [this] at h
    exact List.mem_of_mem_drop h
  rw [sign_mem8] at h2
  simp [isSignN] at h2
  omega
/-- is a rune one of the signs? -/
def signR (r : Int) : Bool := decide (r < 128) && isSignN r.toNat
end Go.Proofs.Ytcjfaajceipenaa
