/- Of Go's library, at the signs: strings.ContainsRune. -/
import Derived.Test.YtcjfaajceipenaaRows
import Derived.WalkKit
import Derived.WalkLawsBesides
import Derived.Lib.OthersKept
import Derived.Lib.Bytealg
import Derived.Lib.Hide
import Derived.Deep.QuietTactic
import Derived.BigQuiet
import Derived.Below
namespace Go.Proofs.Ytcjfaajceipenaa
open Go.RowKit
/-- the ten signs -/
def signB : ByteArray := ⟨#[40, 41, 44, 61, 33, 62, 38, 124, 64, 63]⟩
theorem indexByte_none : ∀ (l : List UInt8) (c : UInt8), c ∉ l → Lib.indexByte l c = -1
  | [], _, _ => rfl
  | b :: l, c, h => by
    have h1 : c ≠ b := fun e => h (by simp [e])
    have h2 := indexByte_none l c (fun e => h (by simp [e]))
    unfold Lib.indexByte
    rw [if_neg (by simpa using Ne.symm h1), h2]
    rfl
theorem indexByte_some : ∀ (l : List UInt8) (c : UInt8), c ∈ l → 0 ≤ Lib.indexByte l c
  | [], _, h => by simp at h
  | b :: l, c, h => by
    unfold Lib.indexByte
    by_cases e : b = c
    · rw [if_pos (by simpa using e)]; omega
    · have h2 := indexByte_some l c (by rcases List.mem_cons.1 h with h | h; exact absurd h.symm e; exact h)
      rw [if_neg (by simpa using e), if_neg (by simp; omega)]
      omega
/-- the signs, by their numbers -/
def isSignN (c : Nat) : Bool := c == 40 || c == 41 || c == 44 || c == 61 || c == 33 || c == 62 || c == 38 || c == 124 || c == 64 || c == 63
theorem sign_mem8 (b : UInt8) : b ∈ signB.data.toList ↔ isSignN b.toNat = true := by
  have e : ∀ n : UInt8, (b = n ↔ b.toNat = n.toNat) := fun n => UInt8.toNat_inj.symm
  simp [signB, isSignN, e, or_assoc]
theorem sign_mem (c : Nat) (h : c < 256) : (c.toUInt8 ∈ signB.data.toList) ↔ isSignN c = true := by
  rw [sign_mem8 c.toUInt8]
  have e : (c.toUInt8).toNat = c := by simp [Nat.toUInt8, UInt8.toNat_ofNat']; omega
  rw [e]
/-- a range over the signs comes to nothing -/
theorem signB_size : signB.size = 10 := rfl
theorem signB_ascii (pos : Nat) (h : pos < signB.size) : (signB[pos]'h).toNat < 128 := by
  have : ∀ i : Fin 10, (signB[i.1]'(by have := i.2; rw [signB_size]; omega)).toNat < 128 := by decide
  exact this ⟨pos, by rwa [signB_size] at h⟩
end Go.Proofs.Ytcjfaajceipenaa
