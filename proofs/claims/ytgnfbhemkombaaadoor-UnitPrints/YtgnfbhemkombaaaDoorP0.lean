/- Of Go's library, at the signs: strings.ContainsRune. -/
import Derived.Test.YtgnfbhemkombaaaDoorRows
import Derived.WalkKit
import Derived.WalkLawsBesides
import Derived.Lib.OthersKept
import Derived.Lib.Bytealg
import Derived.Lib.Hide
import Derived.Deep.QuietTactic
import Derived.BigQuiet
import Derived.Below
namespace Go.Proofs.YtgnfbhemkombaaaDoor
open Go.RowKit
/-- the ten signs -/
def signB : ByteArray := ⟨#[40, 41, 44, 61, 33, 62, 38, 124, 64, 63]⟩
set_option maxHeartbeats 1000000 in
set_option maxRecDepth 100000 in
theorem indexByteLite_any (s : ByteArray) (c : Int) (w : World) :
    Calls Tryd.prog 138 #[.string s, .int .u8 c] w fun e w' => e = .returned (.int .i64 (Lib.indexByte s.data.toList c.toNat.toUInt8)) ∧ w = w' := by
  go_enter Tryd.func138, Tryd.ntmps138
  go_wp2
  rw [run_callFunc_extern Tryd.func141 (by kernel_rfl) (by kernel_rfl) (by kernel_rfl) (e := Extern.BytealgIndexByte.indexByte) (by kernel_rfl), Lib.run_indexByteString]
  simp only [Result.andThen]
  rw [Oper.upon_value]
  go_wp2
  go_ret
  exact ⟨rfl, rfl⟩
theorem indexByte_any (s : ByteArray) (c : Int) (w : World) :
    Calls Tryd.prog 128 #[.string s, .int .u8 c] w fun e w' => e = .returned (.int .i64 (Lib.indexByte s.data.toList c.toNat.toUInt8)) ∧ w = w' := by
  go_enter Tryd.func128, Tryd.ntmps128
  go_wp2_with (go_at_call 138; refine (indexByteLite_any _ _ _).mono ?_; rintro e w' ⟨rfl, rfl⟩)
  go_ret
  exact ⟨rfl, rfl⟩
theorem indexByte_none : ∀ (l : List UInt8) (c : UInt8), c ∉ l → Lib.indexByte l c = -1
  | [], _, _ => rfl
  | b :: l, c, h => by
    have h1 : c ≠ b := fun e => h (by simp [e])
    have h2 := indexByte_none l c (fun e => h (by simp [e]))
    unfold Lib.indexByte
    rw [if_neg (by simpa using Ne.symm h1), h2]
    rfl
theorem indexByte_some : ∀ (l : List UInt8) (c : UInt8), c ∈ l → 0 ≤ Lib.indexByte l c
  | [], _, h => by simp at h
  | b :: l, c, h => by
    unfold Lib.indexByte
    by_cases e : b = c
    · rw [if_pos (by simpa using e)]; omega
    · have h2 := indexByte_some l c (by rcases List.mem_cons.1 h with h | h; exact absurd h.symm e; exact h)
      rw [if_neg (by simpa using e), if_neg (by simp; omega)]
      omega
/-- the signs, by their numbers -/
def isSignN (c : Nat) : Bool := c == 40 || c == 41 || c == 44 || c == 61 || c == 33 || c == 62 || c == 38 || c == 124 || c == 64 || c == 63
theorem sign_mem8 (b : UInt8) : b ∈ signB.data.toList ↔ isSignN b.toNat = true := by
  have e : ∀ n : UInt8, (b = n ↔ b.toNat = n.toNat) := fun n => UInt8.toNat_inj.symm
  simp [signB, isSignN, e, or_assoc]
theorem sign_mem (c : Nat) (h : c < 256) : (c.toUInt8 ∈ signB.data.toList) ↔ isSignN c = true := by
  rw [sign_mem8 c.toUInt8]
  have e : (c.toUInt8).toNat = c := by simp [Nat.toUInt8, UInt8.toNat_ofNat']; omega
  rw [e]
set_option maxHeartbeats 2000000 in
set_option maxRecDepth 100000 in
theorem indexRune_ascii (r : Int) (w : World) (h0 : 0 ≤ r) (h1 : r < 128) :
    Calls Tryd.prog 115 #[.string signB, .int .i32 r] w fun e w' => e = .returned (.int .i64 (Lib.indexByte signB.data.toList r.toNat.toUInt8)) ∧ w = w' := by
  go_enter Tryd.func115, Tryd.ntmps115
  go_wp2_with (go_at_call 128; refine (indexByte_any _ _ _).mono ?_; rintro e w' ⟨rfl, rfl⟩)
  go_ret
  exact ⟨rfl, rfl⟩
theorem validRune_any (r : Int) (w : World) (h0 : 0 ≤ r) :
    Calls Tryd.prog 129 #[.int .i32 r] w fun e w' => e = .returned (.bool (decide (r < 55296 ∨ 57343 < r ∧ r ≤ 1114111))) ∧ w = w' := by
  go_enter Tryd.func129, Tryd.ntmps129
  go_wp2
  all_goals go_ret
  all_goals refine ⟨?_, rfl⟩
  all_goals congr 2
  all_goals simp
  all_goals omega
/-- a range over the signs comes to nothing -/
theorem signB_size : signB.size = 10 := rfl
theorem signB_ascii (pos : Nat) (h : pos < signB.size) : (signB[pos]'h).toNat < 128 := by
  have : ∀ i : Fin 10, (signB[i.1]'(by have := i.2; rw [signB_size]; omega)).toNat < 128 := by decide
  exact this ⟨pos, by rwa [signB_size] at h⟩
set_option maxHeartbeats 4000000 in
set_option maxRecDepth 100000 in
theorem indexRune_bad (w : World) :
    Calls Tryd.prog 115 #[.string signB, .int .i32 65533] w fun e w' => e = .returned (.int .i64 (-1)) ∧ Below w.heap.size w w' := by
  go_enter Tryd.func115, Tryd.ntmps115
  go_wp2_with fail
  go_loopw [] (fun wr => ∃ pos : Nat, wr.heap[w.heap.size]? = some (.stringIter signB pos) ∧ Below w.heap.size w wr) (fun wr => 10 - wr.iterPos w.heap.size)
  case atStart => exact ⟨0, World.iter_heap w signB 0, (Below.refl _ w).alloc (Nat.le_refl _) _⟩
  case round =>
    obtain ⟨pos, hit, hbw⟩ := hrel
    by_cases hp : pos < signB.size
    · have ha := signB_ascii pos hp
      have hnx : ∀ ty, (Instr.next (.pointer (some ⟨w.heap.size, 0, none⟩)) true ty).run Tryd.prog wr = _ := fun ty => Lib.run_next_ascii_at wr w.heap.size signB pos ty hit hp ha
      have hit2 := Lib.iterAt_heap wr w.heap.size signB pos (pos + 1) hit
      have hbw2 := Lib.below_iterAt hbw (k := w.heap.size) (Nat.le_refl _) signB (pos + 1)
      obtain ⟨v, hv⟩ : ∃ v, v = (signB[pos]'hp).toNat := ⟨_, rfl⟩
      rw [← hv] at ha hnx
      clear hv
      have h5 : ((v : Int) == 65533) = false := by simp; omega
      have HI := Lib.hid hit
      have HI2 := Lib.hid hit2
      clear hit hit2
      go_wp2_with fail
      go_roundw
      case rel => exact ⟨pos + 1, HI2.out, hbw2⟩
      case measure =>
        simp only [World.iterPos, HI2.out, HI.out]
        rw [signB_size] at hp
        omega
    · have hnx : ∀ ty, (Instr.next (.pointer (some ⟨w.heap.size, 0, none⟩)) true ty).run Tryd.prog wr = _ := fun ty => Lib.run_next_end_at wr w.heap.size signB pos ty hit hp
      clear hit
      go_wp2_with fail
      go_ret
      exact ⟨rfl, hbw⟩
end Go.Proofs.YtgnfbhemkombaaaDoor
