/- strings.ContainsRune at the signs, whatever the rune. -/
import Derived.Test.YtgnfbhemkombaaaDoorP0
import Derived.WalkMore
import Derived.IntWalk
namespace Go.Proofs.YtgnfbhemkombaaaDoor
open Go.RowKit
theorem ofNat_lt (n : Nat) (h : n < 256) : (UInt8.ofNat n).toNat = n := by simp [UInt8.toNat_ofNat']; omega
/-- a rune of more than one byte: two to four bytes, the last of them no ASCII -/
theorem encode_high (r : Int) (h : 128 ≤ r) : ∃ m : Nat, 1 ≤ m ∧ m ≤ 3 ∧ (Utf8.encode r).size = m + 1 ∧ ∀ hm : m < (Utf8.encode r).size, 128 ≤ ((Utf8.encode r)[m]'hm).toNat := by
  obtain ⟨c, hc, hc2⟩ : ∃ c, (if Utf8.valid r then r.toNat else Utf8.runeError) = c ∧ 128 ≤ c := ⟨_, rfl, by split; omega; unfold Utf8.runeError; omega⟩
  have e : Utf8.encode r = if c < 0x80 then ⟨#[UInt8.ofNat c]⟩ else if c < 0x800 then ⟨#[UInt8.ofNat (0xC0 + c / 64), UInt8.ofNat (0x80 + c % 64)]⟩
      else if c < 0x10000 then ⟨#[UInt8.ofNat (0xE0 + c / 4096), UInt8.ofNat (0x80 + c / 64 % 64), UInt8.ofNat (0x80 + c % 64)]⟩
      else ⟨#[UInt8.ofNat (0xF0 + c / 262144), UInt8.ofNat (0x80 + c / 4096 % 64), UInt8.ofNat (0x80 + c / 64 % 64), UInt8.ofNat (0x80 + c % 64)]⟩ := by
    unfold Utf8.encode
    simp only [hc]
  rw [if_neg (by omega)] at e
  have hl : 128 ≤ (UInt8.ofNat (0x80 + c % 64)).toNat := by rw [ofNat_lt _ (by omega)]; omega
  by_cases h1 : c < 0x800
  · rw [if_pos h1] at e
    rw [e]
    exact ⟨1, by omega, by omega, rfl, fun _ => hl⟩
  · rw [if_neg h1] at e
    by_cases h2 : c < 0x10000
    · rw [if_pos h2] at e
      rw [e]
      exact ⟨2, by omega, by omega, rfl, fun _ => hl⟩
    · rw [if_neg h2] at e
      rw [e]
      exact ⟨3, by omega, by omega, rfl, fun _ => hl⟩
theorem sign_rest (m : Nat) (x : UInt8) (hx : 128 ≤ x.toNat) : Lib.indexByte (signB.extract m signB.size).data.toList x = -1 := by
  apply indexByte_none
  intro h
  have h2 : x ∈ signB.data.toList := by
    have : (signB.extract m signB.size).data.toList = signB.data.toList.drop m := by
      simp [ByteArray.data_extract]
      exact List.take_of_length_le (by rw [List.length_drop]; exact Nat.le_refl _)
    rw [this] at h
    exact List.mem_of_mem_drop h
  rw [sign_mem8] at h2
  simp [isSignN] at h2
  omega
set_option maxHeartbeats 4000000 in
set_option maxRecDepth 100000 in
theorem indexRune_high (r : Int) (w : World) (h0 : 128 ≤ r) (h1 : r ≤ 2147483647) (hne : r ≠ 65533) :
    Calls Tryd.prog 115 #[.string signB, .int .i32 r] w fun e w' => e = .returned (.int .i64 (-1)) ∧ Below w.heap.size w w' := by
  have h5 : (r == 65533) = false := by simpa using hne
  clear hne
  by_cases hv : r < 55296 ∨ 57343 < r ∧ r ≤ 1114111
  · have hd : decide (r < 55296 ∨ 57343 < r ∧ r ≤ 1114111) = true := by simpa using hv
    go_enter Tryd.func115, Tryd.ntmps115
    go_wp2_with (go_at_call 129; refine (validRune_any r _ (by omega)).mono ?_; rintro e w' ⟨rfl, rfl⟩; rw [hd])
    obtain ⟨m, hm1, hm3, hsz, hlast⟩ := encode_high r h0
    obtain ⟨b, hb⟩ : ∃ b, b = Utf8.encode r := ⟨_, rfl⟩
    have hmlt : m < b.size := by rw [hb, hsz]; omega
    have hx := hlast (by rw [← hb]; exact hmlt)
    have hw : wrap64 ((b.size : Int) - 1) = (m : Int) := by rw [hb, hsz]; unfold wrap64; omega
    have hsm : m < signB.size := by rw [signB_size]; omega
    have hsa := signB_ascii m hsm
    have hx2 : 128 ≤ b[m].toNat := by simpa only [hb] using hx
    have SR := Lib.hid (sign_rest (m + 1) b[m] hx2)
    have hneq : ((signB[m].toNat : Int) != (b[m].toNat : Int)) = true := by simp; omega
    have hbe : Utf8.encode r = b := hb.symm
    clear hb hlast hsz hx
    go_step3
    go_wp2_with fail
    rw [hw]
    clear hbe hw
    go_loopw [9] (fun i wr => i = .int .i64 (m : Int) ∧ w = wr) (fun _ _ => 0)
    case atStart => exact ⟨rfl, rfl⟩
    case round =>
      obtain ⟨rfl, rfl⟩ := hrel
      go_wp2_with fail
      go_step3
      go_wp2_with fail
      go_quiet (fail)
      go_wp2_with fail
      generalize hW : w.drewN nq = w2
      have hbl : Below w.heap.size w w2 := by rw [← hW]; exact below_drewN (Below.refl _ _) _
      clear hW
      have g1 : IntKind.i64.wrap ((m : Int) + 1) = (m : Int) + 1 := IntWalk.i64_in _ (by omega)
      have g2 : (0 : Int) ≤ (m : Int) + 1 := by omega
      have g3 : ((m : Int) + 1).toNat = m + 1 := by omega
      have g4 : m + 1 ≤ signB.size := by omega
      have IB : ∀ W : World, Calls Tryd.prog 128 #[.string (signB.extract (m + 1) signB.size), .int .u8 ((b[m].toNat : Nat) : Int)] W fun e w' => e = .returned (.int .i64 (-1)) ∧ w' = W := fun W =>
        (indexByte_any (signB.extract (m + 1) signB.size) ((b[m].toNat : Nat) : Int) W).mono fun e w' h => ⟨by rw [h.1, show ((b[m].toNat : Nat) : Int).toNat.toUInt8 = b[m] by simp, SR.out], h.2.symm⟩
      go_quiet ((go_at_call 128; exact Calls.quiet_of_same (IB _)))
      go_wp2_with fail
      clear g1 g2 g3 g4
      rw [Exit.noGoto_ret]
      simp +zetaDelta only [Exit.inBlock, Exit.then, Exit.noGoto]
      go_ret
      exact ⟨rfl, below_drewN hbl _⟩
  · have hd : decide (r < 55296 ∨ 57343 < r ∧ r ≤ 1114111) = false := by simpa using hv
    clear hv
    go_enter Tryd.func115, Tryd.ntmps115
    go_wp2_with (go_at_call 129; refine (validRune_any r _ (by omega)).mono ?_; rintro e w' ⟨rfl, rfl⟩; rw [hd])
    go_ret
    exact ⟨rfl, Below.refl _ _⟩
/-- is a rune one of the signs? -/
def signR (r : Int) : Bool := decide (r < 128) && isSignN r.toNat
theorem containsRune_any (r : Int) (w : World) (h0 : 0 ≤ r) (h1 : r ≤ 2147483647) :
    Calls Tryd.prog 94 #[.string signB, .int .i32 r] w fun e w' => e = .returned (.bool (signR r)) ∧ Below w.heap.size w w' := by
  by_cases h2 : r < 128
  · have hs : decide (0 ≤ Lib.indexByte signB.data.toList r.toNat.toUInt8) = signR r := by
      have hm := sign_mem r.toNat (by omega)
      unfold signR
      rw [decide_eq_true h2, Bool.true_and]
      cases hb : isSignN r.toNat with
      | true => exact decide_eq_true (indexByte_some _ _ (hm.2 hb))
      | false => rw [indexByte_none _ _ (fun h => by rw [hm.1 h] at hb; cases hb)]; rfl
    have HS := Lib.hid hs
    clear hs
    go_enter Tryd.func94, Tryd.ntmps94
    go_wp2_with (go_at_call 115; refine (indexRune_ascii r _ h0 h2).mono ?_; rintro e w' ⟨rfl, rfl⟩)
    go_ret
    exact ⟨by rw [← HS.out]; rfl, Below.refl _ _⟩
  · have hs : signR r = false := by unfold signR; rw [decide_eq_false h2]; rfl
    have HS := Lib.hid hs
    clear hs
    by_cases h3 : r = 65533
    · subst h3
      go_enter Tryd.func94, Tryd.ntmps94
      go_wp2_with (go_at_call 115; refine (indexRune_bad _).mono ?_; rintro e w' ⟨rfl, hb⟩)
      go_ret
      exact ⟨by rw [HS.out]; rfl, hb⟩
    · go_enter Tryd.func94, Tryd.ntmps94
      go_wp2_with (go_at_call 115; refine (indexRune_high r _ (by omega) h1 h3).mono ?_; rintro e w' ⟨rfl, hb⟩)
      go_ret
      exact ⟨by rw [HS.out]; rfl, hb⟩
end Go.Proofs.YtgnfbhemkombaaaDoor
