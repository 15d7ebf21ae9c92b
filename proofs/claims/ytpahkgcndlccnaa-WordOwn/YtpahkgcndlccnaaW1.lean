/- What each function of package word without a loop returns, and its twin of the document's answer; each leaves the world as it is. -/
import Derived.Test.YtpahkgcndlccnaaRows
import Derived.Test.YtpahkgcndlccnaaMath
import Derived.WalkKit
import Derived.WalkSpells
import Derived.WalkLawsBesides
import Derived.Lib.Hide
namespace Go.Proofs.Ytpahkgcndlccnaa
open Go.RowKit
theorem ret_int {k : IntKind} {a b : Int} (h : a = b) : Ending.returned (.int k a) = .returned (.int k b) := by rw [h]
theorem ret_two {k l : IntKind} {a b c d : Int} (h : a = b) (h' : c = d) : Ending.returned (.tuple #[.int k a, .int l c]) = .returned (.tuple #[.int k b, .int l d]) := by rw [h, h']
theorem ret_three {k l m : IntKind} {a b c d x y : Int} (h : a = b) (h' : c = d) (h'' : x = y) : Ending.returned (.tuple #[.int k a, .int l c, .int m x]) = .returned (.tuple #[.int k b, .int l d, .int m y]) := by rw [h, h', h'']
theorem ret_bool {a b : Bool} (h : a = b) : Ending.returned (.bool a) = .returned (.bool b) := by rw [h]
set_option maxHeartbeats 400000 in
theorem fits_any (n : Int) (w : World) :
    Calls Try.prog 55 #[.int .i64 n] w fun e w' => e = .returned (.bool (fitsB n)) ∧ w = w' := by
  by_cases h0 : 0 ≤ n
  · by_cases h1 : n ≤ 63
    · go_enter Try.func55, Try.ntmps55
      go_wp2
      go_ret
      exact ⟨ret_bool (by simp [fitsB, h0, h1]), rfl⟩
    · go_enter Try.func55, Try.ntmps55
      go_wp2
      go_ret
      exact ⟨ret_bool (by have : ¬ n ≤ 63 := by omega
                          simp [fitsB, this]), rfl⟩
  · go_enter Try.func55, Try.ntmps55
    go_wp2
    go_ret
    exact ⟨ret_bool (by have : ¬ 0 ≤ n := by omega
                        simp [fitsB, this]), rfl⟩
set_option maxHeartbeats 400000 in
theorem has_any (s : Nat) (n : Int) (w : World) (hs : U64 s) :
    Calls Try.prog 27 #[.int .u64 s, .int .i64 n] w fun e w' => e = .returned (.bool (hasN s n)) ∧ w = w' := by
  have H := Lib.hid (has_walk s n hs)
  by_cases h0 : 0 ≤ n
  · by_cases h1 : n ≤ 63
    · have E := Lib.hid (hasN_in s n h0 h1)
      go_enter Try.func27, Try.ntmps27
      go_wp2
      go_ret
      exact ⟨ret_bool (by rw [H.out, E.out]), rfl⟩
    · have E := Lib.hid (hasN_out s n (by omega))
      go_enter Try.func27, Try.ntmps27
      go_wp2
      go_ret
      exact ⟨ret_bool (by rw [E.out]), rfl⟩
  · have E := Lib.hid (hasN_out s n (by omega))
    go_enter Try.func27, Try.ntmps27
    go_wp2
    go_ret
    exact ⟨ret_bool (by rw [E.out]), rfl⟩
set_option maxHeartbeats 400000 in
theorem with_any (s : Nat) (n : Int) (w : World) (hs : U64 s) :
    Calls Try.prog 29 #[.int .u64 s, .int .i64 n] w fun e w' => e = .returned (.int .u64 (withN s n : Nat)) ∧ w = w' := by
  by_cases h0 : 0 ≤ n
  · by_cases h1 : n ≤ 63
    · have H := Lib.hid (with_walk s n hs h0 h1)
      go_enter Try.func29, Try.ntmps29
      go_wp2
      go_ret
      exact ⟨ret_int H.out, rfl⟩
    · have E : Hid (withN s n = s) := by show withN s n = s; unfold withN; rw [if_neg (by omega)]
      go_enter Try.func29, Try.ntmps29
      go_wp2
      go_ret
      exact ⟨ret_int (by rw [E.out]), rfl⟩
  · have E : Hid (withN s n = s) := by show withN s n = s; unfold withN; rw [if_neg (by omega)]
    go_enter Try.func29, Try.ntmps29
    go_wp2
    go_ret
    exact ⟨ret_int (by rw [E.out]), rfl⟩
set_option maxHeartbeats 400000 in
theorem without_any (s : Nat) (n : Int) (w : World) (hs : U64 s) :
    Calls Try.prog 31 #[.int .u64 s, .int .i64 n] w fun e w' => e = .returned (.int .u64 (withoutN s n : Nat)) ∧ w = w' := by
  by_cases h0 : 0 ≤ n
  · by_cases h1 : n ≤ 63
    · have H := Lib.hid (without_walk s n hs h0 h1)
      go_enter Try.func31, Try.ntmps31
      go_wp2
      go_ret
      exact ⟨ret_int H.out, rfl⟩
    · have E : Hid (withoutN s n = s) := by show withoutN s n = s; unfold withoutN; rw [if_neg (by omega)]
      go_enter Try.func31, Try.ntmps31
      go_wp2
      go_ret
      exact ⟨ret_int (by rw [E.out]), rfl⟩
  · have E : Hid (withoutN s n = s) := by show withoutN s n = s; unfold withoutN; rw [if_neg (by omega)]
    go_enter Try.func31, Try.ntmps31
    go_wp2
    go_ret
    exact ⟨ret_int (by rw [E.out]), rfl⟩
set_option maxHeartbeats 400000 in
theorem fold_any (n : Int) (w : World) (h : I64 n) :
    Calls Try.prog 41 #[.int .i64 n] w fun e w' => e = .returned (.int .u64 (foldN n : Nat)) ∧ w = w' := by
  have H := Lib.hid (fold_walk n h)
  go_enter Try.func41, Try.ntmps41
  go_wp2
  go_ret
  exact ⟨ret_int H.out, rfl⟩
set_option maxHeartbeats 400000 in
theorem unfold_any (u : Nat) (w : World) (h : U64 u) :
    Calls Try.prog 43 #[.int .u64 u] w fun e w' => e = .returned (.int .i64 (unfoldI u)) ∧ w = w' := by
  have H := Lib.hid (unfold_walk u h)
  go_enter Try.func43, Try.ntmps43
  go_wp2
  go_ret
  exact ⟨ret_int H.out, rfl⟩
set_option maxHeartbeats 400000 in
theorem rfold_any (n : Int) (w : World) (h : I64 n) :
    Calls Try.prog 42 #[.int .i64 n] w fun e w' => e = .returned (.int .u64 (foldN n : Nat)) ∧ w = w' := by
  by_cases h0 : 0 ≤ n
  · have H := Lib.hid (rfold_pos n h h0)
    go_enter Try.func42, Try.ntmps42
    go_wp2
    go_ret
    exact ⟨ret_int H.out, rfl⟩
  · have H := Lib.hid (rfold_neg n h (by omega))
    go_enter Try.func42, Try.ntmps42
    go_wp2
    go_ret
    exact ⟨ret_int H.out, rfl⟩
set_option maxHeartbeats 400000 in
theorem runfold_any (u : Nat) (w : World) (h : U64 u) :
    Calls Try.prog 44 #[.int .u64 u] w fun e w' => e = .returned (.int .i64 (unfoldI u)) ∧ w = w' := by
  go_enter Try.func44, Try.ntmps44
  go_wp2
  · have h0 : ((u : Int) % 2 == 0) = true := by assumption
    go_ret
    exact ⟨ret_int (runfold_even u h h0), rfl⟩
  · have h0 : ((u : Int) % 2 == 0) = false := by assumption
    go_ret
    exact ⟨ret_int (runfold_odd u h h0), rfl⟩
set_option maxHeartbeats 400000 in
theorem turn_any (u : Nat) (n : Int) (w : World) (hu : U64 u) :
    Calls Try.prog 47 #[.int .u64 u, .int .i64 n] w fun e w' => e = .returned (.int .u64 (turnN u n : Nat)) ∧ w = w' := by
  obtain ⟨k, hk⟩ : ∃ k : Nat, k = (n % 64).toNat := ⟨_, rfl⟩
  have hk64 : k < 64 := by omega
  have hs : (IntKind.u64.wrap n).tmod 64 = (k : Int) := by
    rw [IntKind.wrap_u64, Int.tmod_eq_emod_of_nonneg (Int.emod_nonneg _ (by decide))]; omega
  have T := Lib.hid (turn_walk u k hu (by omega))
  have K := Lib.hid hk
  clear hk
  go_enter Try.func47, Try.ntmps47
  go_wp2
  go_ret
  exact ⟨ret_int (by rw [T.out]; show ((rotN k u : Nat) : Int) = ((rotN (n % 64).toNat u : Nat) : Int); rw [← K.out]), rfl⟩
set_option maxHeartbeats 400000 in
theorem narrow_any (n k : Int) (w : World) (h0 : 1 ≤ k) (h1 : k ≤ 64) :
    Calls Try.prog 45 #[.int .i64 n, .int .i64 k] w fun e w' => e = .returned (.tuple #[.int .i64 (narrowI n k.toNat), .int .i64 0]) ∧ w = w' := by
  have H := Lib.hid (narrow_walk n k h0 h1)
  go_enter Try.func45, Try.ntmps45
  go_wp2
  go_ret2
  exact ⟨ret_two H.out rfl, rfl⟩
set_option maxHeartbeats 400000 in
theorem narrow_out (n k : Int) (w : World) (h : k < 1 ∨ 64 < k) :
    Calls Try.prog 45 #[.int .i64 n, .int .i64 k] w fun e w' => e = .returned (.tuple #[.int .i64 0, .int .i64 1]) ∧ w = w' := by
  rcases h with h | h
  all_goals
    go_enter Try.func45, Try.ntmps45
    go_wp2
    go_ret2
    exact ⟨rfl, rfl⟩
set_option maxHeartbeats 400000 in
theorem cut_any (d : Nat) (n : Int) (w : World) (h0 : 0 ≤ n) (h1 : n ≤ 64) :
    Calls Try.prog 53 #[.int .u64 d, .int .i64 n] w fun e w' => e = .returned (.tuple #[.int .u64 (d / 2 ^ (64 - n).toNat : Nat), .int .i64 0]) ∧ w = w' := by
  have H := Lib.hid (show ((d : Int) / 2 ^ (64 - n).toNat) = ((d / 2 ^ (64 - n).toNat : Nat) : Int) by rw [pow_cast, ← Int.natCast_ediv])
  go_enter Try.func53, Try.ntmps53
  go_wp2
  go_ret2
  exact ⟨ret_two H.out rfl, rfl⟩
set_option maxHeartbeats 400000 in
theorem cut_out (d : Nat) (n : Int) (w : World) (h : n < 0 ∨ 64 < n) :
    Calls Try.prog 53 #[.int .u64 d, .int .i64 n] w fun e w' => e = .returned (.tuple #[.int .u64 0, .int .i64 1]) ∧ w = w' := by
  by_cases h0 : 0 ≤ n
  case' pos => have h1 : ¬ n ≤ 64 := by omega
  all_goals
    clear h
    go_enter Try.func53, Try.ntmps53
    go_wp2
    go_ret2
    exact ⟨rfl, rfl⟩
/-- a head's three numbers are within their ranges -/
def PackOk (a b c : Int) : Prop := (0 ≤ a ∧ a ≤ 255) ∧ (0 ≤ b ∧ b ≤ 65535) ∧ (0 ≤ c ∧ c ≤ 255)
theorem pack_walk (a b c : Int) (h : PackOk a b c) : bits .or .u32 (bits .or .u32 (a * 16777216) (b * 256)) c = a * 16777216 + b * 256 + c := by
  obtain ⟨⟨h0, h1⟩, ⟨h2, h3⟩, h4, h5⟩ := h
  have hk : ∀ n : Int, 0 ≤ n → n < 2 ^ 32 → IntKind.u32.wrap n = n := fun n h h' => by rw [IntKind.wrap_u32]; omega
  rw [bits_join .u32 32 (by decide) hk 24 (a * 16777216) (b * 256) (by omega) (by omega) (by omega) (by omega) (by omega) (by omega)]
  rw [bits_join .u32 32 (by decide) hk 8 (a * 16777216 + b * 256) c (by omega) (by omega) (by omega) (by omega) (by omega) (by omega)]
set_option maxHeartbeats 400000 in
theorem pack_any (a b c : Int) (w : World) (h : PackOk a b c) :
    Calls Try.prog 33 #[.int .i64 a, .int .i64 b, .int .i64 c] w fun e w' => e = .returned (.tuple #[.int .u32 (a * 16777216 + b * 256 + c), .int .i64 0]) ∧ w = w' := by
  have H := Lib.hid (pack_walk a b c h)
  obtain ⟨⟨h0, h1⟩, ⟨h2, h3⟩, h4, h5⟩ := h
  go_enter Try.func33, Try.ntmps33
  go_wp2
  go_ret2
  exact ⟨ret_two H.out rfl, rfl⟩
set_option maxHeartbeats 1000000 in
theorem pack_out (a b c : Int) (w : World) (h : ¬ PackOk a b c) :
    Calls Try.prog 33 #[.int .i64 a, .int .i64 b, .int .i64 c] w fun e w' => e = .returned (.tuple #[.int .u32 0, .int .i64 1]) ∧ w = w' := by
  by_cases h0 : 0 ≤ a
  · by_cases h1 : a ≤ 255
    · by_cases h2 : 0 ≤ b
      · by_cases h3 : b ≤ 65535
        · by_cases h4 : 0 ≤ c
          · have h5 : ¬ c ≤ 255 := fun h5 => h ⟨⟨h0, h1⟩, ⟨h2, h3⟩, h4, h5⟩
            clear h
            go_enter Try.func33, Try.ntmps33
            go_wp2
            go_ret2
            exact ⟨rfl, rfl⟩
          · clear h
            go_enter Try.func33, Try.ntmps33
            go_wp2
            go_ret2
            exact ⟨rfl, rfl⟩
        · clear h
          go_enter Try.func33, Try.ntmps33
          go_wp2
          go_ret2
          exact ⟨rfl, rfl⟩
      · clear h
        go_enter Try.func33, Try.ntmps33
        go_wp2
        go_ret2
        exact ⟨rfl, rfl⟩
    · clear h
      go_enter Try.func33, Try.ntmps33
      go_wp2
      go_ret2
      exact ⟨rfl, rfl⟩
  · clear h
    go_enter Try.func33, Try.ntmps33
    go_wp2
    go_ret2
    exact ⟨rfl, rfl⟩
set_option maxHeartbeats 400000 in
theorem rpack_any (a b c : Int) (w : World) (h : PackOk a b c) :
    Calls Try.prog 34 #[.int .i64 a, .int .i64 b, .int .i64 c] w fun e w' => e = .returned (.tuple #[.int .u32 (a * 16777216 + b * 256 + c), .int .i64 0]) ∧ w = w' := by
  obtain ⟨⟨h0, h1⟩, ⟨h2, h3⟩, h4, h5⟩ := h
  go_enter Try.func34, Try.ntmps34
  go_wp2
  go_ret2
  exact ⟨rfl, rfl⟩
set_option maxHeartbeats 1000000 in
theorem rpack_out (a b c : Int) (w : World) (h : ¬ PackOk a b c) :
    Calls Try.prog 34 #[.int .i64 a, .int .i64 b, .int .i64 c] w fun e w' => e = .returned (.tuple #[.int .u32 0, .int .i64 1]) ∧ w = w' := by
  have key : a < 0 ∨ (0 ≤ a ∧ 255 < a) ∨ (0 ≤ a ∧ a ≤ 255 ∧ b < 0) ∨ (0 ≤ a ∧ a ≤ 255 ∧ 0 ≤ b ∧ 65535 < b) ∨ (0 ≤ a ∧ a ≤ 255 ∧ 0 ≤ b ∧ b ≤ 65535 ∧ c < 0) ∨ (0 ≤ a ∧ a ≤ 255 ∧ 0 ≤ b ∧ b ≤ 65535 ∧ 0 ≤ c ∧ 255 < c) := by
    unfold PackOk at h
    omega
  clear h
  rcases key with h0 | ⟨h0, h1⟩ | ⟨h0, h1, h2⟩ | ⟨h0, h1, h2, h3⟩ | ⟨h0, h1, h2, h3, h4⟩ | ⟨h0, h1, h2, h3, h4, h5⟩
  all_goals
    go_enter Try.func34, Try.ntmps34
    go_wp2
    go_ret2
    exact ⟨rfl, rfl⟩
set_option maxHeartbeats 400000 in
theorem unpack_any (h : Int) (w : World) (h0 : 0 ≤ h) (h1 : h < 4294967296) :
    Calls Try.prog 35 #[.int .u32 h] w fun e w' => e = .returned (.tuple #[.int .i64 (h / 16777216), .int .i64 (h / 256 % 65536), .int .i64 (h % 256)]) ∧ w = w' := by
  have H := Lib.hid (show wrap64 (IntKind.u16.wrap (h / 256)) = h / 256 % 65536 by
    simp only [IntKind.wrap, IntKind.bits, IntKind.signed, wrap64]; simp; omega)
  go_enter Try.func35, Try.ntmps35
  go_wp2
  go_ret3
  exact ⟨ret_three rfl H.out rfl, rfl⟩
end Go.Proofs.Ytpahkgcndlccnaa
