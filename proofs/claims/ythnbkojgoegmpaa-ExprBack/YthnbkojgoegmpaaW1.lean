/- What each function of package word without a loop returns, and its twin of the document's answer; each leaves the world as it is. -/
import Derived.Test.YthnbkojgoegmpaaRows
import Derived.Test.YthnbkojgoegmpaaMath
import Derived.WalkKit
import Derived.WalkSpells
import Derived.WalkLawsBesides
import Derived.Lib.Hide
namespace Go.Proofs.Ythnbkojgoegmpaa
open Go.RowKit
theorem ret_intw {k : IntKind} {a b : Int} (h : a = b) : Ending.returned (.int k a) = .returned (.int k b) := by rw [h]
theorem ret_two {k l : IntKind} {a b c d : Int} (h : a = b) (h' : c = d) : Ending.returned (.tuple #[.int k a, .int l c]) = .returned (.tuple #[.int k b, .int l d]) := by rw [h, h']
theorem ret_three {k l m : IntKind} {a b c d x y : Int} (h : a = b) (h' : c = d) (h'' : x = y) : Ending.returned (.tuple #[.int k a, .int l c, .int m x]) = .returned (.tuple #[.int k b, .int l d, .int m y]) := by rw [h, h', h'']
theorem ret_bool {a b : Bool} (h : a = b) : Ending.returned (.bool a) = .returned (.bool b) := by rw [h]
/-- a head's three numbers are within their ranges -/
def PackOk (a b c : Int) : Prop := (0 ≤ a ∧ a ≤ 255) ∧ (0 ≤ b ∧ b ≤ 65535) ∧ (0 ≤ c ∧ c ≤ 255)
theorem pack_walk (a b c : Int) (h : PackOk a b c) : bits .or .u32 (bits .or .u32 (a * 16777216) (b * 256)) c = a * 16777216 + b * 256 + c := by
  obtain ⟨⟨h0, h1⟩, ⟨h2, h3⟩, h4, h5⟩ := h
  have hk : ∀ n : Int, 0 ≤ n → n < 2 ^ 32 → IntKind.u32.wrap n = n := fun n h h' => by rw [IntKind.wrap_u32]; omega
  rw [bits_join .u32 32 (by decide) hk 24 (a * 16777216) (b * 256) (by omega) (by omega) (by omega) (by omega) (by omega) (by omega)]
  rw [bits_join .u32 32 (by decide) hk 8 (a * 16777216 + b * 256) c (by omega) (by omega) (by omega) (by omega) (by omega) (by omega)]
set_option maxHeartbeats 400000 in
theorem pack_any (a b c : Int) (w : World) (h : PackOk a b c) :
    Calls Try.prog 51 #[.int .i64 a, .int .i64 b, .int .i64 c] w fun e w' => e = .returned (.tuple #[.int .u32 (a * 16777216 + b * 256 + c), .int .i64 0]) ∧ w = w' := by
  have H := Lib.hid (pack_walk a b c h)
  obtain ⟨⟨h0, h1⟩, ⟨h2, h3⟩, h4, h5⟩ := h
  go_enter Try.func51, Try.ntmps51
  go_wp2
  go_ret2
  exact ⟨ret_two H.out rfl, rfl⟩
set_option maxHeartbeats 1000000 in
theorem pack_out (a b c : Int) (w : World) (h : ¬ PackOk a b c) :
    Calls Try.prog 51 #[.int .i64 a, .int .i64 b, .int .i64 c] w fun e w' => e = .returned (.tuple #[.int .u32 0, .int .i64 1]) ∧ w = w' := by
  by_cases h0 : 0 ≤ a
  · by_cases h1 : a ≤ 255
    · by_cases h2 : 0 ≤ b
      · by_cases h3 : b ≤ 65535
        · by_cases h4 : 0 ≤ c
          · have h5 : ¬ c ≤ 255 := fun h5 => h ⟨⟨h0, h1⟩, ⟨h2, h3⟩, h4, h5⟩
            clear h
            go_enter Try.func51, Try.ntmps51
            go_wp2
            go_ret2
            exact ⟨rfl, rfl⟩
          · clear h
            go_enter Try.func51, Try.ntmps51
            go_wp2
            go_ret2
            exact ⟨rfl, rfl⟩
        · clear h
          go_enter Try.func51, Try.ntmps51
          go_wp2
          go_ret2
          exact ⟨rfl, rfl⟩
      · clear h
        go_enter Try.func51, Try.ntmps51
        go_wp2
        go_ret2
        exact ⟨rfl, rfl⟩
    · clear h
      go_enter Try.func51, Try.ntmps51
      go_wp2
      go_ret2
      exact ⟨rfl, rfl⟩
  · clear h
    go_enter Try.func51, Try.ntmps51
    go_wp2
    go_ret2
    exact ⟨rfl, rfl⟩
set_option maxHeartbeats 400000 in
theorem rpack_any (a b c : Int) (w : World) (h : PackOk a b c) :
    Calls Try.prog 73 #[.int .i64 a, .int .i64 b, .int .i64 c] w fun e w' => e = .returned (.tuple #[.int .u32 (a * 16777216 + b * 256 + c), .int .i64 0]) ∧ w = w' := by
  obtain ⟨⟨h0, h1⟩, ⟨h2, h3⟩, h4, h5⟩ := h
  go_enter Try.func73, Try.ntmps73
  go_wp2
  go_ret2
  exact ⟨rfl, rfl⟩
set_option maxHeartbeats 1000000 in
theorem rpack_out (a b c : Int) (w : World) (h : ¬ PackOk a b c) :
    Calls Try.prog 73 #[.int .i64 a, .int .i64 b, .int .i64 c] w fun e w' => e = .returned (.tuple #[.int .u32 0, .int .i64 1]) ∧ w = w' := by
  have key : a < 0 ∨ (0 ≤ a ∧ 255 < a) ∨ (0 ≤ a ∧ a ≤ 255 ∧ b < 0) ∨ (0 ≤ a ∧ a ≤ 255 ∧ 0 ≤ b ∧ 65535 < b) ∨ (0 ≤ a ∧ a ≤ 255 ∧ 0 ≤ b ∧ b ≤ 65535 ∧ c < 0) ∨ (0 ≤ a ∧ a ≤ 255 ∧ 0 ≤ b ∧ b ≤ 65535 ∧ 0 ≤ c ∧ 255 < c) := by
    unfold PackOk at h
    omega
  clear h
  rcases key with h0 | ⟨h0, h1⟩ | ⟨h0, h1, h2⟩ | ⟨h0, h1, h2, h3⟩ | ⟨h0, h1, h2, h3, h4⟩ | ⟨h0, h1, h2, h3, h4, h5⟩
  all_goals
    go_enter Try.func73, Try.ntmps73
    go_wp2
    go_ret2
    exact ⟨rfl, rfl⟩
set_option maxHeartbeats 400000 in
theorem unpack_any (h : Int) (w : World) (h0 : 0 ≤ h) (h1 : h < 4294967296) :
    Calls Try.prog 76 #[.int .u32 h] w fun e w' => e = .returned (.tuple #[.int .i64 (h / 16777216), .int .i64 (h / 256 % 65536), .int .i64 (h % 256)]) ∧ w = w' := by
  have H := Lib.hid (show wrap64 (IntKind.u16.wrap (h / 256)) = h / 256 % 65536 by
    simp only [IntKind.wrap, IntKind.bits, IntKind.signed, wrap64]; simp; omega)
  go_enter Try.func76, Try.ntmps76
  go_wp2
  go_ret3
  exact ⟨ret_three rfl H.out rfl, rfl⟩
end Go.Proofs.Ythnbkojgoegmpaa
