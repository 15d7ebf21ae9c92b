/- What each function of package word without a loop returns, and its twin of the document's answer; each leaves the world as it is. -/
import Derived.Test.YtgnfbhemkombaaaGreatRows
import Derived.Test.YtgnfbhemkombaaaGreatMath
import Derived.WalkKit
import Derived.WalkSpells
import Derived.WalkLawsBesides
import Derived.Lib.Hide
namespace Go.Proofs.YtgnfbhemkombaaaGreat
open Go.RowKit
theorem ret_intw {k : IntKind} {a b : Int} (h : a = b) : Ending.returned (.int k a) = .returned (.int k b) := by rw [h]
theorem ret_two {k l : IntKind} {a b c d : Int} (h : a = b) (h' : c = d) : Ending.returned (.tuple #[.int k a, .int l c]) = .returned (.tuple #[.int k b, .int l d]) := by rw [h, h']
theorem ret_three {k l m : IntKind} {a b c d x y : Int} (h : a = b) (h' : c = d) (h'' : x = y) : Ending.returned (.tuple #[.int k a, .int l c, .int m x]) = .returned (.tuple #[.int k b, .int l d, .int m y]) := by rw [h, h', h'']
theorem ret_bool {a b : Bool} (h : a = b) : Ending.returned (.bool a) = .returned (.bool b) := by rw [h]
set_option maxHeartbeats 400000 in
theorem fits_any (n : Int) (w : World) :
    Calls Tryz.prog 126 #[.int .i64 n] w fun e w' => e = .returned (.bool (fitsB n)) ∧ w = w' := by
  by_cases h0 : 0 ≤ n
  · by_cases h1 : n ≤ 63
    · go_enter Tryz.func126, Tryz.ntmps126
      go_wp2
      go_ret
      exact ⟨ret_bool (by simp [fitsB, h0, h1]), rfl⟩
    · go_enter Tryz.func126, Tryz.ntmps126
      go_wp2
      go_ret
      exact ⟨ret_bool (by have : ¬ n ≤ 63 := by omega
                          simp [fitsB, this]), rfl⟩
  · go_enter Tryz.func126, Tryz.ntmps126
    go_wp2
    go_ret
    exact ⟨ret_bool (by have : ¬ 0 ≤ n := by omega
                        simp [fitsB, this]), rfl⟩
set_option maxHeartbeats 400000 in
theorem has_any (s : Nat) (n : Int) (w : World) (hs : U64 s) :
    Calls Tryz.prog 108 #[.int .u64 s, .int .i64 n] w fun e w' => e = .returned (.bool (hasN s n)) ∧ w = w' := by
  have H := Lib.hid (has_walk s n hs)
  by_cases h0 : 0 ≤ n
  · by_cases h1 : n ≤ 63
    · have E := Lib.hid (hasN_in s n h0 h1)
      go_enter Tryz.func108, Tryz.ntmps108
      go_wp2
      go_ret
      exact ⟨ret_bool (by rw [H.out, E.out]), rfl⟩
    · have E := Lib.hid (hasN_out s n (by omega))
      go_enter Tryz.func108, Tryz.ntmps108
      go_wp2
      go_ret
      exact ⟨ret_bool (by rw [E.out]), rfl⟩
  · have E := Lib.hid (hasN_out s n (by omega))
    go_enter Tryz.func108, Tryz.ntmps108
    go_wp2
    go_ret
    exact ⟨ret_bool (by rw [E.out]), rfl⟩
set_option maxHeartbeats 400000 in
theorem with_any (s : Nat) (n : Int) (w : World) (hs : U64 s) :
    Calls Tryz.prog 136 #[.int .u64 s, .int .i64 n] w fun e w' => e = .returned (.int .u64 (withN s n : Nat)) ∧ w = w' := by
  by_cases h0 : 0 ≤ n
  · by_cases h1 : n ≤ 63
    · have H := Lib.hid (with_walk s n hs h0 h1)
      go_enter Tryz.func136, Tryz.ntmps136
      go_wp2
      go_ret
      exact ⟨ret_intw H.out, rfl⟩
    · have E : Hid (withN s n = s) := by show withN s n = s; unfold withN; rw [if_neg (by omega)]
      go_enter Tryz.func136, Tryz.ntmps136
      go_wp2
      go_ret
      exact ⟨ret_intw (by rw [E.out]), rfl⟩
  · have E : Hid (withN s n = s) := by show withN s n = s; unfold withN; rw [if_neg (by omega)]
    go_enter Tryz.func136, Tryz.ntmps136
    go_wp2
    go_ret
    exact ⟨ret_intw (by rw [E.out]), rfl⟩
/-- a head's three numbers are within their ranges -/
def PackOk (a b c : Int) : Prop := (0 ≤ a ∧ a ≤ 255) ∧ (0 ≤ b ∧ b ≤ 65535) ∧ (0 ≤ c ∧ c ≤ 255)
theorem pack_walk (a b c : Int) (h : PackOk a b c) : bits .or .u32 (bits .or .u32 (a * 16777216) (b * 256)) c = a * 16777216 + b * 256 + c := by
  obtain ⟨⟨h0, h1⟩, ⟨h2, h3⟩, h4, h5⟩ := h
  have hk : ∀ n : Int, 0 ≤ n → n < 2 ^ 32 → IntKind.u32.wrap n = n := fun n h h' => by rw [IntKind.wrap_u32]; omega
  rw [bits_join .u32 32 (by decide) hk 24 (a * 16777216) (b * 256) (by omega) (by omega) (by omega) (by omega) (by omega) (by omega)]
  rw [bits_join .u32 32 (by decide) hk 8 (a * 16777216 + b * 256) c (by omega) (by omega) (by omega) (by omega) (by omega) (by omega)]
end Go.Proofs.YtgnfbhemkombaaaGreat
