/- The document's Get; whether two slices of bytes are the same. -/
import Derived.Test.YtfleomamhkeiiaaW8
namespace Go.Proofs.Ytfleomamhkeiiaa
open Go.RowKit
def wpN (k : Nat) : Nat := 2 ^ (7 * k)
theorem rgroup_walk (k acc c : Nat) (h : acc < 2 ^ (7 * k)) (hk : k ≤ 9) (hc : ¬ (k = 9 ∧ 1 < c)) :
    IntKind.u64.wrap ((acc : Int) + IntKind.u64.wrap ((c : Int) % 128 * ((wpN k : Nat) : Int))) = ((acc + c % 128 * 2 ^ (7 * k) : Nat) : Int) := by
  have e := shl_group k c hk hc
  rw [pow_cast] at e
  rw [show ((c : Int) % 128) = ((c % 128 : Nat) : Int) from by omega, show wpN k = 2 ^ (7 * k) from rfl, e, ← Int.natCast_add]
  exact wrapu64_nat _ (group_U k acc c h hk hc)
theorem worth_walk (k : Nat) (hk : k ≤ 8) : IntKind.u64.wrap (((wpN k : Nat) : Int) * 128) = ((wpN (k + 1) : Nat) : Int) := by
  have e : wpN (k + 1) = wpN k * 128 := by unfold wpN; rw [show 7 * (k + 1) = 7 * k + 7 from by omega, Nat.pow_add]
  have b : wpN (k + 1) < 2 ^ 64 := Nat.pow_lt_pow_right (by decide) (by omega)
  rw [e] at b ⊢
  rw [IntKind.wrap_u64]
  omega
/-! ### two slices of the same bytes -/
def bstr (bs : List Nat) : ByteArray := strOfNums (bcast bs)
theorem conv_bytes {A : Option Addr} {n c : Nat} {bs : List Nat} {B : Nat} {w : World} (hl : bs.length = n) (hr : Rd .u8 w B A (bcast bs)) :
    (convert 119 9 (.slice A n c)).run Try.prog w = .ok (.string (bstr bs)) w := by
  cases A with
  | none =>
    have e : bs = [] := by
      cases bs with
      | nil => rfl
      | cons b r =>
        obtain ⟨ad, h, _⟩ := hr 0 (by simp [bcast])
        cases h
    subst e
    rw [run_convert_bytes_nil w 119 5 Try.underlying119 Try.underlying5 n c 9 Try.underlying9]
    rfl
  | some ad =>
    have hlen : (bcast bs).length = n := by rw [bcast_len]; exact hl
    have h : (loadCells ad n).run Try.prog w = .ok ((bcast bs).map (Value.int .u8)).toArray w := by
      have := run_loadCells_list (P := Try.prog) w ad ((bcast bs).map (Value.int .u8)) (fun j v hj => by
        have hjl : j < (bcast bs).length := by
          rcases Nat.lt_or_ge j (bcast bs).length with h | h
          · exact h
          · rw [List.getElem?_eq_none (by simpa using h)] at hj; cases hj
        obtain ⟨ad', e, _, hc⟩ := hr j hjl
        injection e with e
        subst e
        rw [hc]
        rw [List.getElem?_map, List.getElem?_eq_getElem hjl] at hj
        simp at hj
        rw [← hj, List.getD_eq_getElem?_getD, List.getElem?_eq_getElem hjl]
        rfl)
      rw [List.length_map, hlen] at this
      exact this
    rw [run_convert_bytes_string w 119 9 5 _ n c Try.underlying119 Try.underlying5 Try.underlying9, run_bytesToString w _ n c (bcast bs) h, foldl_push_bytes]
    simp [bstr, strOfNums, ByteArray.empty, ByteArray.emptyWithCapacity]
    rfl
end Go.Proofs.Ytfleomamhkeiiaa
