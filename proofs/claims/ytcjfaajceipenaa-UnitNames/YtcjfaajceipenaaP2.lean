/- isBlank, letter, number of package parse. -/
import Derived.Test.YtcjfaajceipenaaP1
import Derived.Test.YtcjfaajceipenaaT9
namespace Go.Proofs.Ytcjfaajceipenaa
open Go.RowKit
set_option linter.unusedVariables false
def bytesN (s : ByteArray) : List Nat := s.data.toList.map fun b => b.toNat
theorem bytesN_len (s : ByteArray) : (bytesN s).length = s.size := by simp [bytesN]
theorem bytesN_get (s : ByteArray) (j : Nat) (h : j < s.size) : (bytesN s)[j]'(by rw [bytesN_len]; exact h) = (s[j]'h).toNat := by simp [bytesN]; rfl
theorem bytesN_drop (s : ByteArray) (i : Nat) : bytesN (s.extract i s.size) = (bytesN s).drop i := by
  unfold bytesN
  rw [← List.map_drop]
  congr 1
  simp [ByteArray.data_extract]
  exact List.take_of_length_le (by rw [List.length_drop]; exact Nat.le_refl _)
theorem bytesN_lt (s : ByteArray) : ∀ b ∈ bytesN s, b < 256 := by
  intro b hb
  simp only [bytesN, List.mem_map] at hb
  obtain ⟨x, _, rfl⟩ := hb
  exact x.toNat_lt
/-- the kind of a rune's tokens and their greatest number, by numbers -/
def letterV (r : Int) : Int × Int := if r = 120 then (1, 63) else if r = 102 then (2, 99) else if r = 80 then (3, 99) else (0, 0)
/-- what number answers of a list of bytes -/
def numR (l : List Nat) (most : Nat) : Nat × Nat := match numN (l.take (digsN l)) most with
  | some n => (n, digsN l)
  | none => (0, 0)
/-- p digits are through -/
structure NumI (w wr : World) (u : ByteArray) (most p : Nat) : Prop where
  le : p ≤ u.size
  it : wr.heap[w.heap.size]? = some (.stringIter u p)
  below : Below w.heap.size w wr
  dig : ∀ j (h : j < p) (h2 : j < (bytesN u).length), isDigN (bytesN u)[j] = true
theorem digs_take {u : ByteArray} {p : Nat} (h : ∀ j (h : j < p) (h2 : j < (bytesN u).length), isDigN (bytesN u)[j] = true) : ∀ d ∈ (bytesN u).take p, isDigN d = true := by
  intro d hd
  obtain ⟨j, hj, rfl⟩ := List.getElem_of_mem hd
  rw [List.getElem_take]
  exact h j (by simp at hj; omega) (by simp at hj; omega)
/-- the number's end: p digits there are -/
theorem num_end {u : ByteArray} {most p : Nat} (hm : most ≤ 99) (hp : digsN (bytesN u) = p) (h : ∀ j (h : j < p) (h2 : j < (bytesN u).length), isDigN (bytesN u)[j] = true) :
    numR (bytesN u) most = if most < capN most ((bytesN u).take p) ∨ 1 < p ∧ (bytesN u).head? = some 48 then (0, 0) else (capN most ((bytesN u).take p), p) := by
  have hle := digsN_le (bytesN u)
  have e := numN_cap most hm ((bytesN u).take p) (digs_take h)
  unfold numR
  rw [hp, e]
  have hl : ((bytesN u).take p).length = p := by simp; omega
  by_cases h0 : p = 0
  · subst h0
    simp [capN]
  · have hne : (bytesN u).take p ≠ [] := fun e => by rw [e] at hl; simp at hl; omega
    have hh : ((bytesN u).take p).head? = (bytesN u).head? := by
      cases hb : bytesN u with
      | nil => simp
      | cons a r => cases p with
        | zero => omega
        | succ p => simp
    rw [hl, hh]
    by_cases c : most < capN most ((bytesN u).take p) ∨ 1 < p ∧ (bytesN u).head? = some 48
    · rw [if_pos (Or.inr c), if_pos c]
    · rw [if_neg (fun x => x.elim hne c), if_neg c]
theorem head_get (u : ByteArray) (h : 0 < u.size) : (bytesN u).head? = some (u[0].toNat) := by
  have := bytesN_get u 0 h
  rw [List.head?_eq_getElem?, List.getElem?_eq_getElem (by rw [bytesN_len]; exact h), this]
theorem take_next (u : ByteArray) (p : Nat) (h : p < u.size) : (bytesN u).take (p + 1) = (bytesN u).take p ++ [u[p].toNat] := by
  rw [List.take_succ_eq_append_getElem (by rw [bytesN_len]; exact h), bytesN_get u p h]
theorem ret2_nats {a b c d : Nat} (h : a = c) (h' : b = d) : Ending.returned (.tuple #[.int .i64 (a : Int), .int .i64 (b : Int)]) = .returned (.tuple #[.int .i64 (c : Int), .int .i64 (d : Int)]) := by rw [h, h']
end Go.Proofs.Ytcjfaajceipenaa
