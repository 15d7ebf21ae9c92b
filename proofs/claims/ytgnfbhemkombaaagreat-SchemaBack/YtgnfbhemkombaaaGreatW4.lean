/- Mix and Digest of package word, and the document's Differ, Mix and Digest; a slice that came in, or was made, reads as a list of numbers. -/
import Derived.Test.YtgnfbhemkombaaaGreatW3
import Derived.OpenShut
namespace Go.Proofs.YtgnfbhemkombaaaGreat
open Go.RowKit
/-! ### a slice of integers that reads as a list, nil let in -/
theorem add_block (a : Addr) (n : Nat) : (a.add n).block = a.block := by unfold Addr.add; split <;> rfl
def Rd (k : IntKind) (w : World) (B : Nat) (A : Option Addr) (zs : List Int) : Prop :=
  ∀ j, j < zs.length → ∃ ad, A = some ad ∧ ad.block < B ∧ w.cell? (ad.add j) = some (.int k (zs.getD j 0))
theorem Rd.keep {k : IntKind} {w w' : World} {B B' : Nat} {A : Option Addr} {zs : List Int} (h : Rd k w B A zs) (hb : Below B' w w') (hB : B ≤ B') : Rd k w' B' A zs := fun j hj => by
  obtain ⟨ad, e, hlt, hc⟩ := h j hj
  exact ⟨ad, e, by omega, (hb.cell (by rw [add_block]; omega)).trans hc⟩
theorem Rd.nil (k : IntKind) (w : World) (B : Nat) (A : Option Addr) : Rd k w B A [] := fun j hj => absurd hj (by simp)
theorem Rd.take {k : IntKind} {w : World} {B : Nat} {A : Option Addr} {zs : List Int} (h : Rd k w B A zs) (n : Nat) : Rd k w B A (zs.take n) := fun j hj => by
  have hj' : j < zs.length ∧ j < n := by simp at hj; omega
  obtain ⟨ad, e, hlt, hc⟩ := h j hj'.1
  exact ⟨ad, e, hlt, by rw [hc]; congr 2; simp [List.getD, hj'.2]⟩
def bcast (bs : List Nat) : List Int := bs.map fun (b : Nat) => (b : Int)
theorem bcast_len (bs : List Nat) : (bcast bs).length = bs.length := by simp [bcast]
theorem bcast_get (bs : List Nat) (j : Nat) : (bcast bs).getD j 0 = ((bs.getD j 0 : Nat) : Int) := by
  unfold bcast
  simp only [List.getD_eq_getElem?_getD, List.getElem?_map]
  cases bs[j]? <;> rfl
theorem Rd.byte {w : World} {B : Nat} {A : Option Addr} {bs : List Nat} (h : Rd .u8 w B A (bcast bs)) (j : Nat) (hj : j < bs.length) :
    ∃ ad, A = some ad ∧ w.cell? (ad.add j) = some (.int .u8 ((bs.getD j 0 : Nat) : Int)) := by
  obtain ⟨ad, e, _, hc⟩ := h j (by rw [bcast_len]; exact hj)
  exact ⟨ad, e, by rw [hc, bcast_get]⟩
def Bytes (bs : List Nat) : Prop := ∀ b ∈ bs, b < 256
theorem Bytes.get {bs : List Nat} (h : Bytes bs) (j : Nat) : bs.getD j 0 < 256 := by
  rw [List.getD_eq_getElem?_getD]
  cases e : bs[j]? with
  | none => decide
  | some b => exact h b (List.mem_of_getElem? e)
/-- what the guide's shell tells of a slice of bytes that came in, in these words -/
theorem rd_of_row {w : World} {a : Option Addr} {len cap : Nat} {zs : List Int}
    (h : (a = none ∧ len = 0 ∧ cap = 0 ∧ zs = []) ∨ ∃ x, a = some x ∧ len ≤ cap ∧ cap ≤ maxLen ∧ zs.length = cap ∧ (∀ i, i < zs.length → w.cell? (x.add i) = some (.int .u8 (zs.getD i 0))) ∧ ∀ n ∈ zs, (Lit.int .u8 n).wf = true) :
    ∃ bs : List Nat, bs.length = len ∧ Bytes bs ∧ Rd .u8 w w.heap.size a (bcast bs) ∧ len ≤ cap ∧ len ≤ maxLen := by
  rcases h with ⟨rfl, rfl, rfl, rfl⟩ | ⟨x, rfl, hl, hm, hz, hc, hw⟩
  · exact ⟨[], rfl, fun b hb => absurd hb (by simp), Rd.nil _ _ _ _, Nat.le_refl _, by unfold maxLen; omega⟩
  · have hb : ∀ n ∈ zs, 0 ≤ n ∧ n ≤ 255 := fun n hn => bounds_u8 (hw n hn)
    have e : bcast (zs.map Int.toNat) = zs := by
      unfold bcast
      rw [List.map_map]
      conv => rhs; rw [← List.map_id zs]
      exact List.map_congr_left fun n hn => by have := hb n hn; simp; omega
    refine ⟨(zs.map Int.toNat).take len, by simp; omega, fun b hb' => ?_, ?_, hl, by omega⟩
    · have := List.mem_of_mem_take hb'
      simp at this
      obtain ⟨n, hn, rfl⟩ := this
      have := hb n hn
      omega
    · have e2 : bcast ((zs.map Int.toNat).take len) = zs.take len := by
        have := congrArg (List.take len) e
        unfold bcast at *
        rw [List.map_take]
        exact this
      rw [e2]
      refine Rd.take (fun j hj => ⟨x, rfl, ?_, hc j hj⟩) len
      have := block_lt_of_cell (hc j hj)
      rwa [add_block] at this
/-! ### Mix -/
def mixF : Nat := 11400714819323198485
def mulN (t : Nat) : Nat := t * mixF % 2 ^ 64
def mixN (h x : Nat) : Nat := mulN (turnN (h ^^^ x) 27) ^^^ mulN (turnN (h ^^^ x) 27) / 2147483648
theorem mulN_U (t : Nat) : U64 (mulN t) := Nat.mod_lt _ (Nat.two_pow_pos 64)
theorem xor_U (a b : Nat) (ha : U64 a) (hb : U64 b) : U64 (a ^^^ b) := Nat.xor_lt_two_pow ha hb
theorem div_U (a n : Nat) (ha : U64 a) : U64 (a / n) := Nat.lt_of_le_of_lt (Nat.div_le_self _ _) ha
theorem mixN_U (h x : Nat) : U64 (mixN h x) := xor_U _ _ (mulN_U _) (div_U _ _ (mulN_U _))
theorem mul_walk (t : Nat) : IntKind.u64.wrap ((t : Int) * 11400714819323198485) = ((mulN t : Nat) : Int) := by
  rw [IntKind.wrap_u64]; unfold mulN mixF; omega
theorem shr_walk (v : Nat) (h : U64 v) : bits .xor .u64 (v : Int) ((v : Int) / 2147483648) = ((v ^^^ v / 2147483648 : Nat) : Int) := by
  rw [show ((v : Int) / 2147483648) = ((v / 2147483648 : Nat) : Int) from by omega, xor64 _ _ h (div_U _ _ h)]
theorem mix_walk (h x : Nat) : bits .xor .u64 (IntKind.u64.wrap (((turnN (h ^^^ x) 27 : Nat) : Int) * 11400714819323198485)) (IntKind.u64.wrap (((turnN (h ^^^ x) 27 : Nat) : Int) * 11400714819323198485) / 2147483648) = ((mixN h x : Nat) : Int) := by
  rw [mul_walk, shr_walk _ (mulN_U _), mixN]
/-! ### Differ -/
theorem differ_yes (x k : Nat) (hk : k < 64) (h : x.testBit k = true) : IntKind.u64.wrap (((x % 2 ^ k : Nat) : Int) + ((powN k : Nat) : Int)) = ((x % 2 ^ (k + 1) : Nat) : Int) := by
  rw [mod_step x k, h]
  have e : x % 2 ^ k + 2 ^ k * true.toNat = x % 2 ^ k + powN k := by unfold powN; simp
  have b : x % 2 ^ k < 2 ^ k := Nat.mod_lt _ (Nat.two_pow_pos k)
  have c : 2 ^ (k + 1) ≤ 2 ^ 64 := Nat.pow_le_pow_right (by decide) (by omega)
  have d : 2 ^ (k + 1) = 2 ^ k * 2 := Nat.pow_succ 2 k
  rw [e, ← Int.natCast_add]
  exact wrapu64_nat _ (by unfold powN; omega)
theorem differ_no (x k : Nat) (h : x.testBit k = false) : x % 2 ^ (k + 1) = x % 2 ^ k := by rw [mod_step x k, h]; simp
def modN (x k : Nat) : Nat := x % 2 ^ k
end Go.Proofs.YtgnfbhemkombaaaGreat
