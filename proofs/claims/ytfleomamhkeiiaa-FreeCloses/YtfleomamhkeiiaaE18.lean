/- readHeads of package expr. -/
import Derived.Test.YtfleomamhkeiiaaE13
import Derived.Test.YtfleomamhkeiiaaT5
namespace Go.Proofs.Ytfleomamhkeiiaa
open Go.RowKit
def hcells (l : List Hd) : List Value := l.flatMap fun h => [.int .i64 h.k, .int .i64 h.i, .int .i64 (h.n : Int)]
theorem hcells_app (l m : List Hd) : hcells (l ++ m) = hcells l ++ hcells m := by simp [hcells]
theorem hcells_len (l : List Hd) : (hcells l).length = l.length * 3 := by
  induction l with
  | nil => rfl
  | cons x r ih => rw [show x :: r = [x] ++ r from rfl, hcells_app, List.length_append, ih]; simp [hcells]; omega
def vlen : Value → Nat
  | .slice _ n _ => n
  | _ => 0
/-- hs have been read, m are asked for -/
def RdInv (bs : List Nat) (hs : List Hd) (m p : Nat) : Prop :=
  rdH bs 1000 1 0 = match rdH bs (1000 - hs.length) m p with
    | .error e => .error e
    | .ok (hs', q) => .ok (hs ++ hs', q)
theorem RdInv.step {bs : List Nat} {hs : List Hd} {m p : Nat} (h : RdInv bs hs (m + 1) p) (hl : hs.length < 1000) (he : (getN (bs.drop p)).err = 0) (hv : ¬ 4294967295 < (getN (bs.drop p)).val) :
    RdInv bs (hs ++ [hdOf (getN (bs.drop p)).val]) (m + (getN (bs.drop p)).val % 256) (p + (getN (bs.drop p)).len) := by
  unfold RdInv at *
  rw [h, show 1000 - hs.length = (1000 - (hs ++ [hdOf (getN (bs.drop p)).val]).length) + 1 by simp; omega, rdH_more _ _ _ _ he hv]
  cases rdH bs (1000 - (hs ++ [hdOf (getN (bs.drop p)).val]).length) (m + (getN (bs.drop p)).val % 256) (p + (getN (bs.drop p)).len) with
  | error e => rfl
  | ok x =>
    obtain ⟨a, b⟩ := x
    simp
theorem RdInv.err {bs : List Nat} {hs : List Hd} {m p : Nat} (h : RdInv bs hs (m + 1) p) (hl : hs.length < 1000) (he : (getN (bs.drop p)).err ≠ 0) : rdH bs 1000 1 0 = .error (getN (bs.drop p)).err := by
  unfold RdInv at h
  rw [h, show 1000 - hs.length = (1000 - (hs.length + 1)) + 1 by omega, rdH_err _ _ _ _ he]
theorem RdInv.big {bs : List Nat} {hs : List Hd} {m p : Nat} (h : RdInv bs hs (m + 1) p) (hl : hs.length < 1000) (he : (getN (bs.drop p)).err = 0) (hv : 4294967295 < (getN (bs.drop p)).val) : rdH bs 1000 1 0 = .error 11 := by
  unfold RdInv at h
  rw [h, show 1000 - hs.length = (1000 - (hs.length + 1)) + 1 by omega, rdH_big _ _ _ _ he hv]
theorem addr_add_add (a : Addr) (p j : Nat) : (a.add p).add j = a.add (p + j) := by
  unfold Addr.add
  by_cases h : p = 0
  · subst h; simp
  · by_cases h2 : j = 0
    · subst h2; simp [h]
    · simp [h, h2, Nat.add_assoc]
theorem Rd.drop {w : World} {B : Nat} {A : Option Addr} {bs : List Nat} (h : Rd .u8 w B A (bcast bs)) (p : Nat) : Rd .u8 w B (A.map fun x => x.add p) (bcast (bs.drop p)) := fun j hj => by
  rw [bcast_len, List.length_drop] at hj
  obtain ⟨ad, rfl, hlt, hc⟩ := h (p + j) (by rw [bcast_len]; omega)
  refine ⟨ad.add p, rfl, by rw [add_block]; exact hlt, ?_⟩
  rw [addr_add_add, hc, bcast_get, bcast_get]
  congr 2
  simp [List.getD_eq_getElem?_getD, List.getElem?_drop]
theorem Rd.none {w : World} {B : Nat} {bs : List Nat} (A : Option Addr) (h : bs.length = 0) : Rd .u8 w B A (bcast bs) := fun j hj => by rw [bcast_len] at hj; omega
theorem new3 (w : World) (x y z : Value) (t : TypeId) (j : Nat) (u : Value) (h : [x, y, z][j]? = some u) : (w.alloc (.cells #[x, y, z] t)).cell? ((⟨w.heap.size, 0, none⟩ : Addr).add j) = some u := by
  have e : (w.alloc (.cells #[x, y, z] t)).heap[w.heap.size]? = some (.cells #[x, y, z] t (0, 0)) := World.alloc_heap_new w _
  rw [addr_add0]
  unfold World.cell?
  rw [e]
  simpa using h
theorem own_head {w : World} {B : Nat} {e : TypeId} {size : Nat} {v : Value} {n : Nat} {xs : List Value} (h : w.ownsRow B e size v n xs) (hn : 0 < n) : ∃ g cap, v = .slice (some ⟨g, 0, none⟩) n cap := by
  rcases h.2 with ⟨_, e⟩ | ⟨g, cap, cur, rfl, _⟩
  · omega
  · exact ⟨g, cap, rfl⟩
end Go.Proofs.Ytfleomamhkeiiaa
