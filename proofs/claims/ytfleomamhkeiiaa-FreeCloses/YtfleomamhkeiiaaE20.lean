/- The document's read. -/
import Derived.Test.YtfleomamhkeiiaaE19
import Derived.Test.YtfleomamhkeiiaaLY
namespace Go.Proofs.Ytfleomamhkeiiaa
open Go.RowKit
theorem rdH_bounds {bs : List Nat} (hb : ∀ b ∈ bs, b < 256) {r m p : Nat} {hs : List Hd} {q : Nat} (h : rdH bs r m p = .ok (hs, q)) (hp : p ≤ bs.length) : q ≤ bs.length ∧ hs.length ≤ r := by
  obtain ⟨ts, _, e2, _, e4, e5⟩ := rdH_trees bs hb r m p hs q h
  refine ⟨(e5 hp).1, ?_⟩
  rw [← e2, hdsL_len]
  exact e4
/-- what read answers, r being how many heads may still come, nn how many came -/
def ReadPost (w : World) (bs : List Nat) (r p nn : Nat) (e : Ending) (w' : World) : Prop :=
  Below w.heap.size w w' ∧ match rdH bs r 1 p with
    | .error f => f ≠ 0 ∧ ∃ a m : Nat, e = .returned (.tuple #[.agg #[.int .i64 0, .int .i64 0, .slice none 0 0], .int .i64 (a : Int), .int .i64 (m : Int), .int .i64 (f : Int)])
    | .ok (hs, q) => ∃ t A' c', t.hds = hs ∧ OwnT w' w.heap.size w'.heap.size t A' c' ∧ e = .returned (.tuple #[.agg #[.int .i64 t.k, .int .i64 t.i, .slice A' t.ks.length c'], .int .i64 (q : Int), .int .i64 ((nn + hs.length : Nat) : Int), .int .i64 0])
/-- kids ts have been read; z are asked for -/
def KInv (bs : List Nat) (r z p1 : Nat) (ts : List Tr) (p : Nat) : Prop :=
  rdH bs r z p1 = match rdH bs (r - (hdsL ts).length) (z - ts.length) p with
    | .error e => .error e
    | .ok (hs', q) => .ok (hdsL ts ++ hs', q)
theorem KInv.start (bs : List Nat) (r z p1 : Nat) : KInv bs r z p1 [] p1 := by
  unfold KInv
  simp only [hdsL, List.length_nil, Nat.sub_zero, List.nil_append]
  cases rdH bs r z p1 with
  | error e => rfl
  | ok x => rfl
theorem KInv.err {bs : List Nat} {r z p1 : Nat} {ts : List Tr} {p f : Nat} (h : KInv bs r z p1 ts p) (hz : ts.length < z) (he : rdH bs (r - (hdsL ts).length) 1 p = .error f) : rdH bs r z p1 = .error f := by
  unfold KInv at h
  rw [h, show z - ts.length = 1 + (z - ts.length - 1) by omega, rdH_split, he]
theorem KInv.step {bs : List Nat} {r z p1 : Nat} {ts : List Tr} {p q : Nat} {t : Tr} (h : KInv bs r z p1 ts p) (hz : ts.length < z) (he : rdH bs (r - (hdsL ts).length) 1 p = .ok (t.hds, q)) : KInv bs r z p1 (ts ++ [t]) q := by
  unfold KInv at *
  rw [h, show z - ts.length = 1 + (z - (ts ++ [t]).length) by simp; omega, rdH_split, he]
  have e : hdsL (ts ++ [t]) = hdsL ts ++ t.hds := by rw [hdsL_append]; simp [hdsL]
  simp only [e, List.length_append, Nat.sub_sub]
  cases rdH bs (r - ((hdsL ts).length + t.hds.length)) (z - (ts.length + [t].length)) q with
  | error e => rfl
  | ok x => obtain ⟨a, b⟩ := x; simp
theorem KInv.done {bs : List Nat} {r z p1 : Nat} {ts : List Tr} {p : Nat} (h : KInv bs r z p1 ts p) (hz : ts.length = z) : rdH bs r z p1 = .ok (hdsL ts, p) := by
  unfold KInv at h
  rw [h, hz, Nat.sub_self, rdH_zero]
  simp
end Go.Proofs.Ytfleomamhkeiiaa
