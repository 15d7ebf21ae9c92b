/- Decode of package expr, and the document's. -/
import Derived.Test.YtfleomamhkeiiaaE21
import Derived.Test.YtfleomamhkeiiaaE9
namespace Go.Proofs.Ytfleomamhkeiiaa
open Go.RowKit
def zeroT : Tr := .node 0 0 []
theorem heads_fit (t : Tr) : t.heads → t.fit := by
  induction t using Tr.ind with
  | h t ih =>
    intro h
    obtain ⟨h1, h2⟩ := (heads_eq t).1 h
    refine (fit_eq t).2 ⟨?_, fun q hq => ih q hq ((headsL_iff _).1 h2 q hq)⟩
    have := h1.2.2.2
    unfold Cap
    omega
/-- what Decode answers of bs: t and f -/
def DecR (bs : List Nat) (t : Tr) (f : Nat) : Prop :=
  match rdH bs 1000 1 0 with
  | .error f' => t = zeroT ∧ f = f'
  | .ok (hs, q) => (q < bs.length ∧ t = zeroT ∧ f = 23) ∨ (q = bs.length ∧ ∃ t0, t0.hds = hs ∧ t0.heads ∧ ((rightN t0 ≠ 0 ∧ t = zeroT ∧ f = rightN t0) ∨ (rightN t0 = 0 ∧ t = t0 ∧ f = 0)))
theorem DecR.unique {bs : List Nat} {t t' : Tr} {f f' : Nat} (h : DecR bs t f) (h' : DecR bs t' f') : t = t' ∧ f = f' := by
  unfold DecR at h h'
  cases hr : rdH bs 1000 1 0 with
  | error e =>
    rw [hr] at h h'
    exact ⟨h.1.trans h'.1.symm, h.2.trans h'.2.symm⟩
  | ok x =>
    obtain ⟨hs, q⟩ := x
    rw [hr] at h h'
    rcases h with ⟨a, b, c⟩ | ⟨a, t0, b, b', c⟩ <;> rcases h' with ⟨a', d, e⟩ | ⟨a', t1, d, d', e⟩
    · exact ⟨b.trans d.symm, c.trans e.symm⟩
    · omega
    · omega
    · obtain rfl : t0 = t1 := hds_inj _ _ (b.trans d.symm)
      rcases c with ⟨c1, c2, c3⟩ | ⟨c1, c2, c3⟩ <;> rcases e with ⟨e1, e2, e3⟩ | ⟨e1, e2, e3⟩
      · exact ⟨c2.trans e2.symm, c3.trans e3.symm⟩
      · exact absurd e1 c1
      · exact absurd c1 e1
      · exact ⟨c2.trans e2.symm, c3.trans e3.symm⟩
theorem zero_heads : zeroT.heads := (heads_eq zeroT).2 ⟨by unfold HeadOk zeroT; decide, by simp [zeroT, Tr.ks, headsL]⟩
theorem DecR.heads {bs : List Nat} {t : Tr} {f : Nat} (h : DecR bs t f) : t.heads := by
  unfold DecR at h
  cases hr : rdH bs 1000 1 0 with
  | error e => rw [hr] at h; rw [h.1]; exact zero_heads
  | ok x =>
    obtain ⟨hs, q⟩ := x
    rw [hr] at h
    rcases h with ⟨_, h, _⟩ | ⟨_, t0, _, h, ⟨_, e, _⟩ | ⟨_, e, _⟩⟩
    · rw [h]; exact zero_heads
    · rw [e]; exact zero_heads
    · rw [e]; exact h
/-- the tree that was read -/
theorem rdH_one {bs : List Nat} (hb : ∀ b ∈ bs, b < 256) {hs : List Hd} {q : Nat} (h : rdH bs 1000 1 0 = .ok (hs, q)) : ∃ t0 : Tr, t0.hds = hs ∧ t0.heads ∧ t0.sz ≤ 1000 ∧ q ≤ bs.length ∧ bs = t0.enc ++ bs.drop q := by
  obtain ⟨ts, e1, e2, e3, e4, e5⟩ := rdH_trees bs hb 1000 1 0 hs q h
  match ts, e1 with
  | [t0], _ =>
    obtain ⟨k1, k2⟩ := e5 (Nat.zero_le _)
    refine ⟨t0, by simpa [hdsL] using e2, e3.1, by simpa [szL] using e4, k1, by simpa [encL] using k2⟩
def DecPost (w : World) (bs : List Nat) (e : Ending) (w' : World) : Prop :=
  Below w.heap.size w w' ∧ ∃ t A' c' f, DecR bs t f ∧ OwnT w' w.heap.size w'.heap.size t A' c' ∧ e = .returned (.tuple #[.agg #[.int .i64 t.k, .int .i64 t.i, .slice A' t.ks.length c'], .int .i64 ((f : Nat) : Int)])
/-- the end with nothing: the box holds zero again -/
theorem dec_zero {w wr : World} {bs : List Nat} {f : Nat} (hd : DecR bs zeroT f) (hbr : Below w.heap.size w wr) :
    DecPost w bs (.returned (.tuple #[.agg #[.int .i64 0, .int .i64 0, .slice none 0 0], .int .i64 ((f : Nat) : Int)])) (((wr.setCell ⟨w.heap.size, 0, none⟩ (.int .i64 0)).setCell ⟨w.heap.size, 1, none⟩ (.int .i64 0)).setCell ⟨w.heap.size, 2, none⟩ (.slice none 0 0)) :=
  ⟨below_set3 hbr _ _ _ (Nat.le_refl _), zeroT, none, 0, f, hd, ownT_leaf _ _ _ (by have := hbr.size; simp; omega) _ rfl, rfl⟩
theorem dec_tree {w wr : World} {bs : List Nat} {t : Tr} {A : Option Addr} {c lo : Nat} (hd : DecR bs t 0) (hbr : Below w.heap.size w wr) (ho : OwnT wr lo wr.heap.size t A c) (hlo : w.heap.size < lo) :
    DecPost w bs (.returned (.tuple #[.agg #[.int .i64 t.k, .int .i64 t.i, .slice A t.ks.length c], .int .i64 0])) (((wr.setCell ⟨w.heap.size, 0, none⟩ (.int .i64 t.k)).setCell ⟨w.heap.size, 1, none⟩ (.int .i64 t.i)).setCell ⟨w.heap.size, 2, none⟩ (.slice A t.ks.length c)) := by
  refine ⟨below_set3 hbr _ _ _ (Nat.le_refl _), t, A, c, 0, hd, ?_, rfl⟩
  have hs : SameIn lo wr.heap.size wr (((wr.setCell ⟨w.heap.size, 0, none⟩ (.int .i64 t.k)).setCell ⟨w.heap.size, 1, none⟩ (.int .i64 t.i)).setCell ⟨w.heap.size, 2, none⟩ (.slice A t.ks.length c)) := same_set3 _ _ _ _ _ hlo
  have := (ho.same _ hs).lower (lo' := w.heap.size) (by omega)
  simpa using this
theorem hcells_get (hs : List Hd) : ∀ j (h : j < hs.length), (hcells hs)[j * 3]? = some (.int .i64 hs[j].k) ∧ (hcells hs)[j * 3 + 1]? = some (.int .i64 hs[j].i) ∧ (hcells hs)[j * 3 + 2]? = some (.int .i64 (hs[j].n : Int)) := by
  induction hs with
  | nil => intro j h; simp at h
  | cons x r ih =>
    intro j h
    have hc : hcells (x :: r) = [.int .i64 x.k, .int .i64 x.i, .int .i64 (x.n : Int)] ++ hcells r := by simp [hcells]
    rw [hc]
    match j, h with
    | 0, _ => simp
    | j + 1, h =>
      have := ih j (by simp at h; omega)
      refine ⟨?_, ?_, ?_⟩
      · rw [List.getElem?_append_right (by simp; omega), show (j + 1) * 3 - [Value.int .i64 x.k, .int .i64 x.i, .int .i64 (x.n : Int)].length = j * 3 by simp; omega]; simpa using this.1
      · rw [List.getElem?_append_right (by simp; omega), show (j + 1) * 3 + 1 - [Value.int .i64 x.k, .int .i64 x.i, .int .i64 (x.n : Int)].length = j * 3 + 1 by simp; omega]; simpa using this.2.1
      · rw [List.getElem?_append_right (by simp; omega), show (j + 1) * 3 + 2 - [Value.int .i64 x.k, .int .i64 x.i, .int .i64 (x.n : Int)].length = j * 3 + 2 by simp; omega]; simpa using this.2.2
end Go.Proofs.Ytfleomamhkeiiaa
