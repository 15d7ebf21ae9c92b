/- The laws ExprDecodes, ExprReads, ExprBack, walked. -/
import Derived.Test.YtdobpdedphkglaaE23
import Derived.Test.YtdobpdedphkglaaL2
import Derived.Test.YtdobpdedphkglaaL1
namespace Go.Proofs.Ytdobpdedphkglaa
open Go.RowKit
/-- what the shell tells of a slice of integers that came in -/
def IsRow (k : IntKind) (w : World) (a : Option Addr) (len cap : Nat) (zs : List Int) : Prop :=
  (a = none ∧ len = 0 ∧ cap = 0 ∧ zs = []) ∨ ∃ x, a = some x ∧ len ≤ cap ∧ cap ≤ maxLen ∧ zs.length = cap ∧ (∀ i, i < zs.length → w.cell? (x.add i) = some (.int k (zs.getD i 0))) ∧ ∀ n ∈ zs, (Lit.int k n).wf = true
theorem likeB_self (a : Tr) : likeB a a = true := by unfold likeB; exact decide_eq_true (cmpT_self a)
theorem OwnT.is {w w' : World} {t : Tr} {lo hi : Nat} {A : Option Addr} {c : Nat} (h : OwnT w lo hi t A c) (hf : t.fit) (hb : Below w.heap.size w w') (hh : hi ≤ w.heap.size) : IsT w' w'.heap.size t A c :=
  (h.isT _ hh hf).keep hb hb.size
theorem rdH_err_ne (bs : List Nat) : ∀ (r m p f : Nat), rdH bs r m p = .error f → f ≠ 0 := by
  intro r
  induction r with
  | zero =>
    intro m p f h
    cases m with
    | zero => rw [rdH_zero] at h; cases h
    | succ m => rw [rdH_full] at h; cases h; decide
  | succ r ih =>
    intro m p f h
    cases m with
    | zero => rw [rdH_zero] at h; cases h
    | succ m =>
      by_cases he : (getN (bs.drop p)).err = 0
      · by_cases h1 : 4294967295 < (getN (bs.drop p)).val
        · rw [rdH_big _ _ _ _ he h1] at h; cases h; decide
        · rw [rdH_more _ _ _ _ he h1] at h
          cases hr : rdH bs r (m + (getN (bs.drop p)).val % 256) (p + (getN (bs.drop p)).len) with
          | error e => rw [hr] at h; cases h; exact ih _ _ _ hr
          | ok x => rw [hr] at h; cases h
      · rw [rdH_err _ _ _ _ he] at h; cases h; exact he
theorem DecR.ok {bs : List Nat} {t : Tr} (hb : ∀ b ∈ bs, b < 256) (h : DecR bs t 0) : rightN t = 0 ∧ t.enc = bs := by
  unfold DecR at h
  cases hr : rdH bs 1000 1 0 with
  | error e => rw [hr] at h; exact absurd h.2.symm (rdH_err_ne bs _ _ _ _ hr)
  | ok x =>
    obtain ⟨hs, q⟩ := x
    rw [hr] at h
    obtain ⟨t1, h1, _, _, _, h5⟩ := rdH_one hb hr
    rcases h with ⟨_, _, h⟩ | ⟨hq, t0, ht, _, ⟨h2, _, h3⟩ | ⟨h2, h3, _⟩⟩
    · cases h
    · exact absurd h3.symm h2
    · obtain rfl : t0 = t1 := hds_inj _ _ (ht.trans h1.symm)
      rw [h3]
      refine ⟨h2, ?_⟩
      rw [hq, List.drop_length, List.append_nil] at h5
      exact h5.symm
end Go.Proofs.Ytdobpdedphkglaa
