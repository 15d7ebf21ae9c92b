/- Put of a valid expression, with room or without; the law InternFull, walked. -/
import Derived.Test.YtmmdhlemkcddmaaI17
import Derived.Test.YtmmdhlemkcddmaaI11
import Derived.Test.YtmmdhlemkcddmaaI21
namespace Go.Proofs.Ytmmdhlemkcddmaa
open Go.RowKit
set_option linter.unusedVariables false
set_option linter.unusedSimpArgs false
def errP (n : Nat) : Int := if n = 0 then 60 else 0
def putL (room : Nat) (t : Tr) (L : List Tr) : List Tr := if addN room t L = 0 then L else addX room t L
theorem put_right {w : World} {tl lo P M room : Nat} {L : List Tr} {A : Option Addr} {c : Nat} (hlo : tl ≤ lo) (htl : tl ≤ w.heap.size) (h : Tab w lo P M room L A c) (t : Tr) (At : Option Addr) (ct : Nat) (ht : IsT w tl t At ct) (hr : rightN t = 0) :
    Calls Try.prog 20 #[.pointer (some ⟨P, 0, none⟩), .agg #[.int .i64 t.k, .int .i64 t.i, .slice At t.ks.length ct]] w fun e w' => e = .returned (.tuple #[.int .i64 (addN room t L : Int), .int .i64 (errP (addN room t L))]) ∧ ∃ A' c', Aft tl lo P M room w w' A (putL room t L) A' c' := by
  by_cases hn : addN room t L = 0
  · unfold errP putL
    rw [hn, if_pos rfl, if_pos rfl]
    exact put_full hlo htl h t At ct ht hr hn
  · unfold errP putL
    rw [if_neg hn, if_neg hn]
    exact put_ok hlo htl h t At ct ht hr hn
theorem distL_spec (l : List Tr) : (distL l).Nodup ∧ ∀ u, u ∈ distL l ↔ ∃ t ∈ l, u ∈ partsT t := by
  obtain ⟨h1, h2⟩ := uniq_spec (l.flatMap partsT) [] List.nodup_nil
  refine ⟨h1, fun u => ?_⟩
  unfold distL
  rw [h2]
  simp
/-- what the law asks, as mathematics -/
theorem full_math {room : Nat} {a b : Tr} (ha : rightN a = 0) (hb : rightN b = 0) :
    (addN room a [] = 0 ↔ ¬ (distL [a]).length ≤ room) ∧
    (addN room b (putL room a []) = 0 ↔ ¬ (if addN room a [] = 0 then (distL [b]).length else (distL [a, b]).length) ≤ room) ∧
    (addN room b (putL room a []) ≠ 0 → (putL room b (putL room a [])).length = (if addN room a [] = 0 then (distL [b]).length else (distL [a, b]).length)) ∧
    (∀ u, u ∈ putL room a [] → u ∈ partsT a) ∧ Ok (putL room a []) ∧ (putL room a []).length ≤ room := by
  obtain ⟨d1, d2⟩ := distL_spec [a]
  obtain ⟨r1, r2⟩ := add_room (t := a) (room := room) (L := []) Ok.nil (Nat.zero_le _) ha (distL [a]) d1 (fun u => by rw [d2]; simp)
  obtain ⟨hA, _⟩ := added a room [] Ok.nil (Nat.zero_le _) ha
  obtain ⟨m1, m2, _⟩ := add_mem a room [] Ok.nil (Nat.zero_le _) ha
  have hOk : Ok (putL room a []) ∧ (putL room a []).length ≤ room ∧ (∀ u, u ∈ putL room a [] → u ∈ partsT a) := by
    unfold putL
    split
    · exact ⟨Ok.nil, Nat.zero_le _, by simp⟩
    · exact ⟨hA.ok, hA.le, fun u hu => (m1 u hu).elim (by simp) id⟩
  have h0 : addN room a [] = 0 ↔ ¬ (distL [a]).length ≤ room := by
    constructor
    · intro e h; exact (r1.2 h) e
    · intro h; exact Classical.byContradiction fun e => h (r1.1 e)
  refine ⟨h0, ?_, ?_, hOk.2.2, hOk.1, hOk.2.1⟩
  · have hU : ∃ U : List Tr, U.Nodup ∧ (∀ u, u ∈ U ↔ u ∈ putL room a [] ∨ u ∈ partsT b) ∧ U.length = (if addN room a [] = 0 then (distL [b]).length else (distL [a, b]).length) := by
      by_cases e : addN room a [] = 0
      · obtain ⟨e1, e2⟩ := distL_spec [b]
        exact ⟨distL [b], e1, fun u => by rw [e2]; simp [putL, e], by rw [if_pos e]⟩
      · obtain ⟨e1, e2⟩ := distL_spec [a, b]
        refine ⟨distL [a, b], e1, fun u => ?_, by rw [if_neg e]⟩
        rw [e2]
        have : u ∈ putL room a [] ↔ u ∈ partsT a := ⟨hOk.2.2 u, fun h => by unfold putL; rw [if_neg e]; exact m2 e u (.inr h)⟩
        simp [this]
    obtain ⟨U, u1, u2, u3⟩ := hU
    obtain ⟨s1, s2⟩ := add_room (t := b) hOk.1 hOk.2.1 hb U u1 u2
    rw [← u3]
    constructor
    · intro e h; exact (s1.2 h) e
    · intro h; exact Classical.byContradiction fun e => h (s1.1 e)
  · intro hne
    have hU : ∃ U : List Tr, U.Nodup ∧ (∀ u, u ∈ U ↔ u ∈ putL room a [] ∨ u ∈ partsT b) ∧ U.length = (if addN room a [] = 0 then (distL [b]).length else (distL [a, b]).length) := by
      by_cases e : addN room a [] = 0
      · obtain ⟨e1, e2⟩ := distL_spec [b]
        exact ⟨distL [b], e1, fun u => by rw [e2]; simp [putL, e], by rw [if_pos e]⟩
      · obtain ⟨e1, e2⟩ := distL_spec [a, b]
        refine ⟨distL [a, b], e1, fun u => ?_, by rw [if_neg e]⟩
        rw [e2]
        have : u ∈ putL room a [] ↔ u ∈ partsT a := ⟨hOk.2.2 u, fun h => by unfold putL; rw [if_neg e]; exact m2 e u (.inr h)⟩
        simp [this]
    obtain ⟨U, u1, u2, u3⟩ := hU
    obtain ⟨s1, s2⟩ := add_room (t := b) hOk.1 hOk.2.1 hb U u1 u2
    rw [← u3]
    have : putL room b (putL room a []) = addX room b (putL room a []) := if_neg hne
    rw [this]
    exact s2 hne
end Go.Proofs.Ytmmdhlemkcddmaa
