/- How many unlike parts there are, and whether there is room for them: plain mathematics. -/
import Derived.Test.YtjdhmfpkhijkeaaI2
namespace Go.Proofs.Ytjdhmfpkhijkeaa
set_option linter.unusedVariables false
set_option linter.unusedSimpArgs false
mutual
/-- a tree and all of its parts -/
def partsT : Tr → List Tr
  | .node k i ks => .node k i ks :: partsL ks
def partsL : List Tr → List Tr
  | [] => []
  | t :: r => partsT t ++ partsL r
end
theorem partsT_eq (t : Tr) : partsT t = t :: partsL t.ks := by cases t; simp [partsT, Tr.ks]
theorem partsL_mem : ∀ (l : List Tr) (u : Tr), u ∈ partsL l ↔ ∃ q ∈ l, u ∈ partsT q
  | [], u => by simp [partsL]
  | t :: r, u => by simp only [partsL, List.mem_append, partsL_mem r u]; simp
theorem partsT_mem (t u : Tr) : u ∈ partsT t ↔ u = t ∨ ∃ q ∈ t.ks, u ∈ partsT q := by rw [partsT_eq, List.mem_cons, partsL_mem]
theorem parts_closed {L : List Tr} (ho : Ok L) : ∀ (t : Tr), t ∈ L → ∀ u ∈ partsT t, u ∈ L := by
  intro t
  induction t using Tr.ind with
  | h t ih =>
    intro ht u hu
    rcases (partsT_mem t u).1 hu with rfl | ⟨q, hq, h⟩
    · exact ht
    · exact ih q hq (ho.kid ht hq) u h
/-- what is added: the parts, all of them if there is room -/
theorem add_mem : ∀ (t : Tr) (room : Nat) (L : List Tr), Ok L → L.length ≤ room → rightN t = 0 →
    (∀ u ∈ (addT room t L).1, u ∈ L ∨ u ∈ partsT t) ∧ ((addT room t L).2 ≠ 0 → ∀ u, u ∈ L ∨ u ∈ partsT t → u ∈ (addT room t L).1) ∧ ((addT room t L).2 = 0 → ∃ u ∈ partsT t, u ∉ (addT room t L).1) := by
  intro t
  induction t using Tr.ind with
  | h t ih =>
    intro room L hL hle hr
    have hk : ∀ (ks : List Tr) (L : List Tr), (∀ q ∈ ks, q ∈ t.ks) → Ok L → L.length ≤ room →
        (∀ u ∈ (addK room ks L).1, u ∈ L ∨ u ∈ partsL ks) ∧ ((addK room ks L).2 = true → ∀ u, u ∈ L ∨ u ∈ partsL ks → u ∈ (addK room ks L).1) ∧ ((addK room ks L).2 = false → ∃ u ∈ partsL ks, u ∉ (addK room ks L).1) := by
      intro ks
      induction ks with
      | nil => intro L _ _ _; simp only [addK, partsL]; exact ⟨fun u hu => .inl hu, fun _ u hu => hu.elim id (fun h => by simp at h), by simp⟩
      | cons q r ihr =>
        intro L hs h1 h2
        obtain ⟨a1, a2, a3⟩ := ih q (hs q (by simp)) room L h1 h2 (right_kid hr (hs q (by simp)))
        obtain ⟨hq, _⟩ := added q room L h1 h2 (right_kid hr (hs q (by simp)))
        rw [addK]
        by_cases h0 : (addT room q L).2 = 0
        · rw [if_pos h0]
          refine ⟨fun u hu => ?_, by simp, fun _ => ?_⟩
          · rcases a1 u hu with h | h
            · exact .inl h
            · exact .inr (by simp [partsL, h])
          · obtain ⟨u, hu, hn⟩ := a3 h0
            exact ⟨u, by simp [partsL, hu], hn⟩
        · rw [if_neg h0]
          obtain ⟨b1, b2, b3⟩ := ihr (addT room q L).1 (fun x hx => hs x (by simp [hx])) hq.ok hq.le
          refine ⟨fun u hu => ?_, fun ht u hu => ?_, fun hf => ?_⟩
          · rcases b1 u hu with h | h
            · rcases a1 u h with h | h
              · exact .inl h
              · exact .inr (by simp [partsL, h])
            · exact .inr (by simp [partsL, h])
          · simp only [partsL, List.mem_append] at hu
            rcases hu with h | h | h
            · exact b2 ht u (.inl (a2 h0 u (.inl h)))
            · exact b2 ht u (.inl (a2 h0 u (.inr h)))
            · exact b2 ht u (.inr h)
          · obtain ⟨u, hu, hn⟩ := b3 hf
            exact ⟨u, by simp [partsL, hu], hn⟩
    obtain ⟨k1, k2, k3⟩ := hk t.ks L (fun _ h => h) hL hle
    obtain ⟨f1, f2, f3, f4, f5, f6⟩ := nodK_add room t.ks L hL hle (fun q hq => right_kid hr hq)
    rw [addT_eq, partsT_eq]
    by_cases h0 : (addK room t.ks L).2 = false
    · rw [if_pos h0]
      refine ⟨fun u hu => (k1 u hu).imp id (fun h => by simp [h]), by simp, fun _ => ?_⟩
      obtain ⟨u, hu, hn⟩ := k3 h0
      exact ⟨u, by simp [hu], hn⟩
    · rw [if_neg h0]
      have h0' : (addK room t.ks L).2 = true := by simpa using h0
      by_cases h1 : num (addK room t.ks L).1 t ≠ 0
      · rw [if_pos h1]
        refine ⟨fun u hu => (k1 u hu).imp id (fun h => by simp [h]), fun _ u hu => ?_, fun e => absurd e h1⟩
        rcases hu with h | h
        · exact k2 h0' u (.inl h)
        · rcases List.mem_cons.1 h with rfl | h
          · exact num_mem.1 h1
          · exact k2 h0' u (.inr h)
      · rw [if_neg h1]
        have hnot := num_zero.1 (by simpa using h1)
        by_cases h2 : (addK room t.ks L).1.length = room
        · rw [if_pos h2]
          exact ⟨fun u hu => (k1 u hu).imp id (fun h => by simp [h]), by simp, fun _ => ⟨t, by simp, hnot⟩⟩
        · rw [if_neg h2]
          refine ⟨fun u hu => ?_, fun _ u hu => ?_, by simp⟩
          · rcases List.mem_append.1 hu with h | h
            · exact (k1 u h).imp id (fun h => by simp [h])
            · simp at h; exact .inr (by simp [h])
          · rcases hu with h | h
            · exact List.mem_append_left _ (k2 h0' u (.inl h))
            · rcases List.mem_cons.1 h with rfl | h
              · simp
              · exact List.mem_append_left _ (k2 h0' u (.inr h))
theorem nodup_le {α : Type} [DecidableEq α] : ∀ (a b : List α), a.Nodup → (∀ x ∈ a, x ∈ b) → a.length ≤ b.length
  | [], b, _, _ => by simp
  | x :: a, b, hn, hs => by
    have hx := hs x (by simp)
    have h1 := nodup_le a (b.erase x) (List.nodup_cons.1 hn).2 (fun y hy => (List.mem_erase_of_ne (fun e : y = x => (List.nodup_cons.1 hn).1 (by rw [← e]; exact hy))).2 (hs y (by simp [hy])))
    have h2 := List.length_erase_of_mem hx
    have h3 := List.length_pos_of_mem hx
    simp only [List.length_cons]
    omega
/-- the unlike ones of a list, each where it stands first -/
def uniq (all : List Tr) : List Tr → List Tr
  | [] => all
  | k :: r => if k ∈ all then uniq all r else uniq (all ++ [k]) r
theorem uniq_spec : ∀ (l all : List Tr), all.Nodup → (uniq all l).Nodup ∧ ∀ u, u ∈ uniq all l ↔ u ∈ all ∨ u ∈ l
  | [], all, h => ⟨h, fun u => by simp [uniq]⟩
  | k :: r, all, h => by
    rw [uniq]
    by_cases hk : k ∈ all
    · rw [if_pos hk]
      obtain ⟨h1, h2⟩ := uniq_spec r all h
      refine ⟨h1, fun u => ?_⟩
      rw [h2]
      constructor
      · rintro (h | h)
        · exact .inl h
        · exact .inr (by simp [h])
      · rintro (h | h)
        · exact .inl h
        · rcases List.mem_cons.1 h with rfl | h
          · exact .inl hk
          · exact .inr h
    · rw [if_neg hk]
      have hn : (all ++ [k]).Nodup := by
        rw [List.nodup_append]
        exact ⟨h, by simp, fun a ha b hb e => by simp at hb; subst hb; subst e; exact hk ha⟩
      obtain ⟨h1, h2⟩ := uniq_spec r (all ++ [k]) hn
      refine ⟨h1, fun u => ?_⟩
      rw [h2]
      simp [or_assoc]
/-- there is room just if the unlike parts are no more than it; then there are as many entries -/
theorem add_room {t : Tr} {room : Nat} {L : List Tr} (hL : Ok L) (hle : L.length ≤ room) (hr : rightN t = 0) (U : List Tr) (hU : U.Nodup) (hm : ∀ u, u ∈ U ↔ u ∈ L ∨ u ∈ partsT t) :
    ((addT room t L).2 ≠ 0 ↔ U.length ≤ room) ∧ ((addT room t L).2 ≠ 0 → (addT room t L).1.length = U.length) := by
  obtain ⟨a1, a2, a3⟩ := add_mem t room L hL hle hr
  obtain ⟨hA, _⟩ := added t room L hL hle hr
  have up : (addT room t L).1.length ≤ U.length := nodup_le _ _ hA.ok.nodup (fun u hu => (hm u).2 (a1 u hu))
  have eq : (addT room t L).2 ≠ 0 → (addT room t L).1.length = U.length := fun h => by
    have := nodup_le U (addT room t L).1 hU (fun u hu => a2 h u ((hm u).1 hu))
    omega
  refine ⟨⟨fun h => by rw [← eq h]; exact hA.le, fun h e => ?_⟩, eq⟩
  obtain ⟨u, hu, hn⟩ := a3 e
  have hf := hA.full e
  have := nodup_le (u :: (addT room t L).1) U (List.nodup_cons.2 ⟨hn, hA.ok.nodup⟩) (fun x hx => by
    rcases List.mem_cons.1 hx with rfl | hx
    · exact (hm x).2 (.inr hu)
    · exact (hm x).2 (a1 x hx))
  simp only [List.length_cons] at this
  omega
end Go.Proofs.Ytjdhmfpkhijkeaa
