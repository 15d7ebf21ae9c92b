/- What a new table holds. -/
import Derived.Test.YtmmdhlemkcddmaaI10
namespace Go.Proofs.Ytmmdhlemkcddmaa
open Go.RowKit
set_option linter.unusedVariables false
set_option linter.unusedSimpArgs false
theorem fit_right : ∀ (t : Tr), t.shp = true → t.fit := by
  intro t
  induction t using Tr.ind with
  | h t ih =>
    intro h
    refine (fit_eq t).2 ⟨?_, fun q hq => ih q hq (shp_kid h hq)⟩
    have := (kind_of_shp t h).2.2.2.2
    unfold Cap
    omega
theorem kid_le {t q : Tr} (h : q ∈ t.ks) : q.sz < t.sz := by
  obtain ⟨m, hm, rfl⟩ := List.mem_iff_getElem.1 h
  exact kid_sz t m hm
/-- what is added is no larger than what is put -/
theorem addT_sz (room : Nat) : ∀ (t : Tr) (L : List Tr), ∀ u ∈ (addT room t L).1, u ∈ L ∨ u.sz ≤ t.sz := by
  intro t
  induction t using Tr.ind with
  | h t ih =>
    intro L u hu
    have hk : ∀ (ks : List Tr) (L : List Tr), (∀ q ∈ ks, q ∈ t.ks) → ∀ u ∈ (addK room ks L).1, u ∈ L ∨ u.sz < t.sz := by
      intro ks
      induction ks with
      | nil => intro L _ u hu; rw [addK] at hu; exact .inl hu
      | cons q r ihr =>
        intro L hs u hu
        have hq := kid_le (hs q (by simp))
        rw [addK] at hu
        split at hu
        · rcases ih q (hs q (by simp)) L u hu with h | h
          · exact .inl h
          · exact .inr (by omega)
        · rcases ihr _ (fun x hx => hs x (by simp [hx])) u hu with h | h
          · rcases ih q (hs q (by simp)) L u h with h | h
            · exact .inl h
            · exact .inr (by omega)
          · exact .inr h
    rw [addT_eq] at hu
    split at hu
    · rcases hk t.ks L (fun _ h => h) u hu with h | h
      · exact .inl h
      · exact .inr (by omega)
    · split at hu
      · rcases hk t.ks L (fun _ h => h) u hu with h | h
        · exact .inl h
        · exact .inr (by omega)
      · split at hu
        · rcases hk t.ks L (fun _ h => h) u hu with h | h
          · exact .inl h
          · exact .inr (by omega)
        · rcases List.mem_append.1 hu with h | h
          · rcases hk t.ks L (fun _ h => h) u h with h | h
            · exact .inl h
            · exact .inr (by omega)
          · simp at h; rw [h]; exact .inr (Nat.le_refl _)
theorem addK_sz (room : Nat) (t : Tr) (L : List Tr) (u : Tr) : ∀ (ks : List Tr) (L : List Tr), (∀ q ∈ ks, q ∈ t.ks) → u ∈ (addK room ks L).1 → u ∈ L ∨ u.sz < t.sz := by
  intro ks
  induction ks with
  | nil => intro L _ hu; rw [addK] at hu; exact .inl hu
  | cons q r ihr =>
    intro L hs hu
    have hq := kid_le (hs q (by simp))
    rw [addK] at hu
    split at hu
    · rcases addT_sz room q L u hu with h | h
      · exact .inl h
      · exact .inr (by omega)
    · rcases ihr _ (fun x hx => hs x (by simp [hx])) hu with h | h
      · rcases addT_sz room q L u h with h | h
        · exact .inl h
        · exact .inr (by omega)
      · exact .inr h
/-- what is put into a new table has room, and the greatest number -/
theorem add_new {room : Nat} {t : Tr} (hr : rightN t = 0) (hroom : t.sz ≤ room) : addN room t [] ≠ 0 ∧ addN room t [] = (addX room t []).length ∧ Ok (addX room t []) ∧ t ∈ addX room t [] ∧ addN room t [] = num (addX room t []) t := by
  obtain ⟨h1, h2⟩ := added t room [] Ok.nil (Nat.zero_le _) hr
  have hne : (addT room t []).2 ≠ 0 := fun e => by
    have a1 := h1.more
    have a2 := h1.full e
    rw [if_pos e] at a1
    simp at a1
    omega
  refine ⟨hne, ?_, h1.ok, (h2 hne).1, (h2 hne).2⟩
  show (addT room t []).2 = (addT room t []).1.length
  have hnot : t ∉ (addK room t.ks []).1 := fun hm => by
    rcases addK_sz room t [] t t.ks [] (fun _ h => h) hm with h | h
    · simp at h
    · omega
  have h0 := num_zero.2 hnot
  rw [addT_eq] at hne ⊢
  by_cases e1 : (addK room t.ks []).2 = false
  · rw [if_pos e1] at hne; exact absurd rfl hne
  · rw [if_neg e1] at hne ⊢
    rw [if_neg (by simp [h0])] at hne ⊢
    by_cases e2 : (addK room t.ks []).1.length = room
    · rw [if_pos e2] at hne; exact absurd rfl hne
    · rw [if_neg e2]
      simp
/-- a table of room for a thousand -/
theorem new_1000 (w : World) : Calls Try.prog 18 #[.int .i64 1000] w fun e w' => e = .returned (.pointer (some ⟨w.heap.size + 1, 0, none⟩)) ∧ Tab w' w.heap.size (w.heap.size + 1) w.heap.size 1000 [] none 0 ∧ Below w.heap.size w w' := new_any 1000 (by omega) w
end Go.Proofs.Ytmmdhlemkcddmaa
