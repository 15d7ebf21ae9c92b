/- Varints: what is written is read, whatever stands behind; cut short it is refused; what is read is written just so. No program is named here. -/
import Derived.Test.YtfleomamhkeiiaaMath3
namespace Go.Proofs.Ytfleomamhkeiiaa
open Go.RowKit
theorem pow7 (k : Nat) : 2 ^ (7 * (k + 1)) = 128 * 2 ^ (7 * k) := by rw [show 7 * (k + 1) = 7 + 7 * k from by omega, Nat.pow_add]
theorem join7 (m k : Nat) : m % 128 * 2 ^ (7 * k) + m / 128 * 2 ^ (7 * (k + 1)) = m * 2 ^ (7 * k) := by
  rw [pow7, ← Nat.mul_assoc, ← Nat.add_mul]
  congr 1
  omega
theorem small_tenth (m k : Nat) (h : m < 2 ^ (64 - 7 * k)) (hk : k ≤ 9) (c : Nat) (hc : c ≤ m) : ¬ (k = 9 ∧ 1 < c) := by
  rintro ⟨rfl, h1⟩
  have : 2 ^ (64 - 7 * 9) = 2 := rfl
  omega
theorem room_U (m k : Nat) (h : m < 2 ^ (64 - 7 * k)) : U64 m := Nat.lt_of_lt_of_le h (Nat.pow_le_pow_right (by decide) (by omega))
theorem get_put (m : Nat) : ∀ (k acc : Nat) (more : List Nat), k ≤ 9 → m < 2 ^ (64 - 7 * k) → (0 < k → m ≠ 0) →
    getF k acc (putN m ++ more) = ⟨acc + m * 2 ^ (7 * k), k + (putN m).length, 0⟩ := by
  induction m using Nat.strongRecOn with
  | _ m ih =>
    intro k acc more hk hm h0
    by_cases hs : m ≤ 127
    · rw [putN_small m hs]
      show getF k acc (m :: more) = _
      rw [getF_last k acc m more (small_tenth m k hm hk m (Nat.le_refl _)) (by omega) (fun h => h0 h.2 h.1), Nat.mod_eq_of_lt (by omega)]
      rfl
    · have hU := room_U m k hm
      obtain ⟨hr1, hr2⟩ := put_room m k hm (by omega) hs
      rw [putN_big m hU hs]
      show getF k acc ((m % 128 + 128) :: (putN (m / 128) ++ more)) = _
      have hk9 : ¬ (k = 9 ∧ 1 < m % 128 + 128) := by omega
      rw [getF_more k acc _ _ hk9 (by omega), ih (m / 128) (by omega) (k + 1) _ more (by omega) hr1 (fun _ => by omega)]
      have e : (m % 128 + 128) % 128 = m % 128 := by omega
      have j := join7 m k
      rw [e, List.length_cons]
      congr 1
      · omega
      · omega
theorem get_short (m : Nat) : ∀ (k acc : Nat), k ≤ 9 → m < 2 ^ (64 - 7 * k) → getF k acc ((putN m).take ((putN m).length - 1)) = ⟨0, 0, 10⟩ := by
  induction m using Nat.strongRecOn with
  | _ m ih =>
    intro k acc hk hm
    by_cases hs : m ≤ 127
    · rw [putN_small m hs]
      exact getF_end k acc
    · have hU := room_U m k hm
      obtain ⟨hr1, hr2⟩ := put_room m k hm (by omega) hs
      have hl := (putN_len (m / 128)).1
      rw [putN_big m hU hs, List.length_cons, Nat.add_sub_cancel]
      rw [show (putN (m / 128)).length = ((putN (m / 128)).length - 1) + 1 from by omega, List.take_succ_cons]
      have hk9 : ¬ (k = 9 ∧ 1 < m % 128 + 128) := by omega
      rw [getF_more k acc _ _ hk9 (by omega)]
      exact ih (m / 128) (by omega) (k + 1) _ (by omega) hr1
theorem get_err (bs : List Nat) : ∀ (k acc : Nat), (getF k acc bs).err ≠ 0 → (getF k acc bs).val = 0 ∧ (getF k acc bs).len = 0 := by
  induction bs with
  | nil => intro k acc _; rw [getF_end]; exact ⟨rfl, rfl⟩
  | cons c r ih =>
    intro k acc h
    by_cases h1 : k = 9 ∧ 1 < c
    · rw [getF_tenth k acc c r h1]; exact ⟨rfl, rfl⟩
    · by_cases h2 : 128 ≤ c
      · rw [getF_more k acc c r h1 h2] at h ⊢
        exact ih _ _ h
      · by_cases h3 : c = 0 ∧ 0 < k
        · rw [getF_zero k acc c r h1 h2 h3]; exact ⟨rfl, rfl⟩
        · rw [getF_last k acc c r h1 h2 h3] at h; exact absurd rfl h
theorem get_back (bs : List Nat) : ∀ (k acc : Nat), (∀ b ∈ bs, b < 256) → k ≤ 9 → (getF k acc bs).err = 0 →
    ∃ m, m < 2 ^ (64 - 7 * k) ∧ (0 < k → m ≠ 0) ∧ (getF k acc bs).val = acc + m * 2 ^ (7 * k) ∧ (getF k acc bs).len = k + (putN m).length ∧ (putN m).length ≤ bs.length ∧ putN m = bs.take (putN m).length := by
  induction bs with
  | nil => intro k acc _ _ h; rw [getF_end] at h; exact absurd h (by decide)
  | cons c r ih =>
    intro k acc hb hk h
    have hc : c < 256 := hb c (by simp)
    by_cases h1 : k = 9 ∧ 1 < c
    · rw [getF_tenth k acc c r h1] at h; exact absurd h (by decide)
    · by_cases h2 : 128 ≤ c
      · rw [getF_more k acc c r h1 h2] at h ⊢
        have hk8 : k + 1 ≤ 9 := by omega
        obtain ⟨m, hm, hm0, hv, hl, hlen, ht⟩ := ih (k + 1) _ (fun b hb' => hb b (by simp [hb'])) hk8 h
        have hm0 := hm0 (by omega)
        have e64 : 2 ^ (64 - 7 * k) = 128 * 2 ^ (64 - 7 * (k + 1)) := by
          rw [show 64 - 7 * k = 7 + (64 - 7 * (k + 1)) from by omega, Nat.pow_add]
        have hM : c % 128 + 128 * m < 2 ^ (64 - 7 * k) := by omega
        have hput : putN (c % 128 + 128 * m) = c :: putN m := by
          rw [putN_big _ (room_U _ k hM) (by omega), show (c % 128 + 128 * m) % 128 + 128 = c from by omega, show (c % 128 + 128 * m) / 128 = m from by omega]
        refine ⟨c % 128 + 128 * m, hM, fun _ => by omega, ?_, ?_, ?_, ?_⟩
        · rw [hv, pow7, Nat.add_mul, Nat.mul_comm 128 m, Nat.mul_assoc m]; omega
        · rw [hl, hput, List.length_cons]; omega
        · rw [hput, List.length_cons, List.length_cons]; omega
        · rw [hput, List.length_cons, List.take_succ_cons, ← ht]
      · by_cases h3 : c = 0 ∧ 0 < k
        · rw [getF_zero k acc c r h1 h2 h3] at h; exact absurd h (by decide)
        · rw [getF_last k acc c r h1 h2 h3]
          have hput : putN c = [c] := putN_small c (by omega)
          refine ⟨c, ?_, fun hk0 hc0 => h3 ⟨hc0, hk0⟩, ?_, ?_, ?_, ?_⟩
          · by_cases h9 : k = 9
            · subst h9
              have : 2 ^ (64 - 7 * 9) = 2 := rfl
              omega
            · have : 2 ^ 8 ≤ 2 ^ (64 - 7 * k) := Nat.pow_le_pow_right (by decide) (by omega)
              omega
          · rw [Nat.mod_eq_of_lt (by omega)]
          · rw [hput]; rfl
          · rw [hput]; simp
          · rw [hput]; simp
theorem getN_put (n : Nat) (more : List Nat) (hn : U64 n) : getN (putN n ++ more) = ⟨n, (putN n).length, 0⟩ := by
  unfold getN
  rw [get_put n 0 0 more (by decide) hn (fun h => absurd h (by decide))]
  simp
theorem getN_short (n : Nat) (hn : U64 n) : getN ((putN n).take ((putN n).length - 1)) = ⟨0, 0, 10⟩ := get_short n 0 0 (by decide) hn
theorem getN_err (bs : List Nat) (h : (getN bs).err ≠ 0) : (getN bs).val = 0 ∧ (getN bs).len = 0 := get_err bs 0 0 h
theorem getN_back (bs : List Nat) (hb : ∀ b ∈ bs, b < 256) (h : (getN bs).err = 0) :
    U64 (getN bs).val ∧ (getN bs).len = (putN (getN bs).val).length ∧ (getN bs).len ≤ bs.length ∧ putN (getN bs).val = bs.take (getN bs).len := by
  obtain ⟨m, hm, _, hv, hl, hlen, ht⟩ := get_back bs 0 0 hb (by decide) h
  have ev : (getN bs).val = m := by show (getF 0 0 bs).val = m; rw [hv]; simp
  have el : (getN bs).len = (putN m).length := by show (getF 0 0 bs).len = _; rw [hl]; simp
  rw [ev, el]
  exact ⟨hm, rfl, hlen, ht⟩
theorem getN_U (bs : List Nat) (hb : ∀ b ∈ bs, b < 256) : U64 (getN bs).val := by
  by_cases h : (getN bs).err = 0
  · exact (getN_back bs hb h).1
  · rw [(getN_err bs h).1]; unfold U64; omega
end Go.Proofs.Ytfleomamhkeiiaa
