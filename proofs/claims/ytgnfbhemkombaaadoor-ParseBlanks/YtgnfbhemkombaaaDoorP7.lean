/- The document's digits, number and Tokens of layer 3. -/
import Derived.Test.YtgnfbhemkombaaaDoorP6
namespace Go.Proofs.YtgnfbhemkombaaaDoor
open Go.RowKit
set_option linter.unusedVariables false
set_option linter.unusedSimpArgs false
theorem bytesN_sub (s : ByteArray) (i j : Nat) (h : j ≤ s.size) : bytesN (s.extract i j) = ((bytesN s).drop i).take (j - i) := by
  unfold bytesN
  rw [← List.map_drop, ← List.map_take]
  congr 1
  simp [ByteArray.data_extract]
set_option maxHeartbeats 1000000 in
theorem rdigits_any (s : ByteArray) (i : Nat) (w : World) (hs : s.size ≤ 8000) (hi : i ≤ s.size) :
    Calls Tryd.prog 61 #[.string s, .int .i64 (i : Int)] w fun e w' => e = .returned (.int .i64 ((digsN ((bytesN s).drop i) : Nat) : Int)) ∧ w' = w := by
  have HL := Lib.hid (bytesN_len s)
  go_enter Tryd.func61, Tryd.ntmps61
  go_wp2_with fail
  go_loop [5] (fun n => ∃ k : Nat, i + k ≤ s.size ∧ n = .int .i64 (k : Int) ∧ ∀ j (h : j < k) (h2 : j < ((bytesN s).drop i).length), isDigN ((bytesN s).drop i)[j] = true) (fun n => s.size - i - (intOf n).toNat)
  case atStart => exact ⟨0, by omega, rfl, fun j h => absurd h (by omega)⟩
  case round =>
    obtain ⟨k, hk, rfl, hd⟩ := hrel
    have HD := Lib.hid hd
    clear hd
    by_cases hlt : i + k < s.size
    · have hg : ((bytesN s).drop i)[k]'(by rw [List.length_drop, HL.out]; omega) = (s[i + k]'hlt).toNat := by rw [List.getElem_drop]; exact bytesN_get s (i + k) hlt
      have HG := Lib.hid hg
      clear hg
      have g1 : (i : Int) + (k : Int) < (s.size : Int) := by omega
      have g2 : ((i : Int) + (k : Int)).toNat = i + k := by omega
      by_cases hdg : isDigN (s[i + k]'hlt).toNat = true
      · have ND := Lib.hid (show ∀ j (h : j < k + 1) (h2 : j < ((bytesN s).drop i).length), isDigN ((bytesN s).drop i)[j] = true from fun j h1 h2 => by
          by_cases e : j = k
          · subst e; rw [HG.out]; exact hdg
          · exact HD.out j (by omega) h2)
        go_wp2_with (go_at_call 97; refine (risDigit_any _ _).mono ?_; rintro e w' ⟨rfl, rfl⟩; rw [hdg])
        go_round
        case rel => exact ⟨k + 1, by omega, by go_num, ND.out⟩
        case measure => simp [intOf]; omega
      · have hdf : isDigN (s[i + k]'hlt).toNat = false := by simpa using hdg
        have D := Lib.hid (digsN_stop ((bytesN s).drop i) k (by rw [List.length_drop, HL.out]; omega) HD.out (by rw [HG.out]; exact hdf))
        clear hdg
        go_wp2_with (go_at_call 97; refine (risDigit_any _ _).mono ?_; rintro e w' ⟨rfl, rfl⟩; rw [hdf])
        go_ret
        exact ⟨by rw [D.out]; rfl, rfl⟩
    · have D := Lib.hid (show digsN ((bytesN s).drop i) = k by
        have h1 := digsN_ge ((bytesN s).drop i) k (by rw [List.length_drop, HL.out]; omega) HD.out
        have h2 := digsN_le ((bytesN s).drop i)
        rw [List.length_drop, HL.out] at h2
        omega)
      have g1 : ¬ (i : Int) + (k : Int) < (s.size : Int) := by omega
      go_wp2_with fail
      go_ret
      exact ⟨by rw [D.out]; rfl, rfl⟩
/-- the number of some digits, or -1 -/
def numV (l : List Nat) (most : Nat) : Int := match numN l most with
  | some n => (n : Int)
  | none => -1
theorem valN_snoc (l : List Nat) (d : Nat) : valN (l ++ [d]) = valN l * 10 + (d - 48) := by unfold valN; rw [List.foldl_append]; rfl
theorem valN_lt (l : List Nat) (hd : ∀ d ∈ l, isDigN d = true) : valN l + 1 ≤ 10 ^ l.length := by
  have : ∀ (l : List Nat) (n m : Nat), (∀ d ∈ l, isDigN d = true) → n + 1 ≤ m → l.foldl (fun n d => n * 10 + (d - 48)) n + 1 ≤ m * 10 ^ l.length := by
    intro l
    induction l with
    | nil => intro n m _ h; simpa using h
    | cons d l ih =>
      intro n m hd h
      have h1 : 48 ≤ d ∧ d ≤ 57 := by have := hd d (by simp); simpa [isDigN] using this
      have := ih (n * 10 + (d - 48)) (m * 10) (fun x hx => hd x (by simp [hx])) (by omega)
      simp only [List.foldl_cons, List.length_cons]
      rw [Nat.pow_succ, Nat.mul_comm (10 ^ l.length) 10, ← Nat.mul_assoc]
      exact this
  have := this l 0 1 hd (by omega)
  rw [Nat.one_mul] at this
  exact this
theorem valN_take {u : ByteArray} (hd : ∀ d ∈ bytesN u, isDigN d = true) (k : Nat) (hk : k ≤ 2) : valN ((bytesN u).take k) ≤ 99 := by
  have h1 := valN_lt ((bytesN u).take k) (fun d h => hd d (List.mem_of_mem_take h))
  have h2 : ((bytesN u).take k).length ≤ 2 := by simp; omega
  have h3 : 10 ^ ((bytesN u).take k).length ≤ 10 ^ 2 := Nat.pow_le_pow_right (by omega) h2
  omega
set_option maxHeartbeats 1000000 in
theorem rnumber_any (u : ByteArray) (most : Nat) (w : World) (hs : u.size ≤ 8000) (hm : most ≤ 99) (hd : ∀ d ∈ bytesN u, isDigN d = true) :
    Calls Tryd.prog 62 #[.string u, .int .i64 (most : Int)] w fun e w' => e = .returned (.int .i64 (numV (bytesN u) most)) ∧ w' = w := by
  have HL := Lib.hid (bytesN_len u)
  have HD := Lib.hid hd
  clear hd
  by_cases h0 : u.size = 0
  · have F := Lib.hid (show numV (bytesN u) most = -1 by unfold numV numN; rw [if_pos (Or.inl (by rw [HL.out]; exact h0))])
    have e0 : ((u.size : Int) == 0) = true := by simp [h0]
    clear h0
    go_enter Tryd.func62, Tryd.ntmps62
    go_wp2_with fail
    go_ret
    exact ⟨by rw [F.out]; rfl, rfl⟩
  · have e0 : ((u.size : Int) == 0) = false := by rw [beq_eq_false_iff_ne]; omega
    by_cases h2 : 2 < u.size
    · have F := Lib.hid (show numV (bytesN u) most = -1 by unfold numV numN; rw [if_pos (Or.inr (Or.inl (by rw [HL.out]; exact h2)))])
      have e2 : (2 : Int) < (u.size : Int) := by omega
      clear h0
      go_enter Tryd.func62, Tryd.ntmps62
      go_wp2_with fail
      go_ret
      exact ⟨by rw [F.out]; rfl, rfl⟩
    · have e2 : ¬ (2 : Int) < (u.size : Int) := by omega
      have hp : 0 < u.size := by omega
      have HH := Lib.hid (head_get u hp)
      by_cases hz : u.size = 2 ∧ u[0].toNat = 48
      · have F := Lib.hid (show numV (bytesN u) most = -1 by unfold numV numN; rw [if_pos (Or.inr (Or.inr ⟨by rw [HL.out]; exact hz.1, by rw [HH.out, hz.2]⟩))])
        have e3 : ((u.size : Int) == 2) = true := by simp [hz.1]
        have e4 : ((u[0].toNat : Int) == 48) = true := by simp [hz.2]
        clear h0 hz
        go_enter Tryd.func62, Tryd.ntmps62
        go_wp2_with fail
        go_ret
        exact ⟨by rw [F.out]; rfl, rfl⟩
      · have N := Lib.hid (show numN (bytesN u) most = if most < valN (bytesN u) then none else some (valN (bytesN u)) by
          unfold numN
          rw [if_neg (by rw [HL.out, HH.out]; intro x; rcases x with x | x | ⟨x, y⟩; exact h0 x; exact h2 x; exact hz ⟨x, by simpa using y⟩)])
        have e34 : (((u.size : Int) == 2) = true ∧ ((u[0].toNat : Int) == 48) = false) ∨ ((u.size : Int) == 2) = false := by
          by_cases h22 : u.size = 2
          · left
            exact ⟨by simp [h22], by rw [beq_eq_false_iff_ne]; intro e; exact hz ⟨h22, by omega⟩⟩
          · right
            rw [beq_eq_false_iff_ne]; omega
        have hs2 : u.size ≤ 2 := by omega
        clear h0 h2 hz
        rcases e34 with ⟨e3, e4⟩ | e3
        all_goals
          go_enter Tryd.func62, Tryd.ntmps62
          go_wp2_with fail
          go_loop [5, 6] (fun n i => ∃ k : Nat, k ≤ u.size ∧ i = .int .i64 (k : Int) ∧ n = .int .i64 ((valN ((bytesN u).take k) : Nat) : Int)) (fun _ i => u.size - (intOf i).toNat)
          case atStart => exact ⟨0, Nat.zero_le _, rfl, rfl⟩
          case round =>
            obtain ⟨k, hk, rfl, rfl⟩ := hrel
            have hv := valN_take HD.out k (by omega)
            by_cases hlt : k < u.size
            · have g := Lib.hid (take_next u k hlt)
              have hd1 : isDigN (u[k].toNat) = true := HD.out _ (by rw [← bytesN_get u k hlt]; exact List.getElem_mem _)
              obtain ⟨v, hvv⟩ : ∃ v, v = u[k].toNat := ⟨_, rfl⟩
              have hx : (u[k].toNat : Int) = (v : Int) := by rw [hvv]
              rw [← hvv] at g hd1
              have hd2 : 48 ≤ v ∧ v ≤ 57 := by simpa [isDigN] using hd1
              have VS := Lib.hid (valN_snoc ((bytesN u).take k) v)
              rw [← g.out] at VS
              obtain ⟨a, ha⟩ : ∃ a, a = valN ((bytesN u).take k) := ⟨_, rfl⟩
              rw [← ha] at VS hv ⊢
              obtain ⟨d1, d2⟩ := hd2
              clear hvv hd1 ha
              go_wp2_with fail
              go_round
              case rel => exact ⟨k + 1, by omega, by go_num, by rw [VS.out]; congr 1; omega⟩
              case measure => simp [intOf]; omega
            · obtain rfl : k = u.size := by omega
              have ht : (bytesN u).take u.size = bytesN u := List.take_of_length_le (by rw [HL.out]; exact Nat.le_refl _)
              rw [ht] at hv ⊢
              clear ht
              obtain ⟨a, ha⟩ : ∃ a, a = valN (bytesN u) := ⟨_, rfl⟩
              rw [← ha] at N hv ⊢
              clear ha
              by_cases hg : most < a
              · have F := Lib.hid (show numV (bytesN u) most = -1 by unfold numV; rw [N.out, if_pos hg])
                go_wp2_with fail
                go_ret
                exact ⟨by rw [F.out]; rfl, rfl⟩
              · have F := Lib.hid (show numV (bytesN u) most = (a : Int) by unfold numV; rw [N.out, if_neg hg])
                go_wp2_with fail
                go_ret
                exact ⟨by rw [F.out]; rfl, rfl⟩
end Go.Proofs.YtgnfbhemkombaaaDoor
