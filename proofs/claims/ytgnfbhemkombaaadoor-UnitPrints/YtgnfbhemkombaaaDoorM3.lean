/- Name of package unit and of the document's layer 9. -/
import Derived.Test.YtgnfbhemkombaaaDoorM1
namespace Go.Proofs.YtgnfbhemkombaaaDoor
open Go.RowKit
set_option linter.unusedVariables false
set_option linter.unusedSimpArgs false
theorem nameN_short {s : ByteArray} (h : s.size = 0) : nameN (bytesN s) = false := by
  have := bytesN_len s
  unfold nameN
  rw [this, h]
  rfl
theorem nameN_long {s : ByteArray} (h : 12 < s.size) : nameN (bytesN s) = false := by
  have := bytesN_len s
  unfold nameN
  rw [this, decide_eq_false (show ¬ s.size ≤ 12 by omega)]
  simp
theorem name_head {s : ByteArray} (h : 0 < s.size) : (bytesN s).head? = some (s[0]'h).toNat := by
  rw [List.head?_eq_getElem?, List.getElem?_eq_getElem (by rw [bytesN_len]; exact h), bytesN_get s 0 h]
theorem nameN_head {s : ByteArray} (h : 0 < s.size) (hf : isLetN (s[0]'h).toNat = false) : nameN (bytesN s) = false := by
  unfold nameN
  rw [name_head h]
  simp [hf]
theorem nameN_all {s : ByteArray} (h : 0 < s.size) (h12 : s.size ≤ 12) (hf : isLetN (s[0]'h).toNat = true) : nameN (bytesN s) = true ↔ ∀ j (h2 : j < s.size), nameCN (s[j]'h2).toNat = true := by
  have hl := bytesN_len s
  unfold nameN
  rw [name_head h, hl, decide_eq_true (show 1 ≤ s.size from h), decide_eq_true h12]
  simp only [Option.any_some, hf, Bool.true_and, List.all_eq_true]
  constructor
  · intro hx j h2
    have := hx _ (List.getElem_mem (l := bytesN s) (n := j) (by rw [hl]; exact h2))
    rwa [bytesN_get s j h2] at this
  · intro hx b hb
    obtain ⟨j, hj, rfl⟩ := List.getElem_of_mem hb
    rw [bytesN_get s j (by rw [hl] at hj; exact hj)]
    exact hx j _
set_option maxHeartbeats 2000000 in
theorem uname_any (s : ByteArray) (w : World) : Calls Tryd.prog 104 #[.string s] w fun e w' => e = .returned (.bool (nameN (bytesN s))) ∧ w = w' := by
  by_cases h0 : s.size = 0
  · have F := Lib.hid (nameN_short h0)
    have e0 : (s.size : Int) < 1 := by omega
    go_enter Tryd.func104, Tryd.ntmps104
    go_wp2_with fail
    go_ret
    exact ⟨by rw [F.out]; rfl, rfl⟩
  · have e0 : ¬ (s.size : Int) < 1 := by omega
    by_cases h12 : 12 < s.size
    · have F := Lib.hid (nameN_long h12)
      have e1 : (12 : Int) < (s.size : Int) := by omega
      go_enter Tryd.func104, Tryd.ntmps104
      go_wp2_with fail
      go_ret
      exact ⟨by rw [F.out]; rfl, rfl⟩
    · have e1 : ¬ (12 : Int) < (s.size : Int) := by omega
      have hp : 0 < s.size := by omega
      cases hA : isLetN (s[0]'hp).toNat with
      | false =>
        have F := Lib.hid (nameN_head hp hA)
        go_enter Tryd.func104, Tryd.ntmps104
        go_wp2_with (go_at_call 116; refine (uisLetter_any _ _).mono ?_; rintro e w' ⟨rfl, rfl⟩; rw [hA])
        go_ret
        exact ⟨by rw [F.out]; rfl, rfl⟩
      | true =>
        have F := Lib.hid (nameN_all (s := s) hp (by omega) hA)
        go_enter Tryd.func104, Tryd.ntmps104
        go_wp2_with (go_at_call 116; refine (uisLetter_any _ _).mono ?_; rintro e w' ⟨rfl, rfl⟩; rw [hA])
        clear hA
        go_loop [3, 20] (fun _ i => ∃ k : Nat, k ≤ s.size ∧ i = .int .i64 (k : Int) ∧ ∀ j (h : j < k) (h2 : j < s.size), nameCN (s[j]'h2).toNat = true) (fun _ i => s.size - (intOf i).toNat)
        case atStart => exact ⟨0, by omega, rfl, fun j h => absurd h (by omega)⟩
        case round =>
          obtain ⟨k, hk, rfl, hd⟩ := hrel
          have HD := Lib.hid hd
          clear hd
          by_cases hlt : k < s.size
          · have g1 : (k : Int) < (s.size : Int) := by omega
            have NX := Lib.hid (fun (hc : nameCN (s[k]'hlt).toNat = true) => show ∀ j (h : j < k + 1) (h2 : j < s.size), nameCN (s[j]'h2).toNat = true from fun j h1 h2 => by
              by_cases e : j = k
              · subst e; exact hc
              · exact HD.out j (by omega) h2)
            have NO := Lib.hid (fun (hc : nameCN (s[k]'hlt).toNat = false) => show nameN (bytesN s) = false from by
              cases hN : nameN (bytesN s) with
              | false => rfl
              | true => exact absurd (F.out.1 hN k hlt) (by rw [hc]; simp))
            cases hA : isLetN (s[k]'hlt).toNat with
            | true =>
              have N2 := Lib.hid (NX.out (by unfold nameCN; rw [hA]; rfl))
              go_wp2_with (first | (go_at_call 116; refine (uisLetter_any _ _).mono ?_; rintro e w' ⟨rfl, rfl⟩; rw [hA]) | (go_at_call 117; refine (uisDigit_any _ _).mono ?_; rintro e w' ⟨rfl, rfl⟩; rw [hB]))
              go_round
              case rel => exact ⟨k + 1, by omega, by go_num, N2.out⟩
              case measure => simp [intOf]; omega
            | false =>
              cases hB : isDigN (s[k]'hlt).toNat with
              | true =>
                have N2 := Lib.hid (NX.out (by unfold nameCN; rw [hA, hB]; rfl))
                go_wp2_with (first | (go_at_call 116; refine (uisLetter_any _ _).mono ?_; rintro e w' ⟨rfl, rfl⟩; rw [hA]) | (go_at_call 117; refine (uisDigit_any _ _).mono ?_; rintro e w' ⟨rfl, rfl⟩; rw [hB]))
                go_round
                case rel => exact ⟨k + 1, by omega, by go_num, N2.out⟩
                case measure => simp [intOf]; omega
              | false =>
                by_cases hC : (s[k]'hlt).toNat = 45
                · have N2 := Lib.hid (NX.out (by unfold nameCN; rw [hA, hB, hC]; rfl))
                  have e2 : (((s[k]'hlt).toNat : Int) != 45) = false := by rw [hC]; rfl
                  clear hC
                  go_wp2_with (first | (go_at_call 116; refine (uisLetter_any _ _).mono ?_; rintro e w' ⟨rfl, rfl⟩; rw [hA]) | (go_at_call 117; refine (uisDigit_any _ _).mono ?_; rintro e w' ⟨rfl, rfl⟩; rw [hB]))
                  go_round
                  case rel => exact ⟨k + 1, by omega, by go_num, N2.out⟩
                  case measure => simp [intOf]; omega
                · have N2 := Lib.hid (NO.out (by unfold nameCN; rw [hA, hB]; simpa using hC))
                  have e2 : (((s[k]'hlt).toNat : Int) != 45) = true := by rw [bne_iff_ne]; omega
                  clear hC
                  go_wp2_with (first | (go_at_call 116; refine (uisLetter_any _ _).mono ?_; rintro e w' ⟨rfl, rfl⟩; rw [hA]) | (go_at_call 117; refine (uisDigit_any _ _).mono ?_; rintro e w' ⟨rfl, rfl⟩; rw [hB]))
                  go_ret
                  exact ⟨by rw [N2.out]; rfl, rfl⟩
          · have g1 : ¬ (k : Int) < (s.size : Int) := by omega
            have N2 := Lib.hid (F.out.2 (fun j h => HD.out j (by omega) h))
            go_wp2_with fail
            go_ret
            exact ⟨by rw [N2.out]; rfl, rfl⟩
set_option maxHeartbeats 2000000 in
theorem rname_any (s : ByteArray) (w : World) : Calls Tryd.prog 110 #[.string s] w fun e w' => e = .returned (.bool (nameN (bytesN s))) ∧ w = w' := by
  by_cases h0 : s.size = 0
  · have F := Lib.hid (nameN_short h0)
    have e0 : (s.size : Int) < 1 := by omega
    go_enter Tryd.func110, Tryd.ntmps110
    go_wp2_with fail
    go_ret
    exact ⟨by rw [F.out]; rfl, rfl⟩
  · have e0 : ¬ (s.size : Int) < 1 := by omega
    by_cases h12 : 12 < s.size
    · have F := Lib.hid (nameN_long h12)
      have e1 : (12 : Int) < (s.size : Int) := by omega
      go_enter Tryd.func110, Tryd.ntmps110
      go_wp2_with fail
      go_ret
      exact ⟨by rw [F.out]; rfl, rfl⟩
    · have e1 : ¬ (12 : Int) < (s.size : Int) := by omega
      have hp : 0 < s.size := by omega
      cases hA : isLetN (s[0]'hp).toNat with
      | false =>
        have F := Lib.hid (nameN_head hp hA)
        go_enter Tryd.func110, Tryd.ntmps110
        go_wp2_with (go_at_call 122; refine (rsmall_any _ _).mono ?_; rintro e w' ⟨rfl, rfl⟩; rw [hA])
        go_ret
        exact ⟨by rw [F.out]; rfl, rfl⟩
      | true =>
        have F := Lib.hid (nameN_all (s := s) hp (by omega) hA)
        go_enter Tryd.func110, Tryd.ntmps110
        go_wp2_with (go_at_call 122; refine (rsmall_any _ _).mono ?_; rintro e w' ⟨rfl, rfl⟩; rw [hA])
        clear hA
        go_loop [3] (fun i => ∃ k : Nat, k ≤ s.size ∧ i = .int .i64 (k : Int) ∧ ∀ j (h : j < k) (h2 : j < s.size), nameCN (s[j]'h2).toNat = true) (fun i => s.size - (intOf i).toNat)
        case atStart => exact ⟨0, by omega, rfl, fun j h => absurd h (by omega)⟩
        case round =>
          obtain ⟨k, hk, rfl, hd⟩ := hrel
          have HD := Lib.hid hd
          clear hd
          by_cases hlt : k < s.size
          · have g1 : (k : Int) < (s.size : Int) := by omega
            have NX := Lib.hid (fun (hc : nameCN (s[k]'hlt).toNat = true) => show ∀ j (h : j < k + 1) (h2 : j < s.size), nameCN (s[j]'h2).toNat = true from fun j h1 h2 => by
              by_cases e : j = k
              · subst e; exact hc
              · exact HD.out j (by omega) h2)
            have NO := Lib.hid (fun (hc : nameCN (s[k]'hlt).toNat = false) => show nameN (bytesN s) = false from by
              cases hN : nameN (bytesN s) with
              | false => rfl
              | true => exact absurd (F.out.1 hN k hlt) (by rw [hc]; simp))
            cases hA : isLetN (s[k]'hlt).toNat with
            | true =>
              have N2 := Lib.hid (NX.out (by unfold nameCN; rw [hA]; rfl))
              go_wp2_with (first | (go_at_call 122; refine (rsmall_any _ _).mono ?_; rintro e w' ⟨rfl, rfl⟩; rw [hA]) | (go_at_call 123; refine (rdigit9_any _ _).mono ?_; rintro e w' ⟨rfl, rfl⟩; rw [hB]))
              go_round
              case rel => exact ⟨k + 1, by omega, by go_num, N2.out⟩
              case measure => simp [intOf]; omega
            | false =>
              cases hB : isDigN (s[k]'hlt).toNat with
              | true =>
                have N2 := Lib.hid (NX.out (by unfold nameCN; rw [hA, hB]; rfl))
                go_wp2_with (first | (go_at_call 122; refine (rsmall_any _ _).mono ?_; rintro e w' ⟨rfl, rfl⟩; rw [hA]) | (go_at_call 123; refine (rdigit9_any _ _).mono ?_; rintro e w' ⟨rfl, rfl⟩; rw [hB]))
                go_round
                case rel => exact ⟨k + 1, by omega, by go_num, N2.out⟩
                case measure => simp [intOf]; omega
              | false =>
                by_cases hC : (s[k]'hlt).toNat = 45
                · have N2 := Lib.hid (NX.out (by unfold nameCN; rw [hA, hB, hC]; rfl))
                  have e2 : (((s[k]'hlt).toNat : Int) != 45) = false := by rw [hC]; rfl
                  clear hC
                  go_wp2_with (first | (go_at_call 122; refine (rsmall_any _ _).mono ?_; rintro e w' ⟨rfl, rfl⟩; rw [hA]) | (go_at_call 123; refine (rdigit9_any _ _).mono ?_; rintro e w' ⟨rfl, rfl⟩; rw [hB]))
                  go_round
                  case rel => exact ⟨k + 1, by omega, by go_num, N2.out⟩
                  case measure => simp [intOf]; omega
                · have N2 := Lib.hid (NO.out (by unfold nameCN; rw [hA, hB]; simpa using hC))
                  have e2 : (((s[k]'hlt).toNat : Int) != 45) = true := by rw [bne_iff_ne]; omega
                  clear hC
                  go_wp2_with (first | (go_at_call 122; refine (rsmall_any _ _).mono ?_; rintro e w' ⟨rfl, rfl⟩; rw [hA]) | (go_at_call 123; refine (rdigit9_any _ _).mono ?_; rintro e w' ⟨rfl, rfl⟩; rw [hB]))
                  go_ret
                  exact ⟨by rw [N2.out]; rfl, rfl⟩
          · have g1 : ¬ (k : Int) < (s.size : Int) := by omega
            have N2 := Lib.hid (F.out.2 (fun j h => HD.out j (by omega) h))
            go_wp2_with fail
            go_ret
            exact ⟨by rw [N2.out]; rfl, rfl⟩
end Go.Proofs.YtgnfbhemkombaaaDoor
