/- The names that a unit cites: citesFault of package unit, names of the document's layer 9. -/
import Derived.Test.YtgnfbhemkombaaaDoorM2
import Derived.Test.YtgnfbhemkombaaaDoorM3
import Derived.Lib.SlicesS
namespace Go.Proofs.YtgnfbhemkombaaaDoor
open Go.RowKit
set_option linter.unusedVariables false
set_option linter.unusedSimpArgs false
/-- the error of the names that are cited -/
def citesF (pre : List ByteArray) : List ByteArray → Nat
  | [] => 0
  | s :: r => if nameN (bytesN s) = false then 91 else if Lib.containsS pre s = true then 92 else if 8 ≤ pre.length then 2 else citesF (pre ++ [s]) r
theorem IsNs.cell' {w : World} {B : Nat} {l : List ByteArray} {A : Option Addr} {c : Nat} (h : IsNs w B l A c) (hl : 0 < l.length) : ∃ b o, A = some ⟨b, o, none⟩ ∧ b < B ∧ ∀ m (hm : m < l.length), w.cell? ⟨b, o + m, none⟩ = some (.string l[m]) := by
  obtain ⟨b, o, h1, h2, h3⟩ := h.cell 0 hl
  refine ⟨b, o, h1, h2, fun m hm => ?_⟩
  obtain ⟨b', o', g1, g2, g3⟩ := h.cell m hm
  rw [h1] at g1
  cases g1
  exact g3
theorem containsS_eq {l : List ByteArray} {x : ByteArray} {b : Bool} (h : x ∈ l ↔ b = true) : Lib.containsS l x = b := by
  cases b with
  | true => exact (Lib.containsS_iff l x).2 (h.2 rfl)
  | false =>
    cases hc : Lib.containsS l x with
    | false => rfl
    | true => exact absurd (h.1 ((Lib.containsS_iff l x).1 hc)) (by simp)
set_option maxHeartbeats 1000000 in
theorem sindex_any (l : List ByteArray) (n : Nat) (A : Option Addr) (c d : Nat) (x : ByteArray) (w : World) (hl : IsNs w w.heap.size l A d) (hn : n ≤ l.length) :
    Calls Tryd.prog 118 #[.slice A n c, .string x] w fun e w' => (∃ i : Int, e = .returned (.int .i64 i) ∧ (0 ≤ i ↔ x ∈ l.take n)) ∧ w = w' := by
  have hcap := hl.cap
  have HL := Lib.hid hl
  clear hl
  go_enter Tryd.func118, Tryd.ntmps118
  go_wp2_with fail
  go_loop [5, 8] (fun _ i => ∃ k : Nat, k ≤ n ∧ i = .int .i64 (k : Int) ∧ ∀ j (h : j < k) (h2 : j < l.length), l[j] ≠ x) (fun _ i => n - (intOf i).toNat)
  case atStart => exact ⟨0, Nat.zero_le _, rfl, fun j hj => absurd hj (Nat.not_lt_zero _)⟩
  case round =>
    obtain ⟨k, hk, rfl, hne⟩ := hrel
    have HN := Lib.hid hne
    clear hne
    by_cases hlt : k < n
    · obtain ⟨b, o, rfl, hb, hcell⟩ := HL.out.cell' (by omega)
      have g0 := hcell k (by omega)
      have hkl : k < l.length := by omega
      obtain ⟨q, hq⟩ : ∃ q, q = l[k] := ⟨_, rfl⟩
      rw [← hq] at g0
      have HQ := Lib.hid hq
      clear hq hcell
      by_cases he : x = q
      · have e1 : (x.toList == q.toList) = true := (Lib.bytes_beq_iff _ _).2 he
        have R := Lib.hid (show x ∈ l.take n by
          rw [he, HQ.out, List.mem_take_iff_getElem]
          exact ⟨k, by omega, rfl⟩)
        clear he
        go_wp2_with fail
        go_ret
        exact ⟨⟨(k : Int), rfl, by simp [R.out]⟩, rfl⟩
      · have e1 : (x.toList == q.toList) = false := (Lib.bytes_beq_false_iff _ _).2 he
        have R := Lib.hid (show ∀ j (h : j < k + 1) (h2 : j < l.length), l[j] ≠ x from fun j h1 h2 => by
          by_cases e : j = k
          · subst e; rw [← HQ.out]; exact fun hh => he hh.symm
          · exact HN.out j (by omega) h2)
        clear he
        go_wp2_with fail
        go_round
        case rel => exact ⟨k + 1, by omega, by go_num, R.out⟩
        case measure => simp [intOf]; omega
    · have R := Lib.hid (show ¬ x ∈ l.take n from fun hm => by
        rw [List.mem_take_iff_getElem] at hm
        obtain ⟨j, hj, rfl⟩ := hm
        exact HN.out j (by omega) (by omega) rfl)
      go_wp2_with fail
      go_ret
      exact ⟨⟨-1, rfl, by simp [R.out]⟩, rfl⟩
theorem scontains_any (l : List ByteArray) (n : Nat) (A : Option Addr) (c d : Nat) (x : ByteArray) (w : World) (hl : IsNs w w.heap.size l A d) (hn : n ≤ l.length) :
    Calls Tryd.prog 105 #[.slice A n c, .string x] w fun e w' => e = .returned (.bool (Lib.containsS (l.take n) x)) ∧ w = w' := by
  go_enter Tryd.func105, Tryd.ntmps105
  go_wp2_with fail
  refine (sindex_any l n A c d x _ hl hn).mono ?_
  rintro e w' ⟨⟨i, rfl, hi⟩, rfl⟩
  by_cases h : 0 ≤ i
  · have R := Lib.hid (containsS_eq (b := true) (by rw [← hi]; simp [h]))
    go_wp2_with fail
    go_ret
    exact ⟨by rw [R.out]; simp [h], rfl⟩
  · have R := Lib.hid (containsS_eq (b := false) (by rw [← hi]; simp [h]))
    go_wp2_with fail
    go_ret
    exact ⟨by rw [R.out]; simp [h], rfl⟩
theorem citesF_step {l : List ByteArray} {k : Nat} (hk : k < l.length) : citesF (l.take k) (l.drop k) = if nameN (bytesN l[k]) = false then 91 else if Lib.containsS (l.take k) l[k] = true then 92 else if 8 ≤ k then 2 else citesF (l.take (k + 1)) (l.drop (k + 1)) := by
  rw [List.drop_eq_getElem_cons hk, citesF, List.length_take, List.take_succ_eq_append_getElem hk, show min k l.length = k by omega]
set_option maxHeartbeats 2000000 in
set_option maxRecDepth 100000 in
theorem ucites_any (l : List ByteArray) (A : Option Addr) (c : Nat) (w : World) (hl : IsNs w w.heap.size l A c) :
    Calls Tryd.prog 78 #[.slice A l.length c] w fun e w' => e = .returned (.int .i64 (citesF [] l : Nat)) ∧ w = w' := by
  have hcap := hl.cap
  have hle := hl.le
  have HL := Lib.hid hl
  clear hl
  go_enter Tryd.func78, Tryd.ntmps78
  go_wp2_with fail
  go_loop [3, 4, 7, 12, 16, 22] (fun _ _ i _ _ _ => ∃ k : Nat, k ≤ l.length ∧ i = .int .i64 (k : Int) ∧ citesF [] l = citesF (l.take k) (l.drop k)) (fun _ _ i _ _ _ => l.length - (intOf i).toNat)
  case atStart => exact ⟨0, Nat.zero_le _, rfl, rfl⟩
  case round =>
    obtain ⟨k, hk, rfl, he⟩ := hrel
    have HE := Lib.hid he
    clear he
    by_cases hlt : k < l.length
    · have ST := Lib.hid (HE.out.trans (citesF_step hlt))
      obtain ⟨b, o, rfl, hb, hcell⟩ := HL.out.cell' (by omega)
      have g0 := hcell k hlt
      obtain ⟨q, hq⟩ : ∃ q, q = l[k] := ⟨_, rfl⟩
      rw [← hq] at g0 ST
      clear hq hcell
      cases hN : nameN (bytesN q) with
      | false =>
        have R := Lib.hid (show citesF [] l = 91 by rw [ST.out, if_pos hN])
        go_wp2_with (go_at_call 104; refine (uname_any _ _).mono ?_; rintro e w' ⟨rfl, rfl⟩; rw [hN])
        go_ret
        exact ⟨by rw [R.out]; rfl, rfl⟩
      | true =>
        have ST2 := Lib.hid (ST.out.trans (if_neg (by rw [hN]; simp)))
        cases hC : Lib.containsS (l.take k) q with
        | true =>
          have R := Lib.hid (show citesF [] l = 92 by rw [ST2.out, if_pos hC])
          go_wp2_with (first | (go_at_call 104; refine (uname_any _ _).mono ?_; rintro e w' ⟨rfl, rfl⟩; rw [hN]) | (go_at_call 105; refine (scontains_any l k _ _ c q _ (by exact HL.out) (by omega)).mono ?_; rintro e w' ⟨rfl, rfl⟩; rw [hC]))
          go_ret
          exact ⟨by rw [R.out]; rfl, rfl⟩
        | false =>
          have ST3 := Lib.hid (ST2.out.trans (if_neg (by rw [hC]; simp)))
          by_cases h8 : 8 ≤ k
          · have R := Lib.hid (show citesF [] l = 2 by rw [ST3.out, if_pos h8])
            have e8 : (8 : Int) ≤ (k : Int) := by omega
            go_wp2_with (first | (go_at_call 104; refine (uname_any _ _).mono ?_; rintro e w' ⟨rfl, rfl⟩; rw [hN]) | (go_at_call 105; refine (scontains_any l k _ _ c q _ (by exact HL.out) (by omega)).mono ?_; rintro e w' ⟨rfl, rfl⟩; rw [hC]))
            go_ret
            exact ⟨by rw [R.out]; rfl, rfl⟩
          · have R := Lib.hid (show citesF [] l = citesF (l.take (k + 1)) (l.drop (k + 1)) by rw [ST3.out, if_neg h8])
            have e8 : ¬ (8 : Int) ≤ (k : Int) := by omega
            go_wp2_with (first | (go_at_call 104; refine (uname_any _ _).mono ?_; rintro e w' ⟨rfl, rfl⟩; rw [hN]) | (go_at_call 105; refine (scontains_any l k _ _ c q _ (by exact HL.out) (by omega)).mono ?_; rintro e w' ⟨rfl, rfl⟩; rw [hC]))
            go_round
            case rel => exact ⟨k + 1, by omega, by go_num, R.out⟩
            case measure => simp [intOf]; omega
    · obtain rfl : k = l.length := by omega
      have R := Lib.hid (show citesF [] l = 0 by rw [HE.out, List.drop_length, citesF])
      go_wp2_with fail
      go_ret
      exact ⟨by rw [R.out]; rfl, rfl⟩
set_option maxHeartbeats 2000000 in
set_option maxRecDepth 100000 in
theorem rnames_any (l : List ByteArray) (A : Option Addr) (c : Nat) (w : World) (hl : IsNs w w.heap.size l A c) :
    Calls Tryd.prog 84 #[.slice A l.length c] w fun e w' => e = .returned (.int .i64 (citesF [] l : Nat)) ∧ w = w' := by
  have hcap := hl.cap
  have hle := hl.le
  have HL := Lib.hid hl
  clear hl
  go_enter Tryd.func84, Tryd.ntmps84
  go_wp2_with fail
  go_loop [3, 4, 5, 8] (fun _ _ _ i => ∃ k : Nat, k ≤ l.length ∧ i = .int .i64 (k : Int) ∧ citesF [] l = citesF (l.take k) (l.drop k)) (fun _ _ _ i => l.length - (intOf i).toNat)
  case atStart => exact ⟨0, Nat.zero_le _, rfl, rfl⟩
  case round =>
    obtain ⟨k, hk, rfl, he⟩ := hrel
    have HE := Lib.hid he
    clear he
    by_cases hlt : k < l.length
    · have ST := Lib.hid (HE.out.trans (citesF_step hlt))
      obtain ⟨b, o, rfl, hb, hcell⟩ := HL.out.cell' (by omega)
      have HC := Lib.hid hcell
      have g0 := hcell k hlt
      obtain ⟨q, hq⟩ : ∃ q, q = l[k] := ⟨_, rfl⟩
      rw [← hq] at g0 ST
      clear hq hcell
      cases hN : nameN (bytesN q) with
      | false =>
        have R := Lib.hid (show citesF [] l = 91 by rw [ST.out, if_pos hN])
        go_wp2_with (go_at_call 110; refine (rname_any _ _).mono ?_; rintro e w' ⟨rfl, rfl⟩; rw [hN])
        go_ret
        exact ⟨by rw [R.out]; rfl, rfl⟩
      | true =>
        have ST2 := Lib.hid (ST.out.trans (if_neg (by rw [hN]; simp)))
        go_wp2_with (go_at_call 110; refine (rname_any _ _).mono ?_; rintro e w' ⟨rfl, rfl⟩; rw [hN])
        clear hN
        go_loop [5] (fun j => ∃ m : Nat, m ≤ k ∧ j = .int .i64 (m : Int) ∧ ∀ p (h : p < m) (h2 : p < l.length), l[p] ≠ q) (fun j => k - (intOf j).toNat)
        case atStart => exact ⟨0, Nat.zero_le _, rfl, fun j h => absurd h (by omega)⟩
        case round =>
          obtain ⟨m, hm, rfl, hne⟩ := hrel
          have HN := Lib.hid hne
          clear hne
          by_cases hmk : m < k
          · have g1 := HC.out m (by omega)
            obtain ⟨x, hx⟩ : ∃ x, x = l[m] := ⟨_, rfl⟩
            rw [← hx] at g1
            by_cases he : x = q
            · have e1 : (x.toList == q.toList) = true := (Lib.bytes_beq_iff _ _).2 he
              have R := Lib.hid (show citesF [] l = 92 by
                rw [ST2.out, if_pos ((Lib.containsS_iff _ _).2 (by
                  rw [List.mem_take_iff_getElem]
                  exact ⟨m, by omega, by rw [← hx]; exact he⟩))])
              clear he hx
              go_wp2_with fail
              go_ret
              exact ⟨by rw [R.out]; rfl, rfl⟩
            · have e1 : (x.toList == q.toList) = false := (Lib.bytes_beq_false_iff _ _).2 he
              have R := Lib.hid (show ∀ p (h : p < m + 1) (h2 : p < l.length), l[p] ≠ q from fun j h1 h2 => by
                by_cases e : j = m
                · subst e; rw [← hx]; exact he
                · exact HN.out j (by omega) h2)
              clear he hx
              go_wp2_with fail
              go_round
              case rel => exact ⟨m + 1, by omega, by go_num, R.out⟩
              case measure => simp [intOf]; omega
          · have C := Lib.hid (show ¬ Lib.containsS (l.take k) q = true from fun hc => by
              rw [Lib.containsS_iff, List.mem_take_iff_getElem] at hc
              obtain ⟨j, hj, hh⟩ := hc
              exact HN.out j (by omega) (by omega) hh)
            have ST3 := Lib.hid (ST2.out.trans (if_neg C.out))
            by_cases h8 : 8 ≤ k
            · have R := Lib.hid (show citesF [] l = 2 by rw [ST3.out, if_pos h8])
              have e8 : (8 : Int) ≤ (k : Int) := by omega
              go_wp2_with fail
              go_ret
              exact ⟨by rw [R.out]; rfl, rfl⟩
            · have R := Lib.hid (show citesF [] l = citesF (l.take (k + 1)) (l.drop (k + 1)) by rw [ST3.out, if_neg h8])
              have e8 : ¬ (8 : Int) ≤ (k : Int) := by omega
              go_wp2_with fail
              go_round
              case rel => exact ⟨k + 1, by omega, by go_num, R.out⟩
              case measure => simp [intOf]; omega
    · obtain rfl : k = l.length := by omega
      have R := Lib.hid (show citesF [] l = 0 by rw [HE.out, List.drop_length, citesF])
      go_wp2_with fail
      go_ret
      exact ⟨by rw [R.out]; rfl, rfl⟩
end Go.Proofs.YtgnfbhemkombaaaDoor
