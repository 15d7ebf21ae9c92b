/- The law ParseTokens, walked. -/
import Derived.Test.YtdobpdedphkglaaP8
namespace Go.Proofs.Ytdobpdedphkglaa
open Go.RowKit
set_option linter.unusedVariables false
/-- the slice of a row that is owned, and what its cells are -/
theorem tok_rows {w : World} {B : Nat} {v : Value} {l : List Tok} (h : w.ownsRow B 64 3 v l.length (tokC l)) : ∃ A c, v = .slice A l.length c ∧ ∀ m (hm : m < l.length), ∃ g, A = some ⟨g, 0, none⟩ ∧ l.length ≤ c ∧ g < w.heap.size ∧ w.cell? ⟨g, m * 3, none⟩ = some (.int .i64 (l[m].k : Int)) ∧ w.cell? ⟨g, m * 3 + 1, none⟩ = some (.int .i64 (l[m].n : Int)) ∧ w.cell? ⟨g, m * 3 + 2, none⟩ = some (.int .i64 (l[m].p : Int)) := by
  rcases h.2 with ⟨rfl, h0⟩ | ⟨g, cap, cur, rfl, hb, hc, hcap, h3⟩
  · exact ⟨none, 0, by rw [h0], fun m hm => by omega⟩
  · refine ⟨_, cap, rfl, fun m hm => ?_⟩
    obtain ⟨r0, r1, r2⟩ := tokC_get l m hm
    exact ⟨g, rfl, hcap, (Array.getElem?_eq_some_iff.1 hc).1, by rw [h.cellAt (m * 3) (by omega), r0], by rw [h.cellAt (m * 3 + 1) (by omega), r1], by rw [h.cellAt (m * 3 + 2) (by omega), r2]⟩
/-- a list of tokens in memory -/
def IsToks (w : World) (A : Option Addr) (c : Nat) (l : List Tok) : Prop :=
  ∀ m (hm : m < l.length), ∃ g, A = some ⟨g, 0, none⟩ ∧ l.length ≤ c ∧ g < w.heap.size ∧ w.cell? ⟨g, m * 3, none⟩ = some (.int .i64 (l[m].k : Int)) ∧ w.cell? ⟨g, m * 3 + 1, none⟩ = some (.int .i64 (l[m].n : Int)) ∧ w.cell? ⟨g, m * 3 + 2, none⟩ = some (.int .i64 (l[m].p : Int))
theorem IsToks.keep {w w' : World} {A : Option Addr} {c : Nat} {l : List Tok} (h : IsToks w A c l) (hb : Below w.heap.size w w') : IsToks w' A c l := fun m hm => by
  obtain ⟨g, e, h1, h2, h3, h4, h5⟩ := h m hm
  exact ⟨g, e, h1, Nat.lt_of_lt_of_le h2 hb.size, (hb.cell h2).trans h3, (hb.cell h2).trans h4, (hb.cell h2).trans h5⟩
theorem IsToks.nil (w : World) (A : Option Addr) (c : Nat) : IsToks w A c [] := fun m hm => absurd hm (by simp)
set_option maxHeartbeats 1000000 in
set_option maxRecDepth 100000 in
theorem sameTokens_any (A A' : Option Addr) (n c c' : Nat) (l : List Tok) (w : World) (hl : l.length = n) (hn : n ≤ maxLen) (h : IsToks w A c l) (h' : IsToks w A' c' l) :
    Calls Try.prog 21 #[.slice A n c, .slice A' n c'] w fun e w' => e = .returned (.bool true) ∧ Below w.heap.size w w' := by
  unfold maxLen at hn
  have HL := Lib.hid hl
  have H := Lib.hid h
  have H' := Lib.hid h'
  clear hl h h'
  go_enter Try.func21, Try.ntmps21
  go_wp2_with fail
  go_loopw [13] (fun i wr => ∃ k : Nat, k ≤ n ∧ i = .int .i64 (k : Int) ∧ Below w.heap.size w wr) (fun i _ => n - (intOf i).toNat)
  case atStart => exact ⟨0, Nat.zero_le _, rfl, Below.refl _ _⟩
  case round =>
    obtain ⟨k, hk, rfl, hnx⟩ := hrel
    by_cases hlt : k < n
    · obtain ⟨g, rfl, hc, hg, p0, p1, p2⟩ := H.out k (by rw [HL.out]; exact hlt)
      obtain ⟨g', rfl, hc', hg', q0, q1, q2⟩ := H'.out k (by rw [HL.out]; exact hlt)
      obtain ⟨t, ht⟩ : ∃ t, t = l[k]'(by rw [HL.out]; exact hlt) := ⟨_, rfl⟩
      rw [← ht] at p0 p1 p2 q0 q1 q2
      have d0 := (hnx.cell (p := ⟨g, k * 3, none⟩) hg).trans p0
      have d1 := (hnx.cell (p := ⟨g, k * 3 + 1, none⟩) hg).trans p1
      have d2 := (hnx.cell (p := ⟨g, k * 3 + 2, none⟩) hg).trans p2
      have d0' := (hnx.cell (p := ⟨g', k * 3, none⟩) hg').trans q0
      have d1' := (hnx.cell (p := ⟨g', k * 3 + 1, none⟩) hg').trans q1
      have d2' := (hnx.cell (p := ⟨g', k * 3 + 2, none⟩) hg').trans q2
      clear ht p0 p1 p2 q0 q1 q2
      go_wp2_with fail
      go_quiet (fail)
      go_wp2_with fail
      go_roundw
      case rel => exact ⟨k + 1, by omega, by go_num, below_drewN hnx _⟩
      case measure => simp [intOf]; omega
    · obtain rfl : k = n := by omega
      go_wp2_with fail
      go_ret
      exact ⟨rfl, hnx⟩
theorem own_len {w : World} {B : Nat} {v : Value} {l : List Tok} (h : w.ownsRow B 64 3 v l.length (tokC l)) : l.length ≤ maxLen := by
  rcases h.2 with ⟨_, h0⟩ | ⟨g, cap, cur, _, _, _, hcap, hm, _⟩
  · rw [h0]; exact Nat.zero_le _
  · omega
set_option maxHeartbeats 1000000 in
set_option maxRecDepth 100000 in
theorem tokens_law (s : ByteArray) (w : World) (hs : s.size ≤ maxLen) : Calls Try.prog 6 #[.string s] w fun e w' => e = .returned (.bool true) ∧ Below w.heap.size w w' := by
  obtain ⟨r, hr⟩ : ∃ r, r = lexAll (bytesN s) := ⟨_, rfl⟩
  have TA := Lib.hid (fun W => tokens_any s W hs)
  have RA := Lib.hid (fun W => rtokens_any s W hs)
  rw [← hr] at TA RA
  clear hr
  cases r with
  | ok l =>
    go_enter Try.func6, Try.ntmps6
    go_wp2_with fail
    refine (TA.out _).mono ?_
    rintro e w1 ⟨hb1, v1, rfl, ho1⟩
    obtain ⟨A1, c1, rfl, i1⟩ := tok_rows ho1
    have LN := Lib.hid (own_len ho1)
    clear ho1
    go_wp2_with fail
    refine (RA.out _).mono ?_
    rintro e w2 ⟨hb2, v2, rfl, ho2⟩
    obtain ⟨A2, c2, rfl, i2⟩ := tok_rows ho2
    have I1 := Lib.hid (IsToks.keep (w := w1) i1 hb2)
    have I2 := Lib.hid (show IsToks w2 A2 c2 l from i2)
    clear ho2 i1 i2
    go_wp2_with fail
    refine (sameTokens_any A1 A2 l.length c1 c2 l _ rfl LN.out (by exact I1.out) (by exact I2.out)).mono ?_
    rintro e w3 ⟨rfl, hb3⟩
    go_wp2_with fail
    go_ret
    exact ⟨rfl, (hb1.trans (hb2.mono hb1.size)).trans (hb3.mono (Nat.le_trans hb1.size hb2.size))⟩
  | bad c i =>
    go_enter Try.func6, Try.ntmps6
    go_wp2_with fail
    refine (TA.out _).mono ?_
    rintro e w1 ⟨hb1, rfl⟩
    go_wp2_with fail
    refine (RA.out _).mono ?_
    rintro e w2 ⟨hb2, rfl⟩
    go_wp2_with fail
    refine (sameTokens_any none none 0 0 0 [] _ rfl (by unfold maxLen; omega) (IsToks.nil _ _ _) (IsToks.nil _ _ _)).mono ?_
    rintro e w3 ⟨rfl, hb3⟩
    go_wp2_with fail
    go_ret
    exact ⟨by simp, (hb1.trans (hb2.mono hb1.size)).trans (hb3.mono (Nat.le_trans hb1.size hb2.size))⟩
end Go.Proofs.Ytdobpdedphkglaa
