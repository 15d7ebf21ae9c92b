/- short of layer 8's laws; the law RuleSettles, walked. -/
import Derived.Test.YtjdhmfpkhijkeaaKA
import Derived.Test.YtjdhmfpkhijkeaaI20
import Derived.Test.YtjdhmfpkhijkeaaF2
import Derived.Lib.QuietBelow
import Derived.BigQuiet
namespace Go.Proofs.Ytjdhmfpkhijkeaa
open Go.RowKit
set_option linter.unusedVariables false
set_option linter.unusedSimpArgs false
theorem short_parts (t : Tr) : (partsT t).any (fun q => shortB q.k) = shortT t := by
  induction t using Tr.ind with
  | h t ih =>
    rw [partsT_eq, List.any_cons, shortT_eq]
    have hl : ∀ l : List Tr, (∀ q ∈ l, (partsT q).any (fun q => shortB q.k) = shortT q) → (partsL l).any (fun q => shortB q.k) = shortL l := by
      intro l
      induction l with
      | nil => intro _; rfl
      | cons a r ihr =>
        intro h
        rw [partsL, List.any_append, shortL, h a (by simp), ihr (fun q hq => h q (by simp [hq]))]
    rw [hl t.ks ih]
theorem any_take {p : Tr → Bool} (ks : List Tr) (m : Nat) (h : m < ks.length) : (ks.take (m + 1)).any p = ((ks.take m).any p || p ks[m]) := by
  rw [List.take_succ_eq_append_getElem h, List.any_append]; simp
theorem any_hit {p : Tr → Bool} (ks : List Tr) (m : Nat) (h : m < ks.length) (hp : p ks[m] = true) : ks.any p = true := List.any_eq_true.2 ⟨_, List.getElem_mem h, hp⟩
set_option maxHeartbeats 2000000 in
set_option maxRecDepth 100000 in
theorem short_any (t : Tr) (A : Option Addr) (c : Nat) (w : World) (hsm : t.sz ≤ 1000) (ht : IsT w w.heap.size t A c) :
    Calls Try.prog 39 #[.agg #[.int .i64 t.k, .int .i64 t.i, .slice A t.ks.length c]] w fun e w' => e = .returned (.bool (shortT t)) ∧ Below w.heap.size w w' := by
  have HT := Lib.hid ht
  have B0 := Lib.hid (alB w (.cells #[.int .i64 t.k, .int .i64 t.i, .slice A t.ks.length c] 24))
  obtain ⟨p0, p1, p2⟩ := (Box3.new w (.int .i64 t.k) (.int .i64 t.i) (.slice A t.ks.length c)).cells
  have SP := Lib.hid (short_parts t)
  have LN := Lib.hid (parts_sz t)
  clear ht
  go_enter Try.func39, Try.ntmps39
  go_wp2_with fail
  refine (rparts_any w w.heap.size t.sz t A c _ (Nat.le_refl _) hsm HT.out B0.out B0.out.size).mono ?_
  rintro e w1 ⟨A1, c1, cs, rfl, hE, hb1⟩
  have E1 := Lib.hid hE
  have B1 := Lib.hid (B0.out.trans (hb1.mono B0.out.size))
  obtain ⟨ps, hps⟩ : ∃ ps, ps = partsT t := ⟨_, rfl⟩
  rw [← hps] at E1 SP LN ⊢
  have hlen : ps.length ≤ 1000 := by rw [LN.out]; exact hsm
  obtain ⟨lo, hlo⟩ : ∃ lo, lo = (w.alloc (.cells #[.int .i64 t.k, .int .i64 t.i, .slice A t.ks.length c] 24)).heap.size := ⟨_, rfl⟩
  rw [← hlo] at E1
  clear hE hb1 p0 p1 p2 hps hlo
  go_wp2_with fail
  go_loopw [8] (fun i wr => ∃ m : Nat, m ≤ ps.length ∧ i = .int .i64 m ∧ (ps.take m).any (fun q => shortB q.k) = false ∧ IsEs w w.heap.size wr lo ps A1 c1 cs ∧ Below w.heap.size w wr) (fun i _ => ps.length - (intOf i).toNat)
  case atStart => exact ⟨0, Nat.zero_le _, rfl, by simp, E1.out, B1.out⟩
  case round =>
    obtain ⟨m, hm', rfl, hf, hE, hbr⟩ := hrel
    have HF := Lib.hid hf
    have E := Lib.hid hE
    clear hf hE E1
    by_cases hlt : m < ps.length
    · have S := Lib.hid (any_take (p := fun q => shortB q.k) ps m hlt)
      have H := Lib.hid (any_hit (p := fun q => shortB q.k) ps m hlt)
      obtain ⟨r0, r1, r2⟩ := rowC_get ps cs m hlt E.out.len
      have ow := E.out.own
      rcases ow.2 with ⟨e, hn⟩ | ⟨g, cap, cur, e', hb, _, hc, _⟩
      · omega
      · cases e'
        have q0 := (ow.cellAt (m * 3) (by omega)).trans r0
        have q1 := (ow.cellAt (m * 3 + 1) (by omega)).trans r1
        have q2 := (ow.cellAt (m * 3 + 2) (by omega)).trans r2
        obtain ⟨D, hD⟩ : ∃ D, D = (cs[m]'(by have := E.out.len; omega)).1 := ⟨_, rfl⟩
        obtain ⟨d, hd⟩ : ∃ d, d = (cs[m]'(by have := E.out.len; omega)).2 := ⟨_, rfl⟩
        rw [← hD, ← hd] at q2
        obtain ⟨q, hq⟩ : ∃ q, q = ps[m] := ⟨_, rfl⟩
        rw [← hq] at q0 q1 q2 S H
        have BX := Lib.hid (Box3.new wr (.int .i64 q.k) (.int .i64 q.i) (.slice D q.ks.length d))
        have EA := Lib.hid (E.out.keep (alB wr (.cells #[.int .i64 q.k, .int .i64 q.i, .slice D q.ks.length d] 24)))
        have BA := Lib.hid (hbr.trans ((alB wr (.cells #[.int .i64 q.k, .int .i64 q.i, .slice D q.ks.length d] 24)).mono hbr.size))
        clear r0 r1 r2 ow hq hD hd
        obtain ⟨x0, x1, x2⟩ := BX.out.cells
        have hh : (q.k = 8 ∧ shortB q.k = true) ∨ (q.k ≠ 8 ∧ q.k = 9 ∧ shortB q.k = true) ∨ (q.k ≠ 8 ∧ q.k ≠ 9 ∧ q.k = 10 ∧ shortB q.k = true) ∨ (q.k ≠ 8 ∧ q.k ≠ 9 ∧ q.k ≠ 10 ∧ shortB q.k = false) := by
          unfold shortB
          by_cases h8 : q.k = 8
          · exact .inl ⟨h8, by simp [h8]⟩
          · by_cases h9 : q.k = 9
            · exact .inr (.inl ⟨h8, h9, by simp [h9]⟩)
            · by_cases h10 : q.k = 10
              · exact .inr (.inr (.inl ⟨h8, h9, h10, by simp [h10]⟩))
              · exact .inr (.inr (.inr ⟨h8, h9, h10, by simp [h8, h9, h10]⟩))
        rcases hh with ⟨h8, hv⟩ | ⟨h8, h9, hv⟩ | ⟨h8, h9, h10, hv⟩ | ⟨h8, h9, h10, hv⟩
        · have F := Lib.hid (show shortT t = true by rw [← SP.out]; exact H.out hv)
          have k8 : (q.k == 8) = true := by simp [h8]
          clear h8 hv
          go_wp2_with fail
          go_ret
          exact ⟨by rw [F.out]; rfl, BA.out⟩
        · have F := Lib.hid (show shortT t = true by rw [← SP.out]; exact H.out hv)
          have k8 : (q.k == 8) = false := by simpa using h8
          have k9 : (q.k == 9) = true := by simp [h9]
          clear h8 h9 hv
          go_wp2_with fail
          go_ret
          exact ⟨by rw [F.out]; rfl, BA.out⟩
        · have F := Lib.hid (show shortT t = true by rw [← SP.out]; exact H.out hv)
          have k8 : (q.k == 8) = false := by simpa using h8
          have k9 : (q.k == 9) = false := by simpa using h9
          have k10 : (q.k == 10) = true := by simp [h10]
          clear h8 h9 h10 hv
          go_wp2_with fail
          go_ret
          exact ⟨by rw [F.out]; rfl, BA.out⟩
        · have S2 := Lib.hid (show (ps.take (m + 1)).any (fun q => shortB q.k) = false by rw [S.out, HF.out]; simpa using hv)
          have k8 : (q.k == 8) = false := by simpa using h8
          have k9 : (q.k == 9) = false := by simpa using h9
          have k10 : (q.k == 10) = false := by simpa using h10
          clear h8 h9 h10 hv
          go_wp2_with fail
          go_roundw
          case rel => exact ⟨m + 1, by omega, by go_num, S2.out, EA.out, BA.out⟩
          case measure => simp [intOf]; omega
    · obtain rfl : m = ps.length := by omega
      have F := Lib.hid (show shortT t = false by rw [← SP.out]; have := HF.out; rwa [List.take_length] at this)
      go_wp2_with fail
      go_ret
      exact ⟨by rw [F.out]; rfl, hbr⟩
end Go.Proofs.Ytjdhmfpkhijkeaa
