/- The document's Find of layer 6: where a tree stands in a list. -/
import Derived.Test.YtmmdhlemkcddmaaI18
import Derived.Test.YtmmdhlemkcddmaaLK
import Derived.Test.YtmmdhlemkcddmaaE6
namespace Go.Proofs.Ytmmdhlemkcddmaa
open Go.RowKit
set_option linter.unusedVariables false
set_option linter.unusedSimpArgs false
theorem likeB_iff (a b : Tr) : likeB a b = true ↔ a = b := by unfold likeB; rw [decide_eq_true_iff]; exact cmpT_zero a b
theorem num_first {L : List Tr} {e : Tr} {m : Nat} (hm : m < L.length) (h : L[m] = e) (hn : ∀ j (hj : j < m), L[j]'(by omega) ≠ e) : num L e = m + 1 := by
  have hmem : e ∈ L := h ▸ List.getElem_mem hm
  unfold num
  rw [if_pos hmem]
  have h1 : L.idxOf e < L.length := List.idxOf_lt_length_of_mem hmem
  have h2 : L[L.idxOf e] = e := by simp
  rcases Nat.lt_trichotomy (L.idxOf e) m with h4 | h4 | h4
  · exact absurd h2 (hn _ h4)
  · omega
  · exfalso
    have := List.not_of_lt_findIdx (p := (· == e)) (xs := L) (i := m) (by simpa [List.idxOf] using h4)
    simp [h] at this
set_option maxHeartbeats 1000000 in
theorem rfind6_any (ts : List Tr) (k i : Int) (A : Option Addr) (c : Nat) (e : Tr) (Ae : Option Addr) (ce : Nat) (w : World) (hl : IsT w w.heap.size (.node k i ts) A c) (he : IsT w w.heap.size e Ae ce) :
    Calls Try.prog 51 #[.slice A ts.length c, .agg #[.int .i64 e.k, .int .i64 e.i, .slice Ae e.ks.length ce]] w fun x w' => x = .returned (.int .i64 (num ts e : Int)) ∧ Below w.heap.size w w' := by
  have hlen : ts.length ≤ c ∧ ts.length * 40 ≤ 140737488351232 := hl.len
  have HL := Lib.hid hl
  have hbe : Below w.heap.size w (w.alloc (.cells #[.int .i64 e.k, .int .i64 e.i, .slice Ae e.ks.length ce] 24)) := (Below.refl _ _).alloc (Nat.le_refl _) _
  have HE := Lib.hid he
  have BE := Lib.hid (Box3.new w (.int .i64 e.k) (.int .i64 e.i) (.slice Ae e.ks.length ce))
  have B0 := Lib.hid hbe
  clear hl he hbe
  go_enter Try.func51, Try.ntmps51
  go_wp2_with fail
  go_loopw [9] (fun x wx => ∃ m : Nat, m ≤ ts.length ∧ x = .int .i64 (m : Int) ∧ (∀ j (hj : j < m) (hjl : j < ts.length), ts[j] ≠ e) ∧ Box3 wx w.heap.size (.int .i64 e.k) (.int .i64 e.i) (.slice Ae e.ks.length ce) ∧ Below w.heap.size w wx) (fun x _ => ts.length - (intOf x).toNat)
  case atStart => exact ⟨0, Nat.zero_le _, rfl, fun j hj => by omega, BE.out, B0.out⟩
  case round =>
    obtain ⟨m, hm, rfl, hno, hbx, hbw⟩ := hrel
    have NO := Lib.hid hno
    have BX := Lib.hid hbx
    have BW := Lib.hid hbw
    obtain ⟨e0, e1, e2⟩ := hbx.cells
    clear hno hbx
    by_cases hlt : m < ts.length
    · obtain ⟨b, o, Aq, cq, hA, hltb, p0, p1, p2, hkT⟩ := (show KidAt w w.heap.size A m ts[m] from HL.out.kid m hlt)
      obtain ⟨q, hq⟩ : ∃ q, q = ts[m] := ⟨_, rfl⟩
      rw [← hq] at p0 p1 p2 hkT
      subst hA
      have d0 := (hbw.cell hltb).trans p0
      have d1 := (hbw.cell hltb).trans p1
      have d2 := (hbw.cell hltb).trans p2
      have hbq : Below wr.heap.size wr (wr.alloc (.cells #[.int .i64 q.k, .int .i64 q.i, .slice Aq q.ks.length cq] 24)) := (Below.refl _ _).alloc (Nat.le_refl _) _
      have KT := Lib.hid ((hkT.keep hbw hbw.size).keep hbq hbq.size)
      have ET := Lib.hid ((HE.out.keep hbw hbw.size).keep hbq hbq.size)
      obtain ⟨k0, k1, k2⟩ := (Box3.new wr (.int .i64 q.k) (.int .i64 q.i) (.slice Aq q.ks.length cq)).cells
      have BX1 := Lib.hid (BX.out.keep hbq BX.out.lt)
      obtain ⟨x0, x1, x2⟩ := BX1.out.cells
      have BQ := Lib.hid (hbw.trans (hbq.mono hbw.size))
      have HQ := Lib.hid hq
      clear p0 p1 p2 hkT hbq hbw hq e0 e1 e2
      go_wp2_with fail
      refine (like_any q e Aq Ae cq ce _ (by exact KT.out) (by exact ET.out)).mono ?_
      rintro x w1 ⟨rfl, hb1⟩
      have BX2 := Lib.hid (BX1.out.keep hb1 BX1.out.lt)
      have B2 := Lib.hid (BQ.out.trans (hb1.mono BQ.out.size))
      clear hb1 k0 k1 k2 x0 x1 x2
      cases hlk : likeB q e with
      | true =>
        have N := Lib.hid (show num ts e = m + 1 from num_first hlt (by rw [← HQ.out]; exact (likeB_iff q e).1 hlk) (fun j hj => NO.out j hj (by omega)))
        have wr1 : IntKind.i64.wrap ((m : Int) + 1) = (m : Int) + 1 := by rw [IntKind.wrap_i64]; omega
        clear hlk
        go_wp2_with fail
        go_ret
        exact ⟨by rw [N.out]; rfl, B2.out⟩
      | false =>
        have N := Lib.hid (show ts[m] ≠ e from fun h => by rw [← HQ.out] at h; rw [(likeB_iff q e).2 h] at hlk; cases hlk)
        clear hlk
        go_wp2_with fail
        go_roundw
        case rel => exact ⟨m + 1, by omega, by go_num, fun j hj hjl => by
          by_cases h : j = m
          · subst h; exact N.out
          · exact NO.out j (by omega) hjl, BX2.out, B2.out⟩
        case measure => simp [intOf]; omega
    · obtain rfl : m = ts.length := by omega
      have N := Lib.hid (show num ts e = 0 from num_zero.2 fun hmem => by
        obtain ⟨j, hj, h⟩ := List.mem_iff_getElem.1 hmem
        exact NO.out j hj hj h)
      clear hbw
      go_wp2_with fail
      go_ret
      exact ⟨by rw [N.out]; rfl, BW.out⟩
end Go.Proofs.Ytmmdhlemkcddmaa
