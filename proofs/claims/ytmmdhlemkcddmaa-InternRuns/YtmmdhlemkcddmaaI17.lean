/- Put of package intern where there is no room. -/
import Derived.Test.YtmmdhlemkcddmaaI16
import Derived.Test.YtmmdhlemkcddmaaI10
namespace Go.Proofs.Ytmmdhlemkcddmaa
open Go.RowKit
set_option linter.unusedVariables false
set_option linter.unusedSimpArgs false
set_option maxHeartbeats 1000000 in
theorem remove_nil {w : World} {tl lo P M room : Nat} {c : Nat} (hlo : tl ≤ lo) (h : Tab w lo P M room [] none c) :
    Calls Try.prog 49 #[.pointer (some ⟨P, 0, none⟩), .int .i64 0] w fun e w' => e = .returned (.tuple #[]) ∧ Aft tl lo P M room w w' none [] none c := by
  have hc : c = 0 := by
    rcases h.own.2 with ⟨e, _⟩ | ⟨g, cap, cur, e, _⟩
    · simpa using e
    · cases e
  subst hc
  have R0 := RemS.start (tl := tl) h 0
  have R1 := Lib.hid (R0.cut (m := 0) h.ok h.le h.rm h.loP h.loM hlo (Nat.le_refl _) rfl)
  obtain ⟨c0, c1, c2⟩ := h.cells
  have f2 := R0.cells.2
  simp only [List.length_nil] at c2
  clear h R0
  go_enter Try.func49, Try.ntmps49
  go_wp2_with fail
  go_loopw [13] (fun i wx => i = .int .i64 0 ∧ wx = w) (fun _ _ => 0)
  case atStart => exact ⟨rfl, rfl⟩
  case round =>
    obtain ⟨rfl, rfl⟩ := hrel
    go_wp2_with fail
    go_end0
    exact ⟨rfl, R1.out⟩
theorem remove_any {w : World} {tl lo P M room : Nat} {L : List Tr} {A : Option Addr} {c : Nat} (hlo : tl ≤ lo) (htl : tl ≤ w.heap.size) (h : Tab w lo P M room L A c) (n : Nat) (hn : n ≤ L.length) :
    Calls Try.prog 49 #[.pointer (some ⟨P, 0, none⟩), .int .i64 (n : Int)] w fun e w' => e = .returned (.tuple #[]) ∧ ∃ A' c', Aft tl lo P M room w w' A (L.take n) A' c' := by
  rcases h.own.2 with ⟨e, h0⟩ | ⟨g, cap, cur, e, _, _, hc, _⟩
  · have hL : L = [] := List.eq_nil_of_length_eq_zero h0
    subst hL
    obtain rfl : n = 0 := by simpa using hn
    obtain ⟨rfl, rfl⟩ : A = none ∧ c = 0 := by simpa using e
    exact (remove_nil hlo h).mono fun e w' ⟨h1, h2⟩ => ⟨h1, _, _, h2⟩
  · cases e
    exact (remove_some hlo htl h n hn hc).mono fun e w' ⟨h1, h2⟩ => ⟨h1, _, _, h2⟩
set_option maxHeartbeats 2000000 in
theorem put_full {w : World} {tl lo P M room : Nat} {L : List Tr} {A : Option Addr} {c : Nat} (hlo : tl ≤ lo) (htl : tl ≤ w.heap.size) (h : Tab w lo P M room L A c) (t : Tr) (At : Option Addr) (ct : Nat) (ht : IsT w tl t At ct) (hr : rightN t = 0) (hn : addN room t L = 0) :
    Calls Try.prog 20 #[.pointer (some ⟨P, 0, none⟩), .agg #[.int .i64 t.k, .int .i64 t.i, .slice At t.ks.length ct]] w fun e w' => e = .returned (.tuple #[.int .i64 0, .int .i64 60]) ∧ ∃ A' c', Aft tl lo P M room w w' A L A' c' := by
  have hbe := below_al w (.cells #[.int .i64 t.k, .int .i64 t.i, .slice At t.ks.length ct] 24)
  have HT := Lib.hid (IsT.keep (hbe.mono htl) (show tl ≤ (w.alloc (.cells #[.int .i64 t.k, .int .i64 t.i, .slice At t.ks.length ct] 24)).heap.size by simp; omega) t ht)
  have HW := Lib.hid ht
  have A0 := Lib.hid ((Aft.refl (tl := tl) h).keep hbe htl)
  have BE := Lib.hid (Box3.new w (.int .i64 t.k) (.int .i64 t.i) (.slice At t.ks.length ct))
  obtain ⟨y0, y1, y2⟩ := BE.out.cells
  have h0 : ((rightN t : Int) != 0) = false := by simp [hr]
  have HR := Lib.hid hr
  have PRE := Lib.hid (show (addX room t L).take L.length = L ∧ L.length ≤ (addX room t L).length from by
    obtain ⟨r, hr'⟩ := (added t room L h.ok h.le hr).1.pre
    have e : addX room t L = L ++ r := hr'.symm
    rw [e]
    simp)
  have HN := Lib.hid hn
  clear ht h hbe hr hn
  go_enter Try.func20, Try.ntmps20
  go_wp2_with fail
  refine (right_any t At ct _ (by exact HT.out)).mono ?_
  rintro e w1 ⟨rfl, hb1⟩
  have A1 := Lib.hid (A0.out.keep hb1 (by simp; omega))
  obtain ⟨z0, z1, z2⟩ := (BE.out.keep hb1 BE.out.lt).cells
  have hz := A1.out.kp.size
  clear hb1 y0 y1 y2
  go_wp2_with fail
  refine (len_any A1.out.tab).mono ?_
  rintro e w9 ⟨rfl, rfl⟩
  have AD := Lib.hid (add_acts w tl lo P M room hlo t HR.out w9 L A c At ct A1.out.bel (by omega) A1.out.tab HW.out)
  rw [HN.out] at AD
  go_wp2_with fail
  refine AD.out.mono ?_
  rintro e w2 ⟨rfl, A', c', hA⟩
  have A2 := Lib.hid (A1.out.trans hA)
  have hz2 := hA.kp.size
  have RE := Lib.hid (remove_any hlo (by omega) hA.tab L.length PRE.out.2)
  rw [PRE.out.1] at RE
  clear hA
  go_wp2_with fail
  refine RE.out.mono ?_
  rintro e w3 ⟨rfl, A3, c3, h3⟩
  have A4 := Lib.hid (A2.out.trans h3)
  clear h3
  go_wp2_with fail
  go_ret2
  exact ⟨rfl, A3, c3, A4.out⟩
end Go.Proofs.Ytmmdhlemkcddmaa
