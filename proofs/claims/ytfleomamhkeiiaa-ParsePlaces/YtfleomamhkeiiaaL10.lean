/- The law ParsePlaces, walked. -/
import Derived.Test.YtfleomamhkeiiaaQ2
namespace Go.Proofs.Ytfleomamhkeiiaa
open Go.RowKit
set_option linter.unusedVariables false
set_option linter.unusedSimpArgs false
set_option maxHeartbeats 4000000 in
set_option maxRecDepth 100000 in
theorem places_law (s : ByteArray) (w : World) (hs : s.size ≤ maxLen) : Calls Try.prog 5 #[.string s] w fun e w' => e = .returned (.bool true) ∧ Below w.heap.size w w' := by
  obtain ⟨r, hr⟩ : ∃ r, r = wholeR (formP 16100) s.size (lexAll (bytesN s)) := ⟨_, rfl⟩
  have FT := wr_fit (fun t e => formP_whole_shp (s := s) (t := t) (by rw [← hr]; exact e))
  have TA := Lib.hid (fun W => (pformula_any s W hs).mono fun e w' h => ExprPost.val (r := r) (by rw [hr]; exact h) FT)
  have RA := Lib.hid (fun W => (rformula_any s W hs).mono fun e w' h => ExprPost.val (r := r) (by rw [hr]; exact h) FT)
  have PL := Lib.hid (places (bytesN s) (whT r).2.2)
  rw [bytesN_len, ← hr] at PL
  clear hr FT
  obtain ⟨t, ht⟩ : ∃ t, t = (whT r).1 := ⟨_, rfl⟩
  obtain ⟨cd, hcd⟩ : ∃ cd, cd = (whT r).2.1 := ⟨_, rfl⟩
  obtain ⟨pl, hpl⟩ : ∃ pl, pl = (whT r).2.2 := ⟨_, rfl⟩
  simp only [← ht, ← hcd, ← hpl] at TA RA PL
  clear ht hcd hpl
  have e0 : ((cd : Int) != (cd : Int)) = false := by simp
  by_cases h32 : cd = 32
  · obtain ⟨hle, ha⟩ := PL.out h32 trivial
    have hsub := bytesN_sub s 0 pl hle
    simp only [Nat.sub_zero, List.drop_zero] at hsub
    obtain ⟨r2, hr2⟩ : ∃ r2, r2 = wholeR (formP 16100) pl (lexAll ((bytesN s).take pl)) := ⟨_, rfl⟩
    have hsz : (s.extract 0 pl).size = pl := by simp; omega
    have hr2' : r2 = wholeR (formP 16100) (s.extract 0 pl).size (lexAll (bytesN (s.extract 0 pl))) := by rw [hr2, hsub, hsz]
    have FT2 := wr_fit (fun t e => formP_whole_shp (s := s.extract 0 pl) (t := t) (by rw [← hr2']; exact e))
    have TB := Lib.hid (fun W => (pformula_any (s.extract 0 pl) W (by omega)).mono fun e w' h => ExprPost.val (r := r2) (by rw [hr2']; exact h) FT2)
    rw [← hr2] at ha
    unfold AheadOk at ha
    clear hr2 hr2' FT2 hsub
    obtain ⟨t2, ht2⟩ : ∃ t, t = (whT r2).1 := ⟨_, rfl⟩
    obtain ⟨cd2, hcd2⟩ : ∃ cd, cd = (whT r2).2.1 := ⟨_, rfl⟩
    obtain ⟨pl2, hpl2⟩ : ∃ pl, pl = (whT r2).2.2 := ⟨_, rfl⟩
    simp only [← ht2, ← hcd2, ← hpl2] at TB ha
    clear ht2 hcd2 hpl2
    subst h32
    have n0 : ¬ (pl : Int) < 0 := by omega
    have n1 : ¬ (s.size : Int) < (pl : Int) := by omega
    have n2 : (pl : Int).toNat = pl := by omega
    have n3 : (pl : Int) ≤ (s.size : Int) := by omega
    have n4 : (0 : Int) ≤ (pl : Int) := by omega
    have hA : (((cd2 : Int) == 0) = true) ∨ (((cd2 : Int) == 0) = false ∧ ((cd2 : Int) == 32) = true ∧ ((pl2 : Int) == (pl : Int)) = true) ∨ (((cd2 : Int) == 0) = false ∧ ((cd2 : Int) == 32) = false ∧ ((cd2 : Int) == 20) = true) ∨ (((cd2 : Int) == 0) = false ∧ ((cd2 : Int) == 32) = false ∧ ((cd2 : Int) == 20) = false ∧ ((cd2 : Int) == 21) = true) := by
      rcases ha with rfl | ⟨rfl, rfl⟩ | rfl | rfl
      · exact .inl rfl
      · exact .inr (.inl ⟨rfl, rfl, by simp⟩)
      · exact .inr (.inr (.inl ⟨rfl, rfl, rfl⟩))
      · exact .inr (.inr (.inr ⟨rfl, rfl, rfl, rfl⟩))
    clear ha
    go_enter Try.func5, Try.ntmps5
    go_wp2_with fail
    refine (RA.out _).mono ?_
    rintro e w1 ⟨hb1, A1, c1, rfl, ht1⟩
    have BB1 := Lib.hid (fun o => hb1.trans ((al_below w1 o).mono hb1.size))
    clear ht1 hb1
    go_wp2_with fail
    refine (TA.out _).mono ?_
    rintro e w2 ⟨hb2, A2, c2, rfl, ht2⟩
    have BB2 := Lib.hid (fun o => ((BB1.out _).trans (hb2.mono (BB1.out _).size)).trans ((al_below w2 o).mono (Nat.le_trans (BB1.out _).size hb2.size)))
    clear ht2 hb2
    rcases hA with a0 | ⟨a0, a1, a2⟩ | ⟨a0, a1, a2⟩ | ⟨a0, a1, a2, a3⟩
    all_goals
      go_wp2_with fail
      refine (TB.out _).mono ?_
      rintro e w3 ⟨hb3, A3, c3, rfl, ht3⟩
      have BB3 := Lib.hid (fun o => ((BB2.out _).trans (hb3.mono (BB2.out _).size)).trans ((al_below w3 o).mono (Nat.le_trans (BB2.out _).size hb3.size)))
      clear ht3 hb3
      go_wp2_with fail
      go_ret
      exact ⟨by simp, BB3.out _⟩
  · have e1 : ((cd : Int) != 32) = true := by rw [bne_iff_ne]; omega
    go_enter Try.func5, Try.ntmps5
    go_wp2_with fail
    refine (RA.out _).mono ?_
    rintro e w1 ⟨hb1, A1, c1, rfl, ht1⟩
    have BB1 := Lib.hid (fun o => hb1.trans ((al_below w1 o).mono hb1.size))
    clear ht1 hb1
    go_wp2_with fail
    refine (TA.out _).mono ?_
    rintro e w2 ⟨hb2, A2, c2, rfl, ht2⟩
    have BB2 := Lib.hid (fun o => ((BB1.out _).trans (hb2.mono (BB1.out _).size)).trans ((al_below w2 o).mono (Nat.le_trans (BB1.out _).size hb2.size)))
    clear ht2 hb2
    go_wp2_with fail
    go_ret
    exact ⟨by simp, BB2.out _⟩
end Go.Proofs.Ytfleomamhkeiiaa
