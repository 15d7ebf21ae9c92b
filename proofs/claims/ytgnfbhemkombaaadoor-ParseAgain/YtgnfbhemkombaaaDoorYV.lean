/- Y6, one behind the other. -/
import Derived.Test.YtgnfbhemkombaaaDoorYZ
namespace Go.Proofs.YtgnfbhemkombaaaDoor
open Go.RowKit
set_option linter.unusedVariables false
set_option linter.unusedSimpArgs false
theorem whole_right {s : ByteArray} {t : Tr} (h : wholeR (formP 16100) s.size (lexAll (bytesN s)) = .ok t) : rightN t = 0 ∧ termB t.k = false := by
  obtain ⟨l, h1, h2⟩ := whole_ok h
  obtain ⟨⟨hs, hk⟩, _⟩ := formP_shp 16100 l t [] (lexAll_ok h1) h2
  refine ⟨?_, hk⟩
  rw [right_exc hs]
  rw [h1] at h
  simp only [wholeR] at h
  rw [h2] at h
  simp only [if_true] at h
  split at h
  · assumption
  · cases h
theorem whole_bad {P : List Tok → PR} {n : Nat} {b : List Nat} {c i : Nat} (h : wholeR P n (lexAll b) = .bad c i) : c ≠ 0 := by
  cases hL : lexAll b with
  | bad c' j =>
    rw [hL] at h
    simp only [wholeR] at h
    cases h
    exact lexAll_bad hL
  | ok l =>
    rw [hL] at h
    simp only [wholeR] at h
    cases hP : P l with
    | bad r => rw [hP] at h; cases h; omega
    | ok t r =>
      rw [hP] at h
      simp only [] at h
      split at h
      · split at h
        · cases h
        · cases h; assumption
      · cases h; omega
set_option maxHeartbeats 1000000 in
/-- a right formula is a formula -/
theorem risform_right (t : Tr) (A : Option Addr) (c : Nat) (w : World) (hr : rightN t = 0) (hk : termB t.k = false) (ht : IsT w w.heap.size t A c) :
    Calls Tryd.prog 16 #[.agg #[.int .i64 t.k, .int .i64 t.i, .slice A t.ks.length c]] w fun e w' => e = .returned (.bool true) ∧ Below w.heap.size w w' := by
  have T0 := Lib.hid (TY.start w t.k t.i A t.ks.length c)
  have HT := Lib.hid (fun (W : World) (h : Below w.heap.size w W) => (ht.keep h h.size : IsT W W.heap.size t A c))
  have RR := Lib.hid (fun (W : World) (h : IsT W W.heap.size t A c) => (show Calls Tryd.prog 10 #[.agg #[.int .i64 t.k, .int .i64 t.i, .slice A t.ks.length c]] W fun e w' => e = .returned (.int .i64 0) ∧ Below W.heap.size W w' from by
    have := rright_any t A c W h
    rw [hr] at this
    exact this))
  clear ht hr
  obtain ⟨y0, y1, y2⟩ := T0.out.box.cells
  go_enter Tryd.func16, Tryd.ntmps16
  go_wp2_with fail
  refine (RR.out _ (HT.out _ T0.out.below)).mono ?_
  rintro e w1 ⟨rfl, hb1⟩
  have T1 := Lib.hid (T0.out.keep hb1)
  clear hb1 y0 y1 y2 T0
  obtain ⟨y0, y1, y2⟩ := T1.out.box.cells
  go_wp2_with fail
  refine (term_any t.k t.i A t.ks.length c _).mono ?_
  rintro e w2 ⟨rfl, hb2⟩
  rw [hk]
  have T2 := Lib.hid (T1.out.keep hb2)
  clear hb2
  go_wp2_with fail
  go_ret
  exact ⟨rfl, T2.out.below⟩
set_option maxHeartbeats 4000000 in
set_option maxRecDepth 100000 in
theorem again_law (s : ByteArray) (w : World) (hs : s.size ≤ maxLen) : Calls Tryd.prog 6 #[.string s] w fun e w' => e = .returned (.bool true) ∧ Below w.heap.size w w' := by
  obtain ⟨r, hr⟩ : ∃ r, r = wholeR (formP 16100) s.size (lexAll (bytesN s)) := ⟨_, rfl⟩
  have FT := wr_fit (fun t e => formP_whole_shp (s := s) (t := t) (by rw [← hr]; exact e))
  have TA := Lib.hid (fun W => (pformula_any s W hs).mono fun e w' h => ExprPost.val (r := r) (by rw [hr]; exact h) FT)
  have RA := Lib.hid (fun W => (rformula_any s W hs).mono fun e w' h => ExprPost.val (r := r) (by rw [hr]; exact h) FT)
  have KF : (whT r).2.1 = 0 → rightN (whT r).1 = 0 ∧ termB (whT r).1.k = false := by
    intro h
    cases r with
    | ok u => exact whole_right hr.symm
    | bad c i => exact absurd h (whole_bad hr.symm)
  clear hr FT
  obtain ⟨t, ht⟩ : ∃ t, t = (whT r).1 := ⟨_, rfl⟩
  obtain ⟨cd, hcd⟩ : ∃ cd, cd = (whT r).2.1 := ⟨_, rfl⟩
  obtain ⟨pl, hpl⟩ : ∃ pl, pl = (whT r).2.2 := ⟨_, rfl⟩
  simp only [← ht, ← hcd, ← hpl] at TA RA KF
  clear ht hcd hpl
  have e1 : ((cd : Int) != (cd : Int)) = false := by simp
  have e2 : ((cd : Int) == (cd : Int)) = true := by simp
  by_cases h0 : cd = 0
  · subst h0
    obtain ⟨kr, kk⟩ := KF rfl
    obtain ⟨S, hS⟩ : ∃ S : ByteArray, S = ⟨(textT t).toArray⟩ := ⟨_, rfl⟩
    have FB := Lib.hid (fun (W : World) => (hS ▸ form_back kr kk W : Calls Tryd.prog 15 #[.string S] W (RdP W t)))
    have PR := Lib.hid (fun (A : Option Addr) (c : Nat) (W : World) (h : IsT W W.heap.size t A c) => (show Calls Tryd.prog 8 #[.agg #[.int .i64 t.k, .int .i64 t.i, .slice A t.ks.length c]] W fun e w' => e = .returned (.tuple #[.string S, .int .i64 0]) ∧ Below W.heap.size W w' from by
      have := print_any t A c W h
      unfold printL at this
      rw [if_pos kr, kr, ← hS] at this
      exact this))
    have IF := Lib.hid (fun (A : Option Addr) (c : Nat) (W : World) (h : IsT W W.heap.size t A c) => risform_right t A c W kr kk h)
    have HF := Lib.hid (fit_rightY kr)
    clear KF kr kk hS
    go_enter Tryd.func6, Tryd.ntmps6
    go_wp2_with fail
    refine (RA.out _).mono ?_
    rintro e w1 ⟨hb1, A1, c1, rfl, ht1⟩
    have BB1 := Lib.hid (fun o => hb1.trans ((al_below w1 o).mono hb1.size))
    clear hb1 ht1
    go_wp2_with fail
    refine (TA.out _).mono ?_
    rintro e w2 ⟨hb2, A2, c2, rfl, ht2⟩
    have T2 := Lib.hid (BxT.new ht2)
    have BB2 := Lib.hid (fun o => ((BB1.out _).trans (hb2.mono (BB1.out _).size)).trans ((al_below w2 o).mono (Nat.le_trans (BB1.out _).size hb2.size)))
    obtain ⟨z0, z1, z2⟩ := T2.out.box.cells
    clear hb2 ht2
    go_wp2_with fail
    refine (PR.out A2 c2 _ (by exact T2.out.tree)).mono ?_
    rintro e w3 ⟨rfl, hb3⟩
    have T3 := Lib.hid (T2.out.keep hb3)
    have BB3 := Lib.hid ((BB2.out _).trans (hb3.mono (BB2.out _).size))
    clear hb3 z0 z1 z2
    go_wp2_with fail
    refine (FB.out _).mono ?_
    rintro e w4 ⟨hb4, A4, c4, rfl, ho⟩
    have T4 := Lib.hid (BxT.new (ho.isT t (Nat.le_refl _) HF.out))
    have T3' := Lib.hid (fun o => (T3.out.keep hb4).keep (al_below w4 o))
    have BB4 := Lib.hid (fun o => (BB3.out.trans (hb4.mono BB3.out.size)).trans ((al_below w4 o).mono (Nat.le_trans BB3.out.size hb4.size)))
    clear hb4 ho
    have x0 := fun o => (T3'.out o).box.cells.1
    have x1 := fun o => (T3'.out o).box.cells.2.1
    have x2 := fun o => (T3'.out o).box.cells.2.2
    obtain ⟨z0, z1, z2⟩ := T4.out.box.cells
    go_wp2_with fail
    refine (IF.out A2 c2 _ (by exact (T3'.out _).tree)).mono ?_
    rintro e w5 ⟨rfl, hb5⟩
    have T5 := Lib.hid ((T3'.out _).keep hb5)
    have T6 := Lib.hid (T4.out.keep hb5)
    have BB5 := Lib.hid ((BB4.out _).trans (hb5.mono (BB4.out _).size))
    clear hb5 x0 x1 x2 z0 z1 z2
    obtain ⟨x0, x1, x2⟩ := T5.out.box.cells
    obtain ⟨z0, z1, z2⟩ := T6.out.box.cells
    go_wp2_with fail
    refine (like_any t t A2 A4 c2 c4 _ (by exact T5.out.tree) (by exact T6.out.tree)).mono ?_
    rintro e w6 ⟨rfl, hb6⟩
    rw [like_self]
    have BB6 := Lib.hid (BB5.out.trans (hb6.mono BB5.out.size))
    clear hb6
    go_wp2_with fail
    go_ret
    exact ⟨rfl, BB6.out⟩
  · have e3 : ((cd : Int) != 0) = true := by rw [bne_iff_ne]; omega
    go_enter Tryd.func6, Tryd.ntmps6
    go_wp2_with fail
    refine (RA.out _).mono ?_
    rintro e w1 ⟨hb1, A1, c1, rfl, ht1⟩
    have BB1 := Lib.hid (fun o => hb1.trans ((al_below w1 o).mono hb1.size))
    clear hb1 ht1
    go_wp2_with fail
    refine (TA.out _).mono ?_
    rintro e w2 ⟨hb2, A2, c2, rfl, ht2⟩
    have BB2 := Lib.hid (fun o => ((BB1.out _).trans (hb2.mono (BB1.out _).size)).trans ((al_below w2 o).mono (Nat.le_trans (BB1.out _).size hb2.size)))
    clear hb2 ht2
    go_wp2_with fail
    go_ret
    exact ⟨rfl, BB2.out _⟩
end Go.Proofs.YtgnfbhemkombaaaDoor
