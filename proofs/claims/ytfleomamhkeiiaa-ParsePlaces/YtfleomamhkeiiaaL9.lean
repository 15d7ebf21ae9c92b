/- The laws ParseFormulas, ParseTerms, walked. -/
import Derived.Test.YtfleomamhkeiiaaP32
import Derived.Test.YtfleomamhkeiiaaLK
namespace Go.Proofs.Ytfleomamhkeiiaa
open Go.RowKit
set_option linter.unusedVariables false
set_option linter.unusedSimpArgs false
theorem whole_ok {P : List Tok → PR} {n : Nat} {L : LexR} {t : Tr} (h : wholeR P n L = .ok t) : ∃ l, L = .ok l ∧ P l = .ok t [] := by
  cases L with
  | bad c i => simp [wholeR] at h
  | ok l =>
    simp only [wholeR] at h
    cases hP : P l with
    | bad r => rw [hP] at h; cases h
    | ok u r =>
      rw [hP] at h
      simp only [] at h
      by_cases hr : r = []
      · rw [if_pos hr] at h
        split at h
        · cases h; exact ⟨l, rfl, by rw [hP, hr]⟩
        · cases h
      · rw [if_neg hr] at h; cases h
theorem formP_whole_shp {s : ByteArray} {t : Tr} (h : wholeR (formP 16100) s.size (lexAll (bytesN s)) = .ok t) : t.shp = true := by
  obtain ⟨l, h1, h2⟩ := whole_ok h
  exact (formP_shp 16100 l t [] (lexAll_ok h1) h2).1.1
theorem termP_whole_shp {s : ByteArray} {t : Tr} (h : wholeR (termP 16100) s.size (lexAll (bytesN s)) = .ok t) : t.shp = true := by
  obtain ⟨l, h1, h2⟩ := whole_ok h
  exact (termP_shp 16100 l t [] (lexAll_ok h1) h2).1.1
def zeroTr : Tr := .node 0 0 []
/-- what is answered: a tree, a code, a place -/
def whT : WR → Tr × Nat × Nat
  | .ok t => (t, 0, 0)
  | .bad c i => (zeroTr, c, i)
theorem zeroTr_fit : zeroTr.fit := (fit_eq _).2 ⟨by simp [zeroTr, Tr.ks, Cap], fun q hq => by simp [zeroTr, Tr.ks] at hq⟩
theorem wr_fit {r : WR} (h : ∀ t, r = .ok t → t.shp = true) : (whT r).1.fit := by
  cases r with
  | ok t => exact fit_of_shp t (h t rfl)
  | bad c i => exact zeroTr_fit
theorem ExprPost.val {w w' : World} {r : WR} {e : Ending} (h : ExprPost w r e w') (hf : (whT r).1.fit) : Below w.heap.size w w' ∧ ∃ A c, e = .returned (.tuple #[.agg #[.int .i64 (whT r).1.k, .int .i64 (whT r).1.i, .slice A (whT r).1.ks.length c], .int .i64 ((whT r).2.1 : Int), .int .i64 ((whT r).2.2 : Int)]) ∧ IsT w' w'.heap.size (whT r).1 A c := by
  obtain ⟨hb, h⟩ := h
  cases r with
  | ok t =>
    obtain ⟨A, c, rfl, ho⟩ := h
    exact ⟨hb, A, c, rfl, ho.isT t (Nat.le_refl _) hf⟩
  | bad c i =>
    cases h
    exact ⟨hb, none, 0, rfl, IsT.mk (by simp [zeroTr, whT, Tr.ks]) (by simp [zeroTr, whT, Tr.ks, Cap]) (fun m hm => by simp [zeroTr, whT, Tr.ks] at hm)⟩
/-- a tree that a box holds -/
structure BxT (W : World) (b : Nat) (t : Tr) (A : Option Addr) (c : Nat) : Prop where
  box : Box3 W b (.int .i64 t.k) (.int .i64 t.i) (.slice A t.ks.length c)
  tree : IsT W W.heap.size t A c
theorem BxT.new {W : World} {t : Tr} {A : Option Addr} {c : Nat} (h : IsT W W.heap.size t A c) : BxT (W.alloc (.cells #[.int .i64 t.k, .int .i64 t.i, .slice A t.ks.length c] 24)) W.heap.size t A c :=
  ⟨Box3.new _ _ _ _, h.keep ((Below.refl _ _).alloc (Nat.le_refl _) _) (by simp)⟩
theorem BxT.keep {W W' : World} {b : Nat} {t : Tr} {A : Option Addr} {c : Nat} (h : BxT W b t A c) (hb : Below W.heap.size W W') : BxT W' b t A c := ⟨h.box.keep hb h.box.lt, h.tree.keep hb hb.size⟩
theorem al_below (W : World) (o : Obj) : Below W.heap.size W (W.alloc o) := (Below.refl _ _).alloc (Nat.le_refl _) _
theorem like_self (t : Tr) : likeB t t = true := by unfold likeB; rw [cmpT_self]; rfl
set_option maxHeartbeats 2000000 in
set_option maxRecDepth 100000 in
theorem ParseFormulas_law (s : ByteArray) (w : World) (hs : s.size ≤ maxLen) : Calls Try.prog 3 #[.string s] w fun e w' => e = .returned (.bool true) ∧ Below w.heap.size w w' := by
  obtain ⟨r, hr⟩ : ∃ r, r = wholeR (formP 16100) s.size (lexAll (bytesN s)) := ⟨_, rfl⟩
  have FT := wr_fit (fun t e => formP_whole_shp (s := s) (t := t) (by rw [← hr]; exact e))
  have TA := Lib.hid (fun W => (pformula_any s W hs).mono fun e w' h => ExprPost.val (r := r) (by rw [hr]; exact h) FT)
  have RA := Lib.hid (fun W => (rformula_any s W hs).mono fun e w' h => ExprPost.val (r := r) (by rw [hr]; exact h) FT)
  clear hr FT
  obtain ⟨t, ht⟩ : ∃ t, t = (whT r).1 := ⟨_, rfl⟩
  obtain ⟨cd, hcd⟩ : ∃ cd, cd = (whT r).2.1 := ⟨_, rfl⟩
  obtain ⟨pl, hpl⟩ : ∃ pl, pl = (whT r).2.2 := ⟨_, rfl⟩
  simp only [← ht, ← hcd, ← hpl] at TA RA
  clear ht hcd hpl
  go_enter Try.func3, Try.ntmps3
  go_wp2_with fail
  refine (TA.out _).mono ?_
  rintro e w1 ⟨hb1, A1, c1, rfl, ht1⟩
  have T1 := Lib.hid (BxT.new ht1)
  have BB1 := Lib.hid (fun o => hb1.trans ((al_below w1 o).mono hb1.size))
  clear hb1 ht1
  go_wp2_with fail
  refine (RA.out _).mono ?_
  rintro e w2 ⟨hb2, A2, c2, rfl, ht2⟩
  have T2 := Lib.hid (BxT.new ht2)
  have T1' := Lib.hid (fun o => (T1.out.keep hb2).keep (al_below w2 o))
  have BB2 := Lib.hid (fun o => ((BB1.out _).trans (hb2.mono (BB1.out _).size)).trans ((al_below w2 o).mono (Nat.le_trans (BB1.out _).size hb2.size)))
  have x0 := fun o => (T1'.out o).box.cells.1
  have x1 := fun o => (T1'.out o).box.cells.2.1
  have x2 := fun o => (T1'.out o).box.cells.2.2
  obtain ⟨z0, z1, z2⟩ := T2.out.box.cells
  clear hb2 ht2
  go_wp2_with fail
  refine (like_any t t A1 A2 c1 c2 _ (by exact (T1'.out _).tree) (by exact T2.out.tree)).mono ?_
  rintro e w3 ⟨rfl, hb3⟩
  rw [like_self]
  have BB3 := Lib.hid ((BB2.out _).trans (hb3.mono (BB2.out _).size))
  clear hb3
  go_wp2_with fail
  go_ret
  exact ⟨by simp, BB3.out⟩
set_option maxHeartbeats 2000000 in
set_option maxRecDepth 100000 in
theorem ParseTerms_law (s : ByteArray) (w : World) (hs : s.size ≤ maxLen) : Calls Try.prog 4 #[.string s] w fun e w' => e = .returned (.bool true) ∧ Below w.heap.size w w' := by
  obtain ⟨r, hr⟩ : ∃ r, r = wholeR (termP 16100) s.size (lexAll (bytesN s)) := ⟨_, rfl⟩
  have FT := wr_fit (fun t e => termP_whole_shp (s := s) (t := t) (by rw [← hr]; exact e))
  have TA := Lib.hid (fun W => (ptermf_any s W hs).mono fun e w' h => ExprPost.val (r := r) (by rw [hr]; exact h) FT)
  have RA := Lib.hid (fun W => (rtermf_any s W hs).mono fun e w' h => ExprPost.val (r := r) (by rw [hr]; exact h) FT)
  clear hr FT
  obtain ⟨t, ht⟩ : ∃ t, t = (whT r).1 := ⟨_, rfl⟩
  obtain ⟨cd, hcd⟩ : ∃ cd, cd = (whT r).2.1 := ⟨_, rfl⟩
  obtain ⟨pl, hpl⟩ : ∃ pl, pl = (whT r).2.2 := ⟨_, rfl⟩
  simp only [← ht, ← hcd, ← hpl] at TA RA
  clear ht hcd hpl
  go_enter Try.func4, Try.ntmps4
  go_wp2_with fail
  refine (TA.out _).mono ?_
  rintro e w1 ⟨hb1, A1, c1, rfl, ht1⟩
  have T1 := Lib.hid (BxT.new ht1)
  have BB1 := Lib.hid (fun o => hb1.trans ((al_below w1 o).mono hb1.size))
  clear hb1 ht1
  go_wp2_with fail
  refine (RA.out _).mono ?_
  rintro e w2 ⟨hb2, A2, c2, rfl, ht2⟩
  have T2 := Lib.hid (BxT.new ht2)
  have T1' := Lib.hid (fun o => (T1.out.keep hb2).keep (al_below w2 o))
  have BB2 := Lib.hid (fun o => ((BB1.out _).trans (hb2.mono (BB1.out _).size)).trans ((al_below w2 o).mono (Nat.le_trans (BB1.out _).size hb2.size)))
  have x0 := fun o => (T1'.out o).box.cells.1
  have x1 := fun o => (T1'.out o).box.cells.2.1
  have x2 := fun o => (T1'.out o).box.cells.2.2
  obtain ⟨z0, z1, z2⟩ := T2.out.box.cells
  clear hb2 ht2
  go_wp2_with fail
  refine (like_any t t A1 A2 c1 c2 _ (by exact (T1'.out _).tree) (by exact T2.out.tree)).mono ?_
  rintro e w3 ⟨rfl, hb3⟩
  rw [like_self]
  have BB3 := Lib.hid ((BB2.out _).trans (hb3.mono (BB2.out _).size))
  clear hb3
  go_wp2_with fail
  go_ret
  exact ⟨by simp, BB3.out⟩
end Go.Proofs.Ytfleomamhkeiiaa
