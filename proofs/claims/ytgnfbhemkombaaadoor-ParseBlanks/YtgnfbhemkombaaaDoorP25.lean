/- term of the document's layer 3. -/
import Derived.Test.YtgnfbhemkombaaaDoorP24
import Derived.Deep.RegionWith
namespace Go.Proofs.YtgnfbhemkombaaaDoor
open Go.RowKit
set_option linter.unusedVariables false
set_option linter.unusedSimpArgs false
theorem GotP.form {w w' : World} {l : List Tok} {p : PR} {e : Ending} (h : GotP w l p e w') : ∃ (b : Bool) (k i : Int) (A : Option Addr) (n c : Nat) (q : Int), e = .returned (.agg #[.bool b, .int .i64 k, .int .i64 i, .slice A n c, .int .i64 q]) := by
  obtain ⟨_, h⟩ := h
  cases p with
  | ok t r => obtain ⟨A, c, p', _, rfl, _⟩ := h; exact ⟨_, _, _, _, _, _, _, rfl⟩
  | bad r => obtain ⟨p', _, rfl⟩ := h; exact ⟨_, _, _, _, _, _, _, rfl⟩
/-- what a callee answered is handed on, through a box of one's own -/
theorem GotP.up {w w1 w2 : World} {l : List Tok} {p : PR} {e : Ending} {b : Nat} (h : GotP w1 l p e w2) (bel : Below w.heap.size w w1) (hb : w.heap.size ≤ b) (hb1 : b < w1.heap.size) (x y z u v : Value) :
    GotP w l p e (((((w2.setCell ⟨b, 0, none⟩ x).setCell ⟨b, 1, none⟩ y).setCell ⟨b, 2, none⟩ z).setCell ⟨b, 3, none⟩ u).setCell ⟨b, 4, none⟩ v) := by
  obtain ⟨h1, h2⟩ := h
  refine ⟨below_set5 (bel.trans (h1.mono bel.size)) hb _ _ _ _ _, ?_⟩
  cases p with
  | ok t r =>
    obtain ⟨A, c, p', a, rfl, ho⟩ := h2
    exact ⟨A, c, p', a, rfl, ((OwnT.same _ (fun k k1 k2 => set5_other _ _ _ _ _ _ _ _ (by omega)) ho).widen (by rw [set5_size]; exact Nat.le_refl _)).lower bel.size⟩
  | bad r => exact h2
section
variable {A : Option Addr} {c : Nat} {l : List Tok}
set_option maxHeartbeats 4000000 in
set_option maxRecDepth 100000 in
theorem rterm_any (hl : l.length ≤ 8000) : ∀ f, TermD l A c f := by
  intro f
  induction f with
  | zero => intro rest p w h; omega
  | succ f ih =>
    intro rest p w hf hp h
    have HT := Lib.hid ih
    have HP := Lib.hid hp
    have hpl := hp.le
    have hb0 : Below w.heap.size w (w.alloc (.cells #[.bool false, .int .i64 0, .int .i64 0, .slice none 0 0, .int .i64 0] 62)) := (Below.refl _ _).alloc (Nat.le_refl _) _
    have H0 := Lib.hid (h.keep hb0)
    have E0 := Lib.hid (Box5.new w (.bool false) (.int .i64 0) (.int .i64 0) (.slice none 0 0) (.int .i64 0))
    have HB0 := Lib.hid hb0
    clear ih hp h hb0
    by_cases h1 : kindN rest = 1
    · obtain ⟨t, r, rfl⟩ : ∃ t r, rest = t :: r := by
        cases rest with
        | nil => cases h1
        | cons t r => exact ⟨t, r, rfl⟩
      have hk : t.k = 1 := h1
      have P := Lib.hid (show termP (f + 1) (t :: r) = .ok (.node 1 t.n []) r by simp only [termP]; rw [if_pos hk])
      have hpt := HP.out.lt
      go_enter Tryd.func100, Tryd.ntmps100
      go_wp2_with fail
      refine (rkindAt_any _ H0.out HP.out hl).mono ?_
      rintro e w1 ⟨rfl, hb1⟩
      rw [h1]
      have T1 := H0.out.keep hb1
      have b5 := E0.out.keep hb1 (by simp)
      obtain ⟨b, rfl, hlc, hlt, d0, d1, d2⟩ := T1.at HP.out
      obtain ⟨y0, y1, y2, y3, y4⟩ := b5.cells
      have f0 := b5.frozen 0
      have f1 := b5.frozen 1
      have f2 := b5.frozen 2
      have f3 := b5.frozen 3
      have f4 := b5.frozen 4
      have hz1 := hb1.size
      rw [World.size_alloc] at hz1
      have BB := Lib.hid (HB0.out.trans (hb1.mono HB0.out.size))
      have hpi : (p : Int) < (l.length : Int) := by omega
      clear b5 hb1 T1 E0 H0
      go_wp2_with fail
      refine bodyPost_ret (v := gotV (.node 1 t.n []) none 0 (p + 1)) (by simp [results, Tryd.results100, go_sem, gotV, Tr.k, Tr.i, Tr.ks, y0, y1, y2, y3, y4]) rfl ?_
      rw [P.out]
      exact ⟨below_set5 BB.out (Nat.le_refl _) _ _ _ _ _, none, 0, p + 1, HP.out.tail, rfl, ownT_leaf _ _ _ (by rw [set5_size]; omega) _ rfl⟩
    · by_cases h2 : kindN rest = 2
      · obtain ⟨t, r, rfl⟩ : ∃ t r, rest = t :: r := by
          cases rest with
          | nil => cases h2
          | cons t r => exact ⟨t, r, rfl⟩
        have hk : t.k = 2 := h2
        have P := Lib.hid (show termP (f + 1) (t :: r) = argsP (termP f) 2 t.n r by simp only [termP]; rw [if_neg (by omega), if_pos hk])
        have hpt := HP.out.lt
        simp only [List.length_cons] at hf
        go_enter Tryd.func100, Tryd.ntmps100
        go_wp2_with fail
        refine (rkindAt_any _ H0.out HP.out hl).mono ?_
        rintro e w1 ⟨rfl, hb1⟩
        rw [h2]
        have T1 := Lib.hid (H0.out.keep hb1)
        have B1 := Lib.hid (E0.out.keep hb1 (by simp))
        have BB1 := Lib.hid (HB0.out.trans (hb1.mono HB0.out.size))
        clear hb1
        go_wp2_with fail
        refine (rkindAt_any _ T1.out HP.out hl).mono ?_
        rintro e w2 ⟨rfl, hb2⟩
        rw [h2]
        have T2 := T1.out.keep hb2
        have B2 := Lib.hid (B1.out.keep hb2 B1.out.lt)
        obtain ⟨b, rfl, hlc, hlt, d0, d1, d2⟩ := T2.at HP.out
        have hz1 : w.heap.size < w2.heap.size := B2.out.lt
        have BB := Lib.hid (BB1.out.trans (hb2.mono BB1.out.size))
        have hpi : (p : Int) < (l.length : Int) := by omega
        have AC := Lib.hid (rargs_any f HT.out hl 2 t.n w2 (by omega) HP.out.tail T2)
        have e1 : ((p + 1 : Nat) : Int) = (p : Int) + 1 := by omega
        rw [e1] at AC
        clear hb2 T2 E0 H0 T1 B1 BB1
        go_wp2_with fail
        refine AC.out.mono ?_
        intro e w3 hG
        obtain ⟨xb, xk, xi, xA, xn, xc, xq, rfl⟩ := hG.form
        have b5 := B2.out.keep hG.1 hz1
        obtain ⟨y0, y1, y2, y3, y4⟩ := b5.cells
        have f0 := b5.frozen 0
        have f1 := b5.frozen 1
        have f2 := b5.frozen 2
        have f3 := b5.frozen 3
        have f4 := b5.frozen 4
        have G := Lib.hid hG
        clear b5 hG
        go_wp2_with fail
        refine bodyPost_ret (v := .agg #[.bool xb, .int .i64 xk, .int .i64 xi, .slice xA xn xc, .int .i64 xq]) (by simp [results, Tryd.results100, go_sem, y0, y1, y2, y3, y4]) rfl ?_
        rw [P.out]
        exact G.out.up BB.out (Nat.le_refl _) hz1 _ _ _ _ _
      · have P := Lib.hid (show termP (f + 1) rest = .bad rest by
          cases rest with
          | nil => rfl
          | cons t r => simp only [termP]; rw [if_neg (show ¬ t.k = 1 from h1), if_neg (show ¬ t.k = 2 from h2)])
        have e1 : ((kindN rest : Int) == 1) = false := by rw [beq_eq_false_iff_ne]; omega
        have e2 : ((kindN rest : Int) == 2) = false := by rw [beq_eq_false_iff_ne]; omega
        go_enter Tryd.func100, Tryd.ntmps100
        go_wp2_with fail
        refine (rkindAt_any _ H0.out HP.out hl).mono ?_
        rintro e w1 ⟨rfl, hb1⟩
        have T1 := Lib.hid (H0.out.keep hb1)
        have B1 := Lib.hid (E0.out.keep hb1 (by simp))
        have BB1 := Lib.hid (HB0.out.trans (hb1.mono HB0.out.size))
        clear hb1
        go_wp2_with fail
        refine (rkindAt_any _ T1.out HP.out hl).mono ?_
        rintro e w2 ⟨rfl, hb2⟩
        have B2 := Lib.hid (B1.out.keep hb2 B1.out.lt)
        have BB := Lib.hid (BB1.out.trans (hb2.mono BB1.out.size))
        clear hb2 T1 B1 BB1
        go_wp2_with fail
        refine (rno_any p _).mono ?_
        rintro e w3 ⟨rfl, hb3⟩
        have b5 := B2.out.keep hb3 B2.out.lt
        obtain ⟨y0, y1, y2, y3, y4⟩ := b5.cells
        have f0 := b5.frozen 0
        have f1 := b5.frozen 1
        have f2 := b5.frozen 2
        have f3 := b5.frozen 3
        have f4 := b5.frozen 4
        have BW := Lib.hid (BB.out.trans (hb3.mono BB.out.size))
        clear b5 hb3
        go_wp2_with fail
        refine bodyPost_ret (v := noV p) (by simp [results, Tryd.results100, go_sem, noV, y0, y1, y2, y3, y4]) rfl ?_
        rw [P.out]
        exact ⟨below_set5 BW.out (Nat.le_refl _) _ _ _ _ _, p, HP.out, rfl⟩
end
end Go.Proofs.YtgnfbhemkombaaaDoor
