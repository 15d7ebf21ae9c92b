/- formula of the document's layer 3. -/
import Derived.Test.YtgnfbhemkombaaaDoorP27
import Derived.Test.YtgnfbhemkombaaaDoorP28
namespace Go.Proofs.YtgnfbhemkombaaaDoor
open Go.RowKit
set_option linter.unusedVariables false
set_option linter.unusedSimpArgs false
theorem formP_sign {f c : Nat} {rest : List Tok} (h : stands c rest = true) : ∃ t r, rest = t :: r ∧ t.k = 4 ∧ t.n = c := stands_cons h
theorem formP_33 {f : Nat} {t : Tok} {r : List Tok} (h4 : t.k = 4) (hn : t.n = 33) : formP (f + 1) (t :: r) = notP (formP f) r := by simp [formP, h4, hn]
theorem formP_64 {f : Nat} {t : Tok} {r : List Tok} (h4 : t.k = 4) (hn : t.n = 64) : formP (f + 1) (t :: r) = quantP (formP f) 7 r := by simp [formP, h4, hn]
theorem formP_63 {f : Nat} {t : Tok} {r : List Tok} (h4 : t.k = 4) (hn : t.n = 63) : formP (f + 1) (t :: r) = quantP (formP f) 10 r := by simp [formP, h4, hn]
theorem formP_40 {f : Nat} {t : Tok} {r : List Tok} (h4 : t.k = 4) (hn : t.n = 40) : formP (f + 1) (t :: r) = pairP (formP f) r := by simp [formP, h4, hn]
theorem formP_3 {f : Nat} {t : Tok} {r : List Tok} (h3 : t.k = 3) : formP (f + 1) (t :: r) = argsP (termP f) 3 t.n r := by simp [formP, h3]
theorem formP_else {f : Nat} {rest : List Tok} (hf : 0 < f) (h1 : stands 33 rest = false) (h2 : stands 64 rest = false) (h3 : stands 63 rest = false) (h4 : stands 40 rest = false) (hk : kindN rest ≠ 3) : formP (f + 1) rest = eqP (termP f) rest := by
  obtain ⟨g, rfl⟩ : ∃ g, f = g + 1 := ⟨f - 1, by omega⟩
  cases rest with
  | nil => rfl
  | cons t r =>
    have hk' : ¬ t.k = 3 := hk
    simp only [formP]
    rw [if_neg hk']
    by_cases h12 : t.k = 1 ∨ t.k = 2
    · rw [if_pos h12]
    · rw [if_neg h12]
      have ht : termP (g + 1) (t :: r) = .bad (t :: r) := by simp only [termP]; rw [if_neg (fun e => h12 (.inl e)), if_neg (fun e => h12 (.inr e))]
      have he : eqP (termP (g + 1)) (t :: r) = .bad (t :: r) := by unfold eqP; rw [ht]
      rw [he]
      by_cases e4 : t.k = 4
      · simp [stands, e4] at h1 h2 h3 h4
        rw [if_pos e4, if_neg h1, if_neg h2, if_neg h3, if_neg h4]
      · rw [if_neg e4]
section
variable {A : Option Addr} {c : Nat} {l : List Tok}
set_option maxHeartbeats 8000000 in
set_option maxRecDepth 100000 in
theorem rform_any (hl : l.length ≤ 8000) : ∀ f, FormD l A c f := by
  intro f
  induction f with
  | zero => intro rest p w h; omega
  | succ f ih =>
    intro rest p w hf hp h
    have HF := Lib.hid ih
    have HT := Lib.hid (rterm_any (A := A) (c := c) hl f)
    have HP := Lib.hid hp
    have hpl := hp.le
    have hb0 : Below w.heap.size w (w.alloc (.cells #[.bool false, .int .i64 0, .int .i64 0, .slice none 0 0, .int .i64 0] 62)) := (Below.refl _ _).alloc (Nat.le_refl _) _
    have H := Lib.hid h
    have H0 := Lib.hid (h.keep hb0)
    have E0 := Lib.hid (Box5.new w (.bool false) (.int .i64 0) (.int .i64 0) (.slice none 0 0) (.int .i64 0))
    have HB0 := Lib.hid hb0
    clear ih hp h hb0
    cases h33 : stands 33 rest with
    | true =>
      obtain ⟨t, r, rfl, ht4, htn⟩ := stands_cons h33
      have P := Lib.hid (formP_33 (f := f) (r := r) ht4 htn)
      have hpt := HP.out.lt
      simp only [List.length_cons] at hf
      have e1 : ((p + 1 : Nat) : Int) = (p : Int) + 1 := by omega
      cases hR : formP f r with
      | bad r' =>
        have P2 := Lib.hid (show notP (formP f) r = .bad r' by unfold notP; rw [hR])
        go_enter Tryd.func34, Tryd.ntmps34
        go_wp2_with fail
        refine (rsign_any 33 _ H0.out HP.out hl (by omega)).mono ?_
        rintro e w1 ⟨rfl, hb1⟩
        rw [h33]
        have T1 := Lib.hid (H0.out.keep hb1)
        have B1 := Lib.hid (E0.out.keep hb1 (by simp))
        have BB1 := Lib.hid (HB0.out.trans (hb1.mono HB0.out.size))
        clear hb1
        go_wp2_with fail
        have FC := Lib.hid (HF.out r (p + 1) w1 (by omega) HP.out.tail T1.out)
        rw [hR, e1] at FC
        refine FC.out.mono ?_
        rintro e w2 ⟨hb2, p2, hp2, rfl⟩
        unfold noV
        have bz : ∀ o, Box5 (w2.alloc o) w.heap.size (.bool false) (.int .i64 0) (.int .i64 0) (.slice none 0 0) (.int .i64 0) := fun o => (B1.out.keep hb2 B1.out.lt).keep ((Below.refl w2.heap.size w2).alloc (Nat.le_refl _) o) (by have := hb2.size; have := B1.out.lt; omega)
        have y0 := fun o => (bz o).cells.1
        have y1 := fun o => (bz o).cells.2.1
        have y2 := fun o => (bz o).cells.2.2.1
        have y3 := fun o => (bz o).cells.2.2.2.1
        have y4 := fun o => (bz o).cells.2.2.2.2
        have f0 := fun o => (bz o).frozen 0
        have f1 := fun o => (bz o).frozen 1
        have f2 := fun o => (bz o).frozen 2
        have f3 := fun o => (bz o).frozen 3
        have f4 := fun o => (bz o).frozen 4
        have BW := Lib.hid (fun o => ((BB1.out.trans (hb2.mono BB1.out.size)).alloc (Nat.le_trans BB1.out.size hb2.size) o))
        clear bz hb2
        go_wp2_with fail
        refine bodyPost_ret (v := noV p2) (by simp [results, Tryd.results34, go_sem, noV, y0, y1, y2, y3, y4]) rfl ?_
        rw [P.out, P2.out]
        exact ⟨below_set5 (BW.out _) (Nat.le_refl _) _ _ _ _ _, p2, hp2, rfl⟩
      | ok a r2 =>
        have P2 := Lib.hid (show notP (formP f) r = .ok (.node 5 0 [a]) r2 by unfold notP; rw [hR])
        go_enter Tryd.func34, Tryd.ntmps34
        go_wp2_with fail
        refine (rsign_any 33 _ H0.out HP.out hl (by omega)).mono ?_
        rintro e w1 ⟨rfl, hb1⟩
        rw [h33]
        have T1 := Lib.hid (H0.out.keep hb1)
        have B1 := Lib.hid (E0.out.keep hb1 (by simp))
        have BB1 := Lib.hid (HB0.out.trans (hb1.mono HB0.out.size))
        clear hb1
        go_wp2_with fail
        have FC := Lib.hid (HF.out r (p + 1) w1 (by omega) HP.out.tail T1.out)
        rw [hR, e1] at FC
        refine FC.out.mono ?_
        rintro e w2 ⟨hb2, A2, c2, p2, hp2, rfl, ho⟩
        unfold gotV
        have hs2 := hb2.size
        have hw1 := B1.out.lt
        have hba : Below w2.heap.size w2 (w2.alloc (.cells #[.bool true, .int .i64 a.k, .int .i64 a.i, .slice A2 a.ks.length c2, .int .i64 (p2 : Int)] 62)) := (Below.refl _ _).alloc (Nat.le_refl _) _
        have GB := Lib.hid (Box5.new w2 (.bool true) (.int .i64 a.k) (.int .i64 a.i) (.slice A2 a.ks.length c2) (.int .i64 (p2 : Int)))
        have RB := Lib.hid ((B1.out.keep hb2 hw1).keep hba (show w.heap.size < w2.heap.size by omega))
        have BW := Lib.hid ((BB1.out.trans (hb2.mono BB1.out.size)).trans (hba.mono (Nat.le_trans BB1.out.size hb2.size)))
        have HO := Lib.hid ((OwnT.same _ (fun k _ k2 => hba.block k k2) ho).lower (show w.heap.size + 1 ≤ w1.heap.size from hw1))
        have hW2 : w2.heap.size + 1 = (w2.alloc (.cells #[.bool true, .int .i64 a.k, .int .i64 a.i, .slice A2 a.ks.length c2, .int .i64 (p2 : Int)] 62)).heap.size := by simp
        obtain ⟨g1, g2, g3, g4, g5⟩ := GB.out.cells
        have hgn : w.heap.size < w2.heap.size := by omega
        have PP := Lib.hid hp2
        clear hb2 ho hba hp2
        go_wp2_with fail
        generalize (w2.alloc (.cells #[.bool true, .int .i64 a.k, .int .i64 a.i, .slice A2 a.ks.length c2, .int .i64 (p2 : Int)] 62)) = W at GB RB BW HO hW2 g1 g2 g3 g4 g5 ⊢
        generalize w2.heap.size = gb at GB HO hW2 g1 g2 g3 g4 g5 hgn ⊢
        have g5' := fun o => (((Below.refl W.heap.size W).alloc (Nat.le_refl _) o).cell (p := ⟨gb, 4, none⟩) (show gb < W.heap.size by omega)).trans g5
        have bz : ∀ o, Box5 (W.alloc o) w.heap.size (.bool false) (.int .i64 0) (.int .i64 0) (.slice none 0 0) (.int .i64 0) := fun o => (Below.heap_alloc _ o _ RB.out.lt).trans RB.out
        have y0 := fun o => (bz o).cells.1
        have y1 := fun o => (bz o).cells.2.1
        have y2 := fun o => (bz o).cells.2.2.1
        have y3 := fun o => (bz o).cells.2.2.2.1
        have y4 := fun o => (bz o).cells.2.2.2.2
        have f0 := fun o => (bz o).frozen 0
        have f1 := fun o => (bz o).frozen 1
        have f2 := fun o => (bz o).frozen 2
        have f3 := fun o => (bz o).frozen 3
        have f4 := fun o => (bz o).frozen 4
        clear bz
        have OO := Lib.hid (fun (x y z u v : Value) => show OwnT (((((W.alloc (.cells #[.int .i64 a.k, .int .i64 a.i, .slice A2 a.ks.length c2] 24)).setCell ⟨w.heap.size, 0, none⟩ x).setCell ⟨w.heap.size, 1, none⟩ y).setCell ⟨w.heap.size, 2, none⟩ z).setCell ⟨w.heap.size, 3, none⟩ u |>.setCell ⟨w.heap.size, 4, none⟩ v) (w.heap.size + 1) (W.heap.size + 1) (.node 5 0 [a]) (some ⟨W.heap.size, 0, none⟩) 1 from
          own_one (hi := gb) (OwnT.same _ (fun x x1 x2 => set5f_far _ _ _ _ _ _ _ (by omega) (by omega)) HO.out) (by rw [set5_other _ _ _ _ _ _ _ _ (by omega)]; exact World.alloc_heap_new _ _) (by omega))
        have BF := Lib.hid (fun o x y z u v => below_set5 (BW.out.alloc BW.out.size o) (Nat.le_refl _) x y z u v)
        go_wp2_with fail
        refine bodyPost_ret (v := gotV (.node 5 0 [a]) (some ⟨W.heap.size, 0, none⟩) 1 p2) (by simp [results, Tryd.results34, go_sem, gotV, Tr.k, Tr.i, Tr.ks, y0, y1, y2, y3, y4]) rfl ?_
        rw [P.out, P2.out]
        exact ⟨BF.out _ _ _ _ _ _, _, 1, p2, PP.out, rfl, ((OO.out _ _ _ _ _).lower (Nat.le_succ _)).widen (by simp)⟩
    | false =>
      cases h64 : stands 64 rest with
      | true =>
        obtain ⟨t, r, rfl, ht4, htn⟩ := stands_cons h64
        have P := Lib.hid (formP_64 (f := f) (r := r) ht4 htn)
        have hpt := HP.out.lt
        simp only [List.length_cons] at hf
        have e1 : ((p + 1 : Nat) : Int) = (p : Int) + 1 := by omega
        go_enter Tryd.func34, Tryd.ntmps34
        go_wp2_with fail
        refine (rsign_any 33 _ H0.out HP.out hl (by omega)).mono ?_
        rintro e w1 ⟨rfl, hb1⟩
        rw [h33]
        have T1 := Lib.hid (H0.out.keep hb1)
        have B1 := Lib.hid (E0.out.keep hb1 (by simp))
        have BB1 := Lib.hid (HB0.out.trans (hb1.mono HB0.out.size))
        clear hb1
        go_wp2_with fail
        refine (rsign_any 64 _ T1.out HP.out hl (by omega)).mono ?_
        rintro e w2 ⟨rfl, hb2⟩
        rw [h64]
        have T2 := Lib.hid (T1.out.keep hb2)
        have B2 := Lib.hid (B1.out.keep hb2 B1.out.lt)
        have BB2 := Lib.hid (BB1.out.trans (hb2.mono BB1.out.size))
        clear hb2
        go_wp2_with fail
        have QC := Lib.hid (rquant_any f HF.out hl 7 w2 (by omega) HP.out.tail T2.out)
        rw [e1] at QC
        refine (QC.out).mono ?_
        intro e wz hG
        obtain ⟨xb, xk, xi, xA, xn, xc, xq, rfl⟩ := hG.form
        have b5 := B2.out.keep hG.1 B2.out.lt
        obtain ⟨y0, y1, y2, y3, y4⟩ := b5.cells
        have f0 := b5.frozen 0
        have f1 := b5.frozen 1
        have f2 := b5.frozen 2
        have f3 := b5.frozen 3
        have f4 := b5.frozen 4
        have G := Lib.hid hG
        clear b5 hG
        go_wp2_with fail
        refine bodyPost_ret (v := .agg #[.bool xb, .int .i64 xk, .int .i64 xi, .slice xA xn xc, .int .i64 xq]) (by simp [results, Tryd.results34, go_sem, y0, y1, y2, y3, y4]) rfl ?_
        rw [P.out]
        exact G.out.up BB2.out (Nat.le_refl _) B2.out.lt _ _ _ _ _
      | false =>
        cases h63 : stands 63 rest with
        | true =>
          obtain ⟨t, r, rfl, ht4, htn⟩ := stands_cons h63
          have P := Lib.hid (formP_63 (f := f) (r := r) ht4 htn)
          have hpt := HP.out.lt
          simp only [List.length_cons] at hf
          have e1 : ((p + 1 : Nat) : Int) = (p : Int) + 1 := by omega
          go_enter Tryd.func34, Tryd.ntmps34
          go_wp2_with fail
          refine (rsign_any 33 _ H0.out HP.out hl (by omega)).mono ?_
          rintro e w1 ⟨rfl, hb1⟩
          rw [h33]
          have T1 := Lib.hid (H0.out.keep hb1)
          have B1 := Lib.hid (E0.out.keep hb1 (by simp))
          have BB1 := Lib.hid (HB0.out.trans (hb1.mono HB0.out.size))
          clear hb1
          go_wp2_with fail
          refine (rsign_any 64 _ T1.out HP.out hl (by omega)).mono ?_
          rintro e w2 ⟨rfl, hb2⟩
          rw [h64]
          have T2 := Lib.hid (T1.out.keep hb2)
          have B2 := Lib.hid (B1.out.keep hb2 B1.out.lt)
          have BB2 := Lib.hid (BB1.out.trans (hb2.mono BB1.out.size))
          clear hb2
          go_wp2_with fail
          refine (rsign_any 63 _ T2.out HP.out hl (by omega)).mono ?_
          rintro e w3 ⟨rfl, hb3⟩
          rw [h63]
          have T3 := Lib.hid (T2.out.keep hb3)
          have B3 := Lib.hid (B2.out.keep hb3 B2.out.lt)
          have BB3 := Lib.hid (BB2.out.trans (hb3.mono BB2.out.size))
          clear hb3
          go_wp2_with fail
          have QC := Lib.hid (rquant_any f HF.out hl 10 w3 (by omega) HP.out.tail T3.out)
          rw [e1] at QC
          refine (QC.out).mono ?_
          intro e wz hG
          obtain ⟨xb, xk, xi, xA, xn, xc, xq, rfl⟩ := hG.form
          have b5 := B3.out.keep hG.1 B3.out.lt
          obtain ⟨y0, y1, y2, y3, y4⟩ := b5.cells
          have f0 := b5.frozen 0
          have f1 := b5.frozen 1
          have f2 := b5.frozen 2
          have f3 := b5.frozen 3
          have f4 := b5.frozen 4
          have G := Lib.hid hG
          clear b5 hG
          go_wp2_with fail
          refine bodyPost_ret (v := .agg #[.bool xb, .int .i64 xk, .int .i64 xi, .slice xA xn xc, .int .i64 xq]) (by simp [results, Tryd.results34, go_sem, y0, y1, y2, y3, y4]) rfl ?_
          rw [P.out]
          exact G.out.up BB3.out (Nat.le_refl _) B3.out.lt _ _ _ _ _
        | false =>
          cases h40 : stands 40 rest with
          | true =>
            obtain ⟨t, r, rfl, ht4, htn⟩ := stands_cons h40
            have P := Lib.hid (formP_40 (f := f) (r := r) ht4 htn)
            have hpt := HP.out.lt
            simp only [List.length_cons] at hf
            have e1 : ((p + 1 : Nat) : Int) = (p : Int) + 1 := by omega
            go_enter Tryd.func34, Tryd.ntmps34
            go_wp2_with fail
            refine (rsign_any 33 _ H0.out HP.out hl (by omega)).mono ?_
            rintro e w1 ⟨rfl, hb1⟩
            rw [h33]
            have T1 := Lib.hid (H0.out.keep hb1)
            have B1 := Lib.hid (E0.out.keep hb1 (by simp))
            have BB1 := Lib.hid (HB0.out.trans (hb1.mono HB0.out.size))
            clear hb1
            go_wp2_with fail
            refine (rsign_any 64 _ T1.out HP.out hl (by omega)).mono ?_
            rintro e w2 ⟨rfl, hb2⟩
            rw [h64]
            have T2 := Lib.hid (T1.out.keep hb2)
            have B2 := Lib.hid (B1.out.keep hb2 B1.out.lt)
            have BB2 := Lib.hid (BB1.out.trans (hb2.mono BB1.out.size))
            clear hb2
            go_wp2_with fail
            refine (rsign_any 63 _ T2.out HP.out hl (by omega)).mono ?_
            rintro e w3 ⟨rfl, hb3⟩
            rw [h63]
            have T3 := Lib.hid (T2.out.keep hb3)
            have B3 := Lib.hid (B2.out.keep hb3 B2.out.lt)
            have BB3 := Lib.hid (BB2.out.trans (hb3.mono BB2.out.size))
            clear hb3
            go_wp2_with fail
            refine (rsign_any 40 _ T3.out HP.out hl (by omega)).mono ?_
            rintro e w4 ⟨rfl, hb4⟩
            rw [h40]
            have T4 := Lib.hid (T3.out.keep hb4)
            have B4 := Lib.hid (B3.out.keep hb4 B3.out.lt)
            have BB4 := Lib.hid (BB3.out.trans (hb4.mono BB3.out.size))
            clear hb4
            go_wp2_with fail
            have QC := Lib.hid (rpair_any f HF.out hl w4 (by omega) HP.out.tail T4.out)
            rw [e1] at QC
            refine (QC.out).mono ?_
            intro e wz hG
            obtain ⟨xb, xk, xi, xA, xn, xc, xq, rfl⟩ := hG.form
            have b5 := B4.out.keep hG.1 B4.out.lt
            obtain ⟨y0, y1, y2, y3, y4⟩ := b5.cells
            have f0 := b5.frozen 0
            have f1 := b5.frozen 1
            have f2 := b5.frozen 2
            have f3 := b5.frozen 3
            have f4 := b5.frozen 4
            have G := Lib.hid hG
            clear b5 hG
            go_wp2_with fail
            refine bodyPost_ret (v := .agg #[.bool xb, .int .i64 xk, .int .i64 xi, .slice xA xn xc, .int .i64 xq]) (by simp [results, Tryd.results34, go_sem, y0, y1, y2, y3, y4]) rfl ?_
            rw [P.out]
            exact G.out.up BB4.out (Nat.le_refl _) B4.out.lt _ _ _ _ _
          | false =>
            by_cases hk3 : kindN rest = 3
            · obtain ⟨t, r, rfl⟩ : ∃ t r, rest = t :: r := by
                cases rest with
                | nil => cases hk3
                | cons t r => exact ⟨t, r, rfl⟩
              have P := Lib.hid (formP_3 (f := f) (r := r) (show t.k = 3 from hk3))
              have hpt := HP.out.lt
              simp only [List.length_cons] at hf
              have e1 : ((p + 1 : Nat) : Int) = (p : Int) + 1 := by omega
              go_enter Tryd.func34, Tryd.ntmps34
              go_wp2_with fail
              refine (rsign_any 33 _ H0.out HP.out hl (by omega)).mono ?_
              rintro e w1 ⟨rfl, hb1⟩
              rw [h33]
              have T1 := Lib.hid (H0.out.keep hb1)
              have B1 := Lib.hid (E0.out.keep hb1 (by simp))
              have BB1 := Lib.hid (HB0.out.trans (hb1.mono HB0.out.size))
              clear hb1
              go_wp2_with fail
              refine (rsign_any 64 _ T1.out HP.out hl (by omega)).mono ?_
              rintro e w2 ⟨rfl, hb2⟩
              rw [h64]
              have T2 := Lib.hid (T1.out.keep hb2)
              have B2 := Lib.hid (B1.out.keep hb2 B1.out.lt)
              have BB2 := Lib.hid (BB1.out.trans (hb2.mono BB1.out.size))
              clear hb2
              go_wp2_with fail
              refine (rsign_any 63 _ T2.out HP.out hl (by omega)).mono ?_
              rintro e w3 ⟨rfl, hb3⟩
              rw [h63]
              have T3 := Lib.hid (T2.out.keep hb3)
              have B3 := Lib.hid (B2.out.keep hb3 B2.out.lt)
              have BB3 := Lib.hid (BB2.out.trans (hb3.mono BB2.out.size))
              clear hb3
              go_wp2_with fail
              refine (rsign_any 40 _ T3.out HP.out hl (by omega)).mono ?_
              rintro e w4 ⟨rfl, hb4⟩
              rw [h40]
              have T4 := Lib.hid (T3.out.keep hb4)
              have B4 := Lib.hid (B3.out.keep hb4 B3.out.lt)
              have BB4 := Lib.hid (BB3.out.trans (hb4.mono BB3.out.size))
              clear hb4
              go_wp2_with fail
              refine (rkindAt_any _ T4.out HP.out hl).mono ?_
              rintro e w5 ⟨rfl, hb5⟩
              rw [hk3]
              have T5' := T4.out.keep hb5
              have T5 := Lib.hid T5'
              have B5 := Lib.hid (B4.out.keep hb5 B4.out.lt)
              have BB5 := Lib.hid (BB4.out.trans (hb5.mono BB4.out.size))
              obtain ⟨b, rfl, hlc, hlt, d0, d1, d2⟩ := T5'.at HP.out
              have hpi : (p : Int) < (l.length : Int) := by omega
              have AC := Lib.hid (rargs_any f HT.out hl 3 t.n w5 (by omega) HP.out.tail T5.out)
              rw [e1] at AC
              clear hb5 T5'
              go_wp2_with fail
              refine (AC.out).mono ?_
              intro e wz hG
              obtain ⟨xb, xk, xi, xA, xn, xc, xq, rfl⟩ := hG.form
              have b5 := B5.out.keep hG.1 B5.out.lt
              obtain ⟨y0, y1, y2, y3, y4⟩ := b5.cells
              have f0 := b5.frozen 0
              have f1 := b5.frozen 1
              have f2 := b5.frozen 2
              have f3 := b5.frozen 3
              have f4 := b5.frozen 4
              have G := Lib.hid hG
              clear b5 hG
              go_wp2_with fail
              refine bodyPost_ret (v := .agg #[.bool xb, .int .i64 xk, .int .i64 xi, .slice xA xn xc, .int .i64 xq]) (by simp [results, Tryd.results34, go_sem, y0, y1, y2, y3, y4]) rfl ?_
              rw [P.out]
              exact G.out.up BB5.out (Nat.le_refl _) B5.out.lt _ _ _ _ _
            · have P := Lib.hid (formP_else (f := f) (by omega) h33 h64 h63 h40 hk3)
              have e3 : ((kindN rest : Int) == 3) = false := by rw [beq_eq_false_iff_ne]; omega
              go_enter Tryd.func34, Tryd.ntmps34
              go_wp2_with fail
              refine (rsign_any 33 _ H0.out HP.out hl (by omega)).mono ?_
              rintro e w1 ⟨rfl, hb1⟩
              rw [h33]
              have T1 := Lib.hid (H0.out.keep hb1)
              have B1 := Lib.hid (E0.out.keep hb1 (by simp))
              have BB1 := Lib.hid (HB0.out.trans (hb1.mono HB0.out.size))
              clear hb1
              go_wp2_with fail
              refine (rsign_any 64 _ T1.out HP.out hl (by omega)).mono ?_
              rintro e w2 ⟨rfl, hb2⟩
              rw [h64]
              have T2 := Lib.hid (T1.out.keep hb2)
              have B2 := Lib.hid (B1.out.keep hb2 B1.out.lt)
              have BB2 := Lib.hid (BB1.out.trans (hb2.mono BB1.out.size))
              clear hb2
              go_wp2_with fail
              refine (rsign_any 63 _ T2.out HP.out hl (by omega)).mono ?_
              rintro e w3 ⟨rfl, hb3⟩
              rw [h63]
              have T3 := Lib.hid (T2.out.keep hb3)
              have B3 := Lib.hid (B2.out.keep hb3 B2.out.lt)
              have BB3 := Lib.hid (BB2.out.trans (hb3.mono BB2.out.size))
              clear hb3
              go_wp2_with fail
              refine (rsign_any 40 _ T3.out HP.out hl (by omega)).mono ?_
              rintro e w4 ⟨rfl, hb4⟩
              rw [h40]
              have T4 := Lib.hid (T3.out.keep hb4)
              have B4 := Lib.hid (B3.out.keep hb4 B3.out.lt)
              have BB4 := Lib.hid (BB3.out.trans (hb4.mono BB3.out.size))
              clear hb4
              go_wp2_with fail
              refine (rkindAt_any _ T4.out HP.out hl).mono ?_
              rintro e w5 ⟨rfl, hb5⟩
              have T5 := Lib.hid (T4.out.keep hb5)
              have B5 := Lib.hid (B4.out.keep hb5 B4.out.lt)
              have BB5 := Lib.hid (BB4.out.trans (hb5.mono BB4.out.size))
              clear hb5
              go_wp2_with fail
              have QC := Lib.hid (requality_any f HT.out hl w5 (by omega) HP.out T5.out)
              refine (QC.out).mono ?_
              intro e wz hG
              obtain ⟨xb, xk, xi, xA, xn, xc, xq, rfl⟩ := hG.form
              have b5 := B5.out.keep hG.1 B5.out.lt
              obtain ⟨y0, y1, y2, y3, y4⟩ := b5.cells
              have f0 := b5.frozen 0
              have f1 := b5.frozen 1
              have f2 := b5.frozen 2
              have f3 := b5.frozen 3
              have f4 := b5.frozen 4
              have G := Lib.hid hG
              clear b5 hG
              go_wp2_with fail
              refine bodyPost_ret (v := .agg #[.bool xb, .int .i64 xk, .int .i64 xi, .slice xA xn xc, .int .i64 xq]) (by simp [results, Tryd.results34, go_sem, y0, y1, y2, y3, y4]) rfl ?_
              rw [P.out]
              exact G.out.up BB5.out (Nat.le_refl _) B5.out.lt _ _ _ _ _
end
end Go.Proofs.YtgnfbhemkombaaaDoor
