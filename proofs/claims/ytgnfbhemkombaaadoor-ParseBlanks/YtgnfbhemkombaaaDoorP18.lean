/- formula of package parse. -/
import Derived.Test.YtgnfbhemkombaaaDoorP17
namespace Go.Proofs.YtgnfbhemkombaaaDoor
open Go.RowKit
set_option linter.unusedVariables false
theorem fin_read {b : Nat} {A : Option Addr} {c : Nat} {l r : List Tok} {sl z m d lo : Nat} {w w6 : World} {t : Tr} {x y : Int} {B : Option Addr} {p q : Nat} (hb : b < w.heap.size) (hA : ∀ g, A = some ⟨g, 0, none⟩ → l ≠ [] → g < w.heap.size) (hk : KeepR b w w6) (hr : Rdr w6 b A c l r sl (z + 1 + szL t.ks) (max (max m d) (d + dpL t.ks)))
    (hv : ExprV w6 lo (z + 1 + szL t.ks) (max (max m d) (d + dpL t.ks)) t (.agg #[.int .i64 x, .int .i64 y, .slice B p q])) (hlo : w.heap.size + 1 ≤ lo) :
    ReadP b A c l sl z m d w (.ok t r) (.returned (.agg #[.int .i64 x, .int .i64 y, .slice B p q])) (((w6.setCell ⟨w.heap.size, 0, none⟩ (.int .i64 x)).setCell ⟨w.heap.size, 1, none⟩ (.int .i64 y)).setCell ⟨w.heap.size, 2, none⟩ (.slice B p q)) := by
  have es : z + t.sz = z + 1 + szL t.ks := by cases t; simp only [Tr.sz, Tr.ks]; omega
  have ed : max m (d + dpL t.ks) = max (max m d) (d + dpL t.ks) := by omega
  refine ⟨set3_keep hk (Nat.le_refl _) _ _ _, ?_, _, rfl, ?_⟩
  · rw [es, ed]; exact hr.set3 w.heap.size hb hA _ _ _
  · rw [es, ed]; exact hv.same (fun k hk1 _ => set3_other _ _ _ _ _ _ (by omega)) (by rw [set3_size]; exact Nat.le_refl _) (by omega)
set_option maxHeartbeats 8000000 in
set_option maxRecDepth 100000 in
theorem form_any : ∀ f, FormC f := by
  intro f
  induction f with
  | zero => intro b A c l rest sl z m d w h; omega
  | succ f ih =>
    intro b A c l rest sl z m d w hf hl hd hz h
    have HF := Lib.hid ih
    have HT := Lib.hid (pterm_any f)
    have hbw := h.lt
    have HA := Lib.hid h.below
    have ha : Below w.heap.size w (w.alloc (.cells #[.int .i64 0, .int .i64 0, .slice none 0 0] 24)) := (Below.refl _ _).alloc (Nat.le_refl _) _
    have H0 := Lib.hid (h.keep ha)
    have B0 := Lib.hid (Box3.new w (.int .i64 0) (.int .i64 0) (.slice none 0 0))
    have hz' : z ≤ 1000000 := by omega
    clear h ih
    have hd1 : ((d + 1 : Nat) : Int) = (d : Int) + 1 := by omega
    go_enter Tryd.func37, Tryd.ntmps37
    go_wp2_with fail
    refine (begin_any d _ H0.out hz').mono ?_
    rintro e w1 ⟨rfl, hr1, hk1⟩
    have R1 := Lib.hid hr1
    have K1 := Lib.hid ((KeepR.of_below (b := b) ha).trans hk1)
    have B1 := Lib.hid (B0.out.keepR hk1 (by omega))
    clear hr1 hk1 H0 B0 ha
    go_wp2_with fail
    refine (peek_any w1 R1.out hl).mono ?_
    rintro e w2 ⟨rfl, hb2⟩
    unfold tokV
    have R2 := Lib.hid (R1.out.keep hb2)
    have K2 := Lib.hid (K1.out.trans (KeepR.of_below (b := b) hb2))
    have B2 := Lib.hid (B1.out.keep hb2 B1.out.lt)
    clear hb2 R1 K1 B1
    obtain ⟨t, ht⟩ : ∃ t, t = pkT sl rest := ⟨_, rfl⟩
    rw [← ht]
    have TB := Lib.hid (TBox.new w2 (.int .i64 (t.k : Int)) (.int .i64 (t.n : Int)) (.int .i64 (t.p : Int)))
    have R3 := Lib.hid (R2.out.keep ((Below.refl _ w2).alloc (Nat.le_refl _) (.cells #[.int .i64 (t.k : Int), .int .i64 (t.n : Int), .int .i64 (t.p : Int)] 37)))
    have K3 := Lib.hid (K2.out.trans (KeepR.of_below (b := b) ((Below.refl _ w2).alloc (Nat.le_refl _) (.cells #[.int .i64 (t.k : Int), .int .i64 (t.n : Int), .int .i64 (t.p : Int)] 37))))
    have B3 := Lib.hid (B2.out.keep ((Below.refl _ w2).alloc (Nat.le_refl _) (.cells #[.int .i64 (t.k : Int), .int .i64 (t.n : Int), .int .i64 (t.p : Int)] 37)) B2.out.lt)
    have hne2 : w2.heap.size ≠ b := by have := R2.out.lt; omega
    have hw2 : w.heap.size + 1 ≤ w2.heap.size := B2.out.lt
    clear R2 K2 B2
    by_cases h0 : t.k ≠ 3 ∧ t.k ≠ 1 ∧ t.k ≠ 2 ∧ t.k ≠ 4
    · obtain ⟨h3, h1, h2, h4⟩ := h0
      have P := Lib.hid (show formP (f + 1) rest = .bad rest by
        cases rest with
        | nil => rfl
        | cons x r => simp only [pkT] at ht; subst ht; simp only [formP]; rw [if_neg h3, if_neg (by omega), if_neg h4])
      have e3 : ((t.k : Int) == 3) = false := by rw [beq_eq_false_iff_ne]; omega
      have e1 : ((t.k : Int) == 1) = false := by rw [beq_eq_false_iff_ne]; omega
      have e2 : ((t.k : Int) == 2) = false := by rw [beq_eq_false_iff_ne]; omega
      have e4 : ((t.k : Int) == 4) = false := by rw [beq_eq_false_iff_ne]; omega
      clear h1 h2 h3 h4 ht
      obtain ⟨t0, t1, t2⟩ := TB.out.cells
      go_wp2_with fail
      refine (refusal_any _ R3.out hl).mono ?_
      rintro e w4 ⟨rfl, hb4⟩
      go_wp2_with fail
      refine ⟨rfl, ?_⟩
      rw [P.out]
      exact ⟨K3.out.trans (KeepR.of_below hb4), rfl⟩
    · obtain ⟨r, rfl⟩ : ∃ r, rest = t :: r := by
        cases rest with
        | nil => simp only [pkT] at ht; rw [ht] at h0; simp at h0
        | cons x r => simp only [pkT] at ht; exact ⟨r, by rw [ht]⟩
      clear ht
      simp only [List.length_cons] at hf hd hz
      by_cases h3 : t.k = 3
      · have P := Lib.hid (show formP (f + 1) (t :: r) = argsP (termP f) 3 t.n r by simp only [formP]; rw [if_pos h3])
        have e3 : ((t.k : Int) == 3) = true := by simp [h3]
        clear h3 h0
        obtain ⟨nx, hn, c1, RT⟩ := R3.out.take hl
        have f1 := R3.out.frozen 1
        have R4 := Lib.hid RT
        have T4 := Lib.hid (fun v => (TB.out.keepR (KeepR.set b 1 _ v) hne2))
        have B4 := Lib.hid (fun v => B3.out.keepR (KeepR.set b 1 _ v) (by omega))
        have K4 := Lib.hid (fun v => K3.out.trans (KeepR.set b 1 _ v))
        obtain ⟨t0, t1, t2⟩ := TB.out.cells
        clear RT R3 B3 K3
        go_wp2_with fail
        clear t0 t1 t2 c1 f1 TB
        have T4 := T4.out (.int .i64 ((nx : Int) + 1))
        have B4 := Lib.hid (B4.out (.int .i64 ((nx : Int) + 1)))
        have K4 := Lib.hid (K4.out (.int .i64 ((nx : Int) + 1)))
        have hs4 : w2.heap.size + 1 ≤ ((w2.alloc (.cells #[.int .i64 (t.k : Int), .int .i64 (t.n : Int), .int .i64 (t.p : Int)] 37)).setCell ⟨b, 1, none⟩ (.int .i64 ((nx : Int) + 1))).heap.size := by rw [size_set]; simp
        generalize (w2.alloc (.cells #[.int .i64 (t.k : Int), .int .i64 (t.n : Int), .int .i64 (t.p : Int)] 37)).setCell ⟨b, 1, none⟩ (.int .i64 ((nx : Int) + 1)) = W4 at R4 T4 B4 K4 hs4 ⊢
        have T' : TBox W4.drew w2.heap.size (.int .i64 (t.k : Int)) (.int .i64 (t.n : Int)) (.int .i64 (t.p : Int)) := T4
        have R' := Lib.hid (show Rdr W4.drew b A c l r sl (z + 1) (max m d) from ⟨R4.out.blk, R4.out.toks, R4.out.ne, R4.out.suf⟩)
        have AC := Lib.hid (args_any f HT.out 3 t.n b A c l r sl (z + 1) (max m d) d W4.drew (by omega) hl (by omega) (by omega) (by omega) R'.out)
        have kd : KeepR b W4 W4.drew := ⟨rfl, rfl, rfl, Nat.le_refl _, fun _ _ _ => rfl⟩
        have B' : Box3 W4.drew w.heap.size (.int .i64 0) (.int .i64 0) (.slice none 0 0) := B4.out
        have hs4' : w.heap.size + 1 ≤ W4.drew.heap.size := by show _ ≤ W4.heap.size; omega
        obtain ⟨t0, t1, t2⟩ := T'.cells
        refine wp_region_any (by kernel_rfl) ?_
        change wpAny _ _ _ _ _ _ _ (World.drew _)
        refine wpAny_take (i := 0) (v := ?_) rfl (by kernel_rfl) (by kernel_rfl) (by kernel_rfl) (fun _ _ _ h => h) (Or.inl ⟨by rfl, by intro w; go_simp; try with_reducible rfl⟩) ?_
        refine wpAny_take (i := 1) (v := ?_) rfl (by kernel_rfl) (by kernel_rfl) (by kernel_rfl) (fun _ _ _ h => h) (Or.inl ⟨by rfl, by intro w; go_simp; try with_reducible rfl⟩) ?_
        refine wpAny_take (i := 3) (v := ?_) rfl (by kernel_rfl) (by kernel_rfl) (by kernel_rfl) (fun _ _ _ h => h) (Or.inl ⟨by rfl, by intro w; go_simp; try with_reducible rfl⟩) ?_
        refine wpAny_take (i := 4) (v := ?_) rfl (by kernel_rfl) (by kernel_rfl) (by kernel_rfl) (fun _ _ _ h => h) (Or.inl ⟨by rfl, by intro w; go_simp; try with_reducible rfl⟩) ?_
        cases hP : argsP (termP f) 3 t.n r with
        | bad r' =>
          rw [hP] at AC
          have FIN := Lib.hid (show ∀ w5, KeepR b W4.drew w5 → ReadP b A c l sl z m d w (formP (f + 1) (t :: r)) (raised 32 (placeN sl r')) w5 from fun w5 hk => by
            rw [P.out, hP]
            exact ⟨(K4.out.trans kd).trans hk, rfl⟩)
          refine wpAny_ready (rs := [2, 5]) (by kernel_rfl) (by simp) ?_
          refine AllReady.cons rfl (fun K hK => ?_) ?_
          · go_simp
            refine hK _ _ ?_
            refine wpAny_ready (rs := [5]) (by kernel_rfl) (by simp) ?_
            refine AllReady.cons rfl (fun K hK => ?_) AllReady.nil
            go_simp
            refine AC.out.mono ?_
            rintro e w5 ⟨hk5, rfl⟩
            exact ⟨rfl, FIN.out w5 hk5⟩
          · refine AllReady.cons rfl (fun K hK => ?_) AllReady.nil
            go_simp
            refine AC.out.mono ?_
            rintro e w5 ⟨hk5, rfl⟩
            exact ⟨rfl, FIN.out w5 hk5⟩
        | ok q r' =>
          obtain ⟨ks, rfl, hks⟩ := argsP_sz (termP_sz f) _ _ _ _ _ hP
          rw [hP] at AC
          have AC' := Lib.hid (show Calls Tryd.prog 75 #[.pointer (some ⟨b, 0, none⟩), .int .i64 (d : Int)] W4.drew (fun e w5 => KeepR b W4.drew w5 ∧ Rdr w5 b A c l r' sl (z + 1 + szL ks) (max (max m d) (d + dpL ks)) ∧ ∃ A5 n5 c5, e = .returned (.slice A5 n5 c5) ∧ (excN (z + 1 + szL ks) (max (max m d) (d + dpL ks)) = 0 → n5 = (Tr.node 3 t.n ks).ks.length ∧ OwnT w5 W4.drew.heap.size w5.heap.size (.node 3 t.n ks) A5 c5)) from AC.out)
          clear AC
          refine wpAny_ready (rs := [2, 5]) (by kernel_rfl) (by simp) ?_
          refine AllReady.cons rfl (fun K hK => ?_) ?_
          · go_simp
            refine hK _ _ ?_
            refine wpAny_ready (rs := [5]) (by kernel_rfl) (by simp) ?_
            refine AllReady.cons rfl (fun K hK => ?_) AllReady.nil
            go_simp
            refine AC'.out.mono ?_
            rintro e w5 ⟨hk5, hr5, A5, n5, c5, rfl, hv5⟩
            have T5 := T'.keepR hk5 hne2
            obtain ⟨s0, s1, s2⟩ := T5.cells
            have NT := Lib.hid (node_tree (.node 3 t.n ks) A5 n5 c5 w5 hr5 hv5)
            have B5 := Lib.hid (B'.keepR hk5 (by omega))
            have R5 := Lib.hid hr5
            have K5 := Lib.hid ((K4.out.trans kd).trans hk5)
            clear hk5 hr5 hv5 T5
            refine hK _ _ ?_
            refine wpAny_ready (rs := [6]) (by kernel_rfl) (by simp) ?_
            refine AllReady.cons rfl (fun K hK => ?_) AllReady.nil
            go_simp
            refine NT.out.mono ?_
            rintro e w6 ⟨hb6, x, y, B, p, q', rfl, hV⟩
            have b6 := B5.out.keep hb6 B5.out.lt
            obtain ⟨y0, y1', y2'⟩ := b6.cells
            have g0 := b6.frozen 0
            have g1 := b6.frozen 1
            have g2 := b6.frozen 2
            refine hK _ _ ?_
            refine wpAny_ready (rs := [7]) (by kernel_rfl) (by simp) ?_
            refine AllReady.cons rfl (fun K hK => ?_) AllReady.nil
            go_simp
            refine hK _ _ ?_
            refine wpAny_done (by kernel_rfl) ?_ _
            go_wp2_with fail
            refine bodyPost_ret (v := .agg #[.int .i64 x, .int .i64 y, .slice B p q']) (by simp [results, Tryd.results37, go_sem, y0, y1', y2']) rfl ?_
            rw [P.out, hP]
            exact fin_read hbw HA.out (K5.out.trans (KeepR.of_below (b := b) hb6)) (R5.out.keep hb6) hV hs4'
          · refine AllReady.cons rfl (fun K hK => ?_) AllReady.nil
            go_simp
            refine AC'.out.mono ?_
            rintro e w5 ⟨hk5, hr5, A5, n5, c5, rfl, hv5⟩
            have T5 := T'.keepR hk5 hne2
            obtain ⟨s0, s1, s2⟩ := T5.cells
            have NT := Lib.hid (node_tree (.node 3 t.n ks) A5 n5 c5 w5 hr5 hv5)
            have B5 := Lib.hid (B'.keepR hk5 (by omega))
            have R5 := Lib.hid hr5
            have K5 := Lib.hid ((K4.out.trans kd).trans hk5)
            clear hk5 hr5 hv5 T5
            refine hK _ _ ?_
            refine wpAny_ready (rs := [2]) (by kernel_rfl) (by simp) ?_
            refine AllReady.cons rfl (fun K hK => ?_) AllReady.nil
            go_simp
            refine hK _ _ ?_
            refine wpAny_ready (rs := [6]) (by kernel_rfl) (by simp) ?_
            refine AllReady.cons rfl (fun K hK => ?_) AllReady.nil
            go_simp
            refine NT.out.mono ?_
            rintro e w6 ⟨hb6, x, y, B, p, q', rfl, hV⟩
            have b6 := B5.out.keep hb6 B5.out.lt
            obtain ⟨y0, y1', y2'⟩ := b6.cells
            have g0 := b6.frozen 0
            have g1 := b6.frozen 1
            have g2 := b6.frozen 2
            refine hK _ _ ?_
            refine wpAny_ready (rs := [7]) (by kernel_rfl) (by simp) ?_
            refine AllReady.cons rfl (fun K hK => ?_) AllReady.nil
            go_simp
            refine hK _ _ ?_
            refine wpAny_done (by kernel_rfl) ?_ _
            go_wp2_with fail
            refine bodyPost_ret (v := .agg #[.int .i64 x, .int .i64 y, .slice B p q']) (by simp [results, Tryd.results37, go_sem, y0, y1', y2']) rfl ?_
            rw [P.out, hP]
            exact fin_read hbw HA.out (K5.out.trans (KeepR.of_below (b := b) hb6)) (R5.out.keep hb6) hV hs4'
      · have e3 : ((t.k : Int) == 3) = false := by rw [beq_eq_false_iff_ne]; omega
        by_cases h12 : t.k = 1 ∨ t.k = 2
        · have P := Lib.hid (show formP (f + 1) (t :: r) = eqP (termP f) (t :: r) by simp only [formP]; rw [if_neg h3, if_pos h12])
          have e12 : (((t.k : Int) == 1) = true) ∨ (((t.k : Int) == 1) = false ∧ ((t.k : Int) == 2) = true) := by
            rcases h12 with h | h
            · left; simp [h]
            · right; exact ⟨by rw [beq_eq_false_iff_ne]; omega, by simp [h]⟩
          clear h3 h12 h0
          have AC := Lib.hid (HT.out b A c l (t :: r) sl (z + 1) (max m d) (d + 1) _ (by simp only [List.length_cons]; omega) hl (by simp only [List.length_cons]; omega) (by simp only [List.length_cons]; omega) R3.out)
          rw [hd1] at AC
          have SZ := Lib.hid (termP_sz f)
          have hs4 : w.heap.size + 1 ≤ (w2.alloc (.cells #[.int .i64 (t.k : Int), .int .i64 (t.n : Int), .int .i64 (t.p : Int)] 37)).heap.size := by rw [World.size_alloc]; omega
          obtain ⟨t0, t1, t2⟩ := TB.out.cells
          rcases e12 with e1 | ⟨e1, e2⟩
          all_goals
            go_wp2_with fail
            refine AC.out.mono ?_
            clear AC t0 t1 t2
            generalize w2.alloc (.cells #[.int .i64 (t.k : Int), .int .i64 (t.n : Int), .int .i64 (t.p : Int)] 37) = W4 at R3 B3 K3 hs4 ⊢
            cases hP : termP f (t :: r) with
            | bad r' =>
              rintro e w5 ⟨hk5, rfl⟩
              go_wp2_with fail
              refine ⟨rfl, ?_⟩
              rw [P.out]; unfold eqP; rw [hP]
              exact ⟨K3.out.trans hk5, rfl⟩
            | ok q1 r1 =>
              have hsz := SZ.out _ _ _ hP
              simp only [List.length_cons] at hsz
              rintro e w5 ⟨hk5, hr5, v5, rfl, x1, y1, A1, n1, c1, rfl, hv5⟩
              have aL : Below w5.heap.size w5 (w5.alloc (.cells #[.int .i64 x1, .int .i64 y1, .slice A1 n1 c1] 24)) := (Below.refl _ _).alloc (Nat.le_refl _) _
              have L5 := Lib.hid (Box3.new w5 (.int .i64 x1) (.int .i64 y1) (.slice A1 n1 c1))
              have KL := Lib.hid (KeepR.of_below (b := b) aL)
              have R5 := Lib.hid (hr5.keep aL)
              have hb5 := hr5.lt
              have B5 := Lib.hid ((B3.out.keepR hk5 (by omega)).keep aL (B3.out.keepR hk5 (by omega)).lt)
              have K5 := Lib.hid hk5
              have V5 := Lib.hid hv5
              clear hr5 hk5 hv5 aL
              have P1 := Lib.hid (show eqP (termP f) (t :: r) = if stands 61 r1 then (match termP f r1.tail with | .bad r' => .bad r' | .ok b r2 => .ok (.node 4 0 [q1, b]) r2) else .bad r1 by unfold eqP; rw [hP]; rfl)
              go_wp2_with fail
              cases hx : stands 61 r1 with
              | false =>
                refine (expect_no 61 _ R5.out hl hx).mono ?_
                rintro e w6 ⟨rfl, hk6⟩
                go_wp2_with fail
                refine ⟨rfl, ?_⟩
                rw [P.out, P1.out, if_neg (by simp [hx])]
                exact ⟨((K3.out.trans K5.out).trans KL.out).trans hk6, rfl⟩
              | true =>
                rw [if_pos hx] at P1
                obtain ⟨t3, r2, rfl, _, _⟩ := stands_cons hx
                simp only [List.length_cons] at hsz
                simp only [List.tail_cons] at P1
                refine (expect_yes 61 t3 _ R5.out hl hx).mono ?_
                rintro e w6 ⟨rfl, hr6, hk6⟩
                have AC := Lib.hid (HT.out b A c l r2 sl (z + 1 + q1.sz) (max (max m d) (d + 1 + dpL q1.ks)) (d + 1) w6 (by omega) hl (by omega) (by omega) hr6)
                rw [hd1] at AC
                have L6 := Lib.hid (L5.out.keepR hk6 (by omega))
                have B6 := Lib.hid (B5.out.keepR hk6 (by omega))
                have K6 := Lib.hid (KL.out.trans hk6)
                have hz6 : w5.heap.size < w6.heap.size := L6.out.lt
                clear hr6 hk6 L5 B5 KL R5
                go_wp2_with fail
                refine AC.out.mono ?_
                clear AC
                cases hP2 : termP f r2 with
                | bad r' =>
                  rintro e w7 ⟨hk7, rfl⟩
                  go_wp2_with fail
                  refine ⟨rfl, ?_⟩
                  rw [P.out, P1.out, hP2]
                  exact ⟨((K3.out.trans K5.out).trans K6.out).trans hk7, rfl⟩
                | ok q2 r3 =>
                  rw [hP2] at P1
                  simp only [] at P1
                  rintro e w7 ⟨hk7, hr7, v7, rfl, x2, y2, A2, n2, c2, rfl, hv7⟩
                  have aR : Below w7.heap.size w7 (w7.alloc (.cells #[.int .i64 x2, .int .i64 y2, .slice A2 n2 c2] 24)) := (Below.refl _ _).alloc (Nat.le_refl _) _
                  have hb7 := hr7.lt
                  have M7 := Lib.hid (Box3.new w7 (.int .i64 x2) (.int .i64 y2) (.slice A2 n2 c2))
                  have L7 := Lib.hid ((L6.out.keepR hk7 (by omega)).keep aR (L6.out.keepR hk7 (by omega)).lt)
                  have B7 := Lib.hid ((B6.out.keepR hk7 (by omega)).keep aR (B6.out.keepR hk7 (by omega)).lt)
                  have KR := Lib.hid (KeepR.of_below (b := b) aR)
                  have N8 := Lib.hid (node_two (k := 4) (i := 0) R3.out.lt (KeepR.refl b W4) K5.out ⟨_, _, _, _, _, rfl, V5.out⟩ K6.out hk7 ⟨_, _, _, _, _, rfl, hv7⟩ KR.out (hr7.keep aR))
                  obtain ⟨l0, l1, l2⟩ := L7.out.cells
                  obtain ⟨m0, m1, m2⟩ := M7.out.cells
                  have hz7 : (w7.alloc (.cells #[.int .i64 x2, .int .i64 y2, .slice A2 n2 c2] 24)).heap.size = w7.heap.size + 1 := World.size_alloc _ _
                  rw [hz7] at N8
                  clear hr7 hk7 hv7 aR L6 B6
                  go_wp2_with fail
                  refine N8.out.mono ?_
                  rintro e w9 ⟨hb9, hK9, hR9, x, y, B, p, q', rfl, hV⟩
                  have b9 := (B7.out.keep ((Below.refl _ _).alloc (Nat.le_refl _) (.cells #[.int .i64 x1, .int .i64 y1, .slice A1 n1 c1, .int .i64 x2, .int .i64 y2, .slice A2 n2 c2] 24)) B7.out.lt).keep hb9 (by have := B7.out.lt; rw [hz7] at this; omega)
                  clear l0 l1 l2 m0 m1 m2
                  obtain ⟨y0, y1', y2'⟩ := b9.cells
                  have g0 := b9.frozen 0
                  have g1 := b9.frozen 1
                  have g2 := b9.frozen 2
                  go_wp2_with fail
                  refine bodyPost_ret (v := .agg #[.int .i64 x, .int .i64 y, .slice B p q']) (by simp [results, Tryd.results37, go_sem, y0, y1', y2']) rfl ?_
                  rw [P.out, P1.out]
                  exact fin_read hbw HA.out (K3.out.trans hK9) hR9 hV hs4
        · have h4 : t.k = 4 := by omega
          have P := Lib.hid (show formP (f + 1) (t :: r) = compP (formP f) t r by simp only [formP]; rw [if_neg h3, if_neg h12, if_pos h4]; rfl)
          have e1 : ((t.k : Int) == 1) = false := by rw [beq_eq_false_iff_ne]; omega
          have e2 : ((t.k : Int) == 2) = false := by rw [beq_eq_false_iff_ne]; omega
          have e4 : ((t.k : Int) == 4) = true := by simp [h4]
          clear h3 h12 h4 h0
          have CC := Lib.hid (comp_any f HF.out b A c l t r sl (z + 1) (max m d) d _ (by omega) hl (by omega) (by omega) R3.out)
          have hs4 : w.heap.size + 1 ≤ (w2.alloc (.cells #[.int .i64 (t.k : Int), .int .i64 (t.n : Int), .int .i64 (t.p : Int)] 37)).heap.size := by rw [World.size_alloc]; omega
          obtain ⟨t0, t1, t2⟩ := TB.out.cells
          go_wp2_with fail
          refine CC.out.mono ?_
          cases hP : compP (formP f) t r with
          | bad r' =>
            rintro e w5 ⟨hk5, rfl⟩
            go_wp2_with fail
            refine ⟨rfl, ?_⟩
            rw [P.out, hP]
            exact ⟨K3.out.trans hk5, rfl⟩
          | ok q r' =>
            rintro e w5 ⟨hk5, hr5, v5, rfl, x, y, B, p, q', rfl, hv5⟩
            have b6 := B3.out.keepR hk5 (by omega)
            clear t0 t1 t2
            obtain ⟨y0, y1, y2⟩ := b6.cells
            have g0 := b6.frozen 0
            have g1 := b6.frozen 1
            have g2 := b6.frozen 2
            go_wp2_with fail
            refine bodyPost_ret (v := .agg #[.int .i64 x, .int .i64 y, .slice B p q']) (by simp [results, Tryd.results37, go_sem, y0, y1, y2]) rfl ?_
            rw [P.out, hP]
            exact fin_read hbw HA.out (K3.out.trans hk5) hr5 ⟨_, _, _, _, _, rfl, hv5⟩ hs4
end Go.Proofs.YtgnfbhemkombaaaDoor
