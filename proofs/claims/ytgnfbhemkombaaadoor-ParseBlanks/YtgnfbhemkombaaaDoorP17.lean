/- composed of package parse, under the contract of formula. -/
import Derived.Test.YtgnfbhemkombaaaDoorP16
namespace Go.Proofs.YtgnfbhemkombaaaDoor
open Go.RowKit
set_option linter.unusedVariables false
theorem fin_body {b : Nat} {A : Option Addr} {c : Nat} {l r : List Tok} {sl z m d lo : Nat} {w w6 : World} {t : Tr} {x y : Int} {B : Option Addr} {p q : Nat} (hb : b < w.heap.size) (hA : ∀ g, A = some ⟨g, 0, none⟩ → l ≠ [] → g < w.heap.size) (hk : KeepR b w w6) (hr : Rdr w6 b A c l r sl (z + szL t.ks) (max m (d + dpL t.ks)))
    (hv : ExprV w6 lo (z + szL t.ks) (max m (d + dpL t.ks)) t (.agg #[.int .i64 x, .int .i64 y, .slice B p q])) (hlo : w.heap.size + 1 ≤ lo) :
    BodyP b A c l sl z m d w (.ok t r) (.returned (.agg #[.int .i64 x, .int .i64 y, .slice B p q])) (((w6.setCell ⟨w.heap.size, 0, none⟩ (.int .i64 x)).setCell ⟨w.heap.size, 1, none⟩ (.int .i64 y)).setCell ⟨w.heap.size, 2, none⟩ (.slice B p q)) :=
  ⟨set3_keep hk (Nat.le_refl _) _ _ _, hr.set3 w.heap.size hb hA _ _ _, _, rfl, hv.same (fun k hk1 _ => set3_other _ _ _ _ _ _ (by omega)) (by rw [set3_size]; exact Nat.le_refl _) (by omega)⟩
def compP (F : List Tok → PR) (t : Tok) (r : List Tok) : PR :=
  if t.n = 33 then notP F r else if t.n = 64 then quantP F 7 r else if t.n = 63 then quantP F 10 r else if t.n = 40 then pairP F r else .bad (t :: r)
set_option maxHeartbeats 8000000 in
set_option maxRecDepth 100000 in
theorem comp_any (f : Nat) (hF : FormC f) (b : Nat) (A : Option Addr) (c : Nat) (l : List Tok) (t : Tok) (r : List Tok) (sl z m d : Nat) (w : World) (hf : 2 * r.length + 2 ≤ f) (hl : l.length ≤ 8000) (hd : d + 2 * r.length + 2 ≤ 40000) (hz : z + r.length + 1 ≤ 20000) (h : Rdr w b A c l (t :: r) sl z m) :
    Calls Tryd.prog 77 #[.pointer (some ⟨b, 0, none⟩), .int .i64 (t.n : Int), .int .i64 (d : Int)] w (BodyP b A c l sl z m d w (compP (formP f) t r)) := by
  have HF := Lib.hid hF
  have hbw := h.lt
  have HA := Lib.hid h.below
  have ha : Below w.heap.size w (w.alloc (.cells #[.int .i64 0, .int .i64 0, .slice none 0 0] 24)) := (Below.refl _ _).alloc (Nat.le_refl _) _
  have H0 := Lib.hid (h.keep ha)
  have K0 := Lib.hid (KeepR.of_below (b := b) ha)
  have B0 := Lib.hid (Box3.new w (.int .i64 0) (.int .i64 0) (.slice none 0 0))
  have hsa : (w.alloc (.cells #[.int .i64 0, .int .i64 0, .slice none 0 0] 24)).heap.size = w.heap.size + 1 := World.size_alloc _ _
  clear h hF ha
  have hd1 : ((d + 1 : Nat) : Int) = (d : Int) + 1 := by omega
  obtain ⟨nx, hn, c1, RT⟩ := H0.out.take hl
  have f1 := H0.out.frozen 1
  have R4 := Lib.hid RT
  have B4 := Lib.hid (B0.out.keepR (KeepR.set b 1 _ (.int .i64 ((nx : Int) + 1))) (by omega))
  have K4 := Lib.hid (K0.out.trans (KeepR.set b 1 _ (.int .i64 ((nx : Int) + 1))))
  have hs4 : w.heap.size + 1 ≤ ((w.alloc (.cells #[.int .i64 0, .int .i64 0, .slice none 0 0] 24)).setCell ⟨b, 1, none⟩ (.int .i64 ((nx : Int) + 1))).heap.size := by rw [size_set, hsa]; exact Nat.le_refl _
  have hsw := World.setCell_alloc_past (w := w) (.cells #[.int .i64 0, .int .i64 0, .slice none 0 0] 24) b 1 (.int .i64 ((nx : Int) + 1)) hbw
  rw [hsw] at R4 B4 K4 hs4
  clear RT hsw
  by_cases h33 : t.n = 33
  · have P := Lib.hid (show compP (formP f) t r = notP (formP f) r by unfold compP; rw [if_pos h33])
    have e33 : ((t.n : Int) == 33) = true := by simp [h33]
    go_enter Tryd.func77, Tryd.ntmps77
    go_wp2_with fail
    have AC := Lib.hid (HF.out b A c l r sl z m (d + 1) _ (by omega) hl (by omega) (by omega) R4.out)
    rw [hd1] at AC
    generalize (w.setCell ⟨b, 1, none⟩ (.int .i64 ((nx : Int) + 1))).alloc (.cells #[.int .i64 0, .int .i64 0, .slice none 0 0] 24) = W4 at R4 B4 K4 hs4 AC ⊢
    refine AC.out.mono ?_
    cases hP : formP f r with
    | bad r' =>
      rintro e w5 ⟨hk5, rfl⟩
      go_wp2_with fail
      refine ⟨rfl, ?_⟩
      rw [P.out]; unfold notP; rw [hP]
      exact ⟨K4.out.trans hk5, rfl⟩
    | ok q r' =>
      rintro e w5 ⟨hk5, hr5, v5, rfl, x5, y5, A5, n5, c5, rfl, hv5⟩
      have N5 := Lib.hid (node_one (k := 5) (i := 0) R4.out.lt (KeepR.refl b W4) hk5 hr5 ⟨_, _, _, _, _, rfl, hv5⟩)
      have B5 := Lib.hid (B4.out.keepR hk5 (by omega))
      clear hk5 hr5 hv5 AC
      go_wp2_with fail
      refine N5.out.mono ?_
      rintro e w6 ⟨hb6, hK6, hR6, x, y, B, p, q', rfl, hV⟩
      have b6 := (B5.out.keep ((Below.refl _ w5).alloc (Nat.le_refl _) (.cells #[.int .i64 x5, .int .i64 y5, .slice A5 n5 c5] 24)) B5.out.lt).keep hb6 (by have := B5.out.lt; omega)
      obtain ⟨y0, y1, y2⟩ := b6.cells
      have g0 := b6.frozen 0
      have g1 := b6.frozen 1
      have g2 := b6.frozen 2
      go_wp2_with fail
      refine bodyPost_ret (v := .agg #[.int .i64 x, .int .i64 y, .slice B p q']) (by simp [results, Tryd.results77, go_sem, y0, y1, y2]) rfl ?_
      rw [P.out]; unfold notP; rw [hP]
      exact fin_body hbw HA.out (K4.out.trans hK6) hR6 hV hs4
  · have e33 : ((t.n : Int) == 33) = false := by rw [beq_eq_false_iff_ne]; omega
    have quant : ∀ kk : Nat, (kk = 7 ∧ t.n = 64) ∨ (kk = 10 ∧ t.n = 63) → compP (formP f) t r = quantP (formP f) kk r := by
      rintro kk (⟨rfl, h⟩ | ⟨rfl, h⟩)
      · unfold compP; rw [if_neg h33, if_pos h]
      · unfold compP; rw [if_neg h33, if_neg (by omega), if_pos h]
    by_cases h64 : t.n = 64
    · have P := Lib.hid (quant 7 (.inl ⟨rfl, h64⟩))
      have e64 : ((t.n : Int) == 64) = true := by simp [h64]
      clear quant
      have QC := Lib.hid (quant_any f HF.out 7 b A c l r sl z m d _ (by omega) hl (by omega) (by omega) R4.out)
      go_enter Tryd.func77, Tryd.ntmps77
      go_wp2_with fail
      generalize (w.setCell ⟨b, 1, none⟩ (.int .i64 ((nx : Int) + 1))).alloc (.cells #[.int .i64 0, .int .i64 0, .slice none 0 0] 24) = W4 at R4 B4 K4 hs4 QC ⊢
      refine QC.out.mono ?_
      cases hP : quantP (formP f) 7 r with
      | bad r' =>
        rintro e w5 ⟨hk5, rfl⟩
        go_wp2_with fail
        refine ⟨rfl, ?_⟩
        rw [P.out, hP]
        exact ⟨K4.out.trans hk5, rfl⟩
      | ok q r' =>
        rintro e w5 ⟨hk5, hr5, v5, rfl, x, y, B, p, q', rfl, hv5⟩
        have b6 := B4.out.keepR hk5 (by omega)
        obtain ⟨y0, y1, y2⟩ := b6.cells
        have g0 := b6.frozen 0
        have g1 := b6.frozen 1
        have g2 := b6.frozen 2
        go_wp2_with fail
        refine bodyPost_ret (v := .agg #[.int .i64 x, .int .i64 y, .slice B p q']) (by simp [results, Tryd.results77, go_sem, y0, y1, y2]) rfl ?_
        rw [P.out, hP]
        exact fin_body hbw HA.out (K4.out.trans hk5) hr5 ⟨_, _, _, _, _, rfl, hv5⟩ hs4
    · by_cases h63 : t.n = 63
      · have P := Lib.hid (quant 10 (.inr ⟨rfl, h63⟩))
        have e64 : ((t.n : Int) == 64) = false := by rw [beq_eq_false_iff_ne]; omega
        have e63 : ((t.n : Int) == 63) = true := by simp [h63]
        clear quant
        have QC := Lib.hid (quant_any f HF.out 10 b A c l r sl z m d _ (by omega) hl (by omega) (by omega) R4.out)
        go_enter Tryd.func77, Tryd.ntmps77
        go_wp2_with fail
        generalize (w.setCell ⟨b, 1, none⟩ (.int .i64 ((nx : Int) + 1))).alloc (.cells #[.int .i64 0, .int .i64 0, .slice none 0 0] 24) = W4 at R4 B4 K4 hs4 QC ⊢
        refine QC.out.mono ?_
        cases hP : quantP (formP f) 10 r with
        | bad r' =>
          rintro e w5 ⟨hk5, rfl⟩
          go_wp2_with fail
          refine ⟨rfl, ?_⟩
          rw [P.out, hP]
          exact ⟨K4.out.trans hk5, rfl⟩
        | ok q r' =>
          rintro e w5 ⟨hk5, hr5, v5, rfl, x, y, B, p, q', rfl, hv5⟩
          have b6 := B4.out.keepR hk5 (by omega)
          obtain ⟨y0, y1, y2⟩ := b6.cells
          have g0 := b6.frozen 0
          have g1 := b6.frozen 1
          have g2 := b6.frozen 2
          go_wp2_with fail
          refine bodyPost_ret (v := .agg #[.int .i64 x, .int .i64 y, .slice B p q']) (by simp [results, Tryd.results77, go_sem, y0, y1, y2]) rfl ?_
          rw [P.out, hP]
          exact fin_body hbw HA.out (K4.out.trans hk5) hr5 ⟨_, _, _, _, _, rfl, hv5⟩ hs4
      · have e64 : ((t.n : Int) == 64) = false := by rw [beq_eq_false_iff_ne]; omega
        have e63 : ((t.n : Int) == 63) = false := by rw [beq_eq_false_iff_ne]; omega
        clear quant
        by_cases h40 : t.n = 40
        · have P := Lib.hid (show compP (formP f) t r = pairP (formP f) r by unfold compP; rw [if_neg h33, if_neg h64, if_neg h63, if_pos h40])
          have e40 : ((t.n : Int) == 40) = true := by simp [h40]
          clear h33 h64 h63 h40
          have AC := Lib.hid (HF.out b A c l r sl z m (d + 1) _ (by omega) hl (by omega) (by omega) R4.out)
          rw [hd1] at AC
          have SZ := Lib.hid (formP_sz f)
          go_enter Tryd.func77, Tryd.ntmps77
          go_wp2_with fail
          generalize (w.setCell ⟨b, 1, none⟩ (.int .i64 ((nx : Int) + 1))).alloc (.cells #[.int .i64 0, .int .i64 0, .slice none 0 0] 24) = W4 at R4 B4 K4 hs4 AC ⊢
          clear H0 K0 B0 c1 f1
          refine AC.out.mono ?_
          clear AC
          cases hP : formP f r with
          | bad r' =>
            rintro e w5 ⟨hk5, rfl⟩
            go_wp2_with fail
            refine ⟨rfl, ?_⟩
            rw [P.out]; unfold pairP; rw [hP]
            exact ⟨K4.out.trans hk5, rfl⟩
          | ok q1 r1 =>
            have hsz := SZ.out _ _ _ hP
            rintro e w5 ⟨hk5, hr5, v5, rfl, x1, y1, A1, n1, c1, rfl, hv5⟩
            have aL : Below w5.heap.size w5 (w5.alloc (.cells #[.int .i64 x1, .int .i64 y1, .slice A1 n1 c1] 24)) := (Below.refl _ _).alloc (Nat.le_refl _) _
            have L5 := Lib.hid (Box3.new w5 (.int .i64 x1) (.int .i64 y1) (.slice A1 n1 c1))
            have KL := Lib.hid (KeepR.of_below (b := b) aL)
            have R5 := Lib.hid (hr5.keep aL)
            have hb5 := hr5.lt
            have B5 := Lib.hid ((B4.out.keepR hk5 (by omega)).keep aL (B4.out.keepR hk5 (by omega)).lt)
            have K5 := Lib.hid hk5
            have V5 := Lib.hid hv5
            clear hr5 hk5 hv5 aL
            have P1 := Lib.hid (show pairP (formP f) r = if jointN r1 = 0 then .bad r1 else match formP f r1.tail with | .bad r' => .bad r' | .ok b r2 => if stands 41 r2 then .ok (.node (jointN r1) 0 [q1, b]) r2.tail else .bad r2 by unfold pairP; rw [hP]; rfl)
            go_wp2_with fail
            by_cases hj : jointN r1 = 0
            · refine (conn_no _ R5.out hl hj).mono ?_
              rintro e w6 ⟨rfl, hk6⟩
              go_wp2_with fail
              refine ⟨rfl, ?_⟩
              rw [P.out, P1.out, if_pos hj]
              exact ⟨((K4.out.trans K5.out).trans KL.out).trans hk6, rfl⟩
            · rw [if_neg hj] at P1
              obtain ⟨t1, r2, rfl⟩ : ∃ t1 r2, r1 = t1 :: r2 := by
                cases r1 with
                | nil => exact absurd rfl hj
                | cons t1 r2 => exact ⟨t1, r2, rfl⟩
              simp only [List.length_cons] at hsz
              simp only [List.tail_cons] at P1
              refine (conn_yes t1 _ R5.out hl hj).mono ?_
              obtain ⟨kk, hkk⟩ : ∃ kk, kk = jointN (t1 :: r2) := ⟨_, rfl⟩
              rw [← hkk] at P1 ⊢
              rintro e w6 ⟨rfl, hr6, hk6⟩
              have AC := Lib.hid (HF.out b A c l r2 sl (z + q1.sz) (max m (d + 1 + dpL q1.ks)) (d + 1) w6 (by omega) hl (by omega) (by omega) hr6)
              rw [hd1] at AC
              have L6 := Lib.hid (L5.out.keepR hk6 (by omega))
              have B6 := Lib.hid (B5.out.keepR hk6 (by omega))
              have K6 := Lib.hid (KL.out.trans hk6)
              have hz6 : w5.heap.size < w6.heap.size := L6.out.lt
              clear hr6 hk6 L5 B5 KL R5 hj hkk
              go_wp2_with fail
              refine AC.out.mono ?_
              clear AC
              cases hP2 : formP f r2 with
              | bad r' =>
                rintro e w7 ⟨hk7, rfl⟩
                go_wp2_with fail
                refine ⟨rfl, ?_⟩
                rw [P.out, P1.out, hP2]
                exact ⟨((K4.out.trans K5.out).trans K6.out).trans hk7, rfl⟩
              | ok q2 r3 =>
                have hsz2 := SZ.out _ _ _ hP2
                rw [hP2] at P1
                simp only [] at P1
                rintro e w7 ⟨hk7, hr7, v7, rfl, x2, y2, A2, n2, c2, rfl, hv7⟩
                have aR : Below w7.heap.size w7 (w7.alloc (.cells #[.int .i64 x2, .int .i64 y2, .slice A2 n2 c2] 24)) := (Below.refl _ _).alloc (Nat.le_refl _) _
                have hb7 := hr7.lt
                have M7 := Lib.hid (Box3.new w7 (.int .i64 x2) (.int .i64 y2) (.slice A2 n2 c2))
                have L7 := Lib.hid ((L6.out.keepR hk7 (by omega)).keep aR (L6.out.keepR hk7 (by omega)).lt)
                have B7 := Lib.hid ((B6.out.keepR hk7 (by omega)).keep aR (B6.out.keepR hk7 (by omega)).lt)
                have KR := Lib.hid (KeepR.of_below (b := b) aR)
                have R7 := Lib.hid (hr7.keep aR)
                have K7 := Lib.hid hk7
                have V7 := Lib.hid hv7
                clear hr7 hk7 hv7 aR L6 B6
                go_wp2_with fail
                cases hx : stands 41 r3 with
                | false =>
                  refine (expect_no 41 _ R7.out hl hx).mono ?_
                  rintro e w8 ⟨rfl, hk8⟩
                  go_wp2_with fail
                  refine ⟨rfl, ?_⟩
                  rw [P.out, P1.out, if_neg (by simp [hx])]
                  exact ⟨((((K4.out.trans K5.out).trans K6.out).trans K7.out).trans KR.out).trans hk8, rfl⟩
                | true =>
                  rw [if_pos hx] at P1
                  obtain ⟨t3, r4, rfl, _, _⟩ := stands_cons hx
                  simp only [List.tail_cons] at P1
                  refine (expect_yes 41 t3 _ R7.out hl hx).mono ?_
                  rintro e w8 ⟨rfl, hr8, hk8⟩
                  have N8 := Lib.hid (node_two (k := kk) (i := 0) R4.out.lt (KeepR.refl b W4) K5.out ⟨_, _, _, _, _, rfl, V5.out⟩ K6.out K7.out ⟨_, _, _, _, _, rfl, V7.out⟩ (KR.out.trans hk8) hr8)
                  have L8 := L7.out.keepR hk8 (by omega)
                  have M8 := M7.out.keepR hk8 (by omega)
                  have B8 := Lib.hid (B7.out.keepR hk8 (by omega))
                  obtain ⟨l0, l1, l2⟩ := L8.cells
                  obtain ⟨m0, m1, m2⟩ := M8.cells
                  clear hr8 hk8 L8 M8 L7 M7 B7 R7
                  go_wp2_with fail
                  refine N8.out.mono ?_
                  rintro e w9 ⟨hb9, hK9, hR9, x, y, B, p, q', rfl, hV⟩
                  have b9 := (B8.out.keep ((Below.refl _ w8).alloc (Nat.le_refl _) (.cells #[.int .i64 x1, .int .i64 y1, .slice A1 n1 c1, .int .i64 x2, .int .i64 y2, .slice A2 n2 c2] 24)) B8.out.lt).keep hb9 (by have := B8.out.lt; omega)
                  clear l0 l1 l2 m0 m1 m2
                  obtain ⟨y0, y1', y2'⟩ := b9.cells
                  have g0 := b9.frozen 0
                  have g1 := b9.frozen 1
                  have g2 := b9.frozen 2
                  go_wp2_with fail
                  refine bodyPost_ret (v := .agg #[.int .i64 x, .int .i64 y, .slice B p q']) (by simp [results, Tryd.results77, go_sem, y0, y1', y2']) rfl ?_
                  rw [P.out, P1.out]
                  exact fin_body hbw HA.out (K4.out.trans hK9) hR9 hV hs4
        · have P := Lib.hid (show compP (formP f) t r = .bad (t :: r) by unfold compP; rw [if_neg h33, if_neg h64, if_neg h63, if_neg h40])
          have e40 : ((t.n : Int) == 40) = false := by rw [beq_eq_false_iff_ne]; omega
          clear h33 h64 h63 h40
          go_enter Tryd.func77, Tryd.ntmps77
          go_wp2_with fail
          refine (refusal_any _ H0.out hl).mono ?_
          rintro e w4 ⟨rfl, hb4⟩
          go_wp2_with fail
          refine ⟨rfl, ?_⟩
          rw [P.out]
          exact ⟨K0.out.trans (KeepR.of_below hb4), rfl⟩
end Go.Proofs.YtgnfbhemkombaaaDoor
