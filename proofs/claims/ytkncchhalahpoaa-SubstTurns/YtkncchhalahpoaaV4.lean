/- The law SubstTurns, walked. -/
import Derived.Test.YtkncchhalahpoaaV2
import Derived.Test.YtkncchhalahpoaaV3
namespace Go.Proofs.Ytkncchhalahpoaa
open Go.RowKit
set_option linter.unusedVariables false
set_option linter.unusedSimpArgs false
/-- a new variable put in, and taken out again -/
theorem turn_math {a : Tr} {x y : Int} (ha : rightN a = 0) (x0 : 0 ≤ x) (x1 : x ≤ 63) (y0 : 0 ≤ y) (y1 : y ≤ 63) (hy : hasN (varsT a) y = false) : eachR a [(x, varT y)] = (putX x (varT y) a, 0) ∧ eachR (putX x (varT y) a) [(y, varT x)] = (a, 0) := by
  have hs := (right_shp' ha).1
  rw [hasN_bit y0 y1] at hy
  have rb : rightN (putX x (varT y) a) = 0 := putE_vars_right (by simp [y0, y1]) ha
  have e1 := eachN_one ⟨x0, x1⟩ ha (right_var y0 y1) (show termB (varT y).k = true from rfl)
  rw [if_pos (cat_new y0 y1 hy), rb] at e1
  have e2 := eachN_one ⟨y0, y1⟩ rb (right_var x0 x1) (show termB (varT x).k = true from rfl)
  rw [if_pos (cat_back x0 x1 y0 y1 a hs hy), putX_back x0 x1 y0 y1 a hs hy, ha] at e2
  exact ⟨eachR_one_ok e1, by rw [eachR_one_ok e2, putX_back x0 x1 y0 y1 a hs hy]⟩
/-- two variables changed about, twice -/
structure SwapM (a : Tr) (x y : Int) : Prop where
  one : eachR a (swapP x y) = (putE (swapP x y) a 0, 0)
  two : eachR (putE (swapP x y) a 0) (swapP x y) = (a, 0)
theorem swap_each {a : Tr} {x y : Int} (ha : rightN a = 0) (hxy : ¬ x = y) (hb : boundT a = 0) (x0 : 0 ≤ x) (x1 : x ≤ 63) (y0 : 0 ≤ y) (y1 : y ≤ 63) : eachR a (swapP x y) = (putE (swapP x y) a 0, 0) := by
  have hx : hasN (withN 0 x) y = false := by rw [hasN_withN, hasN_zero, decide_eq_false hxy]; rfl
  have h1 : argE (swapP x y) 0 = true := by simp [swapP, argE, hasN_zero, hx, x0, x1, y0, y1]
  have h2 : rightL (swapP x y) = 0 := by simp [swapP, rightL, right_var x0 x1, right_var y0 y1]
  have h3 : termL (swapP x y) = true := by simp [swapP, termL, Tr.k, termB]
  have hf : faultE a (swapP x y) = 0 := by unfold faultE; rw [h1, h2, h3]; simp [ha]
  have hc : capE a (swapP x y) = true := by unfold capE capE.ffB'; simp [swapP, cat_unbound hb]
  have hr : rightN (putE (swapP x y) a 0) = 0 := putE_vars_right (by simp [swapP, x0, x1, y0, y1]) ha
  rw [eachR_ok hf hc]
  unfold limR
  rw [if_pos hr]
theorem SwapM.mk' {a : Tr} {x y : Int} (ha : rightN a = 0) (hxy : ¬ x = y) (hb : boundT a = 0) (x0 : 0 ≤ x) (x1 : x ≤ 63) (y0 : 0 ≤ y) (y1 : y ≤ 63) : SwapM a x y := by
  obtain ⟨s1, s2⟩ := swap_twice (x := x) (y := y) hxy a (right_shp' ha).1 hb
  have hr : rightN (putE (swapP x y) a 0) = 0 := putE_vars_right (by simp [swapP, x0, x1, y0, y1]) ha
  exact ⟨swap_each ha hxy hb x0 x1 y0 y1, by rw [swap_each hr hxy s1 x0 x1 y0 y1, s2]⟩
/-- a row of two pairs -/
theorem IsP.two {W : World} {g B : Nat} {x y : Int} (h : W.heap[g]? = some (.cells #[.int .i64 x, .int .i64 1, .int .i64 y, .slice none 0 0, .int .i64 y, .int .i64 1, .int .i64 x, .slice none 0 0] 47 (0, 0))) (hB : g < B) : IsP W B (swapP x y) (some ⟨g, 0, none⟩) 2 := by
  have hc : ∀ j u, #[Value.int .i64 x, .int .i64 1, .int .i64 y, .slice none 0 0, .int .i64 y, .int .i64 1, .int .i64 x, .slice none 0 0][j]? = some u → W.cell? ⟨g, j, none⟩ = some u := fun j u hj => by
    unfold World.cell?
    rw [h]
    exact hj
  refine ⟨Nat.le_refl _, by show 2 * 48 ≤ _; omega, fun m hm => ?_⟩
  have hm2 : m < 2 := hm
  rcases Nat.lt_or_ge m 1 with h1 | h1
  · obtain rfl : m = 0 := by omega
    exact ⟨g, 0, none, 0, rfl, hB, hc 0 _ rfl, hc 1 _ rfl, hc 2 _ rfl, hc 3 _ rfl, isT_var _ _ y⟩
  · obtain rfl : m = 1 := by omega
    exact ⟨g, 0, none, 0, rfl, hB, hc 4 _ rfl, hc 5 _ rfl, hc 6 _ rfl, hc 7 _ rfl, isT_var _ _ x⟩
set_option maxHeartbeats 8000000 in
set_option maxRecDepth 100000 in
theorem turns_law (a : Tr) (x y : Int) (A : Option Addr) (c : Nat) (w : World) (ha : IsT w w.heap.size a A c) :
    Calls Try.prog 11 #[.agg #[.int .i64 a.k, .int .i64 a.i, .slice A a.ks.length c], .int .i64 x, .int .i64 y] w fun e w' => e = .returned (.bool true) ∧ Below w.heap.size w w' := by
  have E0 := Lib.hid (env1 ha)
  obtain ⟨a0, a1, a2⟩ := E0.out.cells w.heap.size a A c (by simp)
  clear ha
  go_enter Try.func11, Try.ntmps11
  go_wp2_with fail
  refine (rright_any a A c _ (by exact E0.out.tree w.heap.size a A c (by simp))).mono ?_
  rintro e w1 ⟨rfl, hb1⟩
  have E1 := Lib.hid (E0.out.keep hb1)
  clear hb1 a0 a1 a2 E0
  by_cases hra : rightN a = 0
  · have h0 : ((rightN a : Int) != 0) = false := by simp [hra]
    have RA := Lib.hid hra
    clear hra
    by_cases hx0 : 0 ≤ x
    · by_cases hx1 : x ≤ 63
      · by_cases hy0 : 0 ≤ y
        · by_cases hy1 : y ≤ 63
          · have hx0' : ¬ x < 0 := by omega
            have hx1' : ¬ 63 < x := by omega
            have hy0' : ¬ y < 0 := by omega
            have hy1' : ¬ 63 < y := by omega
            obtain ⟨a0, a1, a2⟩ := E1.out.cells w.heap.size a A c (by simp)
            have U1 := Lib.hid (varsT_U a)
            go_wp2_with fail
            refine (rofvars_any a A c _ (by exact E1.out.tree w.heap.size a A c (by simp))).mono ?_
            rintro e w9 ⟨rfl, hb9⟩
            have E2 := Lib.hid (E1.out.keep hb9)
            clear hb9 a0 a1 a2 E1
            go_wp2_with fail
            refine (rhas_any (varsT a) y _ U1.out).mono ?_
            rintro e w10 ⟨rfl, hw10⟩
            rw [← hw10]
            clear hw10
            cases hh : hasN (varsT a) y with
            | true =>
              by_cases hxy : x = y
              · have hxy' : (x == y) = true := by simp [hxy]
                go_wp2_with fail
                go_ret
                exact ⟨rfl, E2.out.below⟩
              · have hxy' : (x == y) = false := by simpa using hxy
                obtain ⟨a0, a1, a2⟩ := E2.out.cells w.heap.size a A c (by simp)
                go_wp2_with fail
                refine (rofbound_any a.sz a A c _ (Nat.le_refl _) (by exact E2.out.tree w.heap.size a A c (by simp))).mono ?_
                rintro e w20 ⟨rfl, hb20⟩
                have E20 := Lib.hid (E2.out.keep hb20)
                clear hb20 a0 a1 a2
                by_cases hbd : boundT a = 0
                · have hbd' : ((boundT a : Int) != 0) = false := by simp [hbd]
                  have SW := Lib.hid (SwapM.mk' RA.out hxy hbd hx0 hx1 hy0 hy1)
                  obtain ⟨d, hd⟩ : ∃ d, d = putE (swapP x y) a 0 := ⟨_, rfl⟩
                  have S1 := Lib.hid (show eachR a (swapP x y) = (d, 0) by rw [hd]; exact SW.out.one)
                  have S2 := Lib.hid (show eachR d (swapP x y) = (a, 0) by rw [hd]; exact SW.out.two)
                  have FD := Lib.hid (show d.fit by have := eachR_fit a (swapP x y); rw [S1.out] at this; exact this)
                  clear hbd hd SW
                  go_wp2_with fail
                  refine (lvar_any y _).mono ?_
                  rintro e w21 ⟨rfl, hb21⟩
                  have E21 := Lib.hid (E20.out.keep hb21)
                  clear hb21 E20
                  go_wp2_with fail
                  refine (lvar_any x _).mono ?_
                  rintro e w22 ⟨rfl, hb22⟩
                  have E22 := Lib.hid (E21.out.keep hb22)
                  clear hb22 E21
                  have E23 := Lib.hid (E22.out.alloc (.cells #[.int .i64 x, .int .i64 1, .int .i64 y, .slice none 0 0, .int .i64 y, .int .i64 1, .int .i64 x, .slice none 0 0] 47))
                  have P23 := Lib.hid (IsP.two (B := w22.heap.size + 1) (new_at w22 (.cells #[.int .i64 x, .int .i64 1, .int .i64 y, .slice none 0 0, .int .i64 y, .int .i64 1, .int .i64 x, .slice none 0 0] 47)) (Nat.lt_succ_self _))
                  obtain ⟨a0, a1, a2⟩ := E23.out.cells w.heap.size a A c (by simp)
                  go_wp2_with fail
                  refine (each_any a A c (swapP x y) _ 2 _ (by exact E23.out.tree w.heap.size a A c (by simp)) (by simpa using P23.out)).mono ?_
                  rintro e w24 ⟨hb24, A24, c24, ho24, rfl⟩
                  rw [S1.out] at ho24 ⊢
                  have E24 := Lib.hid ((E23.out.keep hb24).push (AnsPost.is (x := (d, 0)) ho24 FD.out))
                  have P24 := Lib.hid (((show IsP _ (w22.alloc _).heap.size _ _ _ by simpa using P23.out).up hb24).up (alB w24 (.cells #[.int .i64 d.k, .int .i64 d.i, .slice A24 d.ks.length c24] 24)))
                  clear hb24 ho24 a0 a1 a2 E22 E23 P23
                  obtain ⟨n0, n1, n2⟩ := E24.out.cells w24.heap.size d A24 c24 (by simp)
                  go_wp2_with fail
                  refine (each_any d A24 c24 (swapP x y) _ 2 _ (by exact E24.out.tree w24.heap.size d A24 c24 (by simp)) (by exact P24.out)).mono ?_
                  rintro e w25 ⟨hb25, A25, c25, ho25, rfl⟩
                  rw [S2.out] at ho25 ⊢
                  have E25 := Lib.hid ((E24.out.keep hb25).push (AnsPost.is (x := (a, 0)) ho25 (right_fit RA.out)))
                  clear hb25 ho25 n0 n1 n2 E24 P24
                  obtain ⟨a0, a1, a2⟩ := E25.out.cells w.heap.size a A c (by simp)
                  obtain ⟨n0, n1, n2⟩ := E25.out.cells w25.heap.size a A25 c25 (by simp)
                  go_wp2_with fail
                  refine (like_any a a A25 A c25 c _ (by exact E25.out.tree w25.heap.size a A25 c25 (by simp)) (by exact E25.out.tree w.heap.size a A c (by simp))).mono ?_
                  rintro e w26 ⟨rfl, hb26⟩
                  rw [like_refl]
                  have E26 := Lib.hid (E25.out.keep hb26)
                  clear hb26
                  go_wp2_with fail
                  go_ret
                  exact ⟨rfl, E26.out.below⟩
                · have hbd' : ((boundT a : Int) != 0) = true := by rw [bne_iff_ne]; omega
                  clear hbd
                  go_wp2_with fail
                  go_ret
                  exact ⟨rfl, E20.out.below⟩
            | false =>
              obtain ⟨b, hb⟩ : ∃ b, b = putX x (varT y) a := ⟨_, rfl⟩
              have TM := Lib.hid (show eachR a [(x, varT y)] = (b, 0) ∧ eachR b [(y, varT x)] = (a, 0) by rw [hb]; exact turn_math RA.out hx0 hx1 hy0 hy1 hh)
              clear hb
              have E2d := Lib.hid (E2.out.keep ((Below.refl _ _).drew))
              go_upto_region 4 with fail
              go_cut [7, 8] (fun p e wc => ∃ nb A5 c5, p = .pointer (some ⟨nb, 0, none⟩) ∧ e = .int .i64 ((eachR a [(x, varT y)]).2 : Int) ∧ Env w wc [(nb, (eachR a [(x, varT y)]).1, A5, c5), (w.heap.size, a, A, c)])
              case first =>
                have BB : Below w9.drew.heap.size w9.drew w9.drew := Below.refl _ _
                go_region_held3 (fun w' => w'.cell? ⟨w.heap.size, 0, none⟩ = some (.int .i64 a.k) ∧ w'.cell? ⟨w.heap.size, 1, none⟩ = some (.int .i64 a.i) ∧ w'.cell? ⟨w.heap.size, 2, none⟩ = some (.slice A a.ks.length c))
                  (first | exact (E2d.out.keep BB).cells w.heap.size a A c (by simp) | exact ((E2d.out.keep BB).alloc _).cells w.heap.size a A c (by simp) | exact ((E2d.out.fresh BB HO.out (eachR_fit _ _)).cells w.heap.size a A c (by simp)) | exact ((E2d.out.box BB NB (by first | omega | (simp only [World.size_alloc, drew_sz] at *; omega)) (by first | omega | (simp only [World.size_alloc, drew_sz] at *; omega)) HO.out (eachR_fit _ _)).cells w.heap.size a A c (by simp)))
                  (first
                    | (go_at_call 28; refine (lvar_any y _).mono ?_; rintro e w3 ⟨rfl, hb3⟩; have hsz3 := hb3.size; (first | replace BB := stepB BB hb3 | (have NB := boxA hb3; replace BB := stepA BB hb3) | (have NB := boxD hb3; replace BB := stepD hb3)); have hsz4 := BB.size; clear hb3)
                    | (go_at_call 15; refine (sput_any a A c x (varT y) none 0 _ (by first | exact (E2d.out.keep BB).tree w.heap.size a A c (by simp) | exact ((E2d.out.keep BB).alloc _).tree w.heap.size a A c (by simp)) (isT_var _ _ y)).mono ?_; rintro e w5 ⟨hb5, A5, c5, ho5, rfl⟩; have HO := Lib.hid ho5; have hsz5 := hb5.size; (first | (replace NB := NB.keep hb5 NB.lt; replace BB := stepB BB hb5) | replace BB := stepB BB hb5 | (have NB := boxA hb5; replace BB := stepA BB hb5)); (try (obtain ⟨z0, z1, z2⟩ := NB.cells; have f0 := NB.frozen 0; have f1 := NB.frozen 1; have f2 := NB.frozen 2)); clear hb5 ho5))
                all_goals go_wp2_with fail
                all_goals go_meet
                all_goals first
                  | exact ⟨_, A5, c5, rfl, rfl, E2d.out.fresh BB HO.out (eachR_fit _ _)⟩
                  | exact ⟨_, A5, c5, rfl, rfl, E2d.out.box BB NB (by first | omega | (simp only [World.size_alloc, drew_sz] at *; omega)) (by first | omega | (simp only [World.size_alloc, drew_sz] at *; omega)) HO.out (eachR_fit _ _)⟩
              case rest =>
                obtain ⟨nb1, Anb1, cnb1, rfl, rfl, hE⟩ := hcut
                rw [TM.out.1] at hE ⊢
                have E4 := Lib.hid hE
                clear hE E2 E2d
                have E4d := Lib.hid (E4.out.keep ((Below.refl _ _).drew))
                go_upto_region 5 with fail
                go_cut [9, 10] (fun p e wc => ∃ nb A5 c5, p = .pointer (some ⟨nb, 0, none⟩) ∧ e = .int .i64 ((eachR b [(y, varT x)]).2 : Int) ∧ Env w wc [(nb, (eachR b [(y, varT x)]).1, A5, c5), (nb1, b, Anb1, cnb1), (w.heap.size, a, A, c)])
                case first =>
                  have BB : Below wc.drew.heap.size wc.drew wc.drew := Below.refl _ _
                  go_region_held3 (fun w' => w'.cell? ⟨nb1, 0, none⟩ = some (.int .i64 b.k) ∧ w'.cell? ⟨nb1, 1, none⟩ = some (.int .i64 b.i) ∧ w'.cell? ⟨nb1, 2, none⟩ = some (.slice Anb1 b.ks.length cnb1))
                    (first | exact (E4d.out.keep BB).cells nb1 b Anb1 cnb1 (by simp) | exact ((E4d.out.keep BB).alloc _).cells nb1 b Anb1 cnb1 (by simp) | exact ((E4d.out.fresh BB HO.out (eachR_fit _ _)).cells nb1 b Anb1 cnb1 (by simp)) | exact ((E4d.out.box BB NB (by first | omega | (simp only [World.size_alloc, drew_sz] at *; omega)) (by first | omega | (simp only [World.size_alloc, drew_sz] at *; omega)) HO.out (eachR_fit _ _)).cells nb1 b Anb1 cnb1 (by simp)))
                    (first
                      | (go_at_call 28; refine (lvar_any x _).mono ?_; rintro e w3 ⟨rfl, hb3⟩; have hsz3 := hb3.size; (first | replace BB := stepB BB hb3 | (have NB := boxA hb3; replace BB := stepA BB hb3) | (have NB := boxD hb3; replace BB := stepD hb3)); have hsz4 := BB.size; clear hb3)
                      | (go_at_call 15; refine (sput_any b Anb1 cnb1 y (varT x) none 0 _ (by first | exact (E4d.out.keep BB).tree nb1 b Anb1 cnb1 (by simp) | exact ((E4d.out.keep BB).alloc _).tree nb1 b Anb1 cnb1 (by simp)) (isT_var _ _ x)).mono ?_; rintro e w5 ⟨hb5, A5, c5, ho5, rfl⟩; have HO := Lib.hid ho5; have hsz5 := hb5.size; (first | (replace NB := NB.keep hb5 NB.lt; replace BB := stepB BB hb5) | replace BB := stepB BB hb5 | (have NB := boxA hb5; replace BB := stepA BB hb5)); (try (obtain ⟨z0, z1, z2⟩ := NB.cells; have f0 := NB.frozen 0; have f1 := NB.frozen 1; have f2 := NB.frozen 2)); clear hb5 ho5))
                  all_goals go_wp2_with fail
                  all_goals go_meet
                  all_goals first
                    | exact ⟨_, A5, c5, rfl, rfl, E4d.out.fresh BB HO.out (eachR_fit _ _)⟩
                    | exact ⟨_, A5, c5, rfl, rfl, E4d.out.box BB NB (by first | omega | (simp only [World.size_alloc, drew_sz] at *; omega)) (by first | omega | (simp only [World.size_alloc, drew_sz] at *; omega)) HO.out (eachR_fit _ _)⟩
                case rest =>
                  obtain ⟨nb2, Anb2, cnb2, rfl, rfl, hE⟩ := hcut
                  rw [TM.out.2] at hE ⊢
                  have E6 := Lib.hid hE
                  clear hE E4 E4d
                  obtain ⟨a0, a1, a2⟩ := E6.out.cells w.heap.size a A c (by simp)
                  obtain ⟨n0, n1, n2⟩ := E6.out.cells nb2 a Anb2 cnb2 (by simp)
                  go_wp2_with fail
                  refine (like_any a a Anb2 A cnb2 c _ (by exact E6.out.tree nb2 a Anb2 cnb2 (by simp)) (by exact E6.out.tree w.heap.size a A c (by simp))).mono ?_
                  rintro e w7 ⟨rfl, hb7⟩
                  rw [like_refl]
                  have E7 := Lib.hid ((E6.out.keep hb7).sub (bs' := [(w.heap.size, a, A, c)]) (by simp))
                  clear hb7 a0 a1 a2 n0 n1 n2 E6
                  by_cases hxy : x = y
                  · have hxy' : (x == y) = true := by simp [hxy]
                    go_wp2_with fail
                    go_ret
                    exact ⟨rfl, E7.out.below⟩
                  · have hxy' : (x == y) = false := by simpa using hxy
                    obtain ⟨a0, a1, a2⟩ := E7.out.cells w.heap.size a A c (by simp)
                    go_wp2_with fail
                    refine (rofbound_any a.sz a A c _ (Nat.le_refl _) (by exact E7.out.tree w.heap.size a A c (by simp))).mono ?_
                    rintro e w20 ⟨rfl, hb20⟩
                    have E20 := Lib.hid (E7.out.keep hb20)
                    clear hb20 a0 a1 a2
                    by_cases hbd : boundT a = 0
                    · have hbd' : ((boundT a : Int) != 0) = false := by simp [hbd]
                      have SW := Lib.hid (SwapM.mk' RA.out hxy hbd hx0 hx1 hy0 hy1)
                      obtain ⟨d, hd⟩ : ∃ d, d = putE (swapP x y) a 0 := ⟨_, rfl⟩
                      have S1 := Lib.hid (show eachR a (swapP x y) = (d, 0) by rw [hd]; exact SW.out.one)
                      have S2 := Lib.hid (show eachR d (swapP x y) = (a, 0) by rw [hd]; exact SW.out.two)
                      have FD := Lib.hid (show d.fit by have := eachR_fit a (swapP x y); rw [S1.out] at this; exact this)
                      clear hbd hd SW
                      go_wp2_with fail
                      refine (lvar_any y _).mono ?_
                      rintro e w21 ⟨rfl, hb21⟩
                      have E21 := Lib.hid (E20.out.keep hb21)
                      clear hb21 E20
                      go_wp2_with fail
                      refine (lvar_any x _).mono ?_
                      rintro e w22 ⟨rfl, hb22⟩
                      have E22 := Lib.hid (E21.out.keep hb22)
                      clear hb22 E21
                      have E23 := Lib.hid (E22.out.alloc (.cells #[.int .i64 x, .int .i64 1, .int .i64 y, .slice none 0 0, .int .i64 y, .int .i64 1, .int .i64 x, .slice none 0 0] 47))
                      have P23 := Lib.hid (IsP.two (B := w22.heap.size + 1) (new_at w22 (.cells #[.int .i64 x, .int .i64 1, .int .i64 y, .slice none 0 0, .int .i64 y, .int .i64 1, .int .i64 x, .slice none 0 0] 47)) (Nat.lt_succ_self _))
                      obtain ⟨a0, a1, a2⟩ := E23.out.cells w.heap.size a A c (by simp)
                      go_wp2_with fail
                      refine (each_any a A c (swapP x y) _ 2 _ (by exact E23.out.tree w.heap.size a A c (by simp)) (by simpa using P23.out)).mono ?_
                      rintro e w24 ⟨hb24, A24, c24, ho24, rfl⟩
                      rw [S1.out] at ho24 ⊢
                      have E24 := Lib.hid ((E23.out.keep hb24).push (AnsPost.is (x := (d, 0)) ho24 FD.out))
                      have P24 := Lib.hid (((show IsP _ (w22.alloc _).heap.size _ _ _ by simpa using P23.out).up hb24).up (alB w24 (.cells #[.int .i64 d.k, .int .i64 d.i, .slice A24 d.ks.length c24] 24)))
                      clear hb24 ho24 a0 a1 a2 E22 E23 P23
                      obtain ⟨n0, n1, n2⟩ := E24.out.cells w24.heap.size d A24 c24 (by simp)
                      go_wp2_with fail
                      refine (each_any d A24 c24 (swapP x y) _ 2 _ (by exact E24.out.tree w24.heap.size d A24 c24 (by simp)) (by exact P24.out)).mono ?_
                      rintro e w25 ⟨hb25, A25, c25, ho25, rfl⟩
                      rw [S2.out] at ho25 ⊢
                      have E25 := Lib.hid ((E24.out.keep hb25).push (AnsPost.is (x := (a, 0)) ho25 (right_fit RA.out)))
                      clear hb25 ho25 n0 n1 n2 E24 P24
                      obtain ⟨a0, a1, a2⟩ := E25.out.cells w.heap.size a A c (by simp)
                      obtain ⟨n0, n1, n2⟩ := E25.out.cells w25.heap.size a A25 c25 (by simp)
                      go_wp2_with fail
                      refine (like_any a a A25 A c25 c _ (by exact E25.out.tree w25.heap.size a A25 c25 (by simp)) (by exact E25.out.tree w.heap.size a A c (by simp))).mono ?_
                      rintro e w26 ⟨rfl, hb26⟩
                      rw [like_refl]
                      have E26 := Lib.hid (E25.out.keep hb26)
                      clear hb26
                      go_wp2_with fail
                      go_ret
                      exact ⟨rfl, E26.out.below⟩
                    · have hbd' : ((boundT a : Int) != 0) = true := by rw [bne_iff_ne]; omega
                      clear hbd
                      go_wp2_with fail
                      go_ret
                      exact ⟨rfl, E20.out.below⟩
          · have hy1' : 63 < y := by omega
            have hx0' : ¬ x < 0 := by omega
            have hx1' : ¬ 63 < x := by omega
            have hy0' : ¬ y < 0 := by omega
            go_wp2_with fail
            go_ret
            exact ⟨rfl, E1.out.below⟩
        · have hy0' : y < 0 := by omega
          have hx0' : ¬ x < 0 := by omega
          have hx1' : ¬ 63 < x := by omega
          go_wp2_with fail
          go_ret
          exact ⟨rfl, E1.out.below⟩
      · have hx1' : 63 < x := by omega
        have hx0' : ¬ x < 0 := by omega
        go_wp2_with fail
        go_ret
        exact ⟨rfl, E1.out.below⟩
    · have hx0' : x < 0 := by omega
      go_wp2_with fail
      go_ret
      exact ⟨rfl, E1.out.below⟩
  · have h0 : ((rightN a : Int) != 0) = true := by rw [bne_iff_ne]; omega
    clear hra
    go_wp2_with fail
    go_ret
    exact ⟨rfl, E1.out.below⟩
end Go.Proofs.Ytkncchhalahpoaa
