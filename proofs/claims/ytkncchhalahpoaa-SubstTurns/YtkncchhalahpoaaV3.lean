/- The law SubstLemma, walked. -/
import Derived.Test.YtkncchhalahpoaaV2
namespace Go.Proofs.Ytkncchhalahpoaa
open Go.RowKit
set_option linter.unusedVariables false
set_option linter.unusedSimpArgs false
theorem eachN_zero {a t : Tr} {x : Int} (h : eachN a [(x, t)] = 0) : (0 ≤ x ∧ x ≤ 63) ∧ rightN a = 0 ∧ rightN t = 0 ∧ termB t.k = true ∧ catT (varsT t) x a = 0 ∧ eachR a [(x, t)] = (putX x t a, 0) ∧ rightN (putX x t a) = 0 := by
  have h0 := h
  unfold eachN at h
  split at h
  · rename_i h1; exact absurd h h1
  · rename_i h1
    split at h
    · cases h
    · rename_i h2
      have h1 : faultE a [(x, t)] = 0 := by simpa using h1
      obtain ⟨q1, q2, q3, q4⟩ := faultE_zero h1
      rw [capE_one] at h2
      refine ⟨argE_mem q1 (x, t) (by simp), q2, q3 (x, t) (by simp), q4 (x, t) (by simp), by simpa using h2, eachR_one_ok h0, h⟩
/-- what SubstLemma asks, at two variables -/
theorem lem_math {a t u : Tr} {x y : Int} (ht : rTB t = true) (hu : rTB u = true) (hxy : x ≠ y) (hx : hasN (varsT u) x = false) (x0 : 0 ≤ x) (x1 : x ≤ 63) (y0 : 0 ≤ y) (y1 : y ≤ 63) {b c d v z : Tr} {e f g h i : Nat}
    (hb : eachR a [(x, t)] = (b, e)) (hc : eachR b [(y, u)] = (c, f)) (hd : eachR a [(y, u)] = (d, g)) (hv : eachR t [(y, u)] = (v, h)) (hz : eachR d [(x, v)] = (z, i)) :
    (h = 0 ∨ h = 20 ∨ h = 21) ∧ (e = 0 → f = 0 → g = 0 → h = 0 → i = 0 → c = z) := by
  unfold rTB at ht hu
  rw [Bool.and_eq_true, decide_eq_true_eq] at ht hu
  obtain ⟨ht, htk⟩ := ht
  obtain ⟨hu, huk⟩ := hu
  have hts := (right_shp' ht).1
  have hus := (right_shp' hu).1
  have e1 : e = eachN a [(x, t)] := by rw [← eachR_snd, hb]
  have e2 : f = eachN b [(y, u)] := by rw [← eachR_snd, hc]
  have e3 : g = eachN a [(y, u)] := by rw [← eachR_snd, hd]
  have e4 : h = eachN t [(y, u)] := by rw [← eachR_snd, hv]
  have e5 : i = eachN d [(x, v)] := by rw [← eachR_snd, hz]
  constructor
  · have := eachN_one ⟨y0, y1⟩ ht hu huk
    rw [if_pos (cat_unbound (term_bound t hts htk).1)] at this
    rw [e4, this, putE_right (l := [(y, u)]) (by simp [huk, hus]) hts]
    split
    · exact .inr (.inl rfl)
    · split
      · exact .inr (.inr rfl)
      · exact .inl rfl
  · rintro rfl rfl rfl rfl rfl
    obtain ⟨_, ra, _, _, k1, r1, _⟩ := eachN_zero e1.symm
    obtain ⟨_, _, _, _, k2, r2, _⟩ := eachN_zero e2.symm
    obtain ⟨_, _, _, _, k3, r3, _⟩ := eachN_zero e3.symm
    obtain ⟨_, _, _, _, k4, r4, _⟩ := eachN_zero e4.symm
    obtain ⟨_, _, _, _, k5, r5, _⟩ := eachN_zero e5.symm
    rw [hb] at r1
    rw [hc] at r2
    rw [hd] at r3
    rw [hv] at r4
    rw [hz] at r5
    have q1 := congrArg Prod.fst r1
    have q2 := congrArg Prod.fst r2
    have q3 := congrArg Prod.fst r3
    have q4 := congrArg Prod.fst r4
    have q5 := congrArg Prod.fst r5
    simp only at q1 q2 q3 q4 q5
    rw [q2, q5]
    rw [q1] at k2 ⊢
    rw [q3, q4] at k5 ⊢
    rw [hasN_bit x0 x1] at hx
    exact putX_lemma x0 x1 y0 y1 hxy hts htk hus huk hx a (right_shp' ra).1 k1 k2 k3 k5
theorem Env.sub {w W : World} {bs bs' : List (Nat × Tr × Option Addr × Nat)} (h : Env w W bs) (hs : ∀ x ∈ bs', x ∈ bs) : Env w W bs' := ⟨h.below, fun x hx => h.bts x (hs x hx)⟩
set_option maxHeartbeats 8000000 in
set_option maxRecDepth 100000 in
theorem lemma_law (a t u : Tr) (A A' A'' : Option Addr) (c c' c'' : Nat) (w : World) (ha : IsT w w.heap.size a A c) (ht : IsT w w.heap.size t A' c') (hu : IsT w w.heap.size u A'' c'') :
    Calls Try.prog 12 #[.agg #[.int .i64 a.k, .int .i64 a.i, .slice A a.ks.length c], .agg #[.int .i64 t.k, .int .i64 t.i, .slice A' t.ks.length c'], .agg #[.int .i64 u.k, .int .i64 u.i, .slice A'' u.ks.length c'']] w fun e w' => e = .returned (.bool true) ∧ Below w.heap.size w w' := by
  have E0 := Lib.hid (env3 ha ht hu)
  obtain ⟨a0, a1, a2⟩ := E0.out.cells w.heap.size a A c (by simp)
  clear ha ht hu
  go_enter Try.func12, Try.ntmps12
  go_wp2_with fail
  refine (rright_any a A c _ (by exact E0.out.tree w.heap.size a A c (by simp))).mono ?_
  rintro e w1 ⟨rfl, hb1⟩
  have E1 := Lib.hid (E0.out.keep hb1)
  clear hb1 a0 a1 a2 E0
  by_cases hra : rightN a = 0
  · have h0 : ((rightN a : Int) != 0) = false := by simp [hra]
    have RA := Lib.hid hra
    obtain ⟨t0, t1, t2⟩ := E1.out.cells (w.heap.size + 1) t A' c' (by simp)
    clear hra
    go_wp2_with fail
    refine (risterm_any t A' c' _ (by exact E1.out.tree (w.heap.size + 1) t A' c' (by simp))).mono ?_
    rintro e w2 ⟨rfl, hb2⟩
    have E2 := Lib.hid (E1.out.keep hb2)
    clear hb2 t0 t1 t2 E1
    cases hrt : rTB t with
    | true =>
      have RT := Lib.hid hrt
      obtain ⟨u0, u1, u2⟩ := E2.out.cells (w.heap.size + 2) u A'' c'' (by simp)
      go_wp2_with fail
      refine (risterm_any u A'' c'' _ (by exact E2.out.tree (w.heap.size + 2) u A'' c'' (by simp))).mono ?_
      rintro e w3 ⟨rfl, hb3⟩
      have E3 := Lib.hid (E2.out.keep hb3)
      clear hb3 u0 u1 u2 E2 hrt
      cases hru : rTB u with
      | true =>
        have RU := Lib.hid hru
        clear hru
        go_wp2_with fail
        go_loopw [7] (fun xv wr => ∃ x : Nat, x ≤ 4 ∧ xv = .int .i64 (x : Int) ∧ Env w wr [(w.heap.size + 2, u, A'', c''), (w.heap.size + 1, t, A', c'), (w.heap.size, a, A, c)]) (fun xv _ => 4 - (intOf xv).toNat)
        case atStart => exact ⟨0, by omega, rfl, E3.out⟩
        case round =>
          obtain ⟨x, hx4, rfl, hEx⟩ := hrel
          have E4 := Lib.hid hEx
          clear hEx E3
          by_cases hxl : x < 4
          · have hxl' : (x : Int) < 4 := by omega
            go_wp2_with fail
            go_loopw [8] (fun yv wr => ∃ y : Nat, y ≤ 4 ∧ yv = .int .i64 (y : Int) ∧ Env w wr [(w.heap.size + 2, u, A'', c''), (w.heap.size + 1, t, A', c'), (w.heap.size, a, A, c)]) (fun yv _ => 4 - (intOf yv).toNat)
            case atStart => exact ⟨0, by omega, rfl, E4.out⟩
            case round =>
              obtain ⟨y, hy4, rfl, hEy⟩ := hrel
              have E5 := Lib.hid hEy
              clear hEy E4
              by_cases hyl : y < 4
              · have hyl' : (y : Int) < 4 := by omega
                by_cases hxy : x = y
                · have hxy' : ((x : Int) == (y : Int)) = true := by simp [hxy]
                  go_wp2_with fail
                  go_roundw
                  case rel => exact ⟨y + 1, by omega, by go_num, E5.out⟩
                  case measure => simp [intOf]; omega
                · have hxy' : ((x : Int) == (y : Int)) = false := by rw [beq_eq_false_iff_ne]; omega
                  obtain ⟨u0, u1, u2⟩ := E5.out.cells (w.heap.size + 2) u A'' c'' (by simp)
                  have U1 := Lib.hid (varsT_U u)
                  go_wp2_with fail
                  refine (rofvars_any u A'' c'' _ (by exact E5.out.tree (w.heap.size + 2) u A'' c'' (by simp))).mono ?_
                  rintro e w9 ⟨rfl, hb9⟩
                  have E10 := Lib.hid (E5.out.keep hb9)
                  clear hb9 u0 u1 u2 E5
                  go_wp2_with fail
                  refine (rhas_any (varsT u) (x : Int) _ U1.out).mono ?_
                  rintro e w10 ⟨rfl, hw10⟩
                  rw [← hw10]
                  clear hw10
                  cases hh : hasN (varsT u) (x : Int) with
                  | true =>
                    go_wp2_with fail
                    go_roundw
                    case rel => exact ⟨y + 1, by omega, by go_num, E10.out⟩
                    case measure => simp [intOf]; omega
                  | false =>
                    obtain ⟨s0, s1, s2⟩ := E10.out.cells w.heap.size a A c (by simp)
                    obtain ⟨q0, q1, q2⟩ := E10.out.cells (w.heap.size + 1) t A' c' (by simp)
                    go_wp2_with fail
                    refine (sput_any a A c (x : Int) t A' c' _ (by exact E10.out.tree w.heap.size a A c (by simp)) (by exact E10.out.tree (w.heap.size + 1) t A' c' (by simp))).mono ?_
                    rintro e w11 ⟨hb, A11, c11, ho, rfl⟩
                    have E11 := Lib.hid ((E10.out.keep hb).push (AnsPost.is ho (eachR_fit _ _)))
                    clear hb ho s0 s1 s2 q0 q1 q2 E10
                    obtain ⟨b, cb, hb⟩ : ∃ r n, eachR a [((x : Int), t)] = (r, n) := ⟨_, _, rfl⟩
                    have Hb := Lib.hid hb
                    rw [hb] at E11 ⊢
                    clear hb
                    simp only at E11 ⊢
                    obtain ⟨s0, s1, s2⟩ := E11.out.cells w11.heap.size b A11 c11 (by simp)
                    obtain ⟨q0, q1, q2⟩ := E11.out.cells (w.heap.size + 2) u A'' c'' (by simp)
                    go_wp2_with fail
                    refine (sput_any b A11 c11 (y : Int) u A'' c'' _ (by exact E11.out.tree w11.heap.size b A11 c11 (by simp)) (by exact E11.out.tree (w.heap.size + 2) u A'' c'' (by simp))).mono ?_
                    rintro e w12 ⟨hb, A12, c12, ho, rfl⟩
                    have E12 := Lib.hid ((E11.out.keep hb).push (AnsPost.is ho (eachR_fit _ _)))
                    clear hb ho s0 s1 s2 q0 q1 q2 E11
                    obtain ⟨p, cp, hp⟩ : ∃ r n, eachR b [((y : Int), u)] = (r, n) := ⟨_, _, rfl⟩
                    have Hp := Lib.hid hp
                    rw [hp] at E12 ⊢
                    clear hp
                    simp only at E12 ⊢
                    obtain ⟨s0, s1, s2⟩ := E12.out.cells w.heap.size a A c (by simp)
                    obtain ⟨q0, q1, q2⟩ := E12.out.cells (w.heap.size + 2) u A'' c'' (by simp)
                    go_wp2_with fail
                    refine (sput_any a A c (y : Int) u A'' c'' _ (by exact E12.out.tree w.heap.size a A c (by simp)) (by exact E12.out.tree (w.heap.size + 2) u A'' c'' (by simp))).mono ?_
                    rintro e w13 ⟨hb, A13, c13, ho, rfl⟩
                    have E13 := Lib.hid ((E12.out.keep hb).push (AnsPost.is ho (eachR_fit _ _)))
                    clear hb ho s0 s1 s2 q0 q1 q2 E12
                    obtain ⟨d, cd, hd⟩ : ∃ r n, eachR a [((y : Int), u)] = (r, n) := ⟨_, _, rfl⟩
                    have Hd := Lib.hid hd
                    rw [hd] at E13 ⊢
                    clear hd
                    simp only at E13 ⊢
                    obtain ⟨s0, s1, s2⟩ := E13.out.cells (w.heap.size + 1) t A' c' (by simp)
                    obtain ⟨q0, q1, q2⟩ := E13.out.cells (w.heap.size + 2) u A'' c'' (by simp)
                    go_wp2_with fail
                    refine (sput_any t A' c' (y : Int) u A'' c'' _ (by exact E13.out.tree (w.heap.size + 1) t A' c' (by simp)) (by exact E13.out.tree (w.heap.size + 2) u A'' c'' (by simp))).mono ?_
                    rintro e w14 ⟨hb, A14, c14, ho, rfl⟩
                    have E14 := Lib.hid ((E13.out.keep hb).push (AnsPost.is ho (eachR_fit _ _)))
                    clear hb ho s0 s1 s2 q0 q1 q2 E13
                    obtain ⟨v, cv, hv⟩ : ∃ r n, eachR t [((y : Int), u)] = (r, n) := ⟨_, _, rfl⟩
                    have Hv := Lib.hid hv
                    rw [hv] at E14 ⊢
                    clear hv
                    simp only at E14 ⊢
                    obtain ⟨s0, s1, s2⟩ := E14.out.cells w13.heap.size d A13 c13 (by simp)
                    obtain ⟨q0, q1, q2⟩ := E14.out.cells w14.heap.size v A14 c14 (by simp)
                    go_wp2_with fail
                    refine (sput_any d A13 c13 (x : Int) v A14 c14 _ (by exact E14.out.tree w13.heap.size d A13 c13 (by simp)) (by exact E14.out.tree w14.heap.size v A14 c14 (by simp))).mono ?_
                    rintro e w15 ⟨hb, A15, c15, ho, rfl⟩
                    have E15 := Lib.hid ((E14.out.keep hb).push (AnsPost.is ho (eachR_fit _ _)))
                    clear hb ho s0 s1 s2 q0 q1 q2 E14
                    obtain ⟨z, cz, hz⟩ : ∃ r n, eachR d [((x : Int), v)] = (r, n) := ⟨_, _, rfl⟩
                    have Hz := Lib.hid hz
                    rw [hz] at E15 ⊢
                    clear hz
                    simp only at E15 ⊢
                    have LM := Lib.hid (lem_math (a := a) RT.out RU.out (by omega) hh (by omega) (by omega) (by omega) (by omega) Hb.out Hp.out Hd.out Hv.out Hz.out)
                    have E16 := Lib.hid (Env.sub E15.out (bs' := [(w.heap.size + 2, u, A'', c''), (w.heap.size + 1, t, A', c'), (w.heap.size, a, A, c)]) (by simp))
                    have h20 : cv = 0 ∨ cv = 20 ∨ cv = 21 := LM.out.1
                    by_cases zb : cb = 0
                    · by_cases zp : cp = 0
                      · by_cases zd : cd = 0
                        · by_cases zv : cv = 0
                          · by_cases zz : cz = 0
                            · subst zb zp zd zv zz
                              obtain rfl := LM.out.2 rfl rfl rfl rfl rfl
                              obtain ⟨s0, s1, s2⟩ := E15.out.cells w12.heap.size p A12 c12 (by simp)
                              obtain ⟨q0, q1, q2⟩ := E15.out.cells w15.heap.size p A15 c15 (by simp)
                              go_wp2_with fail
                              refine (like_any p p A12 A15 c12 c15 _ (by exact E15.out.tree w12.heap.size p A12 c12 (by simp)) (by exact E15.out.tree w15.heap.size p A15 c15 (by simp))).mono ?_
                              rintro e w17 ⟨rfl, hb17⟩
                              rw [like_refl]
                              have E17 := Lib.hid (E16.out.keep hb17)
                              clear hb17
                              go_wp2_with fail
                              go_roundw
                              case rel => exact ⟨y + 1, by omega, by go_num, E17.out⟩
                              case measure => simp [intOf]; omega
                            · subst zb zp zd zv
                              have zz' : ((cz : Int) == 0) = false := by rw [beq_eq_false_iff_ne]; omega
                              go_wp2_with fail
                              go_roundw
                              case rel => exact ⟨y + 1, by omega, by go_num, E16.out⟩
                              case measure => simp [intOf]; omega
                          · subst zb zp zd
                            have zv' : ((cv : Int) == 0) = false := by rw [beq_eq_false_iff_ne]; omega
                            have zv2 : ((cv : Int) != 0) = true := by rw [bne_iff_ne]; omega
                            rcases h20 with rfl | rfl | rfl
                            · exact absurd rfl zv
                            all_goals
                              go_wp2_with fail
                              go_roundw
                              case rel => exact ⟨y + 1, by omega, by go_num, E16.out⟩
                              case measure => simp [intOf]; omega
                        · subst zb zp
                          have zd' : ((cd : Int) == 0) = false := by rw [beq_eq_false_iff_ne]; omega
                          rcases h20 with rfl | rfl | rfl
                          all_goals
                            go_wp2_with fail
                            go_roundw
                            case rel => exact ⟨y + 1, by omega, by go_num, E16.out⟩
                            case measure => simp [intOf]; omega
                      · subst zb
                        have zp' : ((cp : Int) == 0) = false := by rw [beq_eq_false_iff_ne]; omega
                        rcases h20 with rfl | rfl | rfl
                        all_goals
                          go_wp2_with fail
                          go_roundw
                          case rel => exact ⟨y + 1, by omega, by go_num, E16.out⟩
                          case measure => simp [intOf]; omega
                    · have zb' : ((cb : Int) == 0) = false := by rw [beq_eq_false_iff_ne]; omega
                      rcases h20 with rfl | rfl | rfl
                      all_goals
                        go_wp2_with fail
                        go_roundw
                        case rel => exact ⟨y + 1, by omega, by go_num, E16.out⟩
                        case measure => simp [intOf]; omega
              · have hyl' : ¬ (y : Int) < 4 := by omega
                go_wp2_with fail
                go_roundw
                case rel => exact ⟨x + 1, by omega, by go_num, E5.out⟩
                case measure => simp [intOf]; omega
          · have hxl' : ¬ (x : Int) < 4 := by omega
            have RS := Lib.hid (show eachR a [(0, varT 0)] = (a, 0) from (RestM.mk' RA.out RT.out (by omega) (by omega) : RestM a 0 t).self)
            have E4d := Lib.hid (E4.out.keep ((Below.refl _ _).drew))
            go_upto_region 19 with fail
            go_cut [19, 20] (fun p e wc => ∃ nb A5 c5, p = .pointer (some ⟨nb, 0, none⟩) ∧ e = .int .i64 ((eachR a [(0, varT 0)]).2 : Int) ∧ Env w wc [(nb, (eachR a [(0, varT 0)]).1, A5, c5), (w.heap.size + 2, u, A'', c''), (w.heap.size + 1, t, A', c'), (w.heap.size, a, A, c)])
            case first =>
              have BB : Below wr.drew.heap.size wr.drew wr.drew := Below.refl _ _
              go_region_held3 (fun w' => w'.cell? ⟨w.heap.size, 0, none⟩ = some (.int .i64 a.k) ∧ w'.cell? ⟨w.heap.size, 1, none⟩ = some (.int .i64 a.i) ∧ w'.cell? ⟨w.heap.size, 2, none⟩ = some (.slice A a.ks.length c))
                (first | exact (E4d.out.keep BB).cells w.heap.size a A c (by simp) | exact ((E4d.out.keep BB).alloc _).cells w.heap.size a A c (by simp) | exact ((E4d.out.fresh BB HO.out (eachR_fit _ _)).cells w.heap.size a A c (by simp)) | exact ((E4d.out.box BB NB (by first | omega | (simp only [World.size_alloc, drew_sz] at *; omega)) (by first | omega | (simp only [World.size_alloc, drew_sz] at *; omega)) HO.out (eachR_fit _ _)).cells w.heap.size a A c (by simp)))
                (first
                  | (go_at_call 28; refine (lvar_any 0 _).mono ?_; rintro e w3 ⟨rfl, hb3⟩; have hsz3 := hb3.size; (first | replace BB := stepB BB hb3 | (have NB := boxA hb3; replace BB := stepA BB hb3) | (have NB := boxD hb3; replace BB := stepD hb3)); have hsz4 := BB.size; clear hb3)
                  | (go_at_call 15; refine (sput_any a A c 0 (varT 0) none 0 _ (by first | exact (E4d.out.keep BB).tree w.heap.size a A c (by simp) | exact ((E4d.out.keep BB).alloc _).tree w.heap.size a A c (by simp)) (isT_var _ _ 0)).mono ?_; rintro e w5 ⟨hb5, A5, c5, ho5, rfl⟩; have HO := Lib.hid ho5; have hsz5 := hb5.size; (first | (replace NB := NB.keep hb5 NB.lt; replace BB := stepB BB hb5) | replace BB := stepB BB hb5 | (have NB := boxA hb5; replace BB := stepA BB hb5)); (try (obtain ⟨z0, z1, z2⟩ := NB.cells; have f0 := NB.frozen 0; have f1 := NB.frozen 1; have f2 := NB.frozen 2)); clear hb5 ho5))
              all_goals go_wp2_with fail
              all_goals go_meet
              all_goals first
                | exact ⟨_, A5, c5, rfl, rfl, E4d.out.fresh BB HO.out (eachR_fit _ _)⟩
                | exact ⟨_, A5, c5, rfl, rfl, E4d.out.box BB NB (by first | omega | (simp only [World.size_alloc, drew_sz] at *; omega)) (by first | omega | (simp only [World.size_alloc, drew_sz] at *; omega)) HO.out (eachR_fit _ _)⟩
            case rest =>
              obtain ⟨nb, A5, c5, rfl, rfl, hE⟩ := hcut
              rw [RS.out] at hE ⊢
              have E9 := Lib.hid hE
              clear hE E4 E4d
              obtain ⟨a0, a1, a2⟩ := E9.out.cells w.heap.size a A c (by simp)
              obtain ⟨n0, n1, n2⟩ := E9.out.cells nb a A5 c5 (by simp)
              go_wp2_with fail
              refine (like_any a a A5 A c5 c _ (by exact E9.out.tree nb a A5 c5 (by simp)) (by exact E9.out.tree w.heap.size a A c (by simp))).mono ?_
              rintro e w6 ⟨rfl, hb6⟩
              rw [like_refl]
              have E6 := Lib.hid (E9.out.keep hb6)
              clear hb6
              go_wp2_with fail
              go_ret
              exact ⟨rfl, E6.out.below⟩
      | false =>
        go_wp2_with fail
        go_ret
        exact ⟨rfl, E3.out.below⟩
    | false =>
      go_wp2_with fail
      go_ret
      exact ⟨rfl, E2.out.below⟩
  · have h0 : ((rightN a : Int) != 0) = true := by rw [bne_iff_ne]; omega
    clear hra
    go_wp2_with fail
    go_ret
    exact ⟨rfl, E1.out.below⟩
end Go.Proofs.Ytkncchhalahpoaa
