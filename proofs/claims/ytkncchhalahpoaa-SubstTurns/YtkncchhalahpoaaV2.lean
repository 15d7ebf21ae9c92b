/- The law SubstRests, walked. -/
import Derived.Test.YtkncchhalahpoaaV0
import Derived.Test.YtkncchhalahpoaaL12
import Derived.Deep.RegionHeld3
import Derived.Deep.DeepCutAuto
namespace Go.Proofs.Ytkncchhalahpoaa
open Go.RowKit
set_option linter.unusedVariables false
set_option linter.unusedSimpArgs false
set_option maxHeartbeats 400000 in
theorem lvar_any (x : Int) (w : World) : Calls Try.prog 28 #[.int .i64 x] w fun e w' => e = .returned (.agg #[.int .i64 1, .int .i64 x, .slice none 0 0]) ∧ Below w.heap.size w w' := by
  obtain ⟨e1, hb⟩ := And.intro (Box3.new w (.int .i64 0) (.int .i64 0) (.slice none 0 0)) (below_alloc w (.cells #[.int .i64 0, .int .i64 0, .slice none 0 0] 24))
  obtain ⟨z0, z1, z2⟩ := e1.cells
  have f0 := e1.frozen 0
  have f1 := e1.frozen 1
  have f2 := e1.frozen 2
  go_enter Try.func28, Try.ntmps28
  go_wp2_with fail
  have e2 := Box3.new w (.int .i64 1) (.int .i64 x) (.slice none 0 0)
  obtain ⟨q0, q1, q2⟩ := e2.cells
  exact bodyPost_ret (v := .agg #[.int .i64 1, .int .i64 x, .slice none 0 0]) (by simp [results, Try.results28, go_sem, q0, q1, q2]) rfl ⟨rfl, below_alloc w _⟩
/-- what SubstRests asks -/
structure RestM (a : Tr) (x : Int) (t : Tr) : Prop where
  self : eachR a [(x, varT x)] = (a, 0)
  unfree : hasN (freeT a) x = false → eachR a [(x, t)] = (a, 0)
  free : ∀ {b : Tr} {n : Nat}, hasN (freeT a) x = true → eachR a [(x, t)] = (b, n) → (n = 0 → freeT b = withoutN (freeT a) x ||| varsT t) ∧ (n ≠ 0 → (n = 50 ∧ ffB x t a = false) ∨ (ffB x t a = true ∧ (n = 20 ∨ n = 21)))
theorem RestM.mk' {a : Tr} {x : Int} {t : Tr} (ha : rightN a = 0) (ht : rTB t = true) (h0 : 0 ≤ x) (h1 : x ≤ 63) : RestM a x t := by
  unfold rTB at ht
  rw [Bool.and_eq_true, decide_eq_true_eq] at ht
  obtain ⟨ht, hk⟩ := ht
  have hs := (right_shp' ha).1
  have hts := (right_shp' ht).1
  have hx : 0 ≤ x ∧ x ≤ 63 := ⟨h0, h1⟩
  have e1 := eachN_one hx ha ht hk
  refine ⟨?_, fun hf => ?_, fun {b n} hf he => ?_⟩
  · have e := eachN_one hx ha (right_var h0 h1) (show termB (varT x).k = true from rfl)
    rw [if_pos (cat_var x h0 h1 a), putX_self h0 h1 a hs, ha] at e
    rw [eachR_one_ok e, putX_self h0 h1 a hs]
  · rw [if_pos (cat_unfree hf), putX_unfree h0 h1 t a hs hf, ha] at e1
    rw [eachR_one_ok e1, putX_unfree h0 h1 t a hs hf]
  · have hn : n = eachN a [(x, t)] := by rw [← eachR_snd, he]
    have hff := (ffB_ok h0 h1 ht ha hk).2
    by_cases hc : catT (varsT t) x a = 0
    · rw [if_pos hc] at e1
      rw [hff, decide_eq_true hc]
      refine ⟨fun h => ?_, fun h => .inr ⟨rfl, ?_⟩⟩
      · rw [h] at hn
        have hb : b = putX x t a := by
          rw [eachR_one_ok hn.symm] at he
          cases he
          rfl
        rw [hb]
        apply Nat.eq_of_testBit_eq
        intro j
        rw [putX_free h0 h1 hts hk j a hs hc, Nat.testBit_or, tb_without _ _ _ (freeT_U a)]
        rw [hasN_bit h0 h1] at hf
        rw [hf, Bool.true_and]
      · rw [hn, e1]
        have := putE_right (l := [(x, t)]) (by simp [hk, hts]) hs
        rw [hn, e1] at h
        rw [this] at h ⊢
        split
        · exact .inl rfl
        · rename_i h2
          rw [if_neg h2] at h
          split
          · exact .inr rfl
          · rename_i h3; rw [if_neg h3] at h; exact absurd rfl h
    · rw [if_neg hc] at e1
      rw [hff, decide_eq_false hc]
      refine ⟨fun h => ?_, fun h => .inl ⟨by rw [hn, e1], rfl⟩⟩
      rw [hn, e1] at h
      cases h
set_option maxHeartbeats 4000000 in
set_option maxRecDepth 100000 in
theorem rests_law (a : Tr) (x : Int) (t : Tr) (A A' : Option Addr) (c c' : Nat) (w : World) (ha : IsT w w.heap.size a A c) (ht : IsT w w.heap.size t A' c') :
    Calls Try.prog 9 #[.agg #[.int .i64 a.k, .int .i64 a.i, .slice A a.ks.length c], .int .i64 x, .agg #[.int .i64 t.k, .int .i64 t.i, .slice A' t.ks.length c']] w fun e w' => e = .returned (.bool true) ∧ Below w.heap.size w w' := by
  have E0 := Lib.hid (env2 ha ht)
  obtain ⟨a0, a1, a2⟩ := E0.out.cells w.heap.size a A c (by simp)
  clear ha ht
  go_enter Try.func9, Try.ntmps9
  go_wp2_with fail
  refine (rright_any a A c _ (by exact E0.out.tree w.heap.size a A c (by simp))).mono ?_
  rintro e w1 ⟨rfl, hb1⟩
  have E1 := Lib.hid (E0.out.keep hb1)
  clear hb1 a0 a1 a2 E0
  by_cases hra : rightN a = 0
  · have h0 : ((rightN a : Int) != 0) = false := by simp [hra]
    have RA := Lib.hid hra
    obtain ⟨t0, t1, t2⟩ := E1.out.cells (w.heap.size + 1) t A' c' (by simp)
    clear hra
    go_wp2_with fail
    refine (risterm_any t A' c' _ (by exact E1.out.tree (w.heap.size + 1) t A' c' (by simp))).mono ?_
    rintro e w2 ⟨rfl, hb2⟩
    have E2 := Lib.hid (E1.out.keep hb2)
    clear hb2 t0 t1 t2 E1
    cases hrt : rTB t with
    | true =>
      by_cases hx0 : x < 0
      · go_wp2_with fail
        go_ret
        exact ⟨rfl, E2.out.below⟩
      · by_cases hx1 : 63 < x
        · go_wp2_with fail
          go_ret
          exact ⟨rfl, E2.out.below⟩
        · have RM := Lib.hid (RestM.mk' RA.out hrt (by omega) (by omega) : RestM a x t)
          have RS := Lib.hid RM.out.self
          have E2d := Lib.hid (E2.out.keep ((Below.refl _ _).drew))
          have hsz2 := E2.out.below.size
          have X2 := Lib.hid (show w.heap.size < w2.heap.size from block_lt_of_cell (E2.out.cells w.heap.size a A c (by simp)).1)
          go_upto_region 3 with fail
          go_cut [7, 8] (fun p e wc => ∃ nb A5 c5, p = .pointer (some ⟨nb, 0, none⟩) ∧ e = .int .i64 ((eachR a [(x, varT x)]).2 : Int) ∧ Env w wc [(nb, (eachR a [(x, varT x)]).1, A5, c5), (w.heap.size + 1, t, A', c'), (w.heap.size, a, A, c)])
          case first =>
            have BB : Below w2.drew.heap.size w2.drew w2.drew := Below.refl _ _
            go_region_held3 (fun w' => w'.cell? ⟨w.heap.size, 0, none⟩ = some (.int .i64 a.k) ∧ w'.cell? ⟨w.heap.size, 1, none⟩ = some (.int .i64 a.i) ∧ w'.cell? ⟨w.heap.size, 2, none⟩ = some (.slice A a.ks.length c))
              (first | exact (E2d.out.keep BB).cells w.heap.size a A c (by simp) | exact ((E2d.out.keep BB).alloc _).cells w.heap.size a A c (by simp) | exact ((E2d.out.box BB NB (by first | omega | (simp only [World.size_alloc, drew_sz] at *; omega)) (by first | omega | (simp only [World.size_alloc, drew_sz] at *; omega)) HO.out (eachR_fit _ _)).cells w.heap.size a A c (by simp)) | exact ((E2d.out.fresh BB HO.out (eachR_fit _ _)).cells w.heap.size a A c (by simp)))
              (first
                | (go_at_call 28; refine (lvar_any x _).mono ?_; rintro e w3 ⟨rfl, hb3⟩; have hsz3 := hb3.size; (first | replace BB := stepB BB hb3 | (have NB := boxA hb3; replace BB := stepA BB hb3) | (have NB := boxD hb3; replace BB := stepD hb3)); have hsz4 := BB.size; clear hb3)
                | (go_at_call 15; refine (sput_any a A c x (varT x) none 0 _ (by first | exact (E2d.out.keep BB).tree w.heap.size a A c (by simp) | exact ((E2d.out.keep BB).alloc _).tree w.heap.size a A c (by simp)) (isT_var _ _ x)).mono ?_; rintro e w5 ⟨hb5, A5, c5, ho5, rfl⟩; have HO := Lib.hid ho5; have hsz5 := hb5.size; (first | (replace NB := NB.keep hb5 NB.lt; replace BB := stepB BB hb5) | replace BB := stepB BB hb5 | (have NB := boxA hb5; replace BB := stepA BB hb5)); (try (obtain ⟨z0, z1, z2⟩ := NB.cells; have f0 := NB.frozen 0; have f1 := NB.frozen 1; have f2 := NB.frozen 2)); clear hb5 ho5))
            all_goals go_wp2_with fail
            all_goals go_meet
            all_goals first
              | exact ⟨_, A5, c5, rfl, rfl, E2d.out.fresh BB HO.out (eachR_fit _ _)⟩
              | exact ⟨_, A5, c5, rfl, rfl, E2d.out.box BB NB (by first | omega | (simp only [World.size_alloc, drew_sz] at *; omega)) (by first | omega | (simp only [World.size_alloc, drew_sz] at *; omega)) HO.out (eachR_fit _ _)⟩
          case rest =>
            obtain ⟨nb, A5, c5, rfl, rfl, hE⟩ := hcut
            rw [RS.out] at hE ⊢
            have E3 := Lib.hid hE
            clear hE E2 E2d X2 hsz2
            obtain ⟨a0, a1, a2⟩ := E3.out.cells w.heap.size a A c (by simp)
            obtain ⟨n0, n1, n2⟩ := E3.out.cells nb a A5 c5 (by simp)
            go_wp2_with fail
            refine (like_any a a A5 A c5 c _ (by exact E3.out.tree nb a A5 c5 (by simp)) (by exact E3.out.tree w.heap.size a A c (by simp))).mono ?_
            rintro e w6 ⟨rfl, hb6⟩
            rw [like_refl]
            have E6 := Lib.hid (E3.out.keep hb6)
            clear hb6 a0 a1 a2 n0 n1 n2 E3
            obtain ⟨a0, a1, a2⟩ := E6.out.cells w.heap.size a A c (by simp)
            obtain ⟨t0, t1, t2⟩ := E6.out.cells (w.heap.size + 1) t A' c' (by simp)
            go_wp2_with fail
            refine (sput_any a A c x t A' c' _ (by exact E6.out.tree w.heap.size a A c (by simp)) (by exact E6.out.tree (w.heap.size + 1) t A' c' (by simp))).mono ?_
            rintro e w7 ⟨hb7, A7, c7, ho7, rfl⟩
            have E7 := Lib.hid ((E6.out.keep hb7).push (AnsPost.is ho7 (eachR_fit _ _)))
            clear hb7 ho7 a0 a1 a2 t0 t1 t2 E6
            obtain ⟨b, n, hbn⟩ : ∃ b n, eachR a [(x, t)] = (b, n) := ⟨_, _, rfl⟩
            have HBN := Lib.hid hbn
            rw [hbn] at E7 ⊢
            clear hbn
            simp only at E7 ⊢
            obtain ⟨a0, a1, a2⟩ := E7.out.cells w.heap.size a A c (by simp)
            go_wp2_with fail
            refine (risfree_any x a A c _ (by exact E7.out.tree w.heap.size a A c (by simp))).mono ?_
            rintro e w8 ⟨rfl, hb8⟩
            have E8 := Lib.hid (E7.out.keep hb8)
            clear hb8 a0 a1 a2 E7
            cases hf : hasN (freeT a) x with
            | false =>
              have HR := Lib.hid (RM.out.unfree hf)
              rw [HR.out] at HBN
              cases HBN.out
              obtain ⟨a0, a1, a2⟩ := E8.out.cells w.heap.size a A c (by simp)
              obtain ⟨n0, n1, n2⟩ := E8.out.cells w7.heap.size a A7 c7 (by simp)
              go_wp2_with fail
              refine (like_any a a A7 A c7 c _ (by exact E8.out.tree w7.heap.size a A7 c7 (by simp)) (by exact E8.out.tree w.heap.size a A c (by simp))).mono ?_
              rintro e w9 ⟨rfl, hb9⟩
              rw [like_refl]
              have E9 := Lib.hid (E8.out.keep hb9)
              clear hb9
              go_wp2_with fail
              go_ret
              exact ⟨rfl, E9.out.below⟩
            | true =>
              have HR := Lib.hid (RM.out.free hf HBN.out)
              by_cases hn : n = 0
              · subst hn
                have HW := Lib.hid (HR.out.1 rfl)
                have U1 := Lib.hid (freeT_U a)
                have U2 := Lib.hid (withoutU (s := freeT a) x (freeT_U a))
                have U3 := Lib.hid (varsT_U t)
                go_wp2_with fail
                have T' := E8.out.keep ((Below.refl _ _).drew)
                go_region_held3 (fun w' => (w'.cell? ⟨w.heap.size, 0, none⟩ = some (.int .i64 a.k) ∧ w'.cell? ⟨w.heap.size, 1, none⟩ = some (.int .i64 a.i) ∧ w'.cell? ⟨w.heap.size, 2, none⟩ = some (.slice A a.ks.length c)) ∧ (w'.cell? ⟨w.heap.size + 1, 0, none⟩ = some (.int .i64 t.k) ∧ w'.cell? ⟨w.heap.size + 1, 1, none⟩ = some (.int .i64 t.i) ∧ w'.cell? ⟨w.heap.size + 1, 2, none⟩ = some (.slice A' t.ks.length c')))
                  (exact ⟨T'.cells w.heap.size a A c (by simp), T'.cells (w.heap.size + 1) t A' c' (by simp)⟩)
                  (first
                    | (go_at_call 33; refine (roffree_any a.sz a A c _ (Nat.le_refl _) (by exact T'.tree w.heap.size a A c (by simp))).mono ?_; rintro e w9 ⟨rfl, hb9⟩; replace T' := T'.keep hb9; clear hb9)
                    | (go_at_call 32; refine (rwithout_any (freeT a) x _ U1.out).mono ?_; rintro e w10 ⟨rfl, hw10⟩; rw [← hw10]; clear hw10)
                    | (go_at_call 34; refine (rofvars_any t A' c' _ (by exact T'.tree (w.heap.size + 1) t A' c' (by simp))).mono ?_; rintro e w11 ⟨rfl, hb11⟩; replace T' := T'.keep hb11; clear hb11)
                    | (go_at_call 31; refine (runion_any (withoutN (freeT a) x) (varsT t) _ U2.out U3.out).mono ?_; rintro e w12 ⟨rfl, hw12⟩; rw [← hw12]; clear hw12))
                obtain ⟨n0, n1, n2⟩ := T'.cells w7.heap.size b A7 c7 (by simp)
                go_wp2_with fail
                refine (roffree_any b.sz b A7 c7 _ (Nat.le_refl _) (by exact T'.tree w7.heap.size b A7 c7 (by simp))).mono ?_
                rintro e w13 ⟨rfl, hb13⟩
                rw [HW.out]
                have E13 := Lib.hid (T'.keep hb13)
                clear hb13
                go_wp2_with fail
                go_ret
                exact ⟨by simp, E13.out.below⟩
              · have hn1 : ((n : Int) != 0) = true := by rw [bne_iff_ne]; omega
                have HN := Lib.hid (HR.out.2 hn)
                obtain ⟨a0, a1, a2⟩ := E8.out.cells w.heap.size a A c (by simp)
                obtain ⟨t0, t1, t2⟩ := E8.out.cells (w.heap.size + 1) t A' c' (by simp)
                clear hn
                go_wp2_with fail
                refine (rfreefor_any t a x A' A c' c _ (by exact E8.out.tree (w.heap.size + 1) t A' c' (by simp)) (by exact E8.out.tree w.heap.size a A c (by simp))).mono ?_
                rintro e w9 ⟨rfl, hb9⟩
                have E9 := Lib.hid (E8.out.keep hb9)
                clear hb9 a0 a1 a2 t0 t1 t2
                rcases HN.out with ⟨rfl, hff⟩ | ⟨hff, rfl | rfl⟩
                all_goals
                  rw [hff]
                  go_wp2_with fail
                  go_ret
                  exact ⟨rfl, E9.out.below⟩
    | false =>
      go_wp2_with fail
      go_ret
      exact ⟨rfl, E2.out.below⟩
  · have h0 : ((rightN a : Int) != 0) = true := by rw [bne_iff_ne]; omega
    clear hra
    go_wp2_with fail
    go_ret
    exact ⟨rfl, E1.out.below⟩
end Go.Proofs.Ytkncchhalahpoaa
