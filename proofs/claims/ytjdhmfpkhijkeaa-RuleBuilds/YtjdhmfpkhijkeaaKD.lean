/- Gen of package rule; the law RuleGens, walked. -/
import Derived.Test.YtjdhmfpkhijkeaaKC
import Derived.Deep.RegionHeld3
import Derived.Deep.DeepCutAuto
namespace Go.Proofs.Ytjdhmfpkhijkeaa
open Go.RowKit
set_option linter.unusedVariables false
set_option linter.unusedSimpArgs false
theorem QE.drew {w W : World} {r : Nat} {bs : List (Nat × Tr × Option Addr × Nat)} (h : QE w W r bs) : QE w W.drew r bs := h.keep (Below.refl _ _).drew
theorem fault_is (n d : Int) (s dd f : Nat) (hn : n = 1 + (s : Int)) (hd : d = 1 + (dd : Int)) (hf : (if (1000 : Int) < 1 + (s : Int) then 20 else if (100 : Int) < 1 + (dd : Int) then 21 else 0 : Nat) = f) (w : World) :
    Calls Try.prog 67 #[.agg #[.int .i64 n, .int .i64 d]] w fun e w' => e = .returned (.int .i64 (f : Int)) ∧ Below w.heap.size w w' := by
  subst hn; subst hd; subst hf
  exact fault_any _ _ w
set_option maxHeartbeats 1000000 in
set_option maxRecDepth 100000 in
theorem cgen_any (a : Tr) (x : Int) (A : Option Addr) (c : Nat) (w : World) (ha : IsT w w.heap.size a A c) :
    Calls Try.prog 37 #[.agg #[.int .i64 a.k, .int .i64 a.i, .slice A a.ks.length c], .int .i64 x] w (AnsJ w (genR a x)) := by
  have E0 := Lib.hid (qe1 ha)
  obtain ⟨a0, a1, a2⟩ := E0.out.env.cells w.heap.size a A c (by simp)
  obtain ⟨y0, y1, y2⟩ := E0.out.rb.cells
  have f0 := E0.out.rb.frozen 0
  have f1 := E0.out.rb.frozen 1
  have f2 := E0.out.rb.frozen 2
  clear ha
  by_cases hlo : x < 0
  · have D := Lib.hid (show genR a x = (zeroT, 1) by unfold genR; rw [if_pos (by omega)])
    go_enter Try.func37, Try.ntmps37
    go_wp2_with fail
    exact bodyPost_ret (v := .tuple #[.agg #[.int .i64 0, .int .i64 0, .slice none 0 0], .int .i64 1]) (by simp [results, Try.results37, go_sem, y0, y1, y2]) rfl (show AnsJ w (genR a x) _ _ by rw [D.out]; exact ⟨E0.out.env.below, none, 0, zeroIs _ _, rfl⟩)
  · by_cases hhi : 63 < x
    · have D := Lib.hid (show genR a x = (zeroT, 1) by unfold genR; rw [if_pos (by omega)])
      go_enter Try.func37, Try.ntmps37
      go_wp2_with fail
      exact bodyPost_ret (v := .tuple #[.agg #[.int .i64 0, .int .i64 0, .slice none 0 0], .int .i64 1]) (by simp [results, Try.results37, go_sem, y0, y1, y2]) rfl (show AnsJ w (genR a x) _ _ by rw [D.out]; exact ⟨E0.out.env.below, none, 0, zeroIs _ _, rfl⟩)
    · have D0 := Lib.hid (show genR a x = if wantFN a ≠ 0 then (zeroT, wantFN a) else if genF a ≠ 0 then (zeroT, genF a) else (allT x a, 0) by unfold genR; rw [if_neg (by omega)])
      have HX := Lib.hid (show 0 ≤ x ∧ x ≤ 63 by omega)
      have PW := Lib.hid (one_new E0.out.env)
      clear y0 y1 y2 f0 f1 f2
      go_enter Try.func37, Try.ntmps37
      go_wp2_with fail
      refine (forms_any (.node 0 0 [a]) _ 1 _ (by simpa using PW.out)).mono ?_
      rintro e w1 ⟨rfl, hb1⟩
      rw [show formsN (Tr.node 0 0 [a]).ks = wantFN a from forms_one a]
      have E1 := Lib.hid ((E0.out.keep (alB _ (.cells #[.int .i64 a.k, .int .i64 a.i, .slice A a.ks.length c] 24))).keep hb1)
      clear hb1 a0 a1 a2 E0 PW
      obtain ⟨a0, a1, a2⟩ := E1.out.env.cells w.heap.size a A c (by simp)
      obtain ⟨y0, y1, y2⟩ := E1.out.rb.cells
      have f0 := E1.out.rb.frozen 0
      have f1 := E1.out.rb.frozen 1
      have f2 := E1.out.rb.frozen 2
      obtain ⟨n, hn⟩ : ∃ n, n = wantFN a := ⟨_, rfl⟩
      rw [← hn]
      have HN := Lib.hid hn
      clear hn
      by_cases h0 : n = 0
      · have W0 := Lib.hid (show wantFN a = 0 by rw [← HN.out, h0])
        have R0 := Lib.hid (want_zero W0.out).1
        have RP := Lib.hid (right_parts R0.out)
        have D1 := Lib.hid (show genR a x = if genF a ≠ 0 then (zeroT, genF a) else (allT x a, 0) by rw [D0.out, if_neg (by rw [W0.out]; simp)])
        have GF := Lib.hid (show (if (1000 : Int) < 1 + (a.sz : Int) then 20 else if (100 : Int) < 1 + ((min a.dp 101 : Nat) : Int) then 21 else 0 : Nat) = genF a from gen_cast a.sz a.dp RP.out.2.1)
        subst h0
        obtain ⟨s, hs⟩ : ∃ s, s = a.sz := ⟨_, rfl⟩
        obtain ⟨d, hd⟩ : ∃ d, d = min a.dp 101 := ⟨_, rfl⟩
        have s1 : s ≤ 1000 := by rw [hs]; exact RP.out.1
        have d1 : d ≤ 101 := by omega
        rw [← hs, ← hd] at GF
        have HS := Lib.hid hs
        have HD := Lib.hid hd
        have SZ := Lib.hid (show ∀ W : World, IsT W W.heap.size a A c → Calls Try.prog 76 #[.agg #[.int .i64 a.k, .int .i64 a.i, .slice A a.ks.length c]] W fun e w' => e = .returned (.int .i64 (s : Int)) ∧ Below W.heap.size W w' from fun W h => by rw [hs]; exact size_small a A c W h RP.out.1)
        have DZ := Lib.hid (show ∀ W : World, IsT W W.heap.size a A c → Calls Try.prog 77 #[.agg #[.int .i64 a.k, .int .i64 a.i, .slice A a.ks.length c]] W fun e w' => e = .returned (.int .i64 (d : Int)) ∧ Below W.heap.size W w' from fun W h => by rw [hd]; exact depth_small a A c W h RP.out.1)
        have e1 : IntKind.i64.wrap (1 + (s : Int)) = 1 + (s : Int) := by rw [IntKind.wrap_i64] <;> omega
        have e2 : IntKind.i64.wrap (1 + (d : Int)) = 1 + (d : Int) := by rw [IntKind.wrap_i64] <;> omega
        clear hs hd y0 y1 y2 f0 f1 f2
        go_wp2_with fail
        have T' := E1.out.drew
        go_region_held3 (fun w' => w'.cell? ⟨w.heap.size, 0, none⟩ = some (.int .i64 a.k) ∧ w'.cell? ⟨w.heap.size, 1, none⟩ = some (.int .i64 a.i) ∧ w'.cell? ⟨w.heap.size, 2, none⟩ = some (.slice A a.ks.length c))
          (exact T'.env.cells w.heap.size a A c (by simp))
          (first
            | (go_at_call 76; refine (SZ.out _ (by exact T'.env.tree w.heap.size a A c (by simp))).mono ?_; rintro e w2 ⟨rfl, hb2⟩; replace T' := T'.keep hb2; clear hb2)
            | (go_at_call 77; refine (DZ.out _ (by exact T'.env.tree w.heap.size a A c (by simp))).mono ?_; rintro e w3 ⟨rfl, hb3⟩; replace T' := T'.keep hb3; clear hb3)
            | (go_at_call 67; refine (fault_is _ _ s d (genF a) (by first | rfl | exact e1 | (simp; done)) (by first | rfl | exact e2 | (simp; done)) GF.out _).mono ?_; rintro e w4 ⟨rfl, hb4⟩; replace T' := T'.keep hb4; clear hb4))
        all_goals
          have E2 := Lib.hid T'
          clear T' a0 a1 a2
          obtain ⟨a0, a1, a2⟩ := E2.out.env.cells w.heap.size a A c (by simp)
          by_cases h2 : genF a = 0
          · have D := Lib.hid (show genR a x = (allT x a, 0) by rw [D1.out, if_neg (by rw [h2]; simp)])
            rw [h2]
            clear h2
            go_wp2_with fail
            refine (at_nil a R0.out A c _ (by exact E2.out.env.tree w.heap.size a A c (by simp))).mono ?_
            rintro e w5 ⟨A5, c5, rfl, ho5, hb5⟩
            have z2 := E2.out.rb.lt
            have E5 := Lib.hid ((E2.out.keep hb5).keep (alB w5 (.cells #[.int .i64 a.k, .int .i64 a.i, .slice A5 a.ks.length c5] 24)))
            have F5 := Lib.hid (((own_fr ho5 (Nat.le_refl _) (IsT.fit a (E2.out.env.tree w.heap.size a A c (by simp)))).less (Y := fun k => k < w.heap.size + 2) (fun k hk => by omega)).keep (alB w5 (.cells #[.int .i64 a.k, .int .i64 a.i, .slice A5 a.ks.length c5] 24)))
            have P5 := Lib.hid (Box3.new w5 (.int .i64 a.k) (.int .i64 a.i) (.slice A5 a.ks.length c5))
            clear hb5 ho5 a0 a1 a2 E2 z2
            obtain ⟨p0, p1, p2⟩ := P5.out.cells
            go_wp2_with fail
            refine ((call_row x a.k a.i A5 a.ks.length c5 _).mono fun _ _ h => row_tree1 h (X := fun k => k < w.heap.size + 2) (fun k hk => by have := E5.out.rb.lt; omega) F5.out).mono ?_
            rintro e w6 ⟨A6, c6, rfl, hf6, hb6⟩
            have E6 := Lib.hid (E5.out.keep hb6)
            have F6 := Lib.hid hf6
            clear hb6 hf6 p0 p1 p2
            obtain ⟨y0, y1, y2⟩ := E6.out.rb.cells
            have f0 := E6.out.rb.frozen 0
            have f1 := E6.out.rb.frozen 1
            have f2 := E6.out.rb.frozen 2
            obtain ⟨q0, q1, q2⟩ := (E6.out.rb.setall (.int .i64 (Tr.node 7 x [a]).k) (.int .i64 (Tr.node 7 x [a]).i) (.slice A6 (Tr.node 7 x [a]).ks.length c6)).cells
            go_wp2_with fail
            exact bodyPost_ret (v := .tuple #[.agg #[.int .i64 (Tr.node 7 x [a]).k, .int .i64 (Tr.node 7 x [a]).i, .slice A6 (Tr.node 7 x [a]).ks.length c6], .int .i64 0]) (by simp [results, Try.results37, go_sem, q0, q1, q2]) rfl (ansJ_tree (t := allT x a) D.out E6.out.env.below F6.out (by show w.heap.size + 1 < w.heap.size + 2; omega) (by omega))
          · have h5 : ((genF a : Int) != 0) = true := by rw [bne_iff_ne]; omega
            have D := Lib.hid (show genR a x = (zeroT, genF a) by rw [D1.out, if_pos h2])
            obtain ⟨y0, y1, y2⟩ := E2.out.rb.cells
            have f0 := E2.out.rb.frozen 0
            have f1 := E2.out.rb.frozen 1
            have f2 := E2.out.rb.frozen 2
            obtain ⟨q0, q1, q2⟩ := (E2.out.rb.setall (.int .i64 0) (.int .i64 0) (.slice none 0 0)).cells
            clear h2
            go_wp2_with fail
            exact bodyPost_ret (v := .tuple #[.agg #[.int .i64 0, .int .i64 0, .slice none 0 0], .int .i64 (genF a : Int)]) (by simp [results, Try.results37, go_sem, q0, q1, q2]) rfl (ansJ_zero D.out E2.out.env.below (by omega))
      · have h1 : ((n : Int) != 0) = true := by rw [bne_iff_ne]; omega
        have D := Lib.hid (show genR a x = (zeroT, n) by rw [D0.out, ← HN.out, if_pos h0])
        obtain ⟨q0, q1, q2⟩ := (E1.out.rb.setall (.int .i64 0) (.int .i64 0) (.slice none 0 0)).cells
        clear h0
        go_wp2_with fail
        exact bodyPost_ret (v := .tuple #[.agg #[.int .i64 0, .int .i64 0, .slice none 0 0], .int .i64 (n : Int)]) (by simp [results, Try.results37, go_sem, q0, q1, q2]) rfl (ansJ_zero D.out E1.out.env.below (by omega))
set_option maxHeartbeats 1000000 in
set_option maxRecDepth 100000 in
theorem gens_law (t : Tr) (x : Int) (A : Option Addr) (c : Nat) (w : World) (ht : IsT w w.heap.size t A c) :
    Calls Try.prog 11 #[.agg #[.int .i64 t.k, .int .i64 t.i, .slice A t.ks.length c], .int .i64 x] w fun e w' => e = .returned (.bool true) ∧ Below w.heap.size w w' := by
  have E0 := Lib.hid (env1 ht)
  obtain ⟨a0, a1, a2⟩ := E0.out.cells w.heap.size t A c (by simp)
  clear ht
  go_enter Try.func11, Try.ntmps11
  go_wp2_with fail
  refine (cgen_any t x A c _ (by exact E0.out.tree w.heap.size t A c (by simp))).mono ?_
  rintro e w1 ⟨hb1, A1, c1, i1, rfl⟩
  have E1 := Lib.hid ((E0.out.keep hb1).push i1)
  clear hb1 i1 a0 a1 a2 E0
  obtain ⟨a0, a1, a2⟩ := E1.out.cells w.heap.size t A c (by simp)
  go_wp2_with fail
  refine (rgen8_any t x A c _ (by exact E1.out.tree w.heap.size t A c (by simp))).mono ?_
  rintro e w2 ⟨hb2, A2, c2, i2, rfl⟩
  have E2 := Lib.hid ((E1.out.keep hb2).push i2)
  clear hb2 i2 a0 a1 a2 E1
  obtain ⟨a0, a1, a2⟩ := E2.out.cells w1.heap.size (genR t x).1 A1 c1 (by simp)
  obtain ⟨n0, n1, n2⟩ := E2.out.cells w2.heap.size (genR t x).1 A2 c2 (by simp)
  go_wp2_with fail
  refine (like_any _ _ A1 A2 c1 c2 _ (by exact E2.out.tree w1.heap.size (genR t x).1 A1 c1 (by simp)) (by exact E2.out.tree w2.heap.size (genR t x).1 A2 c2 (by simp))).mono ?_
  rintro e w3 ⟨rfl, hb3⟩
  rw [like_same8]
  have E3 := Lib.hid (E2.out.keep hb3)
  clear hb3
  go_wp2_with fail
  go_ret
  exact ⟨rfl, E3.out.below⟩
end Go.Proofs.Ytjdhmfpkhijkeaa
