/- Gen of the document's layer 8 and of package rule; the law RuleGens, walked. -/
import Derived.Test.YtjdhmfpkhijkeaaKA
import Derived.Test.YtjdhmfpkhijkeaaF4
import Derived.Test.YtjdhmfpkhijkeaaE28
namespace Go.Proofs.Ytjdhmfpkhijkeaa
open Go.RowKit
set_option linter.unusedVariables false
set_option linter.unusedSimpArgs false
/-- what Gen answers -/
def genF (a : Tr) : Nat := if 1000 < 1 + a.sz then 20 else if 100 < 1 + a.dp then 21 else 0
def genR (a : Tr) (x : Int) : Tr × Nat := if ¬ (0 ≤ x ∧ x ≤ 63) then (zeroT, 1) else if wantFN a ≠ 0 then (zeroT, wantFN a) else if genF a ≠ 0 then (zeroT, genF a) else (allT x a, 0)
theorem want_zero {a : Tr} (h : wantFN a = 0) : rightN a = 0 ∧ termB a.k = false := by
  unfold wantFN at h
  split at h
  · next h1 =>
    refine ⟨h1, ?_⟩
    cases hb : termB a.k with
    | false => rfl
    | true => rw [hb, if_pos rfl] at h; omega
  · next h1 => exact absurd h h1
theorem forms_one (a : Tr) : formsN [a] = wantFN a := by
  unfold formsN wantFN
  by_cases h : rightN a = 0
  · have h1 : firstL [a] = 0 := by simp [firstL, h]
    rw [if_neg (show ¬ firstL [a] ≠ 0 by rw [h1]; simp), if_pos h]
    have ha := isFB_form h
    have h2 : [a].all isFB = !termB a.k := by show (isFB a && true) = _; rw [ha]; simp
    rw [h2]
    cases termB a.k <;> rfl
  · have h1 : firstL [a] = rightN a := by simp [firstL, h]
    rw [h1, if_pos h, if_neg h]
theorem right_all {a : Tr} {x : Int} (hx : 0 ≤ x ∧ x ≤ 63) (h : wantFN a = 0) : rightN (allT x a) = genF a := by
  obtain ⟨h1, h2⟩ := want_zero h
  have hs := (right_parts h1).2.2
  have e1 : (allT x a).sz = 1 + a.sz := by simp [Tr.sz, szL]
  have e2 : (allT x a).dp = 1 + a.dp := by simp [Tr.dp, dpL]
  have e3 : (allT x a).shp = true := by
    rw [nod_shp]
    simp [kindOk, kidsTerm, shpL_cons, shpL, hs, h2, hx]
  unfold rightN genF
  rw [e1, e2, e3]
  simp
theorem gen_cast (s d : Nat) (hd : d ≤ 100) : (if (1000 : Int) < 1 + (s : Int) then 20 else if (100 : Int) < 1 + ((min d 101 : Nat) : Int) then 21 else 0 : Nat) = if 1000 < 1 + s then 20 else if 100 < 1 + d then 21 else 0 := by
  have e : min d 101 = d := by omega
  rw [e]
  by_cases h1 : 1000 < 1 + s
  · rw [if_pos (by omega), if_pos h1]
  · rw [if_neg (by omega), if_neg h1]
    by_cases h2 : 100 < 1 + d
    · rw [if_pos (by omega), if_pos h2]
    · rw [if_neg (by omega), if_neg h2]
/-- one boxed argument, a number, and the box of the answer -/
theorem gq1 {w : World} {a : Tr} {A : Option Addr} {c : Nat} (ha : IsT w w.heap.size a A c) : QE w ((w.alloc (.cells #[.int .i64 a.k, .int .i64 a.i, .slice A a.ks.length c] 24)).alloc (.cells #[.int .i64 0, .int .i64 0, .slice none 0 0] 24)) (w.heap.size + 1) [(w.heap.size, a, A, c)] := qe1 ha
set_option maxHeartbeats 600000 in
set_option maxRecDepth 100000 in
theorem rgen8_any (a : Tr) (x : Int) (A : Option Addr) (c : Nat) (w : World) (ha : IsT w w.heap.size a A c) :
    Calls Try.prog 38 #[.agg #[.int .i64 a.k, .int .i64 a.i, .slice A a.ks.length c], .int .i64 x] w (AnsJ w (genR a x)) := by
  have E0 := Lib.hid (qe1 ha)
  obtain ⟨a0, a1, a2⟩ := E0.out.env.cells w.heap.size a A c (by simp)
  obtain ⟨y0, y1, y2⟩ := E0.out.rb.cells
  have f0 := E0.out.rb.frozen 0
  have f1 := E0.out.rb.frozen 1
  have f2 := E0.out.rb.frozen 2
  clear ha
  by_cases hlo : x < 0
  · have D := Lib.hid (show genR a x = (zeroT, 1) by unfold genR; rw [if_pos (by omega)])
    go_enter Try.func38, Try.ntmps38
    go_wp2_with fail
    exact bodyPost_ret (v := .tuple #[.agg #[.int .i64 0, .int .i64 0, .slice none 0 0], .int .i64 1]) (by simp [results, Try.results38, go_sem, y0, y1, y2]) rfl (show AnsJ w (genR a x) _ _ by rw [D.out]; exact ⟨E0.out.env.below, none, 0, zeroIs _ _, rfl⟩)
  · by_cases hhi : 63 < x
    · have D := Lib.hid (show genR a x = (zeroT, 1) by unfold genR; rw [if_pos (by omega)])
      go_enter Try.func38, Try.ntmps38
      go_wp2_with fail
      exact bodyPost_ret (v := .tuple #[.agg #[.int .i64 0, .int .i64 0, .slice none 0 0], .int .i64 1]) (by simp [results, Try.results38, go_sem, y0, y1, y2]) rfl (show AnsJ w (genR a x) _ _ by rw [D.out]; exact ⟨E0.out.env.below, none, 0, zeroIs _ _, rfl⟩)
    · have D0 := Lib.hid (show genR a x = if wantFN a ≠ 0 then (zeroT, wantFN a) else if genF a ≠ 0 then (zeroT, genF a) else (allT x a, 0) by unfold genR; rw [if_neg (by omega)])
      have HX := Lib.hid (show 0 ≤ x ∧ x ≤ 63 by omega)
      clear y0 y1 y2 f0 f1 f2
      go_enter Try.func38, Try.ntmps38
      go_wp2_with fail
      refine (rwantF_any a A c _ (by exact E0.out.env.tree w.heap.size a A c (by simp))).mono ?_
      rintro e w1 ⟨rfl, hb1⟩
      have E1 := Lib.hid (E0.out.keep hb1)
      clear hb1 a0 a1 a2 E0
      obtain ⟨a0, a1, a2⟩ := E1.out.env.cells w.heap.size a A c (by simp)
      obtain ⟨y0, y1, y2⟩ := E1.out.rb.cells
      have f0 := E1.out.rb.frozen 0
      have f1 := E1.out.rb.frozen 1
      have f2 := E1.out.rb.frozen 2
      obtain ⟨n, hn⟩ : ∃ n, n = wantFN a := ⟨_, rfl⟩
      rw [← hn]
      have HN := Lib.hid hn
      clear hn
      by_cases h0 : n = 0
      · have W0 := Lib.hid (show wantFN a = 0 by rw [← HN.out, h0])
        have RA := Lib.hid (right_all HX.out W0.out)
        have D1 := Lib.hid (show genR a x = if genF a ≠ 0 then (zeroT, genF a) else (allT x a, 0) by rw [D0.out, if_neg (by rw [W0.out]; simp)])
        subst h0
        clear y0 y1 y2 f0 f1 f2
        go_wp2_with fail
        refine (copy_any a.sz a A c _ (Nat.le_refl _) (by exact E1.out.env.tree w.heap.size a A c (by simp))).mono ?_
        rintro e w2 ⟨A2, c2, rfl, ho2, hb2⟩
        have E2 := Lib.hid (E1.out.keep hb2)
        have z1 := E1.out.rb.lt
        have F2 := Lib.hid ((own_fr ho2 (Nat.le_refl _) (IsT.fit a (E1.out.env.tree w.heap.size a A c (by simp)))).less (Y := fun k => k < w.heap.size + 2) (fun k hk => by omega))
        clear hb2 ho2 a0 a1 a2
        go_wp2_with fail
        refine ((dall_row x a.k a.i A2 a.ks.length c2 w2).mono fun _ _ h => row_tree1 h (X := fun k => k < w.heap.size + 2) (fun k hk => by have := E2.out.rb.lt; omega) F2.out).mono ?_
        rintro e w3 ⟨A3, c3, rfl, hf3, hb3⟩
        have E3 := Lib.hid ((E2.out.keep hb3).keep (alB w3 (.cells #[.int .i64 7, .int .i64 x, .slice A3 1 c3] 24)))
        have F3 := Lib.hid (hf3.keep (alB w3 (.cells #[.int .i64 7, .int .i64 x, .slice A3 1 c3] 24)))
        have P3 := Lib.hid (Box3.new w3 (.int .i64 7) (.int .i64 x) (.slice A3 1 c3))
        clear hb3 hf3 E1 E2 z1 F2
        obtain ⟨p0, p1, p2⟩ := P3.out.cells
        go_wp2_with fail
        refine (rright_any (allT x a) A3 c3 _ (by exact F3.out.isT)).mono ?_
        rintro e w4 ⟨rfl, hb4⟩
        rw [RA.out]
        have E4 := Lib.hid (E3.out.keep hb4)
        have F4 := Lib.hid (F3.out.keep hb4)
        have P4 := Lib.hid (P3.out.keep hb4 P3.out.lt)
        clear hb4 p0 p1 p2 E3 F3 P3
        obtain ⟨p0, p1, p2⟩ := P4.out.cells
        by_cases h2 : genF a = 0
        · have D := Lib.hid (show genR a x = (allT x a, 0) by rw [D1.out, if_neg (by rw [h2]; simp)])
          rw [h2]
          clear h2
          obtain ⟨y0, y1, y2⟩ := E4.out.rb.cells
          have f0 := E4.out.rb.frozen 0
          have f1 := E4.out.rb.frozen 1
          have f2 := E4.out.rb.frozen 2
          obtain ⟨q0, q1, q2⟩ := (E4.out.rb.setall (.int .i64 7) (.int .i64 x) (.slice A3 1 c3)).cells
          go_wp2_with fail
          exact bodyPost_ret (v := .tuple #[.agg #[.int .i64 7, .int .i64 x, .slice A3 1 c3], .int .i64 0]) (by simp [results, Try.results38, go_sem, q0, q1, q2]) rfl (ansJ_tree (t := allT x a) D.out E4.out.env.below F4.out (by show w.heap.size + 1 < w.heap.size + 2; omega) (by omega))
        · have h5 : ((genF a : Int) != 0) = true := by rw [bne_iff_ne]; omega
          have D := Lib.hid (show genR a x = (zeroT, genF a) by rw [D1.out, if_pos h2])
          clear h2
          go_wp2_with fail
          refine (rright_any (allT x a) A3 c3 _ (by exact F4.out.isT)).mono ?_
          rintro e w5 ⟨rfl, hb5⟩
          rw [RA.out]
          have E5 := Lib.hid (E4.out.keep hb5)
          clear hb5 p0 p1 p2
          obtain ⟨y0, y1, y2⟩ := E5.out.rb.cells
          have f0 := E5.out.rb.frozen 0
          have f1 := E5.out.rb.frozen 1
          have f2 := E5.out.rb.frozen 2
          obtain ⟨q0, q1, q2⟩ := (E5.out.rb.setall (.int .i64 0) (.int .i64 0) (.slice none 0 0)).cells
          go_wp2_with fail
          exact bodyPost_ret (v := .tuple #[.agg #[.int .i64 0, .int .i64 0, .slice none 0 0], .int .i64 (genF a : Int)]) (by simp [results, Try.results38, go_sem, q0, q1, q2]) rfl (ansJ_zero D.out E5.out.env.below (by omega))
      · have h1 : ((n : Int) != 0) = true := by rw [bne_iff_ne]; omega
        have D := Lib.hid (show genR a x = (zeroT, n) by rw [D0.out, ← HN.out, if_pos h0])
        obtain ⟨q0, q1, q2⟩ := (E1.out.rb.setall (.int .i64 0) (.int .i64 0) (.slice none 0 0)).cells
        clear h0
        go_wp2_with fail
        exact bodyPost_ret (v := .tuple #[.agg #[.int .i64 0, .int .i64 0, .slice none 0 0], .int .i64 (n : Int)]) (by simp [results, Try.results38, go_sem, q0, q1, q2]) rfl (ansJ_zero D.out E1.out.env.below (by omega))
/-! ### the code's -/
theorem one_new {w W : World} {a : Tr} {A : Option Addr} {c : Nat} (h : Env w W [(w.heap.size, a, A, c)]) :
    IsT (W.alloc (.cells #[.int .i64 a.k, .int .i64 a.i, .slice A a.ks.length c] 24)) (W.alloc (.cells #[.int .i64 a.k, .int .i64 a.i, .slice A a.ks.length c] 24)).heap.size (.node 0 0 [a]) (some ⟨W.heap.size, 0, none⟩) 1 :=
  isT_one1 (new_at W _) ((h.alloc _).tree w.heap.size a A c (by simp))
theorem at_nil (a : Tr) (hr : rightN a = 0) (A : Option Addr) (c : Nat) (w : World) (ht : IsT w w.heap.size a A c) :
    Calls Try.prog 74 #[.agg #[.int .i64 a.k, .int .i64 a.i, .slice A a.ks.length c], .slice none 0 0] w fun e w' => ∃ Q d, e = .returned (.tuple #[.agg #[.int .i64 a.k, .int .i64 a.i, .slice Q a.ks.length d], .int .i64 0]) ∧ OwnT w' w.heap.size w'.heap.size a Q d ∧ Below w.heap.size w w' := by
  have h := at_any a A c none 0 0 [] w ht rfl (by unfold maxLen; omega) (fun j hj => by simp at hj)
  have e1 : atN a [] = (a, 0) := by
    unfold atN
    rw [if_pos hr, show partAt a [] = some a from by cases a; rfl]
  rw [e1] at h
  refine h.mono fun e w' hp => ?_
  obtain ⟨hb3, Q, d, ho, he⟩ := hp
  exact ⟨Q, d, he, ho, hb3⟩
end Go.Proofs.Ytjdhmfpkhijkeaa
