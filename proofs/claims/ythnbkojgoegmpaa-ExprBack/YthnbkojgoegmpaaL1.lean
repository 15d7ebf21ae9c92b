/- The laws ExprSames, ExprOrders, walked. -/
import Derived.Test.YthnbkojgoegmpaaE12
namespace Go.Proofs.Ythnbkojgoegmpaa
open Go.RowKit
theorem Two.drew {w wr : World} {a b : Tr} {A A' : Option Addr} {c c' : Nat} (h : Two w wr a b A A' c c') : Two w wr.drew a b A A' c c' := by
  have hb : Below wr.heap.size wr wr.drew := (Below.refl _ _).drew
  exact h.keep hb
theorem sameB_self (a : Tr) : sameB a a = decide (rightN a = 0) := by
  rw [sameB_eq]
  unfold likeB
  rw [decide_eq_true (cmpT_self a)]
  cases decide (rightN a = 0) <;> rfl
attribute [local go_sem ↓] Go.wp_at_zero Go.wp_at_succ
set_option maxHeartbeats 4000000 in
theorem sames_any (a b : Tr) (A A' : Option Addr) (c c' : Nat) (w : World) (ha : IsT w w.heap.size a A c) (hb : IsT w w.heap.size b A' c') :
    Calls Try.prog 4 #[.agg #[.int .i64 a.k, .int .i64 a.i, .slice A a.ks.length c], .agg #[.int .i64 b.k, .int .i64 b.i, .slice A' b.ks.length c']] w fun e w' => e = .returned (.bool true) ∧ Below w.heap.size w w' := by
  have T0 := Lib.hid (two_start ha hb)
  have FT := Lib.hid ha.fit
  have SS := Lib.hid (sameB_self a)
  clear ha hb
  obtain ⟨s, hs⟩ : ∃ s, s = sameB a b := ⟨_, rfl⟩
  obtain ⟨s', hs'⟩ : ∃ s, s = sameB a a := ⟨_, rfl⟩
  have S := Lib.hid hs
  have S' := Lib.hid hs'
  clear hs hs'
  have hr' : s' = ((rightN a : Int) == 0) := by
    rw [S'.out, SS.out]
    cases h : decide (rightN a = 0) with
    | true => have h := of_decide_eq_true h; simp [h]
    | false => have h := of_decide_eq_false h; rw [eq_comm, beq_eq_false_iff_ne]; omega
  go_enter Try.func4, Try.ntmps4
  go_wp2_with fail
  refine (compare_any a b A A' c c' _ (by exact T0.out.ta) (by exact T0.out.tb)).mono ?_
  rintro e w1 ⟨rfl, hb1⟩
  have T1 := T0.out.keep hb1
  have c0 := T1.b0
  have c1 := T1.b1
  have c2 := T1.b2
  have c3 := T1.d0
  have c4 := T1.d1
  have c5 := T1.d2
  clear hb1
  go_wp2_with fail
  refine (rcompare_any a b A A' c c' _ (by exact T1.ta) (by exact T1.tb)).mono ?_
  rintro e w2 ⟨rfl, hb2⟩
  have T' := (T1.keep hb2).drew
  clear hb2 T1 c0 c1 c2 c3 c4 c5
  go_wp2_with fail
  go_region_held3 (fun w' => w'.cell? ⟨w.heap.size, 0, none⟩ = some (.int .i64 a.k) ∧ w'.cell? ⟨w.heap.size, 1, none⟩ = some (.int .i64 a.i) ∧ w'.cell? ⟨w.heap.size, 2, none⟩ = some (.slice A a.ks.length c) ∧ w'.cell? ⟨w.heap.size + 1, 0, none⟩ = some (.int .i64 b.k) ∧ w'.cell? ⟨w.heap.size + 1, 1, none⟩ = some (.int .i64 b.i) ∧ w'.cell? ⟨w.heap.size + 1, 2, none⟩ = some (.slice A' b.ks.length c'))
    (exact ⟨T'.b0, T'.b1, T'.b2, T'.d0, T'.d1, T'.d2⟩)
    (first
      | (go_at_call_of 25 (Value.slice A' (Tr.ks b).length c'); refine (same_any a b A A' c c' _ (by exact T'.ta) (by exact T'.tb)).mono ?_; rintro e w3 ⟨rfl, hb3⟩; replace T' := T'.keep hb3; clear hb3; rw [← S.out])
      | (go_at_call 26; refine (rsame_any a b A A' c c' _ (by exact T'.ta) (by exact T'.tb)).mono ?_; rintro e w3 ⟨rfl, hb3⟩; replace T' := T'.keep hb3; clear hb3; rw [← S.out])
      | (go_at_call 27; refine (copy_any a.sz a A c _ (Nat.le_refl _) (by exact T'.ta)).mono ?_; rintro e w3 ⟨A2, c2, rfl, ho, hb3⟩; replace T' := T'.keep hb3; have TC := Lib.hid (ho.isT _ (Nat.le_refl _) FT.out); clear hb3 ho)
      | (go_at_call 25; refine (same_any a a A A2 c c2 _ (by exact T'.ta) (by exact TC.out)).mono ?_; rintro e w3 ⟨rfl, hb3⟩; replace T' := T'.keep hb3; clear hb3; rw [← S'.out])
      | (go_at_call 14; refine (rright_any a A c _ (by exact T'.ta)).mono ?_; rintro e w3 ⟨rfl, hb3⟩; replace T' := T'.keep hb3; clear hb3))
  all_goals (go_wp2_with fail)
  go_ret
  exact ⟨rfl, T'.below⟩
/-- box b holds the value of t, whose kids lie behind (A, c) -/
structure Hs (wr : World) (b : Nat) (t : Tr) (A : Option Addr) (c : Nat) : Prop where
  c0 : wr.cell? ⟨b, 0, none⟩ = some (.int .i64 t.k)
  c1 : wr.cell? ⟨b, 1, none⟩ = some (.int .i64 t.i)
  c2 : wr.cell? ⟨b, 2, none⟩ = some (.slice A t.ks.length c)
  t : IsT wr wr.heap.size t A c
theorem Hs.keep {wr w1 : World} {b : Nat} {t : Tr} {A : Option Addr} {c : Nat} (h : Hs wr b t A c) (hb : Below wr.heap.size wr w1) : Hs w1 b t A c := by
  have e : ∀ {p : Addr} {v : Value}, wr.cell? p = some v → w1.cell? p = some v := fun hv => (hb.cell (block_lt_of_cell hv)).trans hv
  exact ⟨e h.c0, e h.c1, e h.c2, h.t.keep hb hb.size⟩
theorem Hs.new {w : World} {t : Tr} {A : Option Addr} {c : Nat} (h : IsT w w.heap.size t A c) : Hs (w.alloc (.cells #[.int .i64 t.k, .int .i64 t.i, .slice A t.ks.length c] 24)) w.heap.size t A c := by
  have hb : Below w.heap.size w (w.alloc (.cells #[.int .i64 t.k, .int .i64 t.i, .slice A t.ks.length c] 24)) := (Below.refl _ _).alloc (Nat.le_refl _) _
  obtain ⟨f0, f1, f2⟩ := box_new w (.int .i64 t.k) (.int .i64 t.i) (.slice A t.ks.length c) 24
  exact ⟨f0, f1, f2, h.keep hb hb.size⟩
theorem Hs.alloc {wr : World} {b : Nat} {t : Tr} {A : Option Addr} {c : Nat} (h : Hs wr b t A c) (o : Obj) : Hs (wr.alloc o) b t A c := h.keep ((Below.refl _ _).alloc (Nat.le_refl _) _)
structure Three (w wr : World) (a b d : Tr) (A A' A2 : Option Addr) (c c' c2 : Nat) : Prop where
  a : Hs wr w.heap.size a A c
  b : Hs wr (w.heap.size + 1) b A' c'
  d : Hs wr (w.heap.size + 1 + 1) d A2 c2
  below : Below w.heap.size w wr
theorem three_start {w : World} {a b d : Tr} {A A' A2 : Option Addr} {c c' c2 : Nat} (ha : IsT w w.heap.size a A c) (hb : IsT w w.heap.size b A' c') (hd : IsT w w.heap.size d A2 c2) :
    Three w (((w.alloc (.cells #[.int .i64 a.k, .int .i64 a.i, .slice A a.ks.length c] 24)).alloc (.cells #[.int .i64 b.k, .int .i64 b.i, .slice A' b.ks.length c'] 24)).alloc (.cells #[.int .i64 d.k, .int .i64 d.i, .slice A2 d.ks.length c2] 24)) a b d A A' A2 c c' c2 := by
  have h1 : Below w.heap.size w (w.alloc (.cells #[.int .i64 a.k, .int .i64 a.i, .slice A a.ks.length c] 24)) := (Below.refl _ _).alloc (Nat.le_refl _) _
  have h2 : Below w.heap.size w ((w.alloc (.cells #[.int .i64 a.k, .int .i64 a.i, .slice A a.ks.length c] 24)).alloc (.cells #[.int .i64 b.k, .int .i64 b.i, .slice A' b.ks.length c'] 24)) := h1.alloc h1.size _
  have e2 := Hs.new (hb.keep h1 h1.size)
  have e3 := Hs.new (hd.keep h2 h2.size)
  simp only [World.size_alloc] at e2 e3
  exact ⟨((Hs.new ha).alloc _).alloc _, e2.alloc _, e3, h2.alloc h2.size _⟩
theorem Three.keep {w wr w1 : World} {a b d : Tr} {A A' A2 : Option Addr} {c c' c2 : Nat} (h : Three w wr a b d A A' A2 c c' c2) (hb : Below wr.heap.size wr w1) : Three w w1 a b d A A' A2 c c' c2 :=
  ⟨h.a.keep hb, h.b.keep hb, h.d.keep hb, h.below.trans (hb.mono h.below.size)⟩
theorem cmp_ends (a b d : Tr) (h1 : cmpT a b ≤ 0) (h2 : cmpT b d ≤ 0) : cmpT a d ≤ 0 ∧ (cmpT a d = 0 → cmpT a b = 0 ∧ cmpT b d = 0) := by
  refine ⟨cmpT_trans a b d h1 h2, fun h => ?_⟩
  have e := (cmpT_zero a d).1 h
  subst e
  have := cmpT_neg b a
  have := cmpT_neg a b
  omega
set_option maxHeartbeats 4000000 in
theorem orders_any (a b d : Tr) (A A' A2 : Option Addr) (c c' c2 : Nat) (w : World) (ha : IsT w w.heap.size a A c) (hb : IsT w w.heap.size b A' c') (hd : IsT w w.heap.size d A2 c2) :
    Calls Try.prog 5 #[.agg #[.int .i64 a.k, .int .i64 a.i, .slice A a.ks.length c], .agg #[.int .i64 b.k, .int .i64 b.i, .slice A' b.ks.length c'], .agg #[.int .i64 d.k, .int .i64 d.i, .slice A2 d.ks.length c2]] w fun e w' => e = .returned (.bool true) ∧ Below w.heap.size w w' := by
  have T0 := Lib.hid (three_start ha hb hd)
  clear ha hb hd
  go_enter Try.func5, Try.ntmps5
  go_wp2_with fail
  refine (rright_any a A c _ (by exact T0.out.a.t)).mono ?_
  rintro e w1 ⟨rfl, hb1⟩
  have T := T0.out.keep hb1
  have x0 := T.a.c0
  have x1 := T.a.c1
  have x2 := T.a.c2
  have y0 := T.b.c0
  have y1 := T.b.c1
  have y2 := T.b.c2
  have z0 := T.d.c0
  have z1 := T.d.c1
  have z2 := T.d.c2
  clear hb1
  by_cases ra : rightN a = 0
  · have ra1 : ((rightN a : Int) != 0) = false := by simpa using ra
    have RA := Lib.hid ra
    clear ra
    go_wp2_with fail
    refine (rright_any b A' c' _ (by exact T.b.t)).mono ?_
    rintro e w2 ⟨rfl, hb2⟩
    replace T := T.keep hb2
    clear x0 x1 x2 y0 y1 y2 z0 z1 z2 hb2
    have x0 := T.a.c0
    have x1 := T.a.c1
    have x2 := T.a.c2
    have y0 := T.b.c0
    have y1 := T.b.c1
    have y2 := T.b.c2
    have z0 := T.d.c0
    have z1 := T.d.c1
    have z2 := T.d.c2
    by_cases rb : rightN b = 0
    · have rb1 : ((rightN b : Int) != 0) = false := by simpa using rb
      have RB := Lib.hid rb
      clear rb
      go_wp2_with fail
      refine (rright_any d A2 c2 _ (by exact T.d.t)).mono ?_
      rintro e w3 ⟨rfl, hb3⟩
      replace T := T.keep hb3
      clear x0 x1 x2 y0 y1 y2 z0 z1 z2 hb3
      have x0 := T.a.c0
      have x1 := T.a.c1
      have x2 := T.a.c2
      have y0 := T.b.c0
      have y1 := T.b.c1
      have y2 := T.b.c2
      have z0 := T.d.c0
      have z1 := T.d.c1
      have z2 := T.d.c2
      by_cases rd : rightN d = 0
      · have rd1 : ((rightN d : Int) != 0) = false := by simpa using rd
        have RD := Lib.hid rd
        clear rd
        have f : ∀ p q : Tr, rightN p = 0 → rightN q = 0 → firstN p q = 0 ∧ compV p q = cmpT p q := fun p q hp hq => by
          have e : firstN p q = 0 := by unfold firstN; rw [if_neg (by simp [hp]), hq]
          exact ⟨e, by unfold compV; rw [if_neg (by simp [e])]⟩
        have F1 := Lib.hid (f a b RA.out RB.out)
        have F2 := Lib.hid (f b a RB.out RA.out)
        have F3 := Lib.hid (f b d RB.out RD.out)
        have F4 := Lib.hid (f a d RA.out RD.out)
        clear f
        go_wp2_with fail
        refine (compare_any a b A A' c c' _ (by exact T.a.t) (by exact T.b.t)).mono ?_
        rintro e w4 ⟨rfl, hb4⟩
        replace T := T.keep hb4
        clear x0 x1 x2 y0 y1 y2 z0 z1 z2 hb4
        have x0 := T.a.c0
        have x1 := T.a.c1
        have x2 := T.a.c2
        have y0 := T.b.c0
        have y1 := T.b.c1
        have y2 := T.b.c2
        have z0 := T.d.c0
        have z1 := T.d.c1
        have z2 := T.d.c2
        rw [F1.out.1, F1.out.2]
        go_wp2_with fail
        refine (compare_any b a A' A c' c _ (by exact T.b.t) (by exact T.a.t)).mono ?_
        rintro e w5 ⟨rfl, hb5⟩
        replace T := T.keep hb5
        clear x0 x1 x2 y0 y1 y2 z0 z1 z2 hb5
        have x0 := T.a.c0
        have x1 := T.a.c1
        have x2 := T.a.c2
        have y0 := T.b.c0
        have y1 := T.b.c1
        have y2 := T.b.c2
        have z0 := T.d.c0
        have z1 := T.d.c1
        have z2 := T.d.c2
        rw [F2.out.1, F2.out.2]
        go_wp2_with fail
        refine (compare_any b d A' A2 c' c2 _ (by exact T.b.t) (by exact T.d.t)).mono ?_
        rintro e w6 ⟨rfl, hb6⟩
        replace T := T.keep hb6
        clear x0 x1 x2 y0 y1 y2 z0 z1 z2 hb6
        have x0 := T.a.c0
        have x1 := T.a.c1
        have x2 := T.a.c2
        have y0 := T.b.c0
        have y1 := T.b.c1
        have y2 := T.b.c2
        have z0 := T.d.c0
        have z1 := T.d.c1
        have z2 := T.d.c2
        rw [F3.out.1, F3.out.2]
        go_wp2_with fail
        refine (compare_any a d A A2 c c2 _ (by exact T.a.t) (by exact T.d.t)).mono ?_
        rintro e w7 ⟨rfl, hb7⟩
        replace T := T.keep hb7
        clear x0 x1 x2 y0 y1 y2 z0 z1 z2 hb7
        have x0 := T.a.c0
        have x1 := T.a.c1
        have x2 := T.a.c2
        have y0 := T.b.c0
        have y1 := T.b.c1
        have y2 := T.b.c2
        have z0 := T.d.c0
        have z1 := T.d.c1
        have z2 := T.d.c2
        rw [F4.out.1, F4.out.2]
        obtain ⟨x, hx⟩ : ∃ x, x = cmpT a b := ⟨_, rfl⟩
        obtain ⟨y, hy⟩ : ∃ x, x = cmpT b a := ⟨_, rfl⟩
        obtain ⟨z, hz⟩ : ∃ x, x = cmpT b d := ⟨_, rfl⟩
        obtain ⟨v, hv⟩ : ∃ x, x = cmpT a d := ⟨_, rfl⟩
        have hxy : y = -x := by rw [hx, hy]; exact cmpT_neg a b
        have hx3 := cmpT_cases a b
        have hE := cmp_ends a b d
        have SB := Lib.hid (show sameB a b = decide (x = 0) by rw [hx]; unfold sameB; rw [decide_eq_true F1.out.1]; rfl)
        rw [← hx, ← hy, ← hz, ← hv]
        rw [← hx] at hx3
        rw [← hx, ← hz, ← hv] at hE
        clear hx hy hz hv
        have HE := Lib.hid hE
        clear hE
        subst hxy
        have hz3 : 0 < z ∨ z ≤ 0 := by omega
        rcases hx3 with rfl | rfl | rfl
        · -- x = -1
          go_wp2_with fail
          refine (same_any a b A A' c c' _ (by exact T.a.t) (by exact T.b.t)).mono ?_
          rintro e w8 ⟨rfl, hb8⟩
          replace T := T.keep hb8
          rw [SB.out]
          rcases hz3 with hz | hz
          · go_wp2_with fail
            go_ret
            exact ⟨rfl, T.below⟩
          · have hz1 : ¬ 0 < z := by omega
            have hz2 : decide (0 < z) = false := decide_eq_false hz1
            obtain ⟨v1, v2⟩ := HE.out (by omega) hz
            have v3 : v < 0 := by
              by_cases e : v = 0
              · have := v2 e; omega
              · omega
            clear v2
            go_wp2_with fail
            go_ret
            exact ⟨rfl, T.below⟩
        · -- x = 0
          go_wp2_with fail
          refine (same_any a b A A' c c' _ (by exact T.a.t) (by exact T.b.t)).mono ?_
          rintro e w8 ⟨rfl, hb8⟩
          replace T := T.keep hb8
          rw [SB.out]
          rcases hz3 with hz | hz
          · go_wp2_with fail
            go_ret
            exact ⟨rfl, T.below⟩
          · have hz1 : ¬ 0 < z := by omega
            have hz2 : decide (0 < z) = false := decide_eq_false hz1
            obtain ⟨v1, v2⟩ := HE.out (by omega) hz
            by_cases v3 : v < 0
            · clear v2
              go_wp2_with fail
              go_ret
              exact ⟨rfl, T.below⟩
            · obtain rfl : v = 0 := by omega
              obtain ⟨_, rfl⟩ := v2 rfl
              clear v2
              go_wp2_with fail
              go_ret
              exact ⟨rfl, T.below⟩
        · -- x = 1
          go_wp2_with fail
          refine (same_any a b A A' c c' _ (by exact T.a.t) (by exact T.b.t)).mono ?_
          rintro e w8 ⟨rfl, hb8⟩
          replace T := T.keep hb8
          rw [SB.out]
          go_wp2_with fail
          go_ret
          exact ⟨rfl, T.below⟩
      · have rd1 : ((rightN d : Int) != 0) = true := by simpa using rd
        clear rd
        go_wp2_with fail
        go_ret
        exact ⟨rfl, T.below⟩
    · have rb1 : ((rightN b : Int) != 0) = true := by simpa using rb
      clear rb
      go_wp2_with fail
      go_ret
      exact ⟨rfl, T.below⟩
  · have ra1 : ((rightN a : Int) != 0) = true := by simpa using ra
    clear ra
    go_wp2_with fail
    go_ret
    exact ⟨rfl, T.below⟩
end Go.Proofs.Ythnbkojgoegmpaa
