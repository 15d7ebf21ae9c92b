/- Close of package free. -/
import Derived.Test.YtfleomamhkeiiaaF8
import Derived.Test.YtfleomamhkeiiaaF9
import Derived.Test.YtfleomamhkeiiaaF10
import Derived.Test.YtfleomamhkeiiaaE28
namespace Go.Proofs.Ytfleomamhkeiiaa
open Go.RowKit Go.Shelf
attribute [local go_sem] Oper.semAt_some
set_option linter.unusedVariables false
set_option linter.unusedSimpArgs false
/-- is it right, and a formula? as the code asks -/
def isFB (t : Tr) : Bool := decide (sortN t.k = 2) && decide (rightN t = 0)
set_option maxHeartbeats 1000000 in
theorem isForm_any (t : Tr) (A : Option Addr) (c : Nat) (w : World) (ht : IsT w w.heap.size t A c) :
    Calls Try.prog 65 #[.agg #[.int .i64 t.k, .int .i64 t.i, .slice A t.ks.length c]] w fun e w' => e = .returned (.bool (isFB t)) ∧ Below w.heap.size w w' := by
  have T0 := Lib.hid (One.new ht)
  obtain ⟨y0, y1, y2⟩ := And.intro T0.out.b0 (And.intro T0.out.b1 T0.out.b2)
  clear ht
  go_enter Try.func65, Try.ntmps65
  go_wp2_with fail
  refine (sortOf_any t.k t.i A t.ks.length c _).mono ?_
  rintro e w1 ⟨rfl, hb1⟩
  have T1 := Lib.hid (T0.out.keep hb1)
  obtain ⟨z0, z1, z2⟩ := And.intro T1.out.b0 (And.intro T1.out.b1 T1.out.b2)
  clear hb1 y0 y1 y2
  by_cases hs : sortN t.k = 2
  · have h1 : (sortN t.k == 2) = true := by simp [hs]
    have F := Lib.hid (show isFB t = decide (rightN t = 0) by unfold isFB; rw [decide_eq_true hs]; rfl)
    clear hs
    go_wp2_with fail
    refine (right_any t A c _ (by exact T1.out.tree)).mono ?_
    rintro e w2 ⟨rfl, hb2⟩
    have T2 := Lib.hid (T1.out.keep hb2)
    clear hb2
    by_cases hr : rightN t = 0
    · have h0 : ((rightN t : Int) == 0) = true := by simp [hr]
      have F2 := Lib.hid (show isFB t = true by rw [F.out, decide_eq_true hr])
      clear hr
      go_wp2_with fail
      go_ret
      exact ⟨by rw [F2.out]; rfl, T2.out.below⟩
    · have h0 : ((rightN t : Int) == 0) = false := by rw [beq_eq_false_iff_ne]; omega
      have F2 := Lib.hid (show isFB t = false by rw [F.out, decide_eq_false hr])
      clear hr
      go_wp2_with fail
      go_ret
      exact ⟨by rw [F2.out]; rfl, T2.out.below⟩
  · have h1 : (sortN t.k == 2) = false := by simpa using hs
    have F := Lib.hid (show isFB t = false by unfold isFB; rw [decide_eq_false hs]; rfl)
    clear hs
    go_wp2_with fail
    go_ret
    exact ⟨by rw [F.out]; rfl, T1.out.below⟩

theorem right_parts {t : Tr} (h : rightN t = 0) : t.sz ≤ 1000 ∧ t.dp ≤ 100 ∧ t.shp = true := by
  unfold rightN at h
  split at h
  · cases h
  · split at h
    · cases h
    · split at h
      · exact ⟨by omega, by omega, by assumption⟩
      · cases h
theorem right_sz {t : Tr} (h : rightN t = 0) : t.sz ≤ 1000 := (right_parts h).1
theorem right_dp {t : Tr} (h : rightN t = 0) : t.dp ≤ 100 := (right_parts h).2.1
theorem isFB_form {t : Tr} (hr : rightN t = 0) : isFB t = !termB t.k := by
  have hk := kind_of_shp t (right_parts hr).2.2
  unfold isFB
  rw [decide_eq_true hr, Bool.and_true]
  cases h : termB t.k with
  | true => exact decide_eq_false (fun e => by rw [((sort_formula t.k).1 e).1] at h; cases h)
  | false => exact decide_eq_true ((sort_formula t.k).2 ⟨h, hk.1, hk.2.1⟩)
theorem closeA_bad {t : Tr} (h : ¬ rightN t = 0) : closeA t = (zeroT, rightN t) := by
  unfold closeA wantFN
  rw [if_neg h, if_neg h]
theorem closeA_term {t : Tr} (h : rightN t = 0) (hk : termB t.k = true) : closeA t = (zeroT, 40) := by
  unfold closeA wantFN
  rw [if_pos h, if_pos hk]
  rfl
theorem closeA_form {t : Tr} (h : rightN t = 0) (hk : termB t.k = false) : closeA t = if 1000 < t.sz + countN (freeT t) then (zeroT, 20) else if 100 < t.dp + countN (freeT t) then (zeroT, 21) else (closeT t, 0) := by
  have hw : wantFN t = 0 := by unfold wantFN; rw [if_pos h, hk]; rfl
  unfold closeA
  rw [if_pos hw, close_right h hk]
  by_cases h1 : 1000 < t.sz + countN (freeT t)
  · simp [h1]
  · by_cases h2 : 100 < t.dp + countN (freeT t)
    · simp [h1, h2]
    · simp [h1, h2]
theorem Chain.grown {X Y : World} {row : Option Nat} {n b g lo hi : Nat} {t : Tr} (hg : X.grownBy Y row) (hr : ∀ r, row = some r → n ≤ r ∧ ∃ o : Obj, X.heap[r]? = some o ∧ o.isCells = false) (hn : hi ≤ n) (hz : hi ≤ X.heap.size) : ∀ {l : List Nat} {A : Option Addr} {c : Nat}, Chain X b g lo hi t l A c → Chain Y b g lo hi t l A c := by
  intro l
  induction l with
  | nil => intro A c h; exact OwnT.same t (fun k k1 k2 => hg.block k (by omega) (fun e => by have := (hr k e.symm).1; omega)) h
  | cons x l ih =>
    rintro A c ⟨r, A2, c2, rfl, rfl, h1, h2, h3, h4⟩
    have hlt : r < X.heap.size := (Array.getElem?_eq_some_iff.1 h3).1
    refine ⟨r, A2, c2, rfl, rfl, h1, h2, (hg.block r hlt (fun e => ?_)).trans h3, ih h4⟩
    obtain ⟨_, o, ho, hc⟩ := hr r e.symm
    rw [h3] at ho
    cases ho
    cases hc
theorem Box3.grownC {X Y : World} {row : Option Nat} {b : Nat} {x y z : Value} (h : Box3 X b x y z) (hg : X.grownBy Y row) (hr : ∀ r, row = some r → ∃ o : Obj, X.heap[r]? = some o ∧ o.isCells = false) : Box3 Y b x y z :=
  h.grown hg (fun e => by
    obtain ⟨o, ho, hc⟩ := hr b e.symm
    rw [show X.heap[b]? = _ from h] at ho
    cases ho
    cases hc)
theorem CS.grown {w X Y : World} {row : Option Nat} {n : Nat} {t : Tr} {A : Option Addr} {c : Nat} (h : CS w X t A c) (hg : X.grownBy Y row) (hr : ∀ r, row = some r → n ≤ r ∧ ∃ o : Obj, X.heap[r]? = some o ∧ o.isCells = false) (hn : w.heap.size ≤ n) : CS w Y t A c :=
  ⟨h.box.grownC hg (fun r e => (hr r e).2), h.res.grownC hg (fun r e => (hr r e).2), h.src, h.below.grown hg h.below.size (fun k e => Nat.le_trans hn (hr k e).1)⟩
/-- where the loop stands: the tree handed in, the box of what is closed so far, and its rows -/
def CloI (w : World) (t : Tr) (A : Option Addr) (c b lo hi : Nat) (l : List Nat) (W : World) : Prop :=
  CS w W t A c ∧ ∃ A' c', Box3 W b (.int .i64 (closeL l t).k) (.int .i64 (closeL l t).i) (.slice A' (closeL l t).ks.length c') ∧ Chain W b (w.heap.size + 2) lo hi t l A' c'
theorem cloI_own {w : World} {t : Tr} {A : Option Addr} {c b lo hi n : Nat} (hn : w.heap.size ≤ n) (hh : hi ≤ b) (hb : hi ≤ n) : OwnFrom n (fun (pre : List (Nat × Nat)) W => CloI w t A c b lo hi (lstP pre) W) := by
  rintro s X Y row ⟨hC, A', c', hB, hH⟩ hg hr
  have := hB.lt
  exact ⟨hC.grown hg hr hn, A', c', hB.grownC hg (fun r e => (hr r e).2), hH.grown hg hr hb (by omega)⟩
theorem read_left {w wr : World} {x : Tr × Nat} {t : Tr} {A : Option Addr} {c b lo hi D : Nat} {o o' : Obj} {A' : Option Addr} {c' : Nat} (hd : x = (closeT t, 0)) (hC : CS w wr t A c) (hH : Chain wr b (w.heap.size + 2) lo hi t (listN (freeT t)) A' c') (hg : w.heap.size + 2 ≤ lo) (hh : hi ≤ b) (hz : hi ≤ wr.heap.size) (hf : t.fit)
    (hK : (((wr.setCell ⟨w.heap.size + 1, 0, none⟩ (.int .i64 (closeT t).k)).setCell ⟨w.heap.size + 1, 1, none⟩ (.int .i64 (closeT t).i)).setCell ⟨w.heap.size + 1, 2, none⟩ (.slice A' (closeT t).ks.length c')).heap[D]? = some o) (ho : o.isCells = false) (hD : hi ≤ D) (hw : w.heap.size ≤ D) :
    CloPost w x (.returned (.tuple #[.agg #[.int .i64 (closeT t).k, .int .i64 (closeT t).i, .slice A' (closeT t).ks.length c'], .int .i64 0])) ((((wr.setCell ⟨w.heap.size + 1, 0, none⟩ (.int .i64 (closeT t).k)).setCell ⟨w.heap.size + 1, 1, none⟩ (.int .i64 (closeT t).i)).setCell ⟨w.heap.size + 1, 2, none⟩ (.slice A' (closeT t).ks.length c')).putObj D o') := by
  subst hd
  refine ⟨below_left (below_set3 hC.below _ _ _ (by omega)) hw hK _, A', c', ?_, rfl⟩
  have h := hH.same (W' := (((wr.setCell ⟨w.heap.size + 1, 0, none⟩ (.int .i64 (closeT t).k)).setCell ⟨w.heap.size + 1, 1, none⟩ (.int .i64 (closeT t).i)).setCell ⟨w.heap.size + 1, 2, none⟩ (.slice A' (closeT t).ks.length c'))) (fun k k1 k2 k3 => same_set3 (lo := w.heap.size + 2) (hi := wr.heap.size) _ _ _ _ _ (by omega) k k1 k2) hg hh hz
  have h2 := h.grown (n := hi) (grownBy_putObj' _ D o') (fun r e => by cases e; exact ⟨hD, _, hK, ho⟩) (Nat.le_refl _) (by simpa using hz)
  refine h2.isT ?_ hf
  have := (grownBy_putObj' (((wr.setCell ⟨w.heap.size + 1, 0, none⟩ (.int .i64 (closeT t).k)).setCell ⟨w.heap.size + 1, 1, none⟩ (.int .i64 (closeT t).i)).setCell ⟨w.heap.size + 1, 2, none⟩ (.slice A' (closeT t).ks.length c')) D o').size
  refine Nat.le_trans ?_ this
  simpa using hz
set_option maxRecDepth 100000 in
set_option maxHeartbeats 4000000 in
theorem close_any (t : Tr) (A : Option Addr) (c : Nat) (w : World) (ht : IsT w w.heap.size t A c) :
    Calls Try.prog 30 #[.agg #[.int .i64 t.k, .int .i64 t.i, .slice A t.ks.length c]] w (CloPost w (closeA t)) := by
  have T0 := Lib.hid (CS.new ht)
  have FT := Lib.hid (ht.fit t)
  clear ht
  refine (callsIn_wide (n := 5)).1 ?_
  refine callsIn_of_wp_marks Try.func30 rfl trivial ?_ rfl
  simp only [Try.ntmps30, List.size_toArray, List.length_cons, List.length_nil, Nat.reduceAdd, Nat.reduceSub, Array.replicate_succ, Array.replicate_zero, List.push_toArray, List.append_toArray, List.nil_append, List.cons_append]
  gi_wp2_with fail
  refine ⟨trivial, ?_⟩
  refine (callsIn_wide.2 (free_any t A c _ (by exact T0.out.tree))).mono ?_
  rintro e w1 ⟨rfl, hb1⟩
  have T1 := Lib.hid (T0.out.keep hb1)
  clear hb1 T0
  obtain ⟨x0, x1, x2⟩ := T1.out.box.cells
  obtain ⟨y0, y1, y2⟩ := T1.out.res.cells
  have f0 := T1.out.res.frozen 0
  have f1 := T1.out.res.frozen 1
  have f2 := T1.out.res.frozen 2
  by_cases hr : rightN t = 0
  · have hv : valR freeT t = freeT t := valR_ok hr
    rw [hv, hr]
    clear hv
    clear y0 y1 y2 f0 f1 f2
    gi_wp2_with fail
    refine ⟨trivial, ?_⟩
    refine (callsIn_wide.2 (isForm_any t A c _ (by exact T1.out.tree))).mono ?_
    rintro e w2 ⟨rfl, hb2⟩
    have T2 := Lib.hid (T1.out.keep hb2)
    clear hb2 T1 x0 x1 x2
    obtain ⟨x0, x1, x2⟩ := T2.out.box.cells
    have FB := Lib.hid (isFB_form hr)
    cases hk : termB t.k with
    | true =>
      rw [FB.out, hk]
      obtain ⟨y0, y1, y2⟩ := T2.out.res.cells
      have f0 := T2.out.res.frozen 0
      have f1 := T2.out.res.frozen 1
      have f2 := T2.out.res.frozen 2
      have V := Lib.hid (closeA_term hr hk)
      gi_wp2_with fail
      exact ⟨.tuple #[.agg #[.int .i64 0, .int .i64 0, .slice none 0 0], .int .i64 40], by simp [results, Try.results30, go_sem, y0, y1, y2], read_zero (by exact V.out) T2.out.below (by omega)⟩
    | false =>
      rw [FB.out, hk]
      have hsz := right_sz hr
      have hdp := right_dp hr
      have V := Lib.hid (closeA_form hr hk)
      have UF := Lib.hid (freeT_U t)
      have RR := Lib.hid hr
      clear hr FB
      gi_wp2_with fail
      refine ⟨trivial, ?_⟩
      refine (callsIn_wide.2 (size_small t A c _ (by exact T2.out.tree) hsz)).mono ?_
      rintro e w3 ⟨rfl, hb3⟩
      have T3 := Lib.hid (T2.out.keep hb3)
      clear hb3 T2 x0 x1 x2
      obtain ⟨x0, x1, x2⟩ := T3.out.box.cells
      gi_wp2_with fail
      refine ⟨trivial, ?_⟩
      refine (callsIn_wide.2 (count_any (freeT t) _ UF.out)).mono ?_
      rintro e w9 ⟨rfl, hw9⟩
      rw [← hw9]
      clear hw9
      have c64 : countN (freeT t) ≤ 64 := countTo_le _ 64
      by_cases h1 : 1000 < t.sz + countN (freeT t)
      · have h1' : (1000 : Int) < (t.sz : Int) + (countN (freeT t) : Int) := by omega
        obtain ⟨y0, y1, y2⟩ := T3.out.res.cells
        have f0 := T3.out.res.frozen 0
        have f1 := T3.out.res.frozen 1
        have f2 := T3.out.res.frozen 2
        gi_wp2_with fail
        exact ⟨.tuple #[.agg #[.int .i64 0, .int .i64 0, .slice none 0 0], .int .i64 20], by simp [results, Try.results30, go_sem, y0, y1, y2], read_zero (by rw [V.out, if_pos h1]) T3.out.below (by omega)⟩
      · have h1' : ¬ (1000 : Int) < (t.sz : Int) + (countN (freeT t) : Int) := by omega
        gi_wp2_with fail
        refine ⟨trivial, ?_⟩
        refine (callsIn_wide.2 (depth_small t A c _ (by exact T3.out.tree) hsz)).mono ?_
        rintro e w4 ⟨rfl, hb4⟩
        rw [show min t.dp 101 = t.dp by omega]
        have T4 := Lib.hid (T3.out.keep hb4)
        clear hb4 T3 x0 x1 x2
        obtain ⟨x0, x1, x2⟩ := T4.out.box.cells
        gi_wp2_with fail
        refine ⟨trivial, ?_⟩
        refine (callsIn_wide.2 (count_any (freeT t) _ UF.out)).mono ?_
        rintro e w9 ⟨rfl, hw9⟩
        rw [← hw9]
        clear hw9
        by_cases h2 : 100 < t.dp + countN (freeT t)
        · have h2' : (100 : Int) < (t.dp : Int) + (countN (freeT t) : Int) := by omega
          obtain ⟨y0, y1, y2⟩ := T4.out.res.cells
          have f0 := T4.out.res.frozen 0
          have f1 := T4.out.res.frozen 1
          have f2 := T4.out.res.frozen 2
          gi_wp2_with fail
          exact ⟨.tuple #[.agg #[.int .i64 0, .int .i64 0, .slice none 0 0], .int .i64 21], by simp [results, Try.results30, go_sem, y0, y1, y2], read_zero (by rw [V.out, if_neg h1, if_pos h2]) T4.out.below (by omega)⟩
        · have h2' : ¬ (100 : Int) < (t.dp : Int) + (countN (freeT t) : Int) := by omega
          gi_wp2_with fail
          refine ⟨trivial, ?_⟩
          refine (callsIn_wide.2 (at_any t A c none 0 0 [] _ (by exact T4.out.tree) rfl (Nat.zero_le _) (by exact Rd.nil _ _ _ _))).mono ?_
          rintro e w5 ⟨hb5, A2, c2, ho, he⟩
          have ea : atN t [] = (t, 0) := by unfold atN; rw [if_pos RR.out, partAt_nil]
          rw [ea] at ho he
          subst he
          have VV := Lib.hid (show closeA t = (closeT t, 0) by rw [V.out, if_neg h1, if_neg h2])
          have T5 := Lib.hid (T4.out.keep hb5)
          have HO := Lib.hid ho
          have hs4 := T4.out.size
          have hs5 := hb5.size
          have T6 := Lib.hid (T5.out.keep (alB w5 (.cells #[.int .i64 t.k, .int .i64 t.i, .slice A2 t.ks.length c2] 24)))
          have C6 := Lib.hid (show Chain (w5.alloc (.cells #[.int .i64 t.k, .int .i64 t.i, .slice A2 t.ks.length c2] 24)) w5.heap.size (w.heap.size + 2) w4.heap.size w5.heap.size t [] A2 c2 from OwnT.same t (SameIn.of_below (alB w5 _) (Nat.le_refl _)) ho)
          have B6 := Lib.hid (Box3.new w5 (.int .i64 t.k) (.int .i64 t.i) (.slice A2 t.ks.length c2))
          clear hb5 ho ea x0 x1 x2 V h1 h2 h1' h2'
          gi_wp2_with fail
          refine ⟨trivial, ?_⟩
          refine (callsIn_wide.2 (list_any (freeT t) _ UF.out)).mono ?_
          rintro e w7 ⟨v, rfl, hrow, hb7⟩
          obtain ⟨a7, n7, c7, rfl, hI7⟩ := ints_of_row hrow
          have T7 := Lib.hid (T6.out.keep hb7)
          have C7 := Lib.hid (C6.out.keep hb7 (by omega) (Nat.le_refl _) (by simp))
          have B7 := Lib.hid (B6.out.keep hb7 (by simp))
          have hs7 := hb7.size
          simp only [World.size_alloc] at hI7
          have I7 := Lib.hid hI7
          clear T6 C6 B6 hb7 hrow hI7
          gi_wp2_with fail
          refine ⟨trivial, ?_⟩
          refine (backward_in Fence.wide 4 trivial rfl _ _ _ _).mono ?_
          rintro e w8 ⟨rfl, rfl⟩
          gi_wp2_with fail
          have T8 := T7.out.keep (alB w7 (.cells #[.slice a7 n7 c7] 75))
          have C8 := C7.out.keep (alB w7 (.cells #[.slice a7 n7 c7] 75)) (by omega) (Nat.le_refl _) (by have := B7.out.lt; omega)
          have B8 := B7.out.keep (alB w7 (.cells #[.slice a7 n7 c7] 75)) B7.out.lt
          have I8 := I7.out.keep (alB w7 (.cells #[.slice a7 n7 c7] 75))
          have b8 := (Boxed.new w7 75 (.slice a7 n7 c7)).cell
          have l8 := B7.out.lt
          have ll : (listN (freeT t)).length ≤ 64 := c64
          have hz8 : (w7.alloc (.cells #[.slice a7 n7 c7] 75)).heap.size = w7.heap.size + 1 := by simp
          obtain ⟨W0, hW0⟩ : ∃ W0, w7.alloc (.cells #[.slice a7 n7 c7] 75) = W0 := ⟨_, rfl⟩
          rw [hW0] at T8 C8 B8 I8 b8 hz8 ⊢
          clear hW0 T7 C7 B7 I7
          refine wpIn_rangeFunc_ownG_of_H (α := Nat × Nat) rfl (by omega) (gf := 116) (lb := #[.pointer (some ⟨w7.heap.size, 0, none⟩)]) rfl trivial (enters_of Try.func116 (by kernel_rfl) rfl)
            (backward_stops Fence.wide 4 trivial rfl (by omega) w7.heap.size (w5.heap.size + 1) _ (listN (freeT t)) (by omega) W0 (by omega) b8 I8) (fun h k => h.trans k) (fun W l o o' _ h0 hc _ => KG.putObj W l o o' h0 hc) (Below.refl _ _) (fun _ => rfl)
            (fun pre W => CloI w t A c w5.heap.size w4.heap.size w5.heap.size (lstP pre) W)
            (fun _ _ _ => False)
            (cloI_own (by omega) (Nat.le_refl _) (by omega))
            (fun _ _ _ _ _ hs _ _ => hs)
            ⟨T8, A2, c2, B8, C8⟩
            ?a1 ?assign ?body ?done ?stop (fun W => KG.refl _ W)
          case assign =>
            intro l x W K hK
            gi_wp2
            exact hK
          case body =>
            rintro l pre x W ⟨hC, A', c', hB, hH⟩ hlt
            have ST := Lib.hid (clo_step (x := x.2) rfl hC hB hH (by omega) (by omega) (Nat.le_refl _))
            have SE := Lib.hid (lstP_snoc pre x)
            obtain ⟨x0, x1, x2⟩ := hB.cells
            have HO := Lib.hid (fun o => hB.keep (alB W o) hB.lt)
            have y0 := fun o => (HO.out o).cells.1
            have y1 := fun o => (HO.out o).cells.2.1
            have y2 := fun o => (HO.out o).cells.2.2
            have f0 := fun o => (HO.out o).frozen 0
            have f1 := fun o => (HO.out o).frozen 1
            have f2 := fun o => (HO.out o).frozen 2
            clear hC hB hH
            gi_wp2_with fail
            refine ⟨(((KeepsOthers.alloc _ _).trans (KeepsOthers.setCell _ _ _)).trans ((KeepsOthers.setCell _ _ _).trans (KeepsOthers.setCell _ _ _))).from _, (((KG.of_below (alB W _)).trans (KG.setCell _ _ _ (by show w5.heap.size < _; omega))).trans (KG.setCell _ _ _ (by show w5.heap.size < _; omega))).trans (KG.setCell _ _ _ (by show w5.heap.size < _; omega)), ?_⟩
            show CloI w t A c w5.heap.size w4.heap.size w5.heap.size (lstP (pre ++ [x])) _
            rw [SE.out]
            exact ⟨ST.out.1, _, _, ST.out.2.1, ST.out.2.2⟩
          case done =>
            rintro D ys W hD rfl ⟨hC, A', c', hB, hH⟩ hK
            rw [lstP_all] at hB hH
            have HC := Lib.hid hC
            have HB := Lib.hid hB
            have HH := Lib.hid hH
            obtain ⟨x0, x1, x2⟩ := hB.cells
            obtain ⟨y0, y1, y2⟩ := hC.res.cells
            have f0 := hC.res.frozen 0
            have f1 := hC.res.frozen 1
            have f2 := hC.res.frozen 2
            have hlb := hB.lt
            clear hC hB hH
            gi_wp2_with fail
            have hK' := (((KeepsOthers.setCell W ⟨w.heap.size + 1, 0, none⟩ (.int .i64 (closeL (listN (freeT t)) t).k)).trans (KeepsOthers.setCell _ ⟨w.heap.size + 1, 1, none⟩ (.int .i64 (closeL (listN (freeT t)) t).i))).trans (KeepsOthers.setCell _ ⟨w.heap.size + 1, 2, none⟩ (.slice A' (closeL (listN (freeT t)) t).ks.length c'))).same D _ hK rfl
            refine ⟨by simp, .inl ⟨_, _, rfl, run_takeDeferred hK', ?_⟩⟩
            obtain ⟨q0, q1, q2⟩ := ((HC.out.res.setall (.int .i64 (closeL (listN (freeT t)) t).k) (.int .i64 (closeL (listN (freeT t)) t).i) (.slice A' (closeL (listN (freeT t)) t).ks.length c')).grownC (grownBy_putObj' _ D (.deferred none)) (fun r e => by cases e; exact ⟨_, hK', rfl⟩)).cells
            exact ⟨.tuple #[.agg #[.int .i64 (closeT t).k, .int .i64 (closeT t).i, .slice A' (closeT t).ks.length c'], .int .i64 0], by simp [closeT, results, Try.results30, go_sem, q0, q1, q2], read_left VV.out HC.out HH.out (by omega) (Nat.le_refl _) (by omega) FT.out hK' rfl (by omega) (by omega)⟩
          case stop =>
            rintro D co pre W _ _ h _
            exact h.elim
  · have h0 : ((rightN t : Int) != 0) = true := by rw [bne_iff_ne]; omega
    have V := Lib.hid (closeA_bad hr)
    clear hr
    gi_wp2_with fail
    exact ⟨.tuple #[.agg #[.int .i64 0, .int .i64 0, .slice none 0 0], .int .i64 (rightN t : Int)], by simp [results, Try.results30, go_sem, y0, y1, y2], read_zero (V.out) T1.out.below (by omega)⟩
end Go.Proofs.Ytfleomamhkeiiaa
