/- quantified of package parse, under the contract of formula. -/
import Derived.Test.YtgnfbhemkombaaaDoorP14
namespace Go.Proofs.YtgnfbhemkombaaaDoor
open Go.RowKit
set_option linter.unusedVariables false
def FormC (f : Nat) : Prop := ∀ (b : Nat) (A : Option Addr) (c : Nat) (l rest : List Tok) (sl z m d : Nat) (w : World), 2 * rest.length + 1 < f → l.length ≤ 8000 → d + 2 * rest.length + 1 ≤ 40000 → z + rest.length + 1 ≤ 20000 → Rdr w b A c l rest sl z m →
  Calls Tryd.prog 37 #[.pointer (some ⟨b, 0, none⟩), .int .i64 (d : Int)] w (ReadP b A c l sl z m d w (formP f rest))
/-- what a rule leaves whose node has been begun already -/
def BodyP (b : Nat) (A : Option Addr) (c : Nat) (l : List Tok) (sl z m d : Nat) (w : World) (p : PR) (e : Ending) (w' : World) : Prop :=
  KeepR b w w' ∧ match p with
    | .ok t r => Rdr w' b A c l r sl (z + szL t.ks) (max m (d + dpL t.ks)) ∧ ∃ v, e = .returned v ∧ ExprV w' w.heap.size (z + szL t.ks) (max m (d + dpL t.ks)) t v
    | .bad r => e = raised 32 (placeN sl r)
theorem Rdr.below {w : World} {b : Nat} {A : Option Addr} {c : Nat} {l rest : List Tok} {sl z m : Nat} (h : Rdr w b A c l rest sl z m) : ∀ g, A = some ⟨g, 0, none⟩ → l ≠ [] → g < w.heap.size := fun g e hne => by
  obtain ⟨g', e', _, h2, _⟩ := h.toks 0 (List.length_pos_iff.2 hne)
  rw [e] at e'
  cases e'
  exact h2
/-- a node of one kid that has just been read -/
theorem node_one {w w1 w2 : World} {b : Nat} {A : Option Addr} {c : Nat} {l : List Tok} {sl z m d k i : Nat} {q : Tr} {r : List Tok} {x y : Int} {A2 : Option Addr} {n2 c2 : Nat} (hb : b < w.heap.size) (hk : KeepR b w w1) (hk2 : KeepR b w1 w2) (hr : Rdr w2 b A c l r sl (z + q.sz) (max m (d + 1 + dpL q.ks)))
    (hv : ExprV w2 w1.heap.size (z + q.sz) (max m (d + 1 + dpL q.ks)) q (.agg #[.int .i64 x, .int .i64 y, .slice A2 n2 c2])) :
    Calls Tryd.prog 74 #[.pointer (some ⟨b, 0, none⟩), .int .i64 (k : Int), .int .i64 (i : Int), .slice (some ⟨w2.heap.size, 0, none⟩) 1 1] (w2.alloc (.cells #[.int .i64 x, .int .i64 y, .slice A2 n2 c2] 24)) fun e w' =>
      Below (w2.heap.size + 1) (w2.alloc (.cells #[.int .i64 x, .int .i64 y, .slice A2 n2 c2] 24)) w' ∧ KeepR b w w' ∧ Rdr w' b A c l r sl (z + szL [q]) (max m (d + dpL [q])) ∧ ∃ x' y' B p q', e = .returned (.agg #[.int .i64 x', .int .i64 y', .slice B p q']) ∧ ExprV w' w.heap.size (z + szL [q]) (max m (d + dpL [q])) (.node (k : Int) (i : Int) [q]) (.agg #[.int .i64 x', .int .i64 y', .slice B p q']) := by
  obtain ⟨x0, y0, A0, n0, c0, e0, hv⟩ := hv
  cases e0
  have ONE := ArgI.one (d := d) hk hk2 hr hv
  obtain ⟨a1, a2, A', n', c', a3, a4⟩ := ONE.done (k := k) (n := i) hb (KeepR.refl _ _) ONE.rdr
  simp only [Ending.returned.injEq, Value.slice.injEq] at a3
  obtain ⟨rfl, rfl, rfl⟩ := a3
  refine (node_tree (.node (k : Int) (i : Int) [q]) _ _ _ _ a2 a4).mono ?_
  rintro e w3 ⟨hb3, x', y', B, p, q', rfl, hV⟩
  rw [World.size_alloc] at hb3
  exact ⟨hb3, a1.trans (KeepR.of_below (by rw [World.size_alloc]; exact hb3)), a2.keep (by rw [World.size_alloc]; exact hb3), x', y', B, p, q', rfl, hV⟩
set_option maxHeartbeats 8000000 in
set_option maxRecDepth 100000 in
theorem quant_any (f : Nat) (hF : FormC f) (k b : Nat) (A : Option Addr) (c : Nat) (l rest : List Tok) (sl z m d : Nat) (w : World) (hf : 2 * rest.length ≤ f) (hl : l.length ≤ 8000) (hd : d + 2 * rest.length ≤ 40000) (hz : z + rest.length ≤ 20000) (h : Rdr w b A c l rest sl z m) :
    Calls Tryd.prog 102 #[.pointer (some ⟨b, 0, none⟩), .int .i64 (k : Int), .int .i64 (d : Int)] w (BodyP b A c l sl z m d w (quantP (formP f) k rest)) := by
  have HF := Lib.hid hF
  have hbw := h.lt
  have HA := Lib.hid h.below
  have ha : Below w.heap.size w (w.alloc (.cells #[.int .i64 0, .int .i64 0, .slice none 0 0] 24)) := (Below.refl _ _).alloc (Nat.le_refl _) _
  have H0 := Lib.hid (h.keep ha)
  have K0 := Lib.hid (KeepR.of_below (b := b) ha)
  have B0 := Lib.hid (Box3.new w (.int .i64 0) (.int .i64 0) (.slice none 0 0))
  clear h hF ha
  go_enter Tryd.func102, Tryd.ntmps102
  go_wp2_with fail
  refine (peek_any _ H0.out hl).mono ?_
  rintro e w2 ⟨rfl, hb2⟩
  unfold tokV
  have R2 := Lib.hid (H0.out.keep hb2)
  have K2 := Lib.hid (K0.out.trans (KeepR.of_below (b := b) hb2))
  have B2 := Lib.hid (B0.out.keep hb2 B0.out.lt)
  clear hb2 H0 K0 B0
  obtain ⟨t, ht⟩ : ∃ t, t = pkT sl rest := ⟨_, rfl⟩
  rw [← ht]
  have TB := Lib.hid (TBox.new w2 (.int .i64 (t.k : Int)) (.int .i64 (t.n : Int)) (.int .i64 (t.p : Int)))
  have R3 := Lib.hid (R2.out.keep ((Below.refl _ w2).alloc (Nat.le_refl _) (.cells #[.int .i64 (t.k : Int), .int .i64 (t.n : Int), .int .i64 (t.p : Int)] 37)))
  have K3 := Lib.hid (K2.out.trans (KeepR.of_below (b := b) ((Below.refl _ w2).alloc (Nat.le_refl _) (.cells #[.int .i64 (t.k : Int), .int .i64 (t.n : Int), .int .i64 (t.p : Int)] 37))))
  have B3 := Lib.hid (B2.out.keep ((Below.refl _ w2).alloc (Nat.le_refl _) (.cells #[.int .i64 (t.k : Int), .int .i64 (t.n : Int), .int .i64 (t.p : Int)] 37)) B2.out.lt)
  have hne2 : w2.heap.size ≠ b := by have := R2.out.lt; omega
  have hw2 : w.heap.size + 1 ≤ w2.heap.size := B2.out.lt
  clear R2 K2 B2
  by_cases h1 : t.k = 1
  · obtain ⟨r, rfl⟩ : ∃ r, rest = t :: r := by
      cases rest with
      | nil => simp only [pkT] at ht; rw [ht] at h1; cases h1
      | cons x r => simp only [pkT] at ht; exact ⟨r, by rw [ht]⟩
    have P := Lib.hid (show quantP (formP f) k (t :: r) = (match formP f r with | .bad r' => .bad r' | .ok a r1 => .ok (.node k t.n [a]) r1) by simp only [quantP]; rw [if_pos h1]; rfl)
    have e1 : ((t.k : Int) == 1) = true := by simp [h1]
    clear h1 ht
    simp only [List.length_cons] at hf hd hz
    obtain ⟨nx, hn, c1, RT⟩ := R3.out.take hl
    have f1 := R3.out.frozen 1
    have R4 := Lib.hid RT
    have T4 := Lib.hid (fun v => (TB.out.keepR (KeepR.set b 1 _ v) hne2))
    have B4 := Lib.hid (fun v => B3.out.keepR (KeepR.set b 1 _ v) (by omega))
    have K4 := Lib.hid (fun v => K3.out.trans (KeepR.set b 1 _ v))
    obtain ⟨t0, t1, t2⟩ := TB.out.cells
    clear RT R3 B3 K3
    go_wp2_with fail
    clear t0 t1 t2 c1 f1 TB
    have T4 := T4.out (.int .i64 ((nx : Int) + 1))
    have B4 := Lib.hid (B4.out (.int .i64 ((nx : Int) + 1)))
    have K4 := Lib.hid (K4.out (.int .i64 ((nx : Int) + 1)))
    have hs4 : w2.heap.size + 1 ≤ ((w2.alloc (.cells #[.int .i64 (t.k : Int), .int .i64 (t.n : Int), .int .i64 (t.p : Int)] 37)).setCell ⟨b, 1, none⟩ (.int .i64 ((nx : Int) + 1))).heap.size := by rw [size_set]; simp
    generalize (w2.alloc (.cells #[.int .i64 (t.k : Int), .int .i64 (t.n : Int), .int .i64 (t.p : Int)] 37)).setCell ⟨b, 1, none⟩ (.int .i64 ((nx : Int) + 1)) = W4 at R4 T4 B4 K4 hs4 ⊢
    have T' : TBox W4.drew w2.heap.size (.int .i64 (t.k : Int)) (.int .i64 (t.n : Int)) (.int .i64 (t.p : Int)) := T4
    have R' := Lib.hid (show Rdr W4.drew b A c l r sl z m from ⟨R4.out.blk, R4.out.toks, R4.out.ne, R4.out.suf⟩)
    have hd1 : ((d + 1 : Nat) : Int) = (d : Int) + 1 := by omega
    have AC := Lib.hid (HF.out b A c l r sl z m (d + 1) W4.drew (by omega) hl (by omega) (by omega) R'.out)
    rw [hd1] at AC
    have kd : KeepR b W4 W4.drew := ⟨rfl, rfl, rfl, Nat.le_refl _, fun _ _ _ => rfl⟩
    obtain ⟨t0, t1, t2⟩ := T'.cells
    refine wp_region_any (by kernel_rfl) ?_
    change wpAny _ _ _ _ _ _ _ (World.drew _)
    refine wpAny_take (i := 0) (v := ?_) rfl (by kernel_rfl) (by kernel_rfl) (by kernel_rfl) (fun _ _ _ h => h) (Or.inl ⟨by rfl, by intro w; go_simp; try with_reducible rfl⟩) ?_
    refine wpAny_take (i := 1) (v := ?_) rfl (by kernel_rfl) (by kernel_rfl) (by kernel_rfl) (fun _ _ _ h => h) (Or.inl ⟨by rfl, by intro w; go_simp; try with_reducible rfl⟩) ?_
    refine wpAny_take (i := 2) (v := ?_) rfl (by kernel_rfl) (by kernel_rfl) (by kernel_rfl) (fun _ _ _ h => h) (Or.inl ⟨by rfl, by intro w; go_simp; try with_reducible rfl⟩) ?_
    refine wpAny_take (i := 4) (v := ?_) rfl (by kernel_rfl) (by kernel_rfl) (by kernel_rfl) (fun _ _ _ h => h) (Or.inl ⟨by rfl, by intro w; go_simp; try with_reducible rfl⟩) ?_
    refine wpAny_take (i := 5) (v := ?_) rfl (by kernel_rfl) (by kernel_rfl) (by kernel_rfl) (fun _ _ _ h => h) (Or.inl ⟨by rfl, by intro w; go_simp; try with_reducible rfl⟩) ?_
    refine wpAny_take (i := 6) (v := .int .i64 ((d : Int) + 1)) rfl (by kernel_rfl) (by kernel_rfl) (by kernel_rfl) (fun _ _ _ h => h) (Or.inl ⟨by rfl, by intro w; go_simp; rw [IntKind.wrap_i64]; omega⟩) ?_
    cases hP : formP f r with
    | bad r' =>
      rw [hP] at AC
      have FIN := Lib.hid (show ∀ w5, KeepR b W4.drew w5 → BodyP b A c l sl z m d w (quantP (formP f) k (t :: r)) (raised 32 (placeN sl r')) w5 from fun w5 hk => by
        rw [P.out, hP]
        exact ⟨(K4.out.trans kd).trans hk, rfl⟩)
      refine wpAny_ready (rs := [3, 7]) (by kernel_rfl) (by simp) ?_
      refine AllReady.cons rfl (fun K hK => ?_) ?_
      · go_simp
        refine hK _ _ ?_
        refine wpAny_ready (rs := [7]) (by kernel_rfl) (by simp) ?_
        refine AllReady.cons rfl (fun K hK => ?_) AllReady.nil
        go_simp
        refine AC.out.mono ?_
        rintro e w5 ⟨hk5, rfl⟩
        exact ⟨rfl, FIN.out w5 hk5⟩
      · refine AllReady.cons rfl (fun K hK => ?_) AllReady.nil
        go_simp
        refine AC.out.mono ?_
        rintro e w5 ⟨hk5, rfl⟩
        exact ⟨rfl, FIN.out w5 hk5⟩
    | ok q r' =>
      rw [hP] at AC
      have B' : Box3 W4.drew w.heap.size (.int .i64 0) (.int .i64 0) (.slice none 0 0) := B4.out
      have hs4' : w.heap.size + 1 ≤ W4.drew.heap.size := by show _ ≤ W4.heap.size; omega
      have K4' := Lib.hid (K4.out.trans kd)
      have AC' := Lib.hid (show Calls Tryd.prog 37 #[.pointer (some ⟨b, 0, none⟩), .int .i64 ((d : Int) + 1)] W4.drew (fun e w5 => KeepR b W4.drew w5 ∧ Rdr w5 b A c l r' sl (z + q.sz) (max m (d + 1 + dpL q.ks)) ∧ ∃ v, e = .returned v ∧ ExprV w5 W4.drew.heap.size (z + q.sz) (max m (d + 1 + dpL q.ks)) q v) from AC.out)
      clear AC
      refine wpAny_ready (rs := [3, 7]) (by kernel_rfl) (by simp) ?_
      refine AllReady.cons rfl (fun K hK => ?_) ?_
      · go_simp
        refine hK _ _ ?_
        refine wpAny_ready (rs := [7]) (by kernel_rfl) (by simp) ?_
        refine AllReady.cons rfl (fun K hK => ?_) AllReady.nil
        go_simp
        refine AC'.out.mono ?_
        rintro e w5 ⟨hk5, hr5, v5, rfl, x5, y5, A5, n5, c5, rfl, hv5⟩
        have T5 := T'.keepR hk5 hne2
        obtain ⟨s0, s1, s2⟩ := T5.cells
        obtain ⟨u0, u1, u2⟩ := (T5.keep ((Below.refl _ w5).alloc (Nat.le_refl _) (.cells #[.int .i64 x5, .int .i64 y5, .slice A5 n5 c5] 24))).cells
        have N5 := Lib.hid (node_one (k := k) (i := t.n) R'.out.lt (KeepR.refl b W4.drew) hk5 hr5 ⟨_, _, _, _, _, rfl, hv5⟩)
        have B5 := Lib.hid (B'.keepR hk5 (by omega))
        have hz5 : w.heap.size < w5.heap.size := B5.out.lt
        clear hk5 hr5 hv5 T5
        refine hK _ _ ?_
        refine wpAny_ready (rs := [8]) (by kernel_rfl) (by simp) ?_
        refine AllReady.cons rfl (fun K hK => ?_) AllReady.nil
        go_simp
        refine hK _ _ ?_
        refine wpAny_ready (rs := [9]) (by kernel_rfl) (by simp) ?_
        refine AllReady.cons rfl (fun K hK => ?_) AllReady.nil
        go_simp
        refine N5.out.mono ?_
        rintro e w6 ⟨hb6, hK6, hR6, x, y, B, p, q', rfl, hV⟩
        have b6 := (B5.out.keep ((Below.refl _ w5).alloc (Nat.le_refl _) (.cells #[.int .i64 x5, .int .i64 y5, .slice A5 n5 c5] 24)) B5.out.lt).keep hb6 (by omega)
        obtain ⟨y0, y1, y2⟩ := b6.cells
        have g0 := b6.frozen 0
        have g1 := b6.frozen 1
        have g2 := b6.frozen 2
        refine hK _ _ ?_
        refine wpAny_ready (rs := [10]) (by kernel_rfl) (by simp) ?_
        refine AllReady.cons rfl (fun K hK => ?_) AllReady.nil
        go_simp
        refine hK _ _ ?_
        refine wpAny_done (by kernel_rfl) ?_ _
        go_wp2_with fail
        refine bodyPost_ret (v := .agg #[.int .i64 x, .int .i64 y, .slice B p q']) (by simp [results, Tryd.results102, go_sem, y0, y1, y2]) rfl ?_
        rw [P.out, hP]
        refine ⟨set3_keep (K4'.out.trans hK6) (Nat.le_refl _) _ _ _, hR6.set3 w.heap.size hbw HA.out (.int .i64 x) (.int .i64 y) (.slice B p q'), _, rfl, ?_⟩
        exact hV.same (fun k hk1 _ => set3_other _ _ _ _ _ _ (by omega)) (by rw [set3_size]; exact Nat.le_refl _) (by omega)
      · refine AllReady.cons rfl (fun K hK => ?_) AllReady.nil
        go_simp
        refine AC'.out.mono ?_
        rintro e w5 ⟨hk5, hr5, v5, rfl, x5, y5, A5, n5, c5, rfl, hv5⟩
        have T5 := T'.keepR hk5 hne2
        obtain ⟨s0, s1, s2⟩ := T5.cells
        obtain ⟨u0, u1, u2⟩ := (T5.keep ((Below.refl _ w5).alloc (Nat.le_refl _) (.cells #[.int .i64 x5, .int .i64 y5, .slice A5 n5 c5] 24))).cells
        have N5 := Lib.hid (node_one (k := k) (i := t.n) R'.out.lt (KeepR.refl b W4.drew) hk5 hr5 ⟨_, _, _, _, _, rfl, hv5⟩)
        have B5 := Lib.hid (B'.keepR hk5 (by omega))
        have hz5 : w.heap.size < w5.heap.size := B5.out.lt
        clear hk5 hr5 hv5 T5
        refine hK _ _ ?_
        refine wpAny_ready (rs := [3, 8]) (by kernel_rfl) (by simp) ?_
        refine AllReady.cons rfl (fun K hK => ?_) ?_
        · go_simp
          refine hK _ _ ?_
          refine wpAny_ready (rs := [8]) (by kernel_rfl) (by simp) ?_
          refine AllReady.cons rfl (fun K hK => ?_) AllReady.nil
          go_simp
          refine hK _ _ ?_
          refine wpAny_ready (rs := [9]) (by kernel_rfl) (by simp) ?_
          refine AllReady.cons rfl (fun K hK => ?_) AllReady.nil
          go_simp
          refine N5.out.mono ?_
          rintro e w6 ⟨hb6, hK6, hR6, x, y, B, p, q', rfl, hV⟩
          have b6 := (B5.out.keep ((Below.refl _ w5).alloc (Nat.le_refl _) (.cells #[.int .i64 x5, .int .i64 y5, .slice A5 n5 c5] 24)) B5.out.lt).keep hb6 (by omega)
          obtain ⟨y0, y1, y2⟩ := b6.cells
          have g0 := b6.frozen 0
          have g1 := b6.frozen 1
          have g2 := b6.frozen 2
          refine hK _ _ ?_
          refine wpAny_ready (rs := [10]) (by kernel_rfl) (by simp) ?_
          refine AllReady.cons rfl (fun K hK => ?_) AllReady.nil
          go_simp
          refine hK _ _ ?_
          refine wpAny_done (by kernel_rfl) ?_ _
          go_wp2_with fail
          refine bodyPost_ret (v := .agg #[.int .i64 x, .int .i64 y, .slice B p q']) (by simp [results, Tryd.results102, go_sem, y0, y1, y2]) rfl ?_
          rw [P.out, hP]
          refine ⟨set3_keep (K4'.out.trans hK6) (Nat.le_refl _) _ _ _, hR6.set3 w.heap.size hbw HA.out (.int .i64 x) (.int .i64 y) (.slice B p q'), _, rfl, ?_⟩
          exact hV.same (fun k hk1 _ => set3_other _ _ _ _ _ _ (by omega)) (by rw [set3_size]; exact Nat.le_refl _) (by omega)
        · refine AllReady.cons rfl (fun K hK => ?_) AllReady.nil
          go_simp
          refine hK _ _ ?_
          refine wpAny_ready (rs := [3]) (by kernel_rfl) (by simp) ?_
          refine AllReady.cons rfl (fun K hK => ?_) AllReady.nil
          go_simp
          refine hK _ _ ?_
          refine wpAny_ready (rs := [9]) (by kernel_rfl) (by simp) ?_
          refine AllReady.cons rfl (fun K hK => ?_) AllReady.nil
          go_simp
          refine N5.out.mono ?_
          rintro e w6 ⟨hb6, hK6, hR6, x, y, B, p, q', rfl, hV⟩
          have b6 := (B5.out.keep ((Below.refl _ w5).alloc (Nat.le_refl _) (.cells #[.int .i64 x5, .int .i64 y5, .slice A5 n5 c5] 24)) B5.out.lt).keep hb6 (by omega)
          obtain ⟨y0, y1, y2⟩ := b6.cells
          have g0 := b6.frozen 0
          have g1 := b6.frozen 1
          have g2 := b6.frozen 2
          refine hK _ _ ?_
          refine wpAny_ready (rs := [10]) (by kernel_rfl) (by simp) ?_
          refine AllReady.cons rfl (fun K hK => ?_) AllReady.nil
          go_simp
          refine hK _ _ ?_
          refine wpAny_done (by kernel_rfl) ?_ _
          go_wp2_with fail
          refine bodyPost_ret (v := .agg #[.int .i64 x, .int .i64 y, .slice B p q']) (by simp [results, Tryd.results102, go_sem, y0, y1, y2]) rfl ?_
          rw [P.out, hP]
          refine ⟨set3_keep (K4'.out.trans hK6) (Nat.le_refl _) _ _ _, hR6.set3 w.heap.size hbw HA.out (.int .i64 x) (.int .i64 y) (.slice B p q'), _, rfl, ?_⟩
          exact hV.same (fun k hk1 _ => set3_other _ _ _ _ _ _ (by omega)) (by rw [set3_size]; exact Nat.le_refl _) (by omega)
  · have P := Lib.hid (show quantP (formP f) k rest = .bad rest by
      cases rest with
      | nil => rfl
      | cons x r => simp only [pkT] at ht; subst ht; simp only [quantP]; rw [if_neg h1])
    have e1 : ((t.k : Int) == 1) = false := by rw [beq_eq_false_iff_ne]; omega
    clear h1 ht
    go_wp2_with fail
    refine (refusal_any _ R3.out hl).mono ?_
    rintro e w4 ⟨rfl, hb4⟩
    go_wp2_with fail
    refine ⟨rfl, ?_⟩
    rw [P.out]
    exact ⟨K3.out.trans (KeepR.of_below hb4), rfl⟩
end Go.Proofs.YtgnfbhemkombaaaDoor
