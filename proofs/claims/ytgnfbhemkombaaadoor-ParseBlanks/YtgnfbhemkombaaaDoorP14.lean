/- term of package parse. -/
import Derived.Test.YtgnfbhemkombaaaDoorP13
import Derived.Deep.RegionWith
namespace Go.Proofs.YtgnfbhemkombaaaDoor
open Go.RowKit
set_option linter.unusedVariables false
theorem Box3.keepR {w w' : World} {b r : Nat} {x y z : Value} (h : Box3 w b x y z) (hk : KeepR r w w') (hne : b ≠ r) : Box3 w' b x y z := (hk.block _ h.lt hne).trans h
theorem Rdr.keepBut {w w' : World} {b : Nat} {A : Option Addr} {c : Nat} {l rest : List Tok} {sl z m : Nat} {o : Nat} (h : Rdr w b A c l rest sl z m) (hs : ∀ k, k < w.heap.size → k ≠ o → w'.heap[k]? = w.heap[k]?) (hz : w.heap.size ≤ w'.heap.size) (hb : b < o) (hA : ∀ g, A = some ⟨g, 0, none⟩ → l ≠ [] → g < o) : Rdr w' b A c l rest sl z m := by
  refine ⟨(hs b h.lt (by omega)).trans h.blk, fun i hi => ?_, h.ne, h.suf⟩
  obtain ⟨g, e, h1, h2, h3, h4, h5⟩ := h.toks i hi
  have q := hs g h2 (by have := hA g e (fun e => by rw [e] at hi; simp at hi); omega)
  exact ⟨g, e, h1, by omega, (World.cell?_of_block (w := w) (a := ⟨g, i * 3, none⟩) q).trans h3, (World.cell?_of_block (w := w) (a := ⟨g, i * 3 + 1, none⟩) q).trans h4, (World.cell?_of_block (w := w) (a := ⟨g, i * 3 + 2, none⟩) q).trans h5⟩
/-- the three cells of the result are written: the reader, and all that there was, are as they were -/
theorem set3_keep {w w' : World} {b : Nat} {o : Nat} (h : KeepR b w w') (ho : w.heap.size ≤ o) (x y z : Value) : KeepR b w (((w'.setCell ⟨o, 0, none⟩ x).setCell ⟨o, 1, none⟩ y).setCell ⟨o, 2, none⟩ z) := by
  have hb := ((((Below.refl w.heap.size w').setCell (p := ⟨o, 0, none⟩) ho x).setCell (p := ⟨o, 1, none⟩) ho y).setCell (p := ⟨o, 2, none⟩) ho z)
  exact ⟨hb.os.trans h.os, hb.tape.trans h.tape, hb.output.trans h.output, Nat.le_trans h.size hb.size, fun k h1 h2 => (hb.block k h1).trans (h.block k h1 h2)⟩
theorem set3_other (w : World) (o k : Nat) (x y z : Value) (h : k ≠ o) : (((w.setCell ⟨o, 0, none⟩ x).setCell ⟨o, 1, none⟩ y).setCell ⟨o, 2, none⟩ z).heap[k]? = w.heap[k]? := by
  rw [heap_setCell_other _ _ _ _ h, heap_setCell_other _ _ _ _ h, heap_setCell_other _ _ _ _ h]
theorem set3_size (w : World) (o : Nat) (x y z : Value) : (((w.setCell ⟨o, 0, none⟩ x).setCell ⟨o, 1, none⟩ y).setCell ⟨o, 2, none⟩ z).heap.size = w.heap.size := by rw [size_set, size_set, size_set]
theorem Rdr.set3 {w : World} {b : Nat} {A : Option Addr} {c : Nat} {l rest : List Tok} {sl z m : Nat} (h : Rdr w b A c l rest sl z m) (o : Nat) (hb : b < o) (hA : ∀ g, A = some ⟨g, 0, none⟩ → l ≠ [] → g < o) (x y v : Value) : Rdr (((w.setCell ⟨o, 0, none⟩ x).setCell ⟨o, 1, none⟩ y).setCell ⟨o, 2, none⟩ v) b A c l rest sl z m :=
  h.keepBut (o := o) (fun k _ hk => set3_other w o k x y v hk) (by rw [set3_size]; exact Nat.le_refl _) hb hA
/-- a node without kids -/
theorem exprV_leaf (W : World) (lo z m : Nat) (k i : Int) (h : lo ≤ W.heap.size) : ExprV W lo z m (.node k i []) (nodeV z m k i (.slice none 0 0)) := by
  unfold nodeV ExprV
  by_cases hx : excN z m = 0
  · rw [if_pos hx]
    exact ⟨k, i, none, 0, 0, rfl, fun _ => ⟨rfl, rfl, rfl, ownT_leaf _ _ _ h _ rfl⟩⟩
  · rw [if_neg hx]
    exact ⟨0, 0, none, 0, 0, rfl, fun h => absurd h hx⟩
/-- a node of a list of kids -/
theorem exprV_node {W : World} {lo z m : Nat} {t : Tr} {A : Option Addr} {n c : Nat} (h : excN z m = 0 → n = t.ks.length ∧ OwnT W lo W.heap.size t A c) : ExprV W lo z m t (nodeV z m t.k t.i (.slice A n c)) := by
  unfold nodeV ExprV
  by_cases hx : excN z m = 0
  · rw [if_pos hx]
    exact ⟨_, _, A, n, c, rfl, fun _ => ⟨rfl, rfl, (h hx).1, (h hx).2⟩⟩
  · rw [if_neg hx]
    exact ⟨0, 0, none, 0, 0, rfl, fun h => absurd h hx⟩
/-- the value is the three cells of an expression -/
theorem nodeV_form (z m : Nat) (k i : Int) (A : Option Addr) (n c : Nat) : ∃ x y B p q, nodeV z m k i (.slice A n c) = .agg #[.int .i64 x, .int .i64 y, .slice B p q] := by
  unfold nodeV
  split
  · exact ⟨_, _, _, _, _, rfl⟩
  · exact ⟨_, _, _, _, _, rfl⟩
theorem ExprV.same {W W' : World} {lo z m : Nat} {t : Tr} {v : Value} (h : ExprV W lo z m t v) (hs : ∀ k, lo ≤ k → k < W.heap.size → W'.heap[k]? = W.heap[k]?) (hz : W.heap.size ≤ W'.heap.size) {lo' : Nat} (hl : lo' ≤ lo) : ExprV W' lo' z m t v := by
  obtain ⟨x, y, A, n, c, e, h1⟩ := h
  refine ⟨x, y, A, n, c, e, fun hx => ?_⟩
  obtain ⟨a, b, c', d⟩ := h1 hx
  exact ⟨a, b, c', ((OwnT.same _ hs d).widen hz).lower hl⟩
/-- node, of a tree whose kids are laid -/
theorem node_tree {b : Nat} {A : Option Addr} {c : Nat} {l rest : List Tok} {sl z m lo : Nat} (t : Tr) (A' : Option Addr) (n' c' : Nat) (w : World) (h : Rdr w b A c l rest sl z m) (hv : excN z m = 0 → n' = t.ks.length ∧ OwnT w lo w.heap.size t A' c') :
    Calls Tryd.prog 74 #[.pointer (some ⟨b, 0, none⟩), .int .i64 t.k, .int .i64 t.i, .slice A' n' c'] w fun e w' => Below w.heap.size w w' ∧ ∃ x y B p q, e = .returned (.agg #[.int .i64 x, .int .i64 y, .slice B p q]) ∧ ExprV w' lo z m t (.agg #[.int .i64 x, .int .i64 y, .slice B p q]) := by
  refine (node_any t.k t.i A' n' c' w h).mono ?_
  rintro e w1 ⟨rfl, hb⟩
  obtain ⟨x, y, B, p, q, e⟩ := nodeV_form z m t.k t.i A' n' c'
  have V := (exprV_node hv).same (W' := w1) (fun k _ hk => hb.block k hk) hb.size (Nat.le_refl _)
  rw [e] at V
  exact ⟨hb, x, y, B, p, q, by rw [e], V⟩
set_option maxHeartbeats 8000000 in
set_option maxRecDepth 100000 in
theorem pterm_any : ∀ f, TermC f := by
  intro f
  induction f with
  | zero => intro b A c l rest sl z m d w h; omega
  | succ f ih =>
    intro b A c l rest sl z m d w hf hl hd hz h
    have HT := Lib.hid ih
    have hbw := h.lt
    have HA := Lib.hid (show ∀ g, A = some ⟨g, 0, none⟩ → l ≠ [] → g < w.heap.size from fun g e hne => by
      obtain ⟨g', e', _, h2, _⟩ := h.toks 0 (List.length_pos_iff.2 hne)
      rw [e] at e'
      cases e'
      exact h2)
    have ha : Below w.heap.size w (w.alloc (.cells #[.int .i64 0, .int .i64 0, .slice none 0 0] 24)) := (Below.refl _ _).alloc (Nat.le_refl _) _
    have H0 := Lib.hid (h.keep ha)
    have B0 := Lib.hid (Box3.new w (.int .i64 0) (.int .i64 0) (.slice none 0 0))
    have hz' : z ≤ 1000000 := by omega
    clear h ih
    go_enter Tryd.func55, Tryd.ntmps55
    go_wp2_with fail
    refine (begin_any d _ H0.out hz').mono ?_
    rintro e w1 ⟨rfl, hr1, hk1⟩
    have R1 := Lib.hid hr1
    have K1 := Lib.hid ((KeepR.of_below (b := b) ha).trans hk1)
    have B1 := Lib.hid (B0.out.keepR hk1 (by omega))
    clear hr1 hk1 H0 B0 ha
    go_wp2_with fail
    refine (peek_any w1 R1.out hl).mono ?_
    rintro e w2 ⟨rfl, hb2⟩
    unfold tokV
    have R2 := Lib.hid (R1.out.keep hb2)
    have K2 := Lib.hid (K1.out.trans (KeepR.of_below (b := b) hb2))
    have B2 := Lib.hid (B1.out.keep hb2 B1.out.lt)
    clear hb2 R1 K1 B1
    obtain ⟨t, ht⟩ : ∃ t, t = pkT sl rest := ⟨_, rfl⟩
    rw [← ht]
    have TB := Lib.hid (TBox.new w2 (.int .i64 (t.k : Int)) (.int .i64 (t.n : Int)) (.int .i64 (t.p : Int)))
    have R3 := Lib.hid (R2.out.keep ((Below.refl _ w2).alloc (Nat.le_refl _) (.cells #[.int .i64 (t.k : Int), .int .i64 (t.n : Int), .int .i64 (t.p : Int)] 37)))
    have K3 := Lib.hid (K2.out.trans (KeepR.of_below (b := b) ((Below.refl _ w2).alloc (Nat.le_refl _) (.cells #[.int .i64 (t.k : Int), .int .i64 (t.n : Int), .int .i64 (t.p : Int)] 37))))
    have B3 := Lib.hid (B2.out.keep ((Below.refl _ w2).alloc (Nat.le_refl _) (.cells #[.int .i64 (t.k : Int), .int .i64 (t.n : Int), .int .i64 (t.p : Int)] 37)) B2.out.lt)
    have hne2 : w2.heap.size ≠ b := by have := R2.out.lt; omega
    have hw2 : w.heap.size + 1 ≤ w2.heap.size := B2.out.lt
    clear R2 K2 B2
    by_cases h1 : t.k = 1
    · obtain ⟨r, rfl⟩ : ∃ r, rest = t :: r := by
        cases rest with
        | nil => simp only [pkT] at ht; rw [ht] at h1; cases h1
        | cons x r => simp only [pkT] at ht; exact ⟨r, by rw [ht]⟩
      have P := Lib.hid (show termP (f + 1) (t :: r) = .ok (.node 1 t.n []) r by simp only [termP]; rw [if_pos h1])
      have e1 : ((t.k : Int) == 1) = true := by simp [h1]
      clear h1 ht
      obtain ⟨nx, hn, c1, RT⟩ := R3.out.take hl
      have f1 := R3.out.frozen 1
      have R4 := Lib.hid RT
      have T4 := fun v => (TB.out.keepR (KeepR.set b 1 _ v) hne2).cells.2.1
      have B4 := Lib.hid (fun v => B3.out.keepR (KeepR.set b 1 _ v) (by omega))
      have K4 := Lib.hid (fun v => K3.out.trans (KeepR.set b 1 _ v))
      obtain ⟨t0, t1, t2⟩ := TB.out.cells
      clear RT R3 B3 K3
      go_wp2_with fail
      refine (node_any 1 (t.n : Int) none 0 0 _ R4.out).mono ?_
      rintro e w5 ⟨rfl, hb5⟩
      have EV := Lib.hid (exprV_leaf w5 (w.heap.size + 1) (z + 1) (max m d) 1 (t.n : Int) (by have := hb5.size; rw [size_set] at this; simp at this; omega))
      obtain ⟨x, y, B, p, q, hv⟩ := nodeV_form (z + 1) (max m d) 1 (t.n : Int) none 0 0
      rw [hv] at EV ⊢
      have R5 := Lib.hid (R4.out.keep hb5)
      have K5 := Lib.hid ((K4.out _).trans (KeepR.of_below (b := b) hb5))
      have B5 := (B4.out _).keep hb5 (B4.out _).lt
      obtain ⟨y0, y1, y2⟩ := B5.cells
      have g0 := B5.frozen 0
      have g1 := B5.frozen 1
      have g2 := B5.frozen 2
      clear hb5 hv T4 t0 t1 t2 R4 K4 B4 TB c1 f1
      go_wp2_with fail
      refine bodyPost_ret (v := .agg #[.int .i64 x, .int .i64 y, .slice B p q]) (by simp [results, Tryd.results55, go_sem, y0, y1, y2]) rfl ?_
      rw [P.out]
      refine ⟨set3_keep K5.out (Nat.le_refl _) _ _ _, ?_, _, rfl, ?_⟩
      · have := R5.out.set3 w.heap.size hbw HA.out (.int .i64 x) (.int .i64 y) (.slice B p q)
        simpa [Tr.sz, Tr.ks, szL, dpL] using this
      · have := EV.out.same (W' := ((w5.setCell ⟨w.heap.size, 0, none⟩ (.int .i64 x)).setCell ⟨w.heap.size, 1, none⟩ (.int .i64 y)).setCell ⟨w.heap.size, 2, none⟩ (.slice B p q)) (lo' := w.heap.size) (fun k hk1 _ => ?_) (by rw [set3_size]; exact Nat.le_refl _) (Nat.le_succ _)
        · simpa [Tr.sz, Tr.ks, szL, dpL] using this
        · exact set3_other _ _ _ _ _ _ (by omega)
    · by_cases h2 : t.k = 2
      · obtain ⟨r, rfl⟩ : ∃ r, rest = t :: r := by
          cases rest with
          | nil => simp only [pkT] at ht; rw [ht] at h2; cases h2
          | cons x r => simp only [pkT] at ht; exact ⟨r, by rw [ht]⟩
        have P := Lib.hid (show termP (f + 1) (t :: r) = argsP (termP f) 2 t.n r by simp only [termP]; rw [if_neg h1, if_pos h2])
        have e1 : ((t.k : Int) == 1) = false := by rw [beq_eq_false_iff_ne]; omega
        have e2 : ((t.k : Int) == 2) = true := by simp [h2]
        clear h1 h2 ht
        simp only [List.length_cons] at hf hd hz
        obtain ⟨nx, hn, c1, RT⟩ := R3.out.take hl
        have f1 := R3.out.frozen 1
        have R4 := Lib.hid RT
        have T4 := Lib.hid (fun v => (TB.out.keepR (KeepR.set b 1 _ v) hne2))
        have B4 := Lib.hid (fun v => B3.out.keepR (KeepR.set b 1 _ v) (by omega))
        have K4 := Lib.hid (fun v => K3.out.trans (KeepR.set b 1 _ v))
        obtain ⟨t0, t1, t2⟩ := TB.out.cells
        clear RT R3 B3 K3
        go_wp2_with fail
        clear t0 t1 t2 c1 f1 TB
        have T4 := T4.out (.int .i64 ((nx : Int) + 1))
        have B4 := Lib.hid (B4.out (.int .i64 ((nx : Int) + 1)))
        have K4 := Lib.hid (K4.out (.int .i64 ((nx : Int) + 1)))
        have hs4 : w2.heap.size + 1 ≤ ((w2.alloc (.cells #[.int .i64 (t.k : Int), .int .i64 (t.n : Int), .int .i64 (t.p : Int)] 37)).setCell ⟨b, 1, none⟩ (.int .i64 ((nx : Int) + 1))).heap.size := by rw [size_set]; simp
        generalize (w2.alloc (.cells #[.int .i64 (t.k : Int), .int .i64 (t.n : Int), .int .i64 (t.p : Int)] 37)).setCell ⟨b, 1, none⟩ (.int .i64 ((nx : Int) + 1)) = W4 at R4 T4 B4 K4 hs4 ⊢
        have T' : TBox W4.drew w2.heap.size (.int .i64 (t.k : Int)) (.int .i64 (t.n : Int)) (.int .i64 (t.p : Int)) := T4
        have R' := Lib.hid (show Rdr W4.drew b A c l r sl (z + 1) (max m d) from ⟨R4.out.blk, R4.out.toks, R4.out.ne, R4.out.suf⟩)
        have AC := Lib.hid (args_any f HT.out 2 t.n b A c l r sl (z + 1) (max m d) d W4.drew (by omega) hl (by omega) (by omega) (by omega) R'.out)
        cases hP : argsP (termP f) 2 t.n r with
        | bad r' =>
          rw [hP] at AC
          obtain ⟨t0, t1, t2⟩ := T'.cells
          have kd : KeepR b W4 W4.drew := ⟨rfl, rfl, rfl, Nat.le_refl _, fun _ _ _ => rfl⟩
          have FIN := Lib.hid (show ∀ w5, KeepR b W4.drew w5 → ReadP b A c l sl z m d w (termP (f + 1) (t :: r)) (raised 32 (placeN sl r')) w5 from fun w5 hk => by
            rw [P.out, hP]
            exact ⟨(K4.out.trans kd).trans hk, rfl⟩)
          refine wp_region_any (by kernel_rfl) ?_
          change wpAny _ _ _ _ _ _ _ (World.drew _)
          refine wpAny_take (i := 0) (v := ?_) rfl (by kernel_rfl) (by kernel_rfl) (by kernel_rfl) (fun _ _ _ h => h) (Or.inl ⟨by rfl, by intro w; go_simp; try with_reducible rfl⟩) ?_
          refine wpAny_take (i := 1) (v := ?_) rfl (by kernel_rfl) (by kernel_rfl) (by kernel_rfl) (fun _ _ _ h => h) (Or.inl ⟨by rfl, by intro w; go_simp; try with_reducible rfl⟩) ?_
          refine wpAny_take (i := 3) (v := ?_) rfl (by kernel_rfl) (by kernel_rfl) (by kernel_rfl) (fun _ _ _ h => h) (Or.inl ⟨by rfl, by intro w; go_simp; try with_reducible rfl⟩) ?_
          refine wpAny_take (i := 4) (v := ?_) rfl (by kernel_rfl) (by kernel_rfl) (by kernel_rfl) (fun _ _ _ h => h) (Or.inl ⟨by rfl, by intro w; go_simp; try with_reducible rfl⟩) ?_
          refine wpAny_ready (rs := [2, 5]) (by kernel_rfl) (by simp) ?_
          refine AllReady.cons rfl (fun K hK => ?_) ?_
          · go_simp
            refine hK _ _ ?_
            refine wpAny_ready (rs := [5]) (by kernel_rfl) (by simp) ?_
            refine AllReady.cons rfl (fun K hK => ?_) AllReady.nil
            go_simp
            refine AC.out.mono ?_
            rintro e w5 ⟨hk5, rfl⟩
            exact ⟨rfl, FIN.out w5 hk5⟩
          · refine AllReady.cons rfl (fun K hK => ?_) AllReady.nil
            go_simp
            refine AC.out.mono ?_
            rintro e w5 ⟨hk5, rfl⟩
            exact ⟨rfl, FIN.out w5 hk5⟩
        | ok q r' =>
          obtain ⟨ks, rfl, hks⟩ := argsP_sz (termP_sz f) _ _ _ _ _ hP
          rw [hP] at AC
          have kd : KeepR b W4 W4.drew := ⟨rfl, rfl, rfl, Nat.le_refl _, fun _ _ _ => rfl⟩
          obtain ⟨t0, t1, t2⟩ := T'.cells
          have B' : Box3 W4.drew w.heap.size (.int .i64 0) (.int .i64 0) (.slice none 0 0) := B4.out
          have hs4' : w.heap.size + 1 ≤ W4.drew.heap.size := by show _ ≤ W4.heap.size; omega
          have AC' := Lib.hid (show Calls Tryd.prog 75 #[.pointer (some ⟨b, 0, none⟩), .int .i64 (d : Int)] W4.drew (fun e w5 => KeepR b W4.drew w5 ∧ Rdr w5 b A c l r' sl (z + 1 + szL ks) (max (max m d) (d + dpL ks)) ∧ ∃ A5 n5 c5, e = .returned (.slice A5 n5 c5) ∧ (excN (z + 1 + szL ks) (max (max m d) (d + dpL ks)) = 0 → n5 = (Tr.node 2 t.n ks).ks.length ∧ OwnT w5 W4.drew.heap.size w5.heap.size (.node 2 t.n ks) A5 c5)) from AC.out)
          clear AC
          go_region_with (first
            | (go_at_call 75; refine AC'.out.mono ?_; rintro e w5 ⟨hk5, hr5, A5, n5, c5, rfl, hv5⟩; obtain ⟨s0, s1, s2⟩ := (T'.keepR hk5 hne2).cells; have K5 := Lib.hid ((K4.out.trans kd).trans hk5); have B5 := Lib.hid (B'.keepR hk5 (by omega)); have NT := Lib.hid (node_tree (.node 2 t.n ks) A5 n5 c5 w5 hr5 hv5); have R5 := Lib.hid hr5; clear hk5 hr5 hv5)
            | (go_at_call 74; refine NT.out.mono ?_; rintro e w6 ⟨hb6, x, y, B, p, q', rfl, hV⟩; have R6 := Lib.hid (R5.out.keep hb6); have K6 := Lib.hid (K5.out.trans (KeepR.of_below (b := b) hb6)); have b6 := B5.out.keep hb6 B5.out.lt; obtain ⟨y0, y1, y2⟩ := b6.cells; have g0 := b6.frozen 0; have g1 := b6.frozen 1; have g2 := b6.frozen 2; have V6 := Lib.hid hV; clear hb6 hV b6))
          all_goals go_wp2_with fail
          all_goals refine bodyPost_ret (v := .agg #[.int .i64 x, .int .i64 y, .slice B p q']) (by simp [results, Tryd.results55, go_sem, y0, y1, y2]) rfl ?_
          all_goals rw [P.out, hP]
          all_goals refine ⟨set3_keep K6.out (Nat.le_refl _) _ _ _, ?_, _, rfl, ?_⟩
          all_goals rw [show z + (Tr.node ((2 : Nat) : Int) t.n ks).sz = z + 1 + szL ks by simp only [Tr.sz]; omega, show max m (d + dpL (Tr.node ((2 : Nat) : Int) t.n ks).ks) = max (max m d) (d + dpL ks) by simp only [Tr.ks]; omega]
          all_goals first
            | exact R6.out.set3 w.heap.size hbw HA.out (.int .i64 x) (.int .i64 y) (.slice B p q')
            | exact V6.out.same (fun k hk1 _ => set3_other _ _ _ _ _ _ (by omega)) (by rw [set3_size]; exact Nat.le_refl _) (by omega)
      · have P := Lib.hid (show termP (f + 1) rest = .bad rest by
          cases rest with
          | nil => rfl
          | cons x r => simp only [pkT] at ht; subst ht; simp only [termP]; rw [if_neg h1, if_neg h2])
        have e1 : ((t.k : Int) == 1) = false := by rw [beq_eq_false_iff_ne]; omega
        have e2 : ((t.k : Int) == 2) = false := by rw [beq_eq_false_iff_ne]; omega
        clear h1 h2 ht
        go_wp2_with fail
        refine (refusal_any _ R3.out hl).mono ?_
        rintro e w4 ⟨rfl, hb4⟩
        go_wp2_with fail
        refine ⟨rfl, ?_⟩
        rw [P.out]
        exact ⟨K3.out.trans (KeepR.of_below hb4), rfl⟩
end Go.Proofs.YtgnfbhemkombaaaDoor
