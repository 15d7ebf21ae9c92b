/- The law RuleBuilds, walked. -/
import Derived.Test.YtjdhmfpkhijkeaaKB
import Derived.Test.YtjdhmfpkhijkeaaKD
import Derived.Test.YtjdhmfpkhijkeaaFT
import Derived.Test.YtjdhmfpkhijkeaaBX
import Derived.Lib.QuietBelow
import Derived.BigQuiet
namespace Go.Proofs.Ytjdhmfpkhijkeaa
open Go.RowKit Go.Sort
set_option linter.unusedVariables false
set_option linter.unusedSimpArgs false
theorem cdetach_to (a b t : Tr) (f : Nat) (h : detR a b = (t, f)) (A B : Option Addr) (c d : Nat) (w : World) (ha : IsT w w.heap.size a A c) (hb : IsT w w.heap.size b B d) :
    Calls Try.prog 35 #[.agg #[.int .i64 a.k, .int .i64 a.i, .slice A a.ks.length c], .agg #[.int .i64 b.k, .int .i64 b.i, .slice B b.ks.length d]] w fun e w' => Below w.heap.size w w' ∧ ∃ A' c', IsT w' w'.heap.size t A' c' ∧ e = .returned (.tuple #[.agg #[.int .i64 t.k, .int .i64 t.i, .slice A' t.ks.length c'], .int .i64 (f : Int)]) := by
  have := cdetach_any a b A B c d w ha hb
  rw [h] at this
  exact this
theorem cgen_to (a t : Tr) (x : Int) (f : Nat) (h : genR a x = (t, f)) (A : Option Addr) (c : Nat) (w : World) (ha : IsT w w.heap.size a A c) :
    Calls Try.prog 37 #[.agg #[.int .i64 a.k, .int .i64 a.i, .slice A a.ks.length c], .int .i64 x] w fun e w' => Below w.heap.size w w' ∧ ∃ A' c', IsT w' w'.heap.size t A' c' ∧ e = .returned (.tuple #[.agg #[.int .i64 t.k, .int .i64 t.i, .slice A' t.ks.length c'], .int .i64 (f : Int)]) := by
  have := cgen_any a x A c w ha
  rw [h] at this
  exact this
theorem like_too (a b : Tr) (v : Bool) (h : likeB a b = v) (A B : Option Addr) (c d : Nat) (w : World) (ha : IsT w w.heap.size a A c) (hb : IsT w w.heap.size b B d) :
    Calls Try.prog 16 #[.agg #[.int .i64 a.k, .int .i64 a.i, .slice A a.ks.length c], .agg #[.int .i64 b.k, .int .i64 b.i, .slice B b.ks.length d]] w fun e w' => e = .returned (.bool v) ∧ Below w.heap.size w w' := by
  have := like_any a b A B c d w ha hb
  rw [h] at this
  exact this
theorem right_too (t : Tr) (n : Nat) (h : rightN t = n) (A : Option Addr) (c : Nat) (w : World) (ht : IsT w w.heap.size t A c) :
    Calls Try.prog 20 #[.agg #[.int .i64 t.k, .int .i64 t.i, .slice A t.ks.length c]] w fun e w' => e = .returned (.int .i64 (n : Int)) ∧ Below w.heap.size w w' := by
  have := rright_any t A c w ht
  rw [h] at this
  exact this
theorem size_too (t : Tr) (h : t.sz ≤ 1000) (A : Option Addr) (c : Nat) (w : World) (ht : IsT w w.heap.size t A c) :
    Calls Try.prog 40 #[.agg #[.int .i64 t.k, .int .i64 t.i, .slice A t.ks.length c]] w fun e w' => e = .returned (.int .i64 (t.sz : Int)) ∧ Below w.heap.size w w' := by
  have := rsize_any t A c w ht
  rwa [show min t.sz 1001 = t.sz by omega] at this
theorem depth_too (t : Tr) (h : t.dp ≤ 100) (A : Option Addr) (c : Nat) (w : World) (ht : IsT w w.heap.size t A c) :
    Calls Try.prog 41 #[.agg #[.int .i64 t.k, .int .i64 t.i, .slice A t.ks.length c]] w fun e w' => e = .returned (.int .i64 (t.dp : Int)) ∧ Below w.heap.size w w' := by
  have := rdepth_any t A c w ht
  rwa [show min t.dp 101 = t.dp by omega] at this
theorem like_comm8 (a b : Tr) : likeB a b = likeB b a := by
  unfold likeB
  have h : cmpT a b = 0 ↔ cmpT b a = 0 := by rw [cmpT_zero, cmpT_zero]; exact eq_comm
  by_cases h1 : cmpT a b = 0
  · rw [decide_eq_true h1, decide_eq_true (h.1 h1)]
  · rw [decide_eq_false h1, decide_eq_false (fun h2 => h1 (h.2 h2))]
theorem rFB_two {t : Tr} (h : rFB t = true) : rightN t = 0 ∧ termB t.k = false := by
  unfold rFB at h
  simpa using h
/-- what the law leans on -/
structure BD8 (a b : Tr) (x : Int) : Prop where
  d1 : detR a (.node 6 0 [a, b]) = (b, 0)
  d2 : detR b (.node 6 0 [a, b]) = if likeB a b = true then (b, 0) else (zeroT, 80)
  g : genR b x = if genF b ≠ 0 then (zeroT, genF b) else (allT x b, 0)
  f : genF b = 0 ∨ (genF b = 20 ∧ b.sz = 1000) ∨ (genF b = 21 ∧ b.dp = 100)
  fr : hasN (freeT (allT x b)) x = false
theorem bd8 {a b : Tr} {x : Int} (ha : rFB a = true) (hb : rFB b = true) (hx : 0 ≤ x ∧ x ≤ 63) (ho : rightN (.node 6 0 [a, b]) = 0) : BD8 a b x := by
  obtain ⟨ra, ta⟩ := rFB_two ha
  obtain ⟨rb, tb⟩ := rFB_two hb
  have hF : ∀ t : Tr, rightN t = 0 → termB t.k = false → isFB t = true := fun t h1 h2 => by rw [isFB_form h1, h2]; rfl
  have hform : ∀ t : Tr, rightN t = 0 → termB t.k = false → formsN [t, .node 6 0 [a, b]] = 0 := fun t h1 h2 => by
    unfold formsN
    have e : firstL [t, .node 6 0 [a, b]] = 0 := by rw [firstL_two]; unfold firstN; rw [if_neg (by rw [h1]; simp), ho]
    rw [if_neg (show ¬ firstL [t, .node 6 0 [a, b]] ≠ 0 by rw [e]; simp), if_pos]
    show (isFB t && (isFB (.node 6 0 [a, b]) && true)) = true
    rw [hF t h1 h2, hF _ ho (by rfl)]
    rfl
  have hw : wantFN b = 0 := by unfold wantFN; rw [if_pos rb, tb]; rfl
  refine ⟨?_, ?_, ?_, ?_, ?_⟩
  · unfold detR
    rw [if_neg (by rw [hform a ra ta]; simp), if_pos]
    · rfl
    · exact ⟨rfl, like_same8 a⟩
  · unfold detR
    rw [if_neg (by rw [hform b rb tb]; simp)]
    have e : likeB b ((Tr.node 6 0 [a, b]).ks.getD 0 default) = likeB a b := by rw [like_comm8 a b]; rfl
    rw [e]
    by_cases h : likeB a b = true
    · rw [if_pos ⟨rfl, h⟩, if_pos h]; rfl
    · rw [if_neg (fun h' => h h'.2), if_neg h]
  · unfold genR
    rw [if_neg (by omega), if_neg (by rw [hw]; simp)]
  · obtain ⟨s, d, _⟩ := right_parts rb
    unfold genF
    by_cases h1 : 1000 < 1 + b.sz
    · rw [if_pos h1]; exact .inr (.inl ⟨rfl, by omega⟩)
    · rw [if_neg h1]
      by_cases h2 : 100 < 1 + b.dp
      · rw [if_pos h2]; exact .inr (.inr ⟨rfl, by omega⟩)
      · rw [if_neg h2]; exact .inl rfl
  · rw [fre_node, if_neg (by omega), if_pos (by omega), hasN_bit hx.1 hx.2, tb_without _ _ _ (freeL_U _), inI_self hx.1 hx.2]
    simp
set_option maxHeartbeats 40000000 in
set_option maxRecDepth 100000 in
theorem builds8_law (a b : Tr) (x : Int) (A A' : Option Addr) (c c' : Nat) (w : World) (ha : IsT w w.heap.size a A c) (hb : IsT w w.heap.size b A' c') :
    Calls Try.prog 13 #[.agg #[.int .i64 a.k, .int .i64 a.i, .slice A a.ks.length c], .agg #[.int .i64 b.k, .int .i64 b.i, .slice A' b.ks.length c'], .int .i64 x] w fun e w' => e = .returned (.bool true) ∧ Below w.heap.size w w' := by
  have FA := Lib.hid (IsT.fit a ha)
  have FB := Lib.hid (IsT.fit b hb)
  have E0 := Lib.hid (env2 ha hb)
  obtain ⟨b0, b1, b2⟩ := E0.out.cells (w.heap.size + 1) b A' c' (by simp)
  obtain ⟨a0, a1, a2⟩ := E0.out.cells w.heap.size a A c (by simp)
  clear ha hb
  go_enter Try.func13, Try.ntmps13
  go_wp2_with fail
  refine (risform_any a A c _ (by exact E0.out.tree w.heap.size a A c (by simp))).mono ?_
  rintro e w1 ⟨rfl, hb1⟩
  have E1 := Lib.hid (E0.out.keep hb1)
  clear hb1 a0 a1 a2 b0 b1 b2 E0
  obtain ⟨b0, b1, b2⟩ := E1.out.cells (w.heap.size + 1) b A' c' (by simp)
  cases hA : rFB a with
  | false =>
    go_wp2_with fail
    go_ret
    exact ⟨rfl, E1.out.below⟩
  | true =>
    have HA := Lib.hid hA
    clear hA
    go_wp2_with fail
    refine (risform_any b A' c' _ (by exact E1.out.tree (w.heap.size + 1) b A' c' (by simp))).mono ?_
    rintro e w2 ⟨rfl, hb2⟩
    have E2 := Lib.hid (E1.out.keep hb2)
    clear hb2 b0 b1 b2 E1
    cases hB : rFB b with
    | false =>
      go_wp2_with fail
      go_ret
      exact ⟨rfl, E2.out.below⟩
    | true =>
      have HB := Lib.hid hB
      clear hB
      by_cases hlo : x < 0
      · go_wp2_with fail
        go_ret
        exact ⟨rfl, E2.out.below⟩
      · by_cases hhi : 63 < x
        · go_wp2_with fail
          go_ret
          exact ⟨rfl, E2.out.below⟩
        · have HX := Lib.hid (show 0 ≤ x ∧ x ≤ 63 by omega)
          have Ba2 := Lib.hid (E2.out.bts (w.heap.size, a, A, c) (by simp))
          have Bb2 := Lib.hid (E2.out.bts (w.heap.size + 1, b, A', c') (by simp))
          have LL2 := Lib.hid E2.out.below
          have ba0 := Ba2.out.c0
          have ba1 := Ba2.out.c1
          have ba2 := Ba2.out.c2
          have bb0 := Bb2.out.c0
          have bb1 := Bb2.out.c1
          have bb2 := Bb2.out.c2
          clear E2
          go_wp2_with fail
          have hs2 : w.heap.size + 2 ≤ w2.heap.size := by have := block_lt_of_cell Bb2.out.c0; simp at this; omega
          have SK := Lib.hid (show ∀ X : World, Below w2.heap.size w2 X → (X.cell? ⟨w.heap.size, 0, none⟩ = some (.int .i64 a.k) ∧ X.cell? ⟨w.heap.size, 1, none⟩ = some (.int .i64 a.i) ∧ X.cell? ⟨w.heap.size, 2, none⟩ = some (.slice A a.ks.length c)) ∧ (X.cell? ⟨w.heap.size + 1, 0, none⟩ = some (.int .i64 b.k) ∧ X.cell? ⟨w.heap.size + 1, 1, none⟩ = some (.int .i64 b.i) ∧ X.cell? ⟨w.heap.size + 1, 2, none⟩ = some (.slice A' b.ks.length c')) from fun X hX => by
            have p := Ba2.out.keep hX
            have q := Bb2.out.keep hX
            exact ⟨⟨p.c0, p.c1, p.c2⟩, q.c0, q.c1, q.c2⟩)
          have TK := Lib.hid (show ∀ X : World, Below w2.heap.size w2 X → IsT X X.heap.size a A c ∧ IsT X X.heap.size b A' c' from fun X hX => ⟨(Ba2.out.keep hX).tree, (Bb2.out.keep hX).tree⟩)
          clear ba0 ba1 ba2 bb0 bb1 bb2
          go_region_held3 (fun w' => (w'.cell? ⟨w.heap.size, 0, none⟩ = some (.int .i64 a.k) ∧ w'.cell? ⟨w.heap.size, 1, none⟩ = some (.int .i64 a.i) ∧ w'.cell? ⟨w.heap.size, 2, none⟩ = some (.slice A a.ks.length c)) ∧ (w'.cell? ⟨w.heap.size + 1, 0, none⟩ = some (.int .i64 b.k) ∧ w'.cell? ⟨w.heap.size + 1, 1, none⟩ = some (.int .i64 b.i) ∧ w'.cell? ⟨w.heap.size + 1, 2, none⟩ = some (.slice A' b.ks.length c')))
            (first
              | with_reducible exact SK.out _ ((Below.refl _ _).drew)
              | with_reducible exact SK.out _ ((alB _ _).drew)
              | with_reducible exact SK.out _ hw3
              | with_reducible exact SK.out _ hw4
              | with_reducible exact SK.out _ (hw3.alloc hw3.size _)
              | with_reducible exact SK.out _ (hw4.alloc hw4.size _)
              | exact SK.out _ ((hw4.alloc hw4.size _).alloc (Nat.le_trans hw4.size (by simp)) _)
              | exact SK.out _ (below_set3 (hw4.alloc hw4.size _) _ _ _ (by first | exact Nat.le_refl _ | exact hw3.size)))
            (first
              | (go_at_call_of 29 (Value.slice A (Tr.ks a).length c); refine (copy_any a.sz a A c _ (Nat.le_refl _) (by first | exact (TK.out _ ((Below.refl _ _).drew)).1 | exact (TK.out _ ((alB _ _).drew)).1)).mono ?_; rintro e w3 ⟨A2, c2, rfl, hoa, hba⟩; have hw3 : Below w2.heap.size w2 w3 := (by first | exact ((Below.refl w2.heap.size w2).drew).trans hba | exact ((alB w2 _).drew).trans (hba.mono (by simp))); have hz3 := hw3.size; (first | (have zb : Box3 w3 w2.heap.size (.int .i64 0) (.int .i64 0) (.slice none 0 0) := (hba.block _ (by simp)).trans (Box3.new w2 _ _ _)) | skip); (first | (rw [drew_sz, World.size_alloc] at hoa; obtain ⟨la, hla, hOA⟩ : ∃ la, la = w2.heap.size + 1 ∧ OwnT w3 la w3.heap.size a A2 c2 := ⟨_, rfl, hoa⟩) | (obtain ⟨la, hla, hOA⟩ : ∃ la, la = w2.heap.size ∧ OwnT w3 la w3.heap.size a A2 c2 := ⟨_, rfl, hoa⟩)); have OA := Lib.hid hOA; clear hoa hba hOA)
              | (go_at_call_of 29 (Value.slice A' (Tr.ks b).length c'); refine (copy_any b.sz b A' c' _ (Nat.le_refl _) (by first | exact (TK.out _ hw3).2 | exact (TK.out _ (hw3.alloc hw3.size _)).2)).mono ?_; rintro e w4 ⟨A3, c3, rfl, hob, hbb⟩; have hw4 : Below w2.heap.size w2 w4 := (by first | exact hw3.trans (hbb.mono hw3.size) | exact (hw3.alloc hw3.size _).trans (hbb.mono (Nat.le_trans hw3.size (by simp)))); have hz4 : w3.heap.size ≤ w4.heap.size := (by first | exact hbb.size | exact Nat.le_trans (by simp) hbb.size); (first | (rw [World.size_alloc] at hob; obtain ⟨lb, hlb, hOB⟩ : ∃ lb, lb = w3.heap.size + 1 ∧ OwnT w4 lb w4.heap.size b A3 c3 := ⟨_, rfl, hob⟩) | (obtain ⟨lb, hlb, hOB⟩ : ∃ lb, lb = w3.heap.size ∧ OwnT w4 lb w4.heap.size b A3 c3 := ⟨_, rfl, hob⟩)); have OB := Lib.hid hOB; clear hOB; (first | (have zb : Box3 w4 w3.heap.size (.int .i64 0) (.int .i64 0) (.slice none 0 0) := (hbb.block _ (by simp)).trans (Box3.new w3 _ _ _)) | (replace zb := zb.keep hbb zb.lt) | skip); have o34 : ∀ k, k < w3.heap.size → w4.heap[k]? = w3.heap[k]? := (by first | exact fun k hk => hbb.block k hk | exact fun k hk => (hbb.block k (by simp; omega)).trans (Below.heap_alloc _ _ _ hk)); have OA4 := Lib.hid (OwnT.same _ (fun k _ k2 => o34 k k2) OA.out); (try (have zc0 := fun o => (zb.keep (alB w4 o) zb.lt).cells.1; have zc1 := fun o => (zb.keep (alB w4 o) zb.lt).cells.2.1; have zc2 := fun o => (zb.keep (alB w4 o) zb.lt).cells.2.2; have zf0 := fun o => (zb.keep (alB w4 o) zb.lt).frozen 0; have zf1 := fun o => (zb.keep (alB w4 o) zb.lt).frozen 1; have zf2 := fun o => (zb.keep (alB w4 o) zb.lt).frozen 2)); clear hob hbb o34))
          · with_reducible change Exit.then _ _ Exit.normal _ ((w4.alloc (.cells #[.int .i64 a.k, .int .i64 a.i, .slice A2 a.ks.length c2, .int .i64 b.k, .int .i64 b.i, .slice A3 b.ks.length c3] 24)).alloc (.cells #[.int .i64 6, .int .i64 0, .slice (some ⟨w4.heap.size, 0, none⟩) 2 2] 24))
            have ia : IsT ((w4.alloc (.cells #[.int .i64 a.k, .int .i64 a.i, .slice A2 a.ks.length c2, .int .i64 b.k, .int .i64 b.i, .slice A3 b.ks.length c3] 24)).alloc (.cells #[.int .i64 6, .int .i64 0, .slice (some ⟨w4.heap.size, 0, none⟩) 2 2] 24)) ((w4.alloc (.cells #[.int .i64 a.k, .int .i64 a.i, .slice A2 a.ks.length c2, .int .i64 b.k, .int .i64 b.i, .slice A3 b.ks.length c3] 24)).alloc (.cells #[.int .i64 6, .int .i64 0, .slice (some ⟨w4.heap.size, 0, none⟩) 2 2] 24)).heap.size a A2 c2 := ownIs OA4.out (fun k k1 k2 => al2_far _ _ _ (by omega)) (by first | (simp; omega) | (simp; done)) FA.out
            have ib : IsT ((w4.alloc (.cells #[.int .i64 a.k, .int .i64 a.i, .slice A2 a.ks.length c2, .int .i64 b.k, .int .i64 b.i, .slice A3 b.ks.length c3] 24)).alloc (.cells #[.int .i64 6, .int .i64 0, .slice (some ⟨w4.heap.size, 0, none⟩) 2 2] 24)) ((w4.alloc (.cells #[.int .i64 a.k, .int .i64 a.i, .slice A2 a.ks.length c2, .int .i64 b.k, .int .i64 b.i, .slice A3 b.ks.length c3] 24)).alloc (.cells #[.int .i64 6, .int .i64 0, .slice (some ⟨w4.heap.size, 0, none⟩) 2 2] 24)).heap.size b A3 c3 := ownIs OB.out (fun k k1 k2 => al2_far _ _ _ (by omega)) (by first | (simp; done) | (simp; omega)) FB.out
            have BC := Lib.hid (show Bt ((w4.alloc (.cells #[.int .i64 a.k, .int .i64 a.i, .slice A2 a.ks.length c2, .int .i64 b.k, .int .i64 b.i, .slice A3 b.ks.length c3] 24)).alloc (.cells #[.int .i64 6, .int .i64 0, .slice (some ⟨w4.heap.size, 0, none⟩) 2 2] 24)) (w4.heap.size + 1) (.node 6 0 [a, b]) (some ⟨w4.heap.size, 0, none⟩) 2 from (by have q := Bt.new (W := w4.alloc (.cells #[.int .i64 a.k, .int .i64 a.i, .slice A2 a.ks.length c2, .int .i64 b.k, .int .i64 b.i, .slice A3 b.ks.length c3] 24)) (t := .node 6 0 [a, b]) (A := some ⟨w4.heap.size, 0, none⟩) (c := 2) (isT_two2 (new_at w4 _) (ownIs OA4.out (fun k k1 k2 => Below.heap_alloc _ _ _ (by omega)) (by first | (simp; omega) | (simp; done)) FA.out) (ownIs OB.out (fun k k1 k2 => Below.heap_alloc _ _ _ (by omega)) (by first | (simp; done) | (simp; omega)) FB.out)); rw [World.size_alloc] at q; exact q))
            have LW := Lib.hid (show Below w2.heap.size w2 ((w4.alloc (.cells #[.int .i64 a.k, .int .i64 a.i, .slice A2 a.ks.length c2, .int .i64 b.k, .int .i64 b.i, .slice A3 b.ks.length c3] 24)).alloc (.cells #[.int .i64 6, .int .i64 0, .slice (some ⟨w4.heap.size, 0, none⟩) 2 2] 24)) from ((hw4.alloc hw4.size _).alloc (Nat.le_trans hw4.size (by simp)) _))
            clear ia ib
            generalize ((w4.alloc (.cells #[.int .i64 a.k, .int .i64 a.i, .slice A2 a.ks.length c2, .int .i64 b.k, .int .i64 b.i, .slice A3 b.ks.length c3] 24)).alloc (.cells #[.int .i64 6, .int .i64 0, .slice (some ⟨w4.heap.size, 0, none⟩) 2 2] 24)) = W5 at BC LW ⊢
            generalize (some ⟨w4.heap.size, 0, none⟩ : Option Addr) = A5 at BC ⊢
            generalize w4.heap.size + 1 = g5 at BC ⊢
            have E5 := Lib.hid (show Env w W5 [(g5, .node 6 0 [a, b], A5, 2), (w.heap.size + 1, b, A', c'), (w.heap.size, a, A, c)] from ⟨LL2.out.trans (LW.out.mono LL2.out.size), fun y hy => by
              simp only [List.mem_cons, List.mem_nil_iff, or_false] at hy
              rcases hy with rfl | rfl | rfl
              · exact BC.out
              · exact Bb2.out.keep LW.out
              · exact Ba2.out.keep LW.out⟩)
            have BM := Lib.hid (fun h => bd8 (a := a) (b := b) (x := x) HA.out HB.out HX.out h)
            obtain ⟨q, hq⟩ : ∃ q, q = Tr.node 6 0 [a, b] := ⟨_, rfl⟩
            have DB := Lib.hid (show rightN q = 0 → detR a q = (b, 0) ∧ detR b q = (if likeB a b = true then (b, 0) else (zeroT, 80)) from fun h => by rw [hq] at h ⊢; exact ⟨(BM.out h).d1, (BM.out h).d2⟩)
            have GB := Lib.hid (show rightN q = 0 → (genR b x = if genF b ≠ 0 then (zeroT, genF b) else (allT x b, 0)) ∧ (genF b = 0 ∨ (genF b = 20 ∧ b.sz = 1000) ∨ (genF b = 21 ∧ b.dp = 100)) ∧ hasN (freeT (allT x b)) x = false from fun h => by rw [hq] at h; exact ⟨(BM.out h).g, (BM.out h).f, (BM.out h).fr⟩)
            have RB := Lib.hid (right_parts (rFB_two HB.out).1)
            rw [← hq] at E5
            clear BC LW Ba2 Bb2 LL2 BM hq
            obtain ⟨x0, x1, x2⟩ := E5.out.cells g5 q A5 2 (by simp)
            obtain ⟨r, hr⟩ : ∃ r, rightN q = r := ⟨_, rfl⟩
            go_wp2_with fail
            refine (right_too q r hr A5 2 _ (by exact E5.out.tree g5 q A5 2 (by simp))).mono ?_
            rintro e W6 ⟨rfl, hb6⟩
            have E6 := Lib.hid (E5.out.keep hb6)
            clear hb6 x0 x1 x2 E5
            by_cases h0 : r = 0
            · have D := Lib.hid (DB.out (by rw [hr, h0]))
              have G := Lib.hid (GB.out (by rw [hr, h0]))
              subst h0
              clear hr DB GB
              obtain ⟨x0, x1, x2⟩ := E6.out.cells g5 q A5 2 (by simp)
              obtain ⟨a0, a1, a2⟩ := E6.out.cells w.heap.size a A c (by simp)
              go_wp2_with fail
              refine (cdetach_to a q b 0 D.out.1 A A5 c 2 _ (by exact E6.out.tree w.heap.size a A c (by simp)) (by exact E6.out.tree g5 q A5 2 (by simp))).mono ?_
              rintro e W7 ⟨hb7, C7, c7, i7, rfl⟩
              have E7 := Lib.hid ((E6.out.keep hb7).push i7)
              clear hb7 i7 x0 x1 x2 a0 a1 a2 E6
              obtain ⟨x0, x1, x2⟩ := E7.out.cells W7.heap.size b C7 c7 (by simp)
              obtain ⟨b0, b1, b2⟩ := E7.out.cells (w.heap.size + 1) b A' c' (by simp)
              go_wp2_with fail
              refine (like_too b b true (like_same8 b) C7 A' c7 c' _ (by exact E7.out.tree W7.heap.size b C7 c7 (by simp)) (by exact E7.out.tree (w.heap.size + 1) b A' c' (by simp))).mono ?_
              rintro e W8 ⟨rfl, hb8⟩
              have E8 := Lib.hid (E7.out.keep hb8)
              clear hb8 x0 x1 x2 b0 b1 b2 E7
              obtain ⟨x0, x1, x2⟩ := E8.out.cells g5 q A5 2 (by simp)
              obtain ⟨b0, b1, b2⟩ := E8.out.cells (w.heap.size + 1) b A' c' (by simp)
              cases hv : likeB a b with
              | true =>
                have D2 := Lib.hid (show detR b q = (b, 0) by rw [D.out.2, if_pos hv])
                go_wp2_with fail
                refine (cdetach_to b q b 0 D2.out A' A5 c' 2 _ (by exact E8.out.tree (w.heap.size + 1) b A' c' (by simp)) (by exact E8.out.tree g5 q A5 2 (by simp))).mono ?_
                rintro e W9 ⟨hb9, C9, c9, i9, rfl⟩
                have E9 := Lib.hid ((E8.out.keep hb9).push i9)
                clear hb9 i9 x0 x1 x2 b0 b1 b2 E8
                obtain ⟨a0, a1, a2⟩ := E9.out.cells w.heap.size a A c (by simp)
                obtain ⟨b0, b1, b2⟩ := E9.out.cells (w.heap.size + 1) b A' c' (by simp)
                go_wp2_with fail
                refine (like_too a b true hv A A' c c' _ (by exact E9.out.tree w.heap.size a A c (by simp)) (by exact E9.out.tree (w.heap.size + 1) b A' c' (by simp))).mono ?_
                rintro e W10 ⟨rfl, hb10⟩
                have E10 := Lib.hid (E9.out.keep hb10)
                clear hb10 a0 a1 a2 b0 b1 b2 E9 hv
                obtain ⟨b0, b1, b2⟩ := E10.out.cells (w.heap.size + 1) b A' c' (by simp)
                rcases G.out.2.1 with hg | ⟨hg, hs⟩ | ⟨hg, hd⟩
                · have DD := Lib.hid (show ∃ dd, dd = allT x b from ⟨_, rfl⟩)
                  obtain ⟨dd, hdd⟩ := DD.out
                  have DK := Lib.hid hdd
                  have DL := Lib.hid (show dd.ks.length = 1 by rw [hdd]; rfl)
                  have GD := Lib.hid (show genR b x = (dd, 0) by rw [G.out.1, if_neg (by rw [hg]; simp), hdd])
                  have FD := Lib.hid (show hasN (freeT dd) x = false by rw [hdd]; exact G.out.2.2)
                  clear hdd DD hg
                  go_wp2_with fail
                  refine (cgen_to b dd x 0 GD.out A' c' _ (by exact E10.out.tree (w.heap.size + 1) b A' c' (by simp))).mono ?_
                  rintro e W11 ⟨hb11, D11, c11, i11, rfl⟩
                  have E11 := Lib.hid ((E10.out.keep hb11).push i11)
                  clear hb11 i11 b0 b1 b2 E10
                  have nb := W11.heap.size
                  go_wp2_with fail
                  generalize hW : (W11.alloc (.cells #[.int .i64 dd.k, .int .i64 dd.i, .slice D11 dd.ks.length c11] 24)) = W at E11 ⊢
                  clear hW
                  obtain ⟨b0, b1, b2⟩ := E11.out.cells (w.heap.size + 1) b A' c' (by simp)
                  obtain ⟨d0, d1, d2⟩ := E11.out.cells W11.heap.size dd D11 c11 (by simp)
                  rw [DL.out] at d2
                  obtain ⟨kg, ko, Kb, kc, rfl, hkg, kcel, ktree, hkc⟩ := kidsA1 (show IsT W W.heap.size (.node 7 x [b]) D11 c11 by rw [← show dd = Tr.node 7 x [b] from DK.out]; exact E11.out.tree W11.heap.size dd D11 c11 (by simp))
                  obtain ⟨k0, k1, k2⟩ := kcel
                  have b0' := cell_regrown b0
                  have b1' := cell_regrown b1
                  have b2' := cell_regrown b2
                  have d0' := cell_regrown d0
                  have d1' := cell_regrown d1
                  have d2' := cell_regrown d2
                  have k0' := cell_regrown k0
                  have k1' := cell_regrown k1
                  have k2' := cell_regrown k2
                  have KT := Lib.hid ktree
                  have IF := Lib.hid (show ∀ d os, Calls Try.prog 25 #[.int .i64 x, .agg #[.int .i64 dd.k, .int .i64 dd.i, .slice (some ⟨kg, ko, none⟩) 1 c11]] (grow (redrawn W d) os) fun e w'' => e = .returned (.bool false) ∧ ∃ p : Regrown, w'' = grow (redrawn W p.d) p.os from fun d os => Calls.regrown_of (by
                    have := risfree_any x dd (some ⟨kg, ko, none⟩) c11 (grow (redrawn W d) os) ((E11.out.keep (below_regrown W d os)).tree W11.heap.size dd (some ⟨kg, ko, none⟩) c11 (by simp))
                    rw [DL.out, FD.out] at this
                    exact this))
                  have LK := Lib.hid (show ∀ d os, Calls Try.prog 16 #[.agg #[.int .i64 b.k, .int .i64 b.i, .slice Kb b.ks.length kc], .agg #[.int .i64 b.k, .int .i64 b.i, .slice A' b.ks.length c']] (grow (redrawn W d) os) fun e w'' => e = .returned (.bool true) ∧ ∃ p : Regrown, w'' = grow (redrawn W p.d) p.os from fun d os => Calls.regrown_of
                    (like_too b b true (like_same8 b) Kb A' kc c' _ (KT.out.keep (below_regrown W d os) (below_regrown W d os).size) ((E11.out.keep (below_regrown W d os)).tree (w.heap.size + 1) b A' c' (by simp))))
                  clear b0 b1 b2 d0 d1 d2 k0 k1 k2 ktree
                  refine wp_region_quiet_below (by kernel_rfl) (by kernel_rfl) ?_
                  repeat (go_big_quiet_step (first | with_reducible exact IF.out _ _ | with_reducible exact LK.out _ _))
                  refine wpQuiet_nil ?_
                  intro w5 hw'
                  obtain ⟨⟨dq, osq⟩, hw''⟩ := hw'
                  have hb5 := below_regrown W dq osq
                  rw [← hw''] at hb5
                  have E12 := Lib.hid (E11.out.keep hb5)
                  clear hw'' hb5
                  go_wp2_with fail
                  go_ret
                  exact ⟨rfl, E12.out.below⟩
                · have hs' : (((b.sz : Nat) : Int) == 1000) = true := by simp; omega
                  go_wp2_with fail
                  refine (cgen_to b zeroT x 20 (by rw [G.out.1]; rw [if_pos (by rw [hg]; simp), hg]) A' c' _ (by exact E10.out.tree (w.heap.size + 1) b A' c' (by simp))).mono ?_
                  rintro e W11 ⟨hb11, D11, c11, i11, rfl⟩
                  have E11 := Lib.hid ((E10.out.keep hb11).push i11)
                  clear hb11 i11 b0 b1 b2 E10
                  obtain ⟨b0, b1, b2⟩ := E11.out.cells (w.heap.size + 1) b A' c' (by simp)
                  go_wp2_with fail
                  refine (depth_too b RB.out.2.1 A' c' _ (by exact E11.out.tree (w.heap.size + 1) b A' c' (by simp))).mono ?_
                  rintro e W12 ⟨rfl, hb12⟩
                  have E12 := Lib.hid (E11.out.keep hb12)
                  clear hb12 b0 b1 b2
                  obtain ⟨b0, b1, b2⟩ := E12.out.cells (w.heap.size + 1) b A' c' (by simp)
                  by_cases hd : b.dp = 100
                  · have hd' : (((b.dp : Nat) : Int) == 100) = true := by simp; omega
                    clear hd hs hg
                    go_wp2_with fail
                    refine (size_too b RB.out.1 A' c' _ (by exact E12.out.tree (w.heap.size + 1) b A' c' (by simp))).mono ?_
                    rintro e W13 ⟨rfl, hb13⟩
                    have E13 := Lib.hid (E12.out.keep hb13)
                    clear hb13
                    go_wp2_with fail
                    go_ret
                    exact ⟨rfl, E13.out.below⟩
                  · have hd' : (((b.dp : Nat) : Int) == 100) = false := by simp; omega
                    clear hd hs hg
                    go_wp2_with fail
                    refine (size_too b RB.out.1 A' c' _ (by exact E12.out.tree (w.heap.size + 1) b A' c' (by simp))).mono ?_
                    rintro e W13 ⟨rfl, hb13⟩
                    have E13 := Lib.hid (E12.out.keep hb13)
                    clear hb13
                    go_wp2_with fail
                    go_ret
                    exact ⟨rfl, E13.out.below⟩
                · have hd' : (((b.dp : Nat) : Int) == 100) = true := by simp; omega
                  go_wp2_with fail
                  refine (cgen_to b zeroT x 21 (by rw [G.out.1]; rw [if_pos (by rw [hg]; simp), hg]) A' c' _ (by exact E10.out.tree (w.heap.size + 1) b A' c' (by simp))).mono ?_
                  rintro e W11 ⟨hb11, D11, c11, i11, rfl⟩
                  have E11 := Lib.hid ((E10.out.keep hb11).push i11)
                  clear hb11 i11 b0 b1 b2 E10
                  obtain ⟨b0, b1, b2⟩ := E11.out.cells (w.heap.size + 1) b A' c' (by simp)
                  clear hd hg
                  go_wp2_with fail
                  refine (depth_too b RB.out.2.1 A' c' _ (by exact E11.out.tree (w.heap.size + 1) b A' c' (by simp))).mono ?_
                  rintro e W12 ⟨rfl, hb12⟩
                  have E12 := Lib.hid (E11.out.keep hb12)
                  clear hb12 b0 b1 b2
                  obtain ⟨b0, b1, b2⟩ := E12.out.cells (w.heap.size + 1) b A' c' (by simp)
                  go_wp2_with fail
                  go_ret
                  exact ⟨rfl, E12.out.below⟩
              | false =>
                have D2 := Lib.hid (show detR b q = (zeroT, 80) by rw [D.out.2, if_neg (by rw [hv]; simp)])
                go_wp2_with fail
                refine (cdetach_to b q zeroT 80 D2.out A' A5 c' 2 _ (by exact E8.out.tree (w.heap.size + 1) b A' c' (by simp)) (by exact E8.out.tree g5 q A5 2 (by simp))).mono ?_
                rintro e W9 ⟨hb9, C9, c9, i9, rfl⟩
                have E9 := Lib.hid ((E8.out.keep hb9).push i9)
                clear hb9 i9 x0 x1 x2 b0 b1 b2 E8
                obtain ⟨a0, a1, a2⟩ := E9.out.cells w.heap.size a A c (by simp)
                obtain ⟨b0, b1, b2⟩ := E9.out.cells (w.heap.size + 1) b A' c' (by simp)
                go_wp2_with fail
                refine (like_too a b false hv A A' c c' _ (by exact E9.out.tree w.heap.size a A c (by simp)) (by exact E9.out.tree (w.heap.size + 1) b A' c' (by simp))).mono ?_
                rintro e W10 ⟨rfl, hb10⟩
                have E10 := Lib.hid (E9.out.keep hb10)
                clear hb10 a0 a1 a2 b0 b1 b2 E9 hv
                obtain ⟨b0, b1, b2⟩ := E10.out.cells (w.heap.size + 1) b A' c' (by simp)
                rcases G.out.2.1 with hg | ⟨hg, hs⟩ | ⟨hg, hd⟩
                · have DD := Lib.hid (show ∃ dd, dd = allT x b from ⟨_, rfl⟩)
                  obtain ⟨dd, hdd⟩ := DD.out
                  have DK := Lib.hid hdd
                  have DL := Lib.hid (show dd.ks.length = 1 by rw [hdd]; rfl)
                  have GD := Lib.hid (show genR b x = (dd, 0) by rw [G.out.1, if_neg (by rw [hg]; simp), hdd])
                  have FD := Lib.hid (show hasN (freeT dd) x = false by rw [hdd]; exact G.out.2.2)
                  clear hdd DD hg
                  go_wp2_with fail
                  refine (cgen_to b dd x 0 GD.out A' c' _ (by exact E10.out.tree (w.heap.size + 1) b A' c' (by simp))).mono ?_
                  rintro e W11 ⟨hb11, D11, c11, i11, rfl⟩
                  have E11 := Lib.hid ((E10.out.keep hb11).push i11)
                  clear hb11 i11 b0 b1 b2 E10
                  have nb := W11.heap.size
                  go_wp2_with fail
                  generalize hW : (W11.alloc (.cells #[.int .i64 dd.k, .int .i64 dd.i, .slice D11 dd.ks.length c11] 24)) = W at E11 ⊢
                  clear hW
                  obtain ⟨b0, b1, b2⟩ := E11.out.cells (w.heap.size + 1) b A' c' (by simp)
                  obtain ⟨d0, d1, d2⟩ := E11.out.cells W11.heap.size dd D11 c11 (by simp)
                  rw [DL.out] at d2
                  obtain ⟨kg, ko, Kb, kc, rfl, hkg, kcel, ktree, hkc⟩ := kidsA1 (show IsT W W.heap.size (.node 7 x [b]) D11 c11 by rw [← show dd = Tr.node 7 x [b] from DK.out]; exact E11.out.tree W11.heap.size dd D11 c11 (by simp))
                  obtain ⟨k0, k1, k2⟩ := kcel
                  have b0' := cell_regrown b0
                  have b1' := cell_regrown b1
                  have b2' := cell_regrown b2
                  have d0' := cell_regrown d0
                  have d1' := cell_regrown d1
                  have d2' := cell_regrown d2
                  have k0' := cell_regrown k0
                  have k1' := cell_regrown k1
                  have k2' := cell_regrown k2
                  have KT := Lib.hid ktree
                  have IF := Lib.hid (show ∀ d os, Calls Try.prog 25 #[.int .i64 x, .agg #[.int .i64 dd.k, .int .i64 dd.i, .slice (some ⟨kg, ko, none⟩) 1 c11]] (grow (redrawn W d) os) fun e w'' => e = .returned (.bool false) ∧ ∃ p : Regrown, w'' = grow (redrawn W p.d) p.os from fun d os => Calls.regrown_of (by
                    have := risfree_any x dd (some ⟨kg, ko, none⟩) c11 (grow (redrawn W d) os) ((E11.out.keep (below_regrown W d os)).tree W11.heap.size dd (some ⟨kg, ko, none⟩) c11 (by simp))
                    rw [DL.out, FD.out] at this
                    exact this))
                  have LK := Lib.hid (show ∀ d os, Calls Try.prog 16 #[.agg #[.int .i64 b.k, .int .i64 b.i, .slice Kb b.ks.length kc], .agg #[.int .i64 b.k, .int .i64 b.i, .slice A' b.ks.length c']] (grow (redrawn W d) os) fun e w'' => e = .returned (.bool true) ∧ ∃ p : Regrown, w'' = grow (redrawn W p.d) p.os from fun d os => Calls.regrown_of
                    (like_too b b true (like_same8 b) Kb A' kc c' _ (KT.out.keep (below_regrown W d os) (below_regrown W d os).size) ((E11.out.keep (below_regrown W d os)).tree (w.heap.size + 1) b A' c' (by simp))))
                  clear b0 b1 b2 d0 d1 d2 k0 k1 k2 ktree
                  refine wp_region_quiet_below (by kernel_rfl) (by kernel_rfl) ?_
                  repeat (go_big_quiet_step (first | with_reducible exact IF.out _ _ | with_reducible exact LK.out _ _))
                  refine wpQuiet_nil ?_
                  intro w5 hw'
                  obtain ⟨⟨dq, osq⟩, hw''⟩ := hw'
                  have hb5 := below_regrown W dq osq
                  rw [← hw''] at hb5
                  have E12 := Lib.hid (E11.out.keep hb5)
                  clear hw'' hb5
                  go_wp2_with fail
                  go_ret
                  exact ⟨rfl, E12.out.below⟩
                · have hs' : (((b.sz : Nat) : Int) == 1000) = true := by simp; omega
                  go_wp2_with fail
                  refine (cgen_to b zeroT x 20 (by rw [G.out.1]; rw [if_pos (by rw [hg]; simp), hg]) A' c' _ (by exact E10.out.tree (w.heap.size + 1) b A' c' (by simp))).mono ?_
                  rintro e W11 ⟨hb11, D11, c11, i11, rfl⟩
                  have E11 := Lib.hid ((E10.out.keep hb11).push i11)
                  clear hb11 i11 b0 b1 b2 E10
                  obtain ⟨b0, b1, b2⟩ := E11.out.cells (w.heap.size + 1) b A' c' (by simp)
                  go_wp2_with fail
                  refine (depth_too b RB.out.2.1 A' c' _ (by exact E11.out.tree (w.heap.size + 1) b A' c' (by simp))).mono ?_
                  rintro e W12 ⟨rfl, hb12⟩
                  have E12 := Lib.hid (E11.out.keep hb12)
                  clear hb12 b0 b1 b2
                  obtain ⟨b0, b1, b2⟩ := E12.out.cells (w.heap.size + 1) b A' c' (by simp)
                  by_cases hd : b.dp = 100
                  · have hd' : (((b.dp : Nat) : Int) == 100) = true := by simp; omega
                    clear hd hs hg
                    go_wp2_with fail
                    refine (size_too b RB.out.1 A' c' _ (by exact E12.out.tree (w.heap.size + 1) b A' c' (by simp))).mono ?_
                    rintro e W13 ⟨rfl, hb13⟩
                    have E13 := Lib.hid (E12.out.keep hb13)
                    clear hb13
                    go_wp2_with fail
                    go_ret
                    exact ⟨rfl, E13.out.below⟩
                  · have hd' : (((b.dp : Nat) : Int) == 100) = false := by simp; omega
                    clear hd hs hg
                    go_wp2_with fail
                    refine (size_too b RB.out.1 A' c' _ (by exact E12.out.tree (w.heap.size + 1) b A' c' (by simp))).mono ?_
                    rintro e W13 ⟨rfl, hb13⟩
                    have E13 := Lib.hid (E12.out.keep hb13)
                    clear hb13
                    go_wp2_with fail
                    go_ret
                    exact ⟨rfl, E13.out.below⟩
                · have hd' : (((b.dp : Nat) : Int) == 100) = true := by simp; omega
                  go_wp2_with fail
                  refine (cgen_to b zeroT x 21 (by rw [G.out.1]; rw [if_pos (by rw [hg]; simp), hg]) A' c' _ (by exact E10.out.tree (w.heap.size + 1) b A' c' (by simp))).mono ?_
                  rintro e W11 ⟨hb11, D11, c11, i11, rfl⟩
                  have E11 := Lib.hid ((E10.out.keep hb11).push i11)
                  clear hb11 i11 b0 b1 b2 E10
                  obtain ⟨b0, b1, b2⟩ := E11.out.cells (w.heap.size + 1) b A' c' (by simp)
                  clear hd hg
                  go_wp2_with fail
                  refine (depth_too b RB.out.2.1 A' c' _ (by exact E11.out.tree (w.heap.size + 1) b A' c' (by simp))).mono ?_
                  rintro e W12 ⟨rfl, hb12⟩
                  have E12 := Lib.hid (E11.out.keep hb12)
                  clear hb12 b0 b1 b2
                  obtain ⟨b0, b1, b2⟩ := E12.out.cells (w.heap.size + 1) b A' c' (by simp)
                  go_wp2_with fail
                  go_ret
                  exact ⟨rfl, E12.out.below⟩
            · have h5 : ((r : Int) != 0) = true := by rw [bne_iff_ne]; omega
              clear h0 hr DB GB
              go_wp2_with fail
              go_ret
              exact ⟨rfl, E6.out.below⟩
          · with_reducible change Exit.then _ _ Exit.normal _ ((w4.alloc (.cells #[.int .i64 6, .int .i64 0, .slice (some ⟨w4.heap.size + 1, 0, none⟩) 2 2] 24)).alloc (.cells #[.int .i64 a.k, .int .i64 a.i, .slice A2 a.ks.length c2, .int .i64 b.k, .int .i64 b.i, .slice A3 b.ks.length c3] 24))
            have ia : IsT ((w4.alloc (.cells #[.int .i64 6, .int .i64 0, .slice (some ⟨w4.heap.size + 1, 0, none⟩) 2 2] 24)).alloc (.cells #[.int .i64 a.k, .int .i64 a.i, .slice A2 a.ks.length c2, .int .i64 b.k, .int .i64 b.i, .slice A3 b.ks.length c3] 24)) ((w4.alloc (.cells #[.int .i64 6, .int .i64 0, .slice (some ⟨w4.heap.size + 1, 0, none⟩) 2 2] 24)).alloc (.cells #[.int .i64 a.k, .int .i64 a.i, .slice A2 a.ks.length c2, .int .i64 b.k, .int .i64 b.i, .slice A3 b.ks.length c3] 24)).heap.size a A2 c2 := ownIs OA4.out (fun k k1 k2 => al2_far _ _ _ (by omega)) (by first | (simp; omega) | (simp; done)) FA.out
            have ib : IsT ((w4.alloc (.cells #[.int .i64 6, .int .i64 0, .slice (some ⟨w4.heap.size + 1, 0, none⟩) 2 2] 24)).alloc (.cells #[.int .i64 a.k, .int .i64 a.i, .slice A2 a.ks.length c2, .int .i64 b.k, .int .i64 b.i, .slice A3 b.ks.length c3] 24)) ((w4.alloc (.cells #[.int .i64 6, .int .i64 0, .slice (some ⟨w4.heap.size + 1, 0, none⟩) 2 2] 24)).alloc (.cells #[.int .i64 a.k, .int .i64 a.i, .slice A2 a.ks.length c2, .int .i64 b.k, .int .i64 b.i, .slice A3 b.ks.length c3] 24)).heap.size b A3 c3 := ownIs OB.out (fun k k1 k2 => al2_far _ _ _ (by omega)) (by first | (simp; done) | (simp; omega)) FB.out
            have BC := Lib.hid (show Bt ((w4.alloc (.cells #[.int .i64 6, .int .i64 0, .slice (some ⟨w4.heap.size + 1, 0, none⟩) 2 2] 24)).alloc (.cells #[.int .i64 a.k, .int .i64 a.i, .slice A2 a.ks.length c2, .int .i64 b.k, .int .i64 b.i, .slice A3 b.ks.length c3] 24)) (w4.heap.size) (.node 6 0 [a, b]) (some ⟨w4.heap.size + 1, 0, none⟩) 2 from (bt_ahead (t := .node 6 0 [a, b]) (A := some ⟨w4.heap.size + 1, 0, none⟩) (c := 2) (isT_two2 (by have q := new_at (w4.alloc (.cells #[.int .i64 6, .int .i64 0, .slice (some ⟨w4.heap.size + 1, 0, none⟩) 2 2] 24)) (.cells #[.int .i64 a.k, .int .i64 a.i, .slice A2 a.ks.length c2, .int .i64 b.k, .int .i64 b.i, .slice A3 b.ks.length c3] 24); rw [World.size_alloc] at q; exact q) ia ib)))
            have LW := Lib.hid (show Below w2.heap.size w2 ((w4.alloc (.cells #[.int .i64 6, .int .i64 0, .slice (some ⟨w4.heap.size + 1, 0, none⟩) 2 2] 24)).alloc (.cells #[.int .i64 a.k, .int .i64 a.i, .slice A2 a.ks.length c2, .int .i64 b.k, .int .i64 b.i, .slice A3 b.ks.length c3] 24)) from ((hw4.alloc hw4.size _).alloc (Nat.le_trans hw4.size (by simp)) _))
            clear ia ib
            generalize ((w4.alloc (.cells #[.int .i64 6, .int .i64 0, .slice (some ⟨w4.heap.size + 1, 0, none⟩) 2 2] 24)).alloc (.cells #[.int .i64 a.k, .int .i64 a.i, .slice A2 a.ks.length c2, .int .i64 b.k, .int .i64 b.i, .slice A3 b.ks.length c3] 24)) = W5 at BC LW ⊢
            generalize (some ⟨w4.heap.size + 1, 0, none⟩ : Option Addr) = A5 at BC ⊢
            generalize w4.heap.size = g5 at BC ⊢
            have E5 := Lib.hid (show Env w W5 [(g5, .node 6 0 [a, b], A5, 2), (w.heap.size + 1, b, A', c'), (w.heap.size, a, A, c)] from ⟨LL2.out.trans (LW.out.mono LL2.out.size), fun y hy => by
              simp only [List.mem_cons, List.mem_nil_iff, or_false] at hy
              rcases hy with rfl | rfl | rfl
              · exact BC.out
              · exact Bb2.out.keep LW.out
              · exact Ba2.out.keep LW.out⟩)
            have BM := Lib.hid (fun h => bd8 (a := a) (b := b) (x := x) HA.out HB.out HX.out h)
            obtain ⟨q, hq⟩ : ∃ q, q = Tr.node 6 0 [a, b] := ⟨_, rfl⟩
            have DB := Lib.hid (show rightN q = 0 → detR a q = (b, 0) ∧ detR b q = (if likeB a b = true then (b, 0) else (zeroT, 80)) from fun h => by rw [hq] at h ⊢; exact ⟨(BM.out h).d1, (BM.out h).d2⟩)
            have GB := Lib.hid (show rightN q = 0 → (genR b x = if genF b ≠ 0 then (zeroT, genF b) else (allT x b, 0)) ∧ (genF b = 0 ∨ (genF b = 20 ∧ b.sz = 1000) ∨ (genF b = 21 ∧ b.dp = 100)) ∧ hasN (freeT (allT x b)) x = false from fun h => by rw [hq] at h; exact ⟨(BM.out h).g, (BM.out h).f, (BM.out h).fr⟩)
            have RB := Lib.hid (right_parts (rFB_two HB.out).1)
            rw [← hq] at E5
            clear BC LW Ba2 Bb2 LL2 BM hq
            obtain ⟨x0, x1, x2⟩ := E5.out.cells g5 q A5 2 (by simp)
            obtain ⟨r, hr⟩ : ∃ r, rightN q = r := ⟨_, rfl⟩
            go_wp2_with fail
            refine (right_too q r hr A5 2 _ (by exact E5.out.tree g5 q A5 2 (by simp))).mono ?_
            rintro e W6 ⟨rfl, hb6⟩
            have E6 := Lib.hid (E5.out.keep hb6)
            clear hb6 x0 x1 x2 E5
            by_cases h0 : r = 0
            · have D := Lib.hid (DB.out (by rw [hr, h0]))
              have G := Lib.hid (GB.out (by rw [hr, h0]))
              subst h0
              clear hr DB GB
              obtain ⟨x0, x1, x2⟩ := E6.out.cells g5 q A5 2 (by simp)
              obtain ⟨a0, a1, a2⟩ := E6.out.cells w.heap.size a A c (by simp)
              go_wp2_with fail
              refine (cdetach_to a q b 0 D.out.1 A A5 c 2 _ (by exact E6.out.tree w.heap.size a A c (by simp)) (by exact E6.out.tree g5 q A5 2 (by simp))).mono ?_
              rintro e W7 ⟨hb7, C7, c7, i7, rfl⟩
              have E7 := Lib.hid ((E6.out.keep hb7).push i7)
              clear hb7 i7 x0 x1 x2 a0 a1 a2 E6
              obtain ⟨x0, x1, x2⟩ := E7.out.cells W7.heap.size b C7 c7 (by simp)
              obtain ⟨b0, b1, b2⟩ := E7.out.cells (w.heap.size + 1) b A' c' (by simp)
              go_wp2_with fail
              refine (like_too b b true (like_same8 b) C7 A' c7 c' _ (by exact E7.out.tree W7.heap.size b C7 c7 (by simp)) (by exact E7.out.tree (w.heap.size + 1) b A' c' (by simp))).mono ?_
              rintro e W8 ⟨rfl, hb8⟩
              have E8 := Lib.hid (E7.out.keep hb8)
              clear hb8 x0 x1 x2 b0 b1 b2 E7
              obtain ⟨x0, x1, x2⟩ := E8.out.cells g5 q A5 2 (by simp)
              obtain ⟨b0, b1, b2⟩ := E8.out.cells (w.heap.size + 1) b A' c' (by simp)
              cases hv : likeB a b with
              | true =>
                have D2 := Lib.hid (show detR b q = (b, 0) by rw [D.out.2, if_pos hv])
                go_wp2_with fail
                refine (cdetach_to b q b 0 D2.out A' A5 c' 2 _ (by exact E8.out.tree (w.heap.size + 1) b A' c' (by simp)) (by exact E8.out.tree g5 q A5 2 (by simp))).mono ?_
                rintro e W9 ⟨hb9, C9, c9, i9, rfl⟩
                have E9 := Lib.hid ((E8.out.keep hb9).push i9)
                clear hb9 i9 x0 x1 x2 b0 b1 b2 E8
                obtain ⟨a0, a1, a2⟩ := E9.out.cells w.heap.size a A c (by simp)
                obtain ⟨b0, b1, b2⟩ := E9.out.cells (w.heap.size + 1) b A' c' (by simp)
                go_wp2_with fail
                refine (like_too a b true hv A A' c c' _ (by exact E9.out.tree w.heap.size a A c (by simp)) (by exact E9.out.tree (w.heap.size + 1) b A' c' (by simp))).mono ?_
                rintro e W10 ⟨rfl, hb10⟩
                have E10 := Lib.hid (E9.out.keep hb10)
                clear hb10 a0 a1 a2 b0 b1 b2 E9 hv
                obtain ⟨b0, b1, b2⟩ := E10.out.cells (w.heap.size + 1) b A' c' (by simp)
                rcases G.out.2.1 with hg | ⟨hg, hs⟩ | ⟨hg, hd⟩
                · have DD := Lib.hid (show ∃ dd, dd = allT x b from ⟨_, rfl⟩)
                  obtain ⟨dd, hdd⟩ := DD.out
                  have DK := Lib.hid hdd
                  have DL := Lib.hid (show dd.ks.length = 1 by rw [hdd]; rfl)
                  have GD := Lib.hid (show genR b x = (dd, 0) by rw [G.out.1, if_neg (by rw [hg]; simp), hdd])
                  have FD := Lib.hid (show hasN (freeT dd) x = false by rw [hdd]; exact G.out.2.2)
                  clear hdd DD hg
                  go_wp2_with fail
                  refine (cgen_to b dd x 0 GD.out A' c' _ (by exact E10.out.tree (w.heap.size + 1) b A' c' (by simp))).mono ?_
                  rintro e W11 ⟨hb11, D11, c11, i11, rfl⟩
                  have E11 := Lib.hid ((E10.out.keep hb11).push i11)
                  clear hb11 i11 b0 b1 b2 E10
                  have nb := W11.heap.size
                  go_wp2_with fail
                  generalize hW : (W11.alloc (.cells #[.int .i64 dd.k, .int .i64 dd.i, .slice D11 dd.ks.length c11] 24)) = W at E11 ⊢
                  clear hW
                  obtain ⟨b0, b1, b2⟩ := E11.out.cells (w.heap.size + 1) b A' c' (by simp)
                  obtain ⟨d0, d1, d2⟩ := E11.out.cells W11.heap.size dd D11 c11 (by simp)
                  rw [DL.out] at d2
                  obtain ⟨kg, ko, Kb, kc, rfl, hkg, kcel, ktree, hkc⟩ := kidsA1 (show IsT W W.heap.size (.node 7 x [b]) D11 c11 by rw [← show dd = Tr.node 7 x [b] from DK.out]; exact E11.out.tree W11.heap.size dd D11 c11 (by simp))
                  obtain ⟨k0, k1, k2⟩ := kcel
                  have b0' := cell_regrown b0
                  have b1' := cell_regrown b1
                  have b2' := cell_regrown b2
                  have d0' := cell_regrown d0
                  have d1' := cell_regrown d1
                  have d2' := cell_regrown d2
                  have k0' := cell_regrown k0
                  have k1' := cell_regrown k1
                  have k2' := cell_regrown k2
                  have KT := Lib.hid ktree
                  have IF := Lib.hid (show ∀ d os, Calls Try.prog 25 #[.int .i64 x, .agg #[.int .i64 dd.k, .int .i64 dd.i, .slice (some ⟨kg, ko, none⟩) 1 c11]] (grow (redrawn W d) os) fun e w'' => e = .returned (.bool false) ∧ ∃ p : Regrown, w'' = grow (redrawn W p.d) p.os from fun d os => Calls.regrown_of (by
                    have := risfree_any x dd (some ⟨kg, ko, none⟩) c11 (grow (redrawn W d) os) ((E11.out.keep (below_regrown W d os)).tree W11.heap.size dd (some ⟨kg, ko, none⟩) c11 (by simp))
                    rw [DL.out, FD.out] at this
                    exact this))
                  have LK := Lib.hid (show ∀ d os, Calls Try.prog 16 #[.agg #[.int .i64 b.k, .int .i64 b.i, .slice Kb b.ks.length kc], .agg #[.int .i64 b.k, .int .i64 b.i, .slice A' b.ks.length c']] (grow (redrawn W d) os) fun e w'' => e = .returned (.bool true) ∧ ∃ p : Regrown, w'' = grow (redrawn W p.d) p.os from fun d os => Calls.regrown_of
                    (like_too b b true (like_same8 b) Kb A' kc c' _ (KT.out.keep (below_regrown W d os) (below_regrown W d os).size) ((E11.out.keep (below_regrown W d os)).tree (w.heap.size + 1) b A' c' (by simp))))
                  clear b0 b1 b2 d0 d1 d2 k0 k1 k2 ktree
                  refine wp_region_quiet_below (by kernel_rfl) (by kernel_rfl) ?_
                  repeat (go_big_quiet_step (first | with_reducible exact IF.out _ _ | with_reducible exact LK.out _ _))
                  refine wpQuiet_nil ?_
                  intro w5 hw'
                  obtain ⟨⟨dq, osq⟩, hw''⟩ := hw'
                  have hb5 := below_regrown W dq osq
                  rw [← hw''] at hb5
                  have E12 := Lib.hid (E11.out.keep hb5)
                  clear hw'' hb5
                  go_wp2_with fail
                  go_ret
                  exact ⟨rfl, E12.out.below⟩
                · have hs' : (((b.sz : Nat) : Int) == 1000) = true := by simp; omega
                  go_wp2_with fail
                  refine (cgen_to b zeroT x 20 (by rw [G.out.1]; rw [if_pos (by rw [hg]; simp), hg]) A' c' _ (by exact E10.out.tree (w.heap.size + 1) b A' c' (by simp))).mono ?_
                  rintro e W11 ⟨hb11, D11, c11, i11, rfl⟩
                  have E11 := Lib.hid ((E10.out.keep hb11).push i11)
                  clear hb11 i11 b0 b1 b2 E10
                  obtain ⟨b0, b1, b2⟩ := E11.out.cells (w.heap.size + 1) b A' c' (by simp)
                  go_wp2_with fail
                  refine (depth_too b RB.out.2.1 A' c' _ (by exact E11.out.tree (w.heap.size + 1) b A' c' (by simp))).mono ?_
                  rintro e W12 ⟨rfl, hb12⟩
                  have E12 := Lib.hid (E11.out.keep hb12)
                  clear hb12 b0 b1 b2
                  obtain ⟨b0, b1, b2⟩ := E12.out.cells (w.heap.size + 1) b A' c' (by simp)
                  by_cases hd : b.dp = 100
                  · have hd' : (((b.dp : Nat) : Int) == 100) = true := by simp; omega
                    clear hd hs hg
                    go_wp2_with fail
                    refine (size_too b RB.out.1 A' c' _ (by exact E12.out.tree (w.heap.size + 1) b A' c' (by simp))).mono ?_
                    rintro e W13 ⟨rfl, hb13⟩
                    have E13 := Lib.hid (E12.out.keep hb13)
                    clear hb13
                    go_wp2_with fail
                    go_ret
                    exact ⟨rfl, E13.out.below⟩
                  · have hd' : (((b.dp : Nat) : Int) == 100) = false := by simp; omega
                    clear hd hs hg
                    go_wp2_with fail
                    refine (size_too b RB.out.1 A' c' _ (by exact E12.out.tree (w.heap.size + 1) b A' c' (by simp))).mono ?_
                    rintro e W13 ⟨rfl, hb13⟩
                    have E13 := Lib.hid (E12.out.keep hb13)
                    clear hb13
                    go_wp2_with fail
                    go_ret
                    exact ⟨rfl, E13.out.below⟩
                · have hd' : (((b.dp : Nat) : Int) == 100) = true := by simp; omega
                  go_wp2_with fail
                  refine (cgen_to b zeroT x 21 (by rw [G.out.1]; rw [if_pos (by rw [hg]; simp), hg]) A' c' _ (by exact E10.out.tree (w.heap.size + 1) b A' c' (by simp))).mono ?_
                  rintro e W11 ⟨hb11, D11, c11, i11, rfl⟩
                  have E11 := Lib.hid ((E10.out.keep hb11).push i11)
                  clear hb11 i11 b0 b1 b2 E10
                  obtain ⟨b0, b1, b2⟩ := E11.out.cells (w.heap.size + 1) b A' c' (by simp)
                  clear hd hg
                  go_wp2_with fail
                  refine (depth_too b RB.out.2.1 A' c' _ (by exact E11.out.tree (w.heap.size + 1) b A' c' (by simp))).mono ?_
                  rintro e W12 ⟨rfl, hb12⟩
                  have E12 := Lib.hid (E11.out.keep hb12)
                  clear hb12 b0 b1 b2
                  obtain ⟨b0, b1, b2⟩ := E12.out.cells (w.heap.size + 1) b A' c' (by simp)
                  go_wp2_with fail
                  go_ret
                  exact ⟨rfl, E12.out.below⟩
              | false =>
                have D2 := Lib.hid (show detR b q = (zeroT, 80) by rw [D.out.2, if_neg (by rw [hv]; simp)])
                go_wp2_with fail
                refine (cdetach_to b q zeroT 80 D2.out A' A5 c' 2 _ (by exact E8.out.tree (w.heap.size + 1) b A' c' (by simp)) (by exact E8.out.tree g5 q A5 2 (by simp))).mono ?_
                rintro e W9 ⟨hb9, C9, c9, i9, rfl⟩
                have E9 := Lib.hid ((E8.out.keep hb9).push i9)
                clear hb9 i9 x0 x1 x2 b0 b1 b2 E8
                obtain ⟨a0, a1, a2⟩ := E9.out.cells w.heap.size a A c (by simp)
                obtain ⟨b0, b1, b2⟩ := E9.out.cells (w.heap.size + 1) b A' c' (by simp)
                go_wp2_with fail
                refine (like_too a b false hv A A' c c' _ (by exact E9.out.tree w.heap.size a A c (by simp)) (by exact E9.out.tree (w.heap.size + 1) b A' c' (by simp))).mono ?_
                rintro e W10 ⟨rfl, hb10⟩
                have E10 := Lib.hid (E9.out.keep hb10)
                clear hb10 a0 a1 a2 b0 b1 b2 E9 hv
                obtain ⟨b0, b1, b2⟩ := E10.out.cells (w.heap.size + 1) b A' c' (by simp)
                rcases G.out.2.1 with hg | ⟨hg, hs⟩ | ⟨hg, hd⟩
                · have DD := Lib.hid (show ∃ dd, dd = allT x b from ⟨_, rfl⟩)
                  obtain ⟨dd, hdd⟩ := DD.out
                  have DK := Lib.hid hdd
                  have DL := Lib.hid (show dd.ks.length = 1 by rw [hdd]; rfl)
                  have GD := Lib.hid (show genR b x = (dd, 0) by rw [G.out.1, if_neg (by rw [hg]; simp), hdd])
                  have FD := Lib.hid (show hasN (freeT dd) x = false by rw [hdd]; exact G.out.2.2)
                  clear hdd DD hg
                  go_wp2_with fail
                  refine (cgen_to b dd x 0 GD.out A' c' _ (by exact E10.out.tree (w.heap.size + 1) b A' c' (by simp))).mono ?_
                  rintro e W11 ⟨hb11, D11, c11, i11, rfl⟩
                  have E11 := Lib.hid ((E10.out.keep hb11).push i11)
                  clear hb11 i11 b0 b1 b2 E10
                  have nb := W11.heap.size
                  go_wp2_with fail
                  generalize hW : (W11.alloc (.cells #[.int .i64 dd.k, .int .i64 dd.i, .slice D11 dd.ks.length c11] 24)) = W at E11 ⊢
                  clear hW
                  obtain ⟨b0, b1, b2⟩ := E11.out.cells (w.heap.size + 1) b A' c' (by simp)
                  obtain ⟨d0, d1, d2⟩ := E11.out.cells W11.heap.size dd D11 c11 (by simp)
                  rw [DL.out] at d2
                  obtain ⟨kg, ko, Kb, kc, rfl, hkg, kcel, ktree, hkc⟩ := kidsA1 (show IsT W W.heap.size (.node 7 x [b]) D11 c11 by rw [← show dd = Tr.node 7 x [b] from DK.out]; exact E11.out.tree W11.heap.size dd D11 c11 (by simp))
                  obtain ⟨k0, k1, k2⟩ := kcel
                  have b0' := cell_regrown b0
                  have b1' := cell_regrown b1
                  have b2' := cell_regrown b2
                  have d0' := cell_regrown d0
                  have d1' := cell_regrown d1
                  have d2' := cell_regrown d2
                  have k0' := cell_regrown k0
                  have k1' := cell_regrown k1
                  have k2' := cell_regrown k2
                  have KT := Lib.hid ktree
                  have IF := Lib.hid (show ∀ d os, Calls Try.prog 25 #[.int .i64 x, .agg #[.int .i64 dd.k, .int .i64 dd.i, .slice (some ⟨kg, ko, none⟩) 1 c11]] (grow (redrawn W d) os) fun e w'' => e = .returned (.bool false) ∧ ∃ p : Regrown, w'' = grow (redrawn W p.d) p.os from fun d os => Calls.regrown_of (by
                    have := risfree_any x dd (some ⟨kg, ko, none⟩) c11 (grow (redrawn W d) os) ((E11.out.keep (below_regrown W d os)).tree W11.heap.size dd (some ⟨kg, ko, none⟩) c11 (by simp))
                    rw [DL.out, FD.out] at this
                    exact this))
                  have LK := Lib.hid (show ∀ d os, Calls Try.prog 16 #[.agg #[.int .i64 b.k, .int .i64 b.i, .slice Kb b.ks.length kc], .agg #[.int .i64 b.k, .int .i64 b.i, .slice A' b.ks.length c']] (grow (redrawn W d) os) fun e w'' => e = .returned (.bool true) ∧ ∃ p : Regrown, w'' = grow (redrawn W p.d) p.os from fun d os => Calls.regrown_of
                    (like_too b b true (like_same8 b) Kb A' kc c' _ (KT.out.keep (below_regrown W d os) (below_regrown W d os).size) ((E11.out.keep (below_regrown W d os)).tree (w.heap.size + 1) b A' c' (by simp))))
                  clear b0 b1 b2 d0 d1 d2 k0 k1 k2 ktree
                  refine wp_region_quiet_below (by kernel_rfl) (by kernel_rfl) ?_
                  repeat (go_big_quiet_step (first | with_reducible exact IF.out _ _ | with_reducible exact LK.out _ _))
                  refine wpQuiet_nil ?_
                  intro w5 hw'
                  obtain ⟨⟨dq, osq⟩, hw''⟩ := hw'
                  have hb5 := below_regrown W dq osq
                  rw [← hw''] at hb5
                  have E12 := Lib.hid (E11.out.keep hb5)
                  clear hw'' hb5
                  go_wp2_with fail
                  go_ret
                  exact ⟨rfl, E12.out.below⟩
                · have hs' : (((b.sz : Nat) : Int) == 1000) = true := by simp; omega
                  go_wp2_with fail
                  refine (cgen_to b zeroT x 20 (by rw [G.out.1]; rw [if_pos (by rw [hg]; simp), hg]) A' c' _ (by exact E10.out.tree (w.heap.size + 1) b A' c' (by simp))).mono ?_
                  rintro e W11 ⟨hb11, D11, c11, i11, rfl⟩
                  have E11 := Lib.hid ((E10.out.keep hb11).push i11)
                  clear hb11 i11 b0 b1 b2 E10
                  obtain ⟨b0, b1, b2⟩ := E11.out.cells (w.heap.size + 1) b A' c' (by simp)
                  go_wp2_with fail
                  refine (depth_too b RB.out.2.1 A' c' _ (by exact E11.out.tree (w.heap.size + 1) b A' c' (by simp))).mono ?_
                  rintro e W12 ⟨rfl, hb12⟩
                  have E12 := Lib.hid (E11.out.keep hb12)
                  clear hb12 b0 b1 b2
                  obtain ⟨b0, b1, b2⟩ := E12.out.cells (w.heap.size + 1) b A' c' (by simp)
                  by_cases hd : b.dp = 100
                  · have hd' : (((b.dp : Nat) : Int) == 100) = true := by simp; omega
                    clear hd hs hg
                    go_wp2_with fail
                    refine (size_too b RB.out.1 A' c' _ (by exact E12.out.tree (w.heap.size + 1) b A' c' (by simp))).mono ?_
                    rintro e W13 ⟨rfl, hb13⟩
                    have E13 := Lib.hid (E12.out.keep hb13)
                    clear hb13
                    go_wp2_with fail
                    go_ret
                    exact ⟨rfl, E13.out.below⟩
                  · have hd' : (((b.dp : Nat) : Int) == 100) = false := by simp; omega
                    clear hd hs hg
                    go_wp2_with fail
                    refine (size_too b RB.out.1 A' c' _ (by exact E12.out.tree (w.heap.size + 1) b A' c' (by simp))).mono ?_
                    rintro e W13 ⟨rfl, hb13⟩
                    have E13 := Lib.hid (E12.out.keep hb13)
                    clear hb13
                    go_wp2_with fail
                    go_ret
                    exact ⟨rfl, E13.out.below⟩
                · have hd' : (((b.dp : Nat) : Int) == 100) = true := by simp; omega
                  go_wp2_with fail
                  refine (cgen_to b zeroT x 21 (by rw [G.out.1]; rw [if_pos (by rw [hg]; simp), hg]) A' c' _ (by exact E10.out.tree (w.heap.size + 1) b A' c' (by simp))).mono ?_
                  rintro e W11 ⟨hb11, D11, c11, i11, rfl⟩
                  have E11 := Lib.hid ((E10.out.keep hb11).push i11)
                  clear hb11 i11 b0 b1 b2 E10
                  obtain ⟨b0, b1, b2⟩ := E11.out.cells (w.heap.size + 1) b A' c' (by simp)
                  clear hd hg
                  go_wp2_with fail
                  refine (depth_too b RB.out.2.1 A' c' _ (by exact E11.out.tree (w.heap.size + 1) b A' c' (by simp))).mono ?_
                  rintro e W12 ⟨rfl, hb12⟩
                  have E12 := Lib.hid (E11.out.keep hb12)
                  clear hb12 b0 b1 b2
                  obtain ⟨b0, b1, b2⟩ := E12.out.cells (w.heap.size + 1) b A' c' (by simp)
                  go_wp2_with fail
                  go_ret
                  exact ⟨rfl, E12.out.below⟩
            · have h5 : ((r : Int) != 0) = true := by rw [bne_iff_ne]; omega
              clear h0 hr DB GB
              go_wp2_with fail
              go_ret
              exact ⟨rfl, E6.out.below⟩
          · with_reducible change Exit.then _ _ Exit.normal _ ((((w4.alloc (.cells #[.int .i64 a.k, .int .i64 a.i, .slice A2 a.ks.length c2, .int .i64 b.k, .int .i64 b.i, .slice A3 b.ks.length c3] 24)).setCell ⟨w3.heap.size, 0, none⟩ (.int .i64 6)).setCell ⟨w3.heap.size, 1, none⟩ (.int .i64 0)).setCell ⟨w3.heap.size, 2, none⟩ (.slice (some ⟨w4.heap.size, 0, none⟩) 2 2))
            have ia : IsT ((((w4.alloc (.cells #[.int .i64 a.k, .int .i64 a.i, .slice A2 a.ks.length c2, .int .i64 b.k, .int .i64 b.i, .slice A3 b.ks.length c3] 24)).setCell ⟨w3.heap.size, 0, none⟩ (.int .i64 6)).setCell ⟨w3.heap.size, 1, none⟩ (.int .i64 0)).setCell ⟨w3.heap.size, 2, none⟩ (.slice (some ⟨w4.heap.size, 0, none⟩) 2 2)) ((((w4.alloc (.cells #[.int .i64 a.k, .int .i64 a.i, .slice A2 a.ks.length c2, .int .i64 b.k, .int .i64 b.i, .slice A3 b.ks.length c3] 24)).setCell ⟨w3.heap.size, 0, none⟩ (.int .i64 6)).setCell ⟨w3.heap.size, 1, none⟩ (.int .i64 0)).setCell ⟨w3.heap.size, 2, none⟩ (.slice (some ⟨w4.heap.size, 0, none⟩) 2 2)).heap.size a A2 c2 := ownIs OA4.out (fun k k1 k2 => set3a_far _ _ _ _ _ (by omega) (show k ≠ w3.heap.size by omega)) (by first | (simp; omega) | (simp; done)) FA.out
            have ib : IsT ((((w4.alloc (.cells #[.int .i64 a.k, .int .i64 a.i, .slice A2 a.ks.length c2, .int .i64 b.k, .int .i64 b.i, .slice A3 b.ks.length c3] 24)).setCell ⟨w3.heap.size, 0, none⟩ (.int .i64 6)).setCell ⟨w3.heap.size, 1, none⟩ (.int .i64 0)).setCell ⟨w3.heap.size, 2, none⟩ (.slice (some ⟨w4.heap.size, 0, none⟩) 2 2)) ((((w4.alloc (.cells #[.int .i64 a.k, .int .i64 a.i, .slice A2 a.ks.length c2, .int .i64 b.k, .int .i64 b.i, .slice A3 b.ks.length c3] 24)).setCell ⟨w3.heap.size, 0, none⟩ (.int .i64 6)).setCell ⟨w3.heap.size, 1, none⟩ (.int .i64 0)).setCell ⟨w3.heap.size, 2, none⟩ (.slice (some ⟨w4.heap.size, 0, none⟩) 2 2)).heap.size b A3 c3 := ownIs OB.out (fun k k1 k2 => set3a_far _ _ _ _ _ (by omega) (show k ≠ w3.heap.size by omega)) (by first | (simp; done) | (simp; omega)) FB.out
            have BC := Lib.hid (show Bt ((((w4.alloc (.cells #[.int .i64 a.k, .int .i64 a.i, .slice A2 a.ks.length c2, .int .i64 b.k, .int .i64 b.i, .slice A3 b.ks.length c3] 24)).setCell ⟨w3.heap.size, 0, none⟩ (.int .i64 6)).setCell ⟨w3.heap.size, 1, none⟩ (.int .i64 0)).setCell ⟨w3.heap.size, 2, none⟩ (.slice (some ⟨w4.heap.size, 0, none⟩) 2 2)) (w3.heap.size) (.node 6 0 [a, b]) (some ⟨w4.heap.size, 0, none⟩) 2 from (bt_set3 (t := .node 6 0 [a, b]) (A := some ⟨w4.heap.size, 0, none⟩) (c := 2) zb (isT_two2 (set3a_new _ _ _ _ _ (show w4.heap.size ≠ w3.heap.size by have := zb.lt; omega)) ia ib)))
            have LW := Lib.hid (show Below w2.heap.size w2 ((((w4.alloc (.cells #[.int .i64 a.k, .int .i64 a.i, .slice A2 a.ks.length c2, .int .i64 b.k, .int .i64 b.i, .slice A3 b.ks.length c3] 24)).setCell ⟨w3.heap.size, 0, none⟩ (.int .i64 6)).setCell ⟨w3.heap.size, 1, none⟩ (.int .i64 0)).setCell ⟨w3.heap.size, 2, none⟩ (.slice (some ⟨w4.heap.size, 0, none⟩) 2 2)) from (below_set3 (hw4.alloc hw4.size _) _ _ _ hw3.size))
            clear ia ib
            generalize ((((w4.alloc (.cells #[.int .i64 a.k, .int .i64 a.i, .slice A2 a.ks.length c2, .int .i64 b.k, .int .i64 b.i, .slice A3 b.ks.length c3] 24)).setCell ⟨w3.heap.size, 0, none⟩ (.int .i64 6)).setCell ⟨w3.heap.size, 1, none⟩ (.int .i64 0)).setCell ⟨w3.heap.size, 2, none⟩ (.slice (some ⟨w4.heap.size, 0, none⟩) 2 2)) = W5 at BC LW ⊢
            generalize (some ⟨w4.heap.size, 0, none⟩ : Option Addr) = A5 at BC ⊢
            generalize w3.heap.size = g5 at BC ⊢
            have E5 := Lib.hid (show Env w W5 [(g5, .node 6 0 [a, b], A5, 2), (w.heap.size + 1, b, A', c'), (w.heap.size, a, A, c)] from ⟨LL2.out.trans (LW.out.mono LL2.out.size), fun y hy => by
              simp only [List.mem_cons, List.mem_nil_iff, or_false] at hy
              rcases hy with rfl | rfl | rfl
              · exact BC.out
              · exact Bb2.out.keep LW.out
              · exact Ba2.out.keep LW.out⟩)
            have BM := Lib.hid (fun h => bd8 (a := a) (b := b) (x := x) HA.out HB.out HX.out h)
            obtain ⟨q, hq⟩ : ∃ q, q = Tr.node 6 0 [a, b] := ⟨_, rfl⟩
            have DB := Lib.hid (show rightN q = 0 → detR a q = (b, 0) ∧ detR b q = (if likeB a b = true then (b, 0) else (zeroT, 80)) from fun h => by rw [hq] at h ⊢; exact ⟨(BM.out h).d1, (BM.out h).d2⟩)
            have GB := Lib.hid (show rightN q = 0 → (genR b x = if genF b ≠ 0 then (zeroT, genF b) else (allT x b, 0)) ∧ (genF b = 0 ∨ (genF b = 20 ∧ b.sz = 1000) ∨ (genF b = 21 ∧ b.dp = 100)) ∧ hasN (freeT (allT x b)) x = false from fun h => by rw [hq] at h; exact ⟨(BM.out h).g, (BM.out h).f, (BM.out h).fr⟩)
            have RB := Lib.hid (right_parts (rFB_two HB.out).1)
            rw [← hq] at E5
            clear BC LW Ba2 Bb2 LL2 BM hq
            obtain ⟨x0, x1, x2⟩ := E5.out.cells g5 q A5 2 (by simp)
            obtain ⟨r, hr⟩ : ∃ r, rightN q = r := ⟨_, rfl⟩
            go_wp2_with fail
            refine (right_too q r hr A5 2 _ (by exact E5.out.tree g5 q A5 2 (by simp))).mono ?_
            rintro e W6 ⟨rfl, hb6⟩
            have E6 := Lib.hid (E5.out.keep hb6)
            clear hb6 x0 x1 x2 E5
            by_cases h0 : r = 0
            · have D := Lib.hid (DB.out (by rw [hr, h0]))
              have G := Lib.hid (GB.out (by rw [hr, h0]))
              subst h0
              clear hr DB GB
              obtain ⟨x0, x1, x2⟩ := E6.out.cells g5 q A5 2 (by simp)
              obtain ⟨a0, a1, a2⟩ := E6.out.cells w.heap.size a A c (by simp)
              go_wp2_with fail
              refine (cdetach_to a q b 0 D.out.1 A A5 c 2 _ (by exact E6.out.tree w.heap.size a A c (by simp)) (by exact E6.out.tree g5 q A5 2 (by simp))).mono ?_
              rintro e W7 ⟨hb7, C7, c7, i7, rfl⟩
              have E7 := Lib.hid ((E6.out.keep hb7).push i7)
              clear hb7 i7 x0 x1 x2 a0 a1 a2 E6
              obtain ⟨x0, x1, x2⟩ := E7.out.cells W7.heap.size b C7 c7 (by simp)
              obtain ⟨b0, b1, b2⟩ := E7.out.cells (w.heap.size + 1) b A' c' (by simp)
              go_wp2_with fail
              refine (like_too b b true (like_same8 b) C7 A' c7 c' _ (by exact E7.out.tree W7.heap.size b C7 c7 (by simp)) (by exact E7.out.tree (w.heap.size + 1) b A' c' (by simp))).mono ?_
              rintro e W8 ⟨rfl, hb8⟩
              have E8 := Lib.hid (E7.out.keep hb8)
              clear hb8 x0 x1 x2 b0 b1 b2 E7
              obtain ⟨x0, x1, x2⟩ := E8.out.cells g5 q A5 2 (by simp)
              obtain ⟨b0, b1, b2⟩ := E8.out.cells (w.heap.size + 1) b A' c' (by simp)
              cases hv : likeB a b with
              | true =>
                have D2 := Lib.hid (show detR b q = (b, 0) by rw [D.out.2, if_pos hv])
                go_wp2_with fail
                refine (cdetach_to b q b 0 D2.out A' A5 c' 2 _ (by exact E8.out.tree (w.heap.size + 1) b A' c' (by simp)) (by exact E8.out.tree g5 q A5 2 (by simp))).mono ?_
                rintro e W9 ⟨hb9, C9, c9, i9, rfl⟩
                have E9 := Lib.hid ((E8.out.keep hb9).push i9)
                clear hb9 i9 x0 x1 x2 b0 b1 b2 E8
                obtain ⟨a0, a1, a2⟩ := E9.out.cells w.heap.size a A c (by simp)
                obtain ⟨b0, b1, b2⟩ := E9.out.cells (w.heap.size + 1) b A' c' (by simp)
                go_wp2_with fail
                refine (like_too a b true hv A A' c c' _ (by exact E9.out.tree w.heap.size a A c (by simp)) (by exact E9.out.tree (w.heap.size + 1) b A' c' (by simp))).mono ?_
                rintro e W10 ⟨rfl, hb10⟩
                have E10 := Lib.hid (E9.out.keep hb10)
                clear hb10 a0 a1 a2 b0 b1 b2 E9 hv
                obtain ⟨b0, b1, b2⟩ := E10.out.cells (w.heap.size + 1) b A' c' (by simp)
                rcases G.out.2.1 with hg | ⟨hg, hs⟩ | ⟨hg, hd⟩
                · have DD := Lib.hid (show ∃ dd, dd = allT x b from ⟨_, rfl⟩)
                  obtain ⟨dd, hdd⟩ := DD.out
                  have DK := Lib.hid hdd
                  have DL := Lib.hid (show dd.ks.length = 1 by rw [hdd]; rfl)
                  have GD := Lib.hid (show genR b x = (dd, 0) by rw [G.out.1, if_neg (by rw [hg]; simp), hdd])
                  have FD := Lib.hid (show hasN (freeT dd) x = false by rw [hdd]; exact G.out.2.2)
                  clear hdd DD hg
                  go_wp2_with fail
                  refine (cgen_to b dd x 0 GD.out A' c' _ (by exact E10.out.tree (w.heap.size + 1) b A' c' (by simp))).mono ?_
                  rintro e W11 ⟨hb11, D11, c11, i11, rfl⟩
                  have E11 := Lib.hid ((E10.out.keep hb11).push i11)
                  clear hb11 i11 b0 b1 b2 E10
                  have nb := W11.heap.size
                  go_wp2_with fail
                  generalize hW : (W11.alloc (.cells #[.int .i64 dd.k, .int .i64 dd.i, .slice D11 dd.ks.length c11] 24)) = W at E11 ⊢
                  clear hW
                  obtain ⟨b0, b1, b2⟩ := E11.out.cells (w.heap.size + 1) b A' c' (by simp)
                  obtain ⟨d0, d1, d2⟩ := E11.out.cells W11.heap.size dd D11 c11 (by simp)
                  rw [DL.out] at d2
                  obtain ⟨kg, ko, Kb, kc, rfl, hkg, kcel, ktree, hkc⟩ := kidsA1 (show IsT W W.heap.size (.node 7 x [b]) D11 c11 by rw [← show dd = Tr.node 7 x [b] from DK.out]; exact E11.out.tree W11.heap.size dd D11 c11 (by simp))
                  obtain ⟨k0, k1, k2⟩ := kcel
                  have b0' := cell_regrown b0
                  have b1' := cell_regrown b1
                  have b2' := cell_regrown b2
                  have d0' := cell_regrown d0
                  have d1' := cell_regrown d1
                  have d2' := cell_regrown d2
                  have k0' := cell_regrown k0
                  have k1' := cell_regrown k1
                  have k2' := cell_regrown k2
                  have KT := Lib.hid ktree
                  have IF := Lib.hid (show ∀ d os, Calls Try.prog 25 #[.int .i64 x, .agg #[.int .i64 dd.k, .int .i64 dd.i, .slice (some ⟨kg, ko, none⟩) 1 c11]] (grow (redrawn W d) os) fun e w'' => e = .returned (.bool false) ∧ ∃ p : Regrown, w'' = grow (redrawn W p.d) p.os from fun d os => Calls.regrown_of (by
                    have := risfree_any x dd (some ⟨kg, ko, none⟩) c11 (grow (redrawn W d) os) ((E11.out.keep (below_regrown W d os)).tree W11.heap.size dd (some ⟨kg, ko, none⟩) c11 (by simp))
                    rw [DL.out, FD.out] at this
                    exact this))
                  have LK := Lib.hid (show ∀ d os, Calls Try.prog 16 #[.agg #[.int .i64 b.k, .int .i64 b.i, .slice Kb b.ks.length kc], .agg #[.int .i64 b.k, .int .i64 b.i, .slice A' b.ks.length c']] (grow (redrawn W d) os) fun e w'' => e = .returned (.bool true) ∧ ∃ p : Regrown, w'' = grow (redrawn W p.d) p.os from fun d os => Calls.regrown_of
                    (like_too b b true (like_same8 b) Kb A' kc c' _ (KT.out.keep (below_regrown W d os) (below_regrown W d os).size) ((E11.out.keep (below_regrown W d os)).tree (w.heap.size + 1) b A' c' (by simp))))
                  clear b0 b1 b2 d0 d1 d2 k0 k1 k2 ktree
                  refine wp_region_quiet_below (by kernel_rfl) (by kernel_rfl) ?_
                  repeat (go_big_quiet_step (first | with_reducible exact IF.out _ _ | with_reducible exact LK.out _ _))
                  refine wpQuiet_nil ?_
                  intro w5 hw'
                  obtain ⟨⟨dq, osq⟩, hw''⟩ := hw'
                  have hb5 := below_regrown W dq osq
                  rw [← hw''] at hb5
                  have E12 := Lib.hid (E11.out.keep hb5)
                  clear hw'' hb5
                  go_wp2_with fail
                  go_ret
                  exact ⟨rfl, E12.out.below⟩
                · have hs' : (((b.sz : Nat) : Int) == 1000) = true := by simp; omega
                  go_wp2_with fail
                  refine (cgen_to b zeroT x 20 (by rw [G.out.1]; rw [if_pos (by rw [hg]; simp), hg]) A' c' _ (by exact E10.out.tree (w.heap.size + 1) b A' c' (by simp))).mono ?_
                  rintro e W11 ⟨hb11, D11, c11, i11, rfl⟩
                  have E11 := Lib.hid ((E10.out.keep hb11).push i11)
                  clear hb11 i11 b0 b1 b2 E10
                  obtain ⟨b0, b1, b2⟩ := E11.out.cells (w.heap.size + 1) b A' c' (by simp)
                  go_wp2_with fail
                  refine (depth_too b RB.out.2.1 A' c' _ (by exact E11.out.tree (w.heap.size + 1) b A' c' (by simp))).mono ?_
                  rintro e W12 ⟨rfl, hb12⟩
                  have E12 := Lib.hid (E11.out.keep hb12)
                  clear hb12 b0 b1 b2
                  obtain ⟨b0, b1, b2⟩ := E12.out.cells (w.heap.size + 1) b A' c' (by simp)
                  by_cases hd : b.dp = 100
                  · have hd' : (((b.dp : Nat) : Int) == 100) = true := by simp; omega
                    clear hd hs hg
                    go_wp2_with fail
                    refine (size_too b RB.out.1 A' c' _ (by exact E12.out.tree (w.heap.size + 1) b A' c' (by simp))).mono ?_
                    rintro e W13 ⟨rfl, hb13⟩
                    have E13 := Lib.hid (E12.out.keep hb13)
                    clear hb13
                    go_wp2_with fail
                    go_ret
                    exact ⟨rfl, E13.out.below⟩
                  · have hd' : (((b.dp : Nat) : Int) == 100) = false := by simp; omega
                    clear hd hs hg
                    go_wp2_with fail
                    refine (size_too b RB.out.1 A' c' _ (by exact E12.out.tree (w.heap.size + 1) b A' c' (by simp))).mono ?_
                    rintro e W13 ⟨rfl, hb13⟩
                    have E13 := Lib.hid (E12.out.keep hb13)
                    clear hb13
                    go_wp2_with fail
                    go_ret
                    exact ⟨rfl, E13.out.below⟩
                · have hd' : (((b.dp : Nat) : Int) == 100) = true := by simp; omega
                  go_wp2_with fail
                  refine (cgen_to b zeroT x 21 (by rw [G.out.1]; rw [if_pos (by rw [hg]; simp), hg]) A' c' _ (by exact E10.out.tree (w.heap.size + 1) b A' c' (by simp))).mono ?_
                  rintro e W11 ⟨hb11, D11, c11, i11, rfl⟩
                  have E11 := Lib.hid ((E10.out.keep hb11).push i11)
                  clear hb11 i11 b0 b1 b2 E10
                  obtain ⟨b0, b1, b2⟩ := E11.out.cells (w.heap.size + 1) b A' c' (by simp)
                  clear hd hg
                  go_wp2_with fail
                  refine (depth_too b RB.out.2.1 A' c' _ (by exact E11.out.tree (w.heap.size + 1) b A' c' (by simp))).mono ?_
                  rintro e W12 ⟨rfl, hb12⟩
                  have E12 := Lib.hid (E11.out.keep hb12)
                  clear hb12 b0 b1 b2
                  obtain ⟨b0, b1, b2⟩ := E12.out.cells (w.heap.size + 1) b A' c' (by simp)
                  go_wp2_with fail
                  go_ret
                  exact ⟨rfl, E12.out.below⟩
              | false =>
                have D2 := Lib.hid (show detR b q = (zeroT, 80) by rw [D.out.2, if_neg (by rw [hv]; simp)])
                go_wp2_with fail
                refine (cdetach_to b q zeroT 80 D2.out A' A5 c' 2 _ (by exact E8.out.tree (w.heap.size + 1) b A' c' (by simp)) (by exact E8.out.tree g5 q A5 2 (by simp))).mono ?_
                rintro e W9 ⟨hb9, C9, c9, i9, rfl⟩
                have E9 := Lib.hid ((E8.out.keep hb9).push i9)
                clear hb9 i9 x0 x1 x2 b0 b1 b2 E8
                obtain ⟨a0, a1, a2⟩ := E9.out.cells w.heap.size a A c (by simp)
                obtain ⟨b0, b1, b2⟩ := E9.out.cells (w.heap.size + 1) b A' c' (by simp)
                go_wp2_with fail
                refine (like_too a b false hv A A' c c' _ (by exact E9.out.tree w.heap.size a A c (by simp)) (by exact E9.out.tree (w.heap.size + 1) b A' c' (by simp))).mono ?_
                rintro e W10 ⟨rfl, hb10⟩
                have E10 := Lib.hid (E9.out.keep hb10)
                clear hb10 a0 a1 a2 b0 b1 b2 E9 hv
                obtain ⟨b0, b1, b2⟩ := E10.out.cells (w.heap.size + 1) b A' c' (by simp)
                rcases G.out.2.1 with hg | ⟨hg, hs⟩ | ⟨hg, hd⟩
                · have DD := Lib.hid (show ∃ dd, dd = allT x b from ⟨_, rfl⟩)
                  obtain ⟨dd, hdd⟩ := DD.out
                  have DK := Lib.hid hdd
                  have DL := Lib.hid (show dd.ks.length = 1 by rw [hdd]; rfl)
                  have GD := Lib.hid (show genR b x = (dd, 0) by rw [G.out.1, if_neg (by rw [hg]; simp), hdd])
                  have FD := Lib.hid (show hasN (freeT dd) x = false by rw [hdd]; exact G.out.2.2)
                  clear hdd DD hg
                  go_wp2_with fail
                  refine (cgen_to b dd x 0 GD.out A' c' _ (by exact E10.out.tree (w.heap.size + 1) b A' c' (by simp))).mono ?_
                  rintro e W11 ⟨hb11, D11, c11, i11, rfl⟩
                  have E11 := Lib.hid ((E10.out.keep hb11).push i11)
                  clear hb11 i11 b0 b1 b2 E10
                  have nb := W11.heap.size
                  go_wp2_with fail
                  generalize hW : (W11.alloc (.cells #[.int .i64 dd.k, .int .i64 dd.i, .slice D11 dd.ks.length c11] 24)) = W at E11 ⊢
                  clear hW
                  obtain ⟨b0, b1, b2⟩ := E11.out.cells (w.heap.size + 1) b A' c' (by simp)
                  obtain ⟨d0, d1, d2⟩ := E11.out.cells W11.heap.size dd D11 c11 (by simp)
                  rw [DL.out] at d2
                  obtain ⟨kg, ko, Kb, kc, rfl, hkg, kcel, ktree, hkc⟩ := kidsA1 (show IsT W W.heap.size (.node 7 x [b]) D11 c11 by rw [← show dd = Tr.node 7 x [b] from DK.out]; exact E11.out.tree W11.heap.size dd D11 c11 (by simp))
                  obtain ⟨k0, k1, k2⟩ := kcel
                  have b0' := cell_regrown b0
                  have b1' := cell_regrown b1
                  have b2' := cell_regrown b2
                  have d0' := cell_regrown d0
                  have d1' := cell_regrown d1
                  have d2' := cell_regrown d2
                  have k0' := cell_regrown k0
                  have k1' := cell_regrown k1
                  have k2' := cell_regrown k2
                  have KT := Lib.hid ktree
                  have IF := Lib.hid (show ∀ d os, Calls Try.prog 25 #[.int .i64 x, .agg #[.int .i64 dd.k, .int .i64 dd.i, .slice (some ⟨kg, ko, none⟩) 1 c11]] (grow (redrawn W d) os) fun e w'' => e = .returned (.bool false) ∧ ∃ p : Regrown, w'' = grow (redrawn W p.d) p.os from fun d os => Calls.regrown_of (by
                    have := risfree_any x dd (some ⟨kg, ko, none⟩) c11 (grow (redrawn W d) os) ((E11.out.keep (below_regrown W d os)).tree W11.heap.size dd (some ⟨kg, ko, none⟩) c11 (by simp))
                    rw [DL.out, FD.out] at this
                    exact this))
                  have LK := Lib.hid (show ∀ d os, Calls Try.prog 16 #[.agg #[.int .i64 b.k, .int .i64 b.i, .slice Kb b.ks.length kc], .agg #[.int .i64 b.k, .int .i64 b.i, .slice A' b.ks.length c']] (grow (redrawn W d) os) fun e w'' => e = .returned (.bool true) ∧ ∃ p : Regrown, w'' = grow (redrawn W p.d) p.os from fun d os => Calls.regrown_of
                    (like_too b b true (like_same8 b) Kb A' kc c' _ (KT.out.keep (below_regrown W d os) (below_regrown W d os).size) ((E11.out.keep (below_regrown W d os)).tree (w.heap.size + 1) b A' c' (by simp))))
                  clear b0 b1 b2 d0 d1 d2 k0 k1 k2 ktree
                  refine wp_region_quiet_below (by kernel_rfl) (by kernel_rfl) ?_
                  repeat (go_big_quiet_step (first | with_reducible exact IF.out _ _ | with_reducible exact LK.out _ _))
                  refine wpQuiet_nil ?_
                  intro w5 hw'
                  obtain ⟨⟨dq, osq⟩, hw''⟩ := hw'
                  have hb5 := below_regrown W dq osq
                  rw [← hw''] at hb5
                  have E12 := Lib.hid (E11.out.keep hb5)
                  clear hw'' hb5
                  go_wp2_with fail
                  go_ret
                  exact ⟨rfl, E12.out.below⟩
                · have hs' : (((b.sz : Nat) : Int) == 1000) = true := by simp; omega
                  go_wp2_with fail
                  refine (cgen_to b zeroT x 20 (by rw [G.out.1]; rw [if_pos (by rw [hg]; simp), hg]) A' c' _ (by exact E10.out.tree (w.heap.size + 1) b A' c' (by simp))).mono ?_
                  rintro e W11 ⟨hb11, D11, c11, i11, rfl⟩
                  have E11 := Lib.hid ((E10.out.keep hb11).push i11)
                  clear hb11 i11 b0 b1 b2 E10
                  obtain ⟨b0, b1, b2⟩ := E11.out.cells (w.heap.size + 1) b A' c' (by simp)
                  go_wp2_with fail
                  refine (depth_too b RB.out.2.1 A' c' _ (by exact E11.out.tree (w.heap.size + 1) b A' c' (by simp))).mono ?_
                  rintro e W12 ⟨rfl, hb12⟩
                  have E12 := Lib.hid (E11.out.keep hb12)
                  clear hb12 b0 b1 b2
                  obtain ⟨b0, b1, b2⟩ := E12.out.cells (w.heap.size + 1) b A' c' (by simp)
                  by_cases hd : b.dp = 100
                  · have hd' : (((b.dp : Nat) : Int) == 100) = true := by simp; omega
                    clear hd hs hg
                    go_wp2_with fail
                    refine (size_too b RB.out.1 A' c' _ (by exact E12.out.tree (w.heap.size + 1) b A' c' (by simp))).mono ?_
                    rintro e W13 ⟨rfl, hb13⟩
                    have E13 := Lib.hid (E12.out.keep hb13)
                    clear hb13
                    go_wp2_with fail
                    go_ret
                    exact ⟨rfl, E13.out.below⟩
                  · have hd' : (((b.dp : Nat) : Int) == 100) = false := by simp; omega
                    clear hd hs hg
                    go_wp2_with fail
                    refine (size_too b RB.out.1 A' c' _ (by exact E12.out.tree (w.heap.size + 1) b A' c' (by simp))).mono ?_
                    rintro e W13 ⟨rfl, hb13⟩
                    have E13 := Lib.hid (E12.out.keep hb13)
                    clear hb13
                    go_wp2_with fail
                    go_ret
                    exact ⟨rfl, E13.out.below⟩
                · have hd' : (((b.dp : Nat) : Int) == 100) = true := by simp; omega
                  go_wp2_with fail
                  refine (cgen_to b zeroT x 21 (by rw [G.out.1]; rw [if_pos (by rw [hg]; simp), hg]) A' c' _ (by exact E10.out.tree (w.heap.size + 1) b A' c' (by simp))).mono ?_
                  rintro e W11 ⟨hb11, D11, c11, i11, rfl⟩
                  have E11 := Lib.hid ((E10.out.keep hb11).push i11)
                  clear hb11 i11 b0 b1 b2 E10
                  obtain ⟨b0, b1, b2⟩ := E11.out.cells (w.heap.size + 1) b A' c' (by simp)
                  clear hd hg
                  go_wp2_with fail
                  refine (depth_too b RB.out.2.1 A' c' _ (by exact E11.out.tree (w.heap.size + 1) b A' c' (by simp))).mono ?_
                  rintro e W12 ⟨rfl, hb12⟩
                  have E12 := Lib.hid (E11.out.keep hb12)
                  clear hb12 b0 b1 b2
                  obtain ⟨b0, b1, b2⟩ := E12.out.cells (w.heap.size + 1) b A' c' (by simp)
                  go_wp2_with fail
                  go_ret
                  exact ⟨rfl, E12.out.below⟩
            · have h5 : ((r : Int) != 0) = true := by rw [bne_iff_ne]; omega
              clear h0 hr DB GB
              go_wp2_with fail
              go_ret
              exact ⟨rfl, E6.out.below⟩
          · with_reducible change Exit.then _ _ Exit.normal _ ((((w4.alloc (.cells #[.int .i64 a.k, .int .i64 a.i, .slice A2 a.ks.length c2, .int .i64 b.k, .int .i64 b.i, .slice A3 b.ks.length c3] 24)).setCell ⟨w2.heap.size, 0, none⟩ (.int .i64 6)).setCell ⟨w2.heap.size, 1, none⟩ (.int .i64 0)).setCell ⟨w2.heap.size, 2, none⟩ (.slice (some ⟨w4.heap.size, 0, none⟩) 2 2))
            have hlaw := OA4.out.le
            have ia : IsT ((((w4.alloc (.cells #[.int .i64 a.k, .int .i64 a.i, .slice A2 a.ks.length c2, .int .i64 b.k, .int .i64 b.i, .slice A3 b.ks.length c3] 24)).setCell ⟨w2.heap.size, 0, none⟩ (.int .i64 6)).setCell ⟨w2.heap.size, 1, none⟩ (.int .i64 0)).setCell ⟨w2.heap.size, 2, none⟩ (.slice (some ⟨w4.heap.size, 0, none⟩) 2 2)) ((((w4.alloc (.cells #[.int .i64 a.k, .int .i64 a.i, .slice A2 a.ks.length c2, .int .i64 b.k, .int .i64 b.i, .slice A3 b.ks.length c3] 24)).setCell ⟨w2.heap.size, 0, none⟩ (.int .i64 6)).setCell ⟨w2.heap.size, 1, none⟩ (.int .i64 0)).setCell ⟨w2.heap.size, 2, none⟩ (.slice (some ⟨w4.heap.size, 0, none⟩) 2 2)).heap.size a A2 c2 := ownIs OA4.out (fun k k1 k2 => set3a_far _ _ _ _ _ (by omega) (show k ≠ w2.heap.size by omega)) (by first | (simp; omega) | (simp; done)) FA.out
            have ib : IsT ((((w4.alloc (.cells #[.int .i64 a.k, .int .i64 a.i, .slice A2 a.ks.length c2, .int .i64 b.k, .int .i64 b.i, .slice A3 b.ks.length c3] 24)).setCell ⟨w2.heap.size, 0, none⟩ (.int .i64 6)).setCell ⟨w2.heap.size, 1, none⟩ (.int .i64 0)).setCell ⟨w2.heap.size, 2, none⟩ (.slice (some ⟨w4.heap.size, 0, none⟩) 2 2)) ((((w4.alloc (.cells #[.int .i64 a.k, .int .i64 a.i, .slice A2 a.ks.length c2, .int .i64 b.k, .int .i64 b.i, .slice A3 b.ks.length c3] 24)).setCell ⟨w2.heap.size, 0, none⟩ (.int .i64 6)).setCell ⟨w2.heap.size, 1, none⟩ (.int .i64 0)).setCell ⟨w2.heap.size, 2, none⟩ (.slice (some ⟨w4.heap.size, 0, none⟩) 2 2)).heap.size b A3 c3 := ownIs OB.out (fun k k1 k2 => set3a_far _ _ _ _ _ (by omega) (show k ≠ w2.heap.size by omega)) (by first | (simp; done) | (simp; omega)) FB.out
            have BC := Lib.hid (show Bt ((((w4.alloc (.cells #[.int .i64 a.k, .int .i64 a.i, .slice A2 a.ks.length c2, .int .i64 b.k, .int .i64 b.i, .slice A3 b.ks.length c3] 24)).setCell ⟨w2.heap.size, 0, none⟩ (.int .i64 6)).setCell ⟨w2.heap.size, 1, none⟩ (.int .i64 0)).setCell ⟨w2.heap.size, 2, none⟩ (.slice (some ⟨w4.heap.size, 0, none⟩) 2 2)) (w2.heap.size) (.node 6 0 [a, b]) (some ⟨w4.heap.size, 0, none⟩) 2 from (bt_set3 (t := .node 6 0 [a, b]) (A := some ⟨w4.heap.size, 0, none⟩) (c := 2) zb (isT_two2 (set3a_new _ _ _ _ _ (show w4.heap.size ≠ w2.heap.size by have := zb.lt; omega)) ia ib)))
            have LW := Lib.hid (show Below w2.heap.size w2 ((((w4.alloc (.cells #[.int .i64 a.k, .int .i64 a.i, .slice A2 a.ks.length c2, .int .i64 b.k, .int .i64 b.i, .slice A3 b.ks.length c3] 24)).setCell ⟨w2.heap.size, 0, none⟩ (.int .i64 6)).setCell ⟨w2.heap.size, 1, none⟩ (.int .i64 0)).setCell ⟨w2.heap.size, 2, none⟩ (.slice (some ⟨w4.heap.size, 0, none⟩) 2 2)) from (below_set3 (hw4.alloc hw4.size _) _ _ _ (Nat.le_refl _)))
            clear ia ib
            generalize ((((w4.alloc (.cells #[.int .i64 a.k, .int .i64 a.i, .slice A2 a.ks.length c2, .int .i64 b.k, .int .i64 b.i, .slice A3 b.ks.length c3] 24)).setCell ⟨w2.heap.size, 0, none⟩ (.int .i64 6)).setCell ⟨w2.heap.size, 1, none⟩ (.int .i64 0)).setCell ⟨w2.heap.size, 2, none⟩ (.slice (some ⟨w4.heap.size, 0, none⟩) 2 2)) = W5 at BC LW ⊢
            generalize (some ⟨w4.heap.size, 0, none⟩ : Option Addr) = A5 at BC ⊢
            generalize w2.heap.size = g5 at BC ⊢
            have E5 := Lib.hid (show Env w W5 [(g5, .node 6 0 [a, b], A5, 2), (w.heap.size + 1, b, A', c'), (w.heap.size, a, A, c)] from ⟨LL2.out.trans (LW.out.mono LL2.out.size), fun y hy => by
              simp only [List.mem_cons, List.mem_nil_iff, or_false] at hy
              rcases hy with rfl | rfl | rfl
              · exact BC.out
              · exact Bb2.out.keep LW.out
              · exact Ba2.out.keep LW.out⟩)
            have BM := Lib.hid (fun h => bd8 (a := a) (b := b) (x := x) HA.out HB.out HX.out h)
            obtain ⟨q, hq⟩ : ∃ q, q = Tr.node 6 0 [a, b] := ⟨_, rfl⟩
            have DB := Lib.hid (show rightN q = 0 → detR a q = (b, 0) ∧ detR b q = (if likeB a b = true then (b, 0) else (zeroT, 80)) from fun h => by rw [hq] at h ⊢; exact ⟨(BM.out h).d1, (BM.out h).d2⟩)
            have GB := Lib.hid (show rightN q = 0 → (genR b x = if genF b ≠ 0 then (zeroT, genF b) else (allT x b, 0)) ∧ (genF b = 0 ∨ (genF b = 20 ∧ b.sz = 1000) ∨ (genF b = 21 ∧ b.dp = 100)) ∧ hasN (freeT (allT x b)) x = false from fun h => by rw [hq] at h; exact ⟨(BM.out h).g, (BM.out h).f, (BM.out h).fr⟩)
            have RB := Lib.hid (right_parts (rFB_two HB.out).1)
            rw [← hq] at E5
            clear BC LW Ba2 Bb2 LL2 BM hq
            obtain ⟨x0, x1, x2⟩ := E5.out.cells g5 q A5 2 (by simp)
            obtain ⟨r, hr⟩ : ∃ r, rightN q = r := ⟨_, rfl⟩
            go_wp2_with fail
            refine (right_too q r hr A5 2 _ (by exact E5.out.tree g5 q A5 2 (by simp))).mono ?_
            rintro e W6 ⟨rfl, hb6⟩
            have E6 := Lib.hid (E5.out.keep hb6)
            clear hb6 x0 x1 x2 E5
            by_cases h0 : r = 0
            · have D := Lib.hid (DB.out (by rw [hr, h0]))
              have G := Lib.hid (GB.out (by rw [hr, h0]))
              subst h0
              clear hr DB GB
              obtain ⟨x0, x1, x2⟩ := E6.out.cells g5 q A5 2 (by simp)
              obtain ⟨a0, a1, a2⟩ := E6.out.cells w.heap.size a A c (by simp)
              go_wp2_with fail
              refine (cdetach_to a q b 0 D.out.1 A A5 c 2 _ (by exact E6.out.tree w.heap.size a A c (by simp)) (by exact E6.out.tree g5 q A5 2 (by simp))).mono ?_
              rintro e W7 ⟨hb7, C7, c7, i7, rfl⟩
              have E7 := Lib.hid ((E6.out.keep hb7).push i7)
              clear hb7 i7 x0 x1 x2 a0 a1 a2 E6
              obtain ⟨x0, x1, x2⟩ := E7.out.cells W7.heap.size b C7 c7 (by simp)
              obtain ⟨b0, b1, b2⟩ := E7.out.cells (w.heap.size + 1) b A' c' (by simp)
              go_wp2_with fail
              refine (like_too b b true (like_same8 b) C7 A' c7 c' _ (by exact E7.out.tree W7.heap.size b C7 c7 (by simp)) (by exact E7.out.tree (w.heap.size + 1) b A' c' (by simp))).mono ?_
              rintro e W8 ⟨rfl, hb8⟩
              have E8 := Lib.hid (E7.out.keep hb8)
              clear hb8 x0 x1 x2 b0 b1 b2 E7
              obtain ⟨x0, x1, x2⟩ := E8.out.cells g5 q A5 2 (by simp)
              obtain ⟨b0, b1, b2⟩ := E8.out.cells (w.heap.size + 1) b A' c' (by simp)
              cases hv : likeB a b with
              | true =>
                have D2 := Lib.hid (show detR b q = (b, 0) by rw [D.out.2, if_pos hv])
                go_wp2_with fail
                refine (cdetach_to b q b 0 D2.out A' A5 c' 2 _ (by exact E8.out.tree (w.heap.size + 1) b A' c' (by simp)) (by exact E8.out.tree g5 q A5 2 (by simp))).mono ?_
                rintro e W9 ⟨hb9, C9, c9, i9, rfl⟩
                have E9 := Lib.hid ((E8.out.keep hb9).push i9)
                clear hb9 i9 x0 x1 x2 b0 b1 b2 E8
                obtain ⟨a0, a1, a2⟩ := E9.out.cells w.heap.size a A c (by simp)
                obtain ⟨b0, b1, b2⟩ := E9.out.cells (w.heap.size + 1) b A' c' (by simp)
                go_wp2_with fail
                refine (like_too a b true hv A A' c c' _ (by exact E9.out.tree w.heap.size a A c (by simp)) (by exact E9.out.tree (w.heap.size + 1) b A' c' (by simp))).mono ?_
                rintro e W10 ⟨rfl, hb10⟩
                have E10 := Lib.hid (E9.out.keep hb10)
                clear hb10 a0 a1 a2 b0 b1 b2 E9 hv
                obtain ⟨b0, b1, b2⟩ := E10.out.cells (w.heap.size + 1) b A' c' (by simp)
                rcases G.out.2.1 with hg | ⟨hg, hs⟩ | ⟨hg, hd⟩
                · have DD := Lib.hid (show ∃ dd, dd = allT x b from ⟨_, rfl⟩)
                  obtain ⟨dd, hdd⟩ := DD.out
                  have DK := Lib.hid hdd
                  have DL := Lib.hid (show dd.ks.length = 1 by rw [hdd]; rfl)
                  have GD := Lib.hid (show genR b x = (dd, 0) by rw [G.out.1, if_neg (by rw [hg]; simp), hdd])
                  have FD := Lib.hid (show hasN (freeT dd) x = false by rw [hdd]; exact G.out.2.2)
                  clear hdd DD hg
                  go_wp2_with fail
                  refine (cgen_to b dd x 0 GD.out A' c' _ (by exact E10.out.tree (w.heap.size + 1) b A' c' (by simp))).mono ?_
                  rintro e W11 ⟨hb11, D11, c11, i11, rfl⟩
                  have E11 := Lib.hid ((E10.out.keep hb11).push i11)
                  clear hb11 i11 b0 b1 b2 E10
                  have nb := W11.heap.size
                  go_wp2_with fail
                  generalize hW : (W11.alloc (.cells #[.int .i64 dd.k, .int .i64 dd.i, .slice D11 dd.ks.length c11] 24)) = W at E11 ⊢
                  clear hW
                  obtain ⟨b0, b1, b2⟩ := E11.out.cells (w.heap.size + 1) b A' c' (by simp)
                  obtain ⟨d0, d1, d2⟩ := E11.out.cells W11.heap.size dd D11 c11 (by simp)
                  rw [DL.out] at d2
                  obtain ⟨kg, ko, Kb, kc, rfl, hkg, kcel, ktree, hkc⟩ := kidsA1 (show IsT W W.heap.size (.node 7 x [b]) D11 c11 by rw [← show dd = Tr.node 7 x [b] from DK.out]; exact E11.out.tree W11.heap.size dd D11 c11 (by simp))
                  obtain ⟨k0, k1, k2⟩ := kcel
                  have b0' := cell_regrown b0
                  have b1' := cell_regrown b1
                  have b2' := cell_regrown b2
                  have d0' := cell_regrown d0
                  have d1' := cell_regrown d1
                  have d2' := cell_regrown d2
                  have k0' := cell_regrown k0
                  have k1' := cell_regrown k1
                  have k2' := cell_regrown k2
                  have KT := Lib.hid ktree
                  have IF := Lib.hid (show ∀ d os, Calls Try.prog 25 #[.int .i64 x, .agg #[.int .i64 dd.k, .int .i64 dd.i, .slice (some ⟨kg, ko, none⟩) 1 c11]] (grow (redrawn W d) os) fun e w'' => e = .returned (.bool false) ∧ ∃ p : Regrown, w'' = grow (redrawn W p.d) p.os from fun d os => Calls.regrown_of (by
                    have := risfree_any x dd (some ⟨kg, ko, none⟩) c11 (grow (redrawn W d) os) ((E11.out.keep (below_regrown W d os)).tree W11.heap.size dd (some ⟨kg, ko, none⟩) c11 (by simp))
                    rw [DL.out, FD.out] at this
                    exact this))
                  have LK := Lib.hid (show ∀ d os, Calls Try.prog 16 #[.agg #[.int .i64 b.k, .int .i64 b.i, .slice Kb b.ks.length kc], .agg #[.int .i64 b.k, .int .i64 b.i, .slice A' b.ks.length c']] (grow (redrawn W d) os) fun e w'' => e = .returned (.bool true) ∧ ∃ p : Regrown, w'' = grow (redrawn W p.d) p.os from fun d os => Calls.regrown_of
                    (like_too b b true (like_same8 b) Kb A' kc c' _ (KT.out.keep (below_regrown W d os) (below_regrown W d os).size) ((E11.out.keep (below_regrown W d os)).tree (w.heap.size + 1) b A' c' (by simp))))
                  clear b0 b1 b2 d0 d1 d2 k0 k1 k2 ktree
                  refine wp_region_quiet_below (by kernel_rfl) (by kernel_rfl) ?_
                  repeat (go_big_quiet_step (first | with_reducible exact IF.out _ _ | with_reducible exact LK.out _ _))
                  refine wpQuiet_nil ?_
                  intro w5 hw'
                  obtain ⟨⟨dq, osq⟩, hw''⟩ := hw'
                  have hb5 := below_regrown W dq osq
                  rw [← hw''] at hb5
                  have E12 := Lib.hid (E11.out.keep hb5)
                  clear hw'' hb5
                  go_wp2_with fail
                  go_ret
                  exact ⟨rfl, E12.out.below⟩
                · have hs' : (((b.sz : Nat) : Int) == 1000) = true := by simp; omega
                  go_wp2_with fail
                  refine (cgen_to b zeroT x 20 (by rw [G.out.1]; rw [if_pos (by rw [hg]; simp), hg]) A' c' _ (by exact E10.out.tree (w.heap.size + 1) b A' c' (by simp))).mono ?_
                  rintro e W11 ⟨hb11, D11, c11, i11, rfl⟩
                  have E11 := Lib.hid ((E10.out.keep hb11).push i11)
                  clear hb11 i11 b0 b1 b2 E10
                  obtain ⟨b0, b1, b2⟩ := E11.out.cells (w.heap.size + 1) b A' c' (by simp)
                  go_wp2_with fail
                  refine (depth_too b RB.out.2.1 A' c' _ (by exact E11.out.tree (w.heap.size + 1) b A' c' (by simp))).mono ?_
                  rintro e W12 ⟨rfl, hb12⟩
                  have E12 := Lib.hid (E11.out.keep hb12)
                  clear hb12 b0 b1 b2
                  obtain ⟨b0, b1, b2⟩ := E12.out.cells (w.heap.size + 1) b A' c' (by simp)
                  by_cases hd : b.dp = 100
                  · have hd' : (((b.dp : Nat) : Int) == 100) = true := by simp; omega
                    clear hd hs hg
                    go_wp2_with fail
                    refine (size_too b RB.out.1 A' c' _ (by exact E12.out.tree (w.heap.size + 1) b A' c' (by simp))).mono ?_
                    rintro e W13 ⟨rfl, hb13⟩
                    have E13 := Lib.hid (E12.out.keep hb13)
                    clear hb13
                    go_wp2_with fail
                    go_ret
                    exact ⟨rfl, E13.out.below⟩
                  · have hd' : (((b.dp : Nat) : Int) == 100) = false := by simp; omega
                    clear hd hs hg
                    go_wp2_with fail
                    refine (size_too b RB.out.1 A' c' _ (by exact E12.out.tree (w.heap.size + 1) b A' c' (by simp))).mono ?_
                    rintro e W13 ⟨rfl, hb13⟩
                    have E13 := Lib.hid (E12.out.keep hb13)
                    clear hb13
                    go_wp2_with fail
                    go_ret
                    exact ⟨rfl, E13.out.below⟩
                · have hd' : (((b.dp : Nat) : Int) == 100) = true := by simp; omega
                  go_wp2_with fail
                  refine (cgen_to b zeroT x 21 (by rw [G.out.1]; rw [if_pos (by rw [hg]; simp), hg]) A' c' _ (by exact E10.out.tree (w.heap.size + 1) b A' c' (by simp))).mono ?_
                  rintro e W11 ⟨hb11, D11, c11, i11, rfl⟩
                  have E11 := Lib.hid ((E10.out.keep hb11).push i11)
                  clear hb11 i11 b0 b1 b2 E10
                  obtain ⟨b0, b1, b2⟩ := E11.out.cells (w.heap.size + 1) b A' c' (by simp)
                  clear hd hg
                  go_wp2_with fail
                  refine (depth_too b RB.out.2.1 A' c' _ (by exact E11.out.tree (w.heap.size + 1) b A' c' (by simp))).mono ?_
                  rintro e W12 ⟨rfl, hb12⟩
                  have E12 := Lib.hid (E11.out.keep hb12)
                  clear hb12 b0 b1 b2
                  obtain ⟨b0, b1, b2⟩ := E12.out.cells (w.heap.size + 1) b A' c' (by simp)
                  go_wp2_with fail
                  go_ret
                  exact ⟨rfl, E12.out.below⟩
              | false =>
                have D2 := Lib.hid (show detR b q = (zeroT, 80) by rw [D.out.2, if_neg (by rw [hv]; simp)])
                go_wp2_with fail
                refine (cdetach_to b q zeroT 80 D2.out A' A5 c' 2 _ (by exact E8.out.tree (w.heap.size + 1) b A' c' (by simp)) (by exact E8.out.tree g5 q A5 2 (by simp))).mono ?_
                rintro e W9 ⟨hb9, C9, c9, i9, rfl⟩
                have E9 := Lib.hid ((E8.out.keep hb9).push i9)
                clear hb9 i9 x0 x1 x2 b0 b1 b2 E8
                obtain ⟨a0, a1, a2⟩ := E9.out.cells w.heap.size a A c (by simp)
                obtain ⟨b0, b1, b2⟩ := E9.out.cells (w.heap.size + 1) b A' c' (by simp)
                go_wp2_with fail
                refine (like_too a b false hv A A' c c' _ (by exact E9.out.tree w.heap.size a A c (by simp)) (by exact E9.out.tree (w.heap.size + 1) b A' c' (by simp))).mono ?_
                rintro e W10 ⟨rfl, hb10⟩
                have E10 := Lib.hid (E9.out.keep hb10)
                clear hb10 a0 a1 a2 b0 b1 b2 E9 hv
                obtain ⟨b0, b1, b2⟩ := E10.out.cells (w.heap.size + 1) b A' c' (by simp)
                rcases G.out.2.1 with hg | ⟨hg, hs⟩ | ⟨hg, hd⟩
                · have DD := Lib.hid (show ∃ dd, dd = allT x b from ⟨_, rfl⟩)
                  obtain ⟨dd, hdd⟩ := DD.out
                  have DK := Lib.hid hdd
                  have DL := Lib.hid (show dd.ks.length = 1 by rw [hdd]; rfl)
                  have GD := Lib.hid (show genR b x = (dd, 0) by rw [G.out.1, if_neg (by rw [hg]; simp), hdd])
                  have FD := Lib.hid (show hasN (freeT dd) x = false by rw [hdd]; exact G.out.2.2)
                  clear hdd DD hg
                  go_wp2_with fail
                  refine (cgen_to b dd x 0 GD.out A' c' _ (by exact E10.out.tree (w.heap.size + 1) b A' c' (by simp))).mono ?_
                  rintro e W11 ⟨hb11, D11, c11, i11, rfl⟩
                  have E11 := Lib.hid ((E10.out.keep hb11).push i11)
                  clear hb11 i11 b0 b1 b2 E10
                  have nb := W11.heap.size
                  go_wp2_with fail
                  generalize hW : (W11.alloc (.cells #[.int .i64 dd.k, .int .i64 dd.i, .slice D11 dd.ks.length c11] 24)) = W at E11 ⊢
                  clear hW
                  obtain ⟨b0, b1, b2⟩ := E11.out.cells (w.heap.size + 1) b A' c' (by simp)
                  obtain ⟨d0, d1, d2⟩ := E11.out.cells W11.heap.size dd D11 c11 (by simp)
                  rw [DL.out] at d2
                  obtain ⟨kg, ko, Kb, kc, rfl, hkg, kcel, ktree, hkc⟩ := kidsA1 (show IsT W W.heap.size (.node 7 x [b]) D11 c11 by rw [← show dd = Tr.node 7 x [b] from DK.out]; exact E11.out.tree W11.heap.size dd D11 c11 (by simp))
                  obtain ⟨k0, k1, k2⟩ := kcel
                  have b0' := cell_regrown b0
                  have b1' := cell_regrown b1
                  have b2' := cell_regrown b2
                  have d0' := cell_regrown d0
                  have d1' := cell_regrown d1
                  have d2' := cell_regrown d2
                  have k0' := cell_regrown k0
                  have k1' := cell_regrown k1
                  have k2' := cell_regrown k2
                  have KT := Lib.hid ktree
                  have IF := Lib.hid (show ∀ d os, Calls Try.prog 25 #[.int .i64 x, .agg #[.int .i64 dd.k, .int .i64 dd.i, .slice (some ⟨kg, ko, none⟩) 1 c11]] (grow (redrawn W d) os) fun e w'' => e = .returned (.bool false) ∧ ∃ p : Regrown, w'' = grow (redrawn W p.d) p.os from fun d os => Calls.regrown_of (by
                    have := risfree_any x dd (some ⟨kg, ko, none⟩) c11 (grow (redrawn W d) os) ((E11.out.keep (below_regrown W d os)).tree W11.heap.size dd (some ⟨kg, ko, none⟩) c11 (by simp))
                    rw [DL.out, FD.out] at this
                    exact this))
                  have LK := Lib.hid (show ∀ d os, Calls Try.prog 16 #[.agg #[.int .i64 b.k, .int .i64 b.i, .slice Kb b.ks.length kc], .agg #[.int .i64 b.k, .int .i64 b.i, .slice A' b.ks.length c']] (grow (redrawn W d) os) fun e w'' => e = .returned (.bool true) ∧ ∃ p : Regrown, w'' = grow (redrawn W p.d) p.os from fun d os => Calls.regrown_of
                    (like_too b b true (like_same8 b) Kb A' kc c' _ (KT.out.keep (below_regrown W d os) (below_regrown W d os).size) ((E11.out.keep (below_regrown W d os)).tree (w.heap.size + 1) b A' c' (by simp))))
                  clear b0 b1 b2 d0 d1 d2 k0 k1 k2 ktree
                  refine wp_region_quiet_below (by kernel_rfl) (by kernel_rfl) ?_
                  repeat (go_big_quiet_step (first | with_reducible exact IF.out _ _ | with_reducible exact LK.out _ _))
                  refine wpQuiet_nil ?_
                  intro w5 hw'
                  obtain ⟨⟨dq, osq⟩, hw''⟩ := hw'
                  have hb5 := below_regrown W dq osq
                  rw [← hw''] at hb5
                  have E12 := Lib.hid (E11.out.keep hb5)
                  clear hw'' hb5
                  go_wp2_with fail
                  go_ret
                  exact ⟨rfl, E12.out.below⟩
                · have hs' : (((b.sz : Nat) : Int) == 1000) = true := by simp; omega
                  go_wp2_with fail
                  refine (cgen_to b zeroT x 20 (by rw [G.out.1]; rw [if_pos (by rw [hg]; simp), hg]) A' c' _ (by exact E10.out.tree (w.heap.size + 1) b A' c' (by simp))).mono ?_
                  rintro e W11 ⟨hb11, D11, c11, i11, rfl⟩
                  have E11 := Lib.hid ((E10.out.keep hb11).push i11)
                  clear hb11 i11 b0 b1 b2 E10
                  obtain ⟨b0, b1, b2⟩ := E11.out.cells (w.heap.size + 1) b A' c' (by simp)
                  go_wp2_with fail
                  refine (depth_too b RB.out.2.1 A' c' _ (by exact E11.out.tree (w.heap.size + 1) b A' c' (by simp))).mono ?_
                  rintro e W12 ⟨rfl, hb12⟩
                  have E12 := Lib.hid (E11.out.keep hb12)
                  clear hb12 b0 b1 b2
                  obtain ⟨b0, b1, b2⟩ := E12.out.cells (w.heap.size + 1) b A' c' (by simp)
                  by_cases hd : b.dp = 100
                  · have hd' : (((b.dp : Nat) : Int) == 100) = true := by simp; omega
                    clear hd hs hg
                    go_wp2_with fail
                    refine (size_too b RB.out.1 A' c' _ (by exact E12.out.tree (w.heap.size + 1) b A' c' (by simp))).mono ?_
                    rintro e W13 ⟨rfl, hb13⟩
                    have E13 := Lib.hid (E12.out.keep hb13)
                    clear hb13
                    go_wp2_with fail
                    go_ret
                    exact ⟨rfl, E13.out.below⟩
                  · have hd' : (((b.dp : Nat) : Int) == 100) = false := by simp; omega
                    clear hd hs hg
                    go_wp2_with fail
                    refine (size_too b RB.out.1 A' c' _ (by exact E12.out.tree (w.heap.size + 1) b A' c' (by simp))).mono ?_
                    rintro e W13 ⟨rfl, hb13⟩
                    have E13 := Lib.hid (E12.out.keep hb13)
                    clear hb13
                    go_wp2_with fail
                    go_ret
                    exact ⟨rfl, E13.out.below⟩
                · have hd' : (((b.dp : Nat) : Int) == 100) = true := by simp; omega
                  go_wp2_with fail
                  refine (cgen_to b zeroT x 21 (by rw [G.out.1]; rw [if_pos (by rw [hg]; simp), hg]) A' c' _ (by exact E10.out.tree (w.heap.size + 1) b A' c' (by simp))).mono ?_
                  rintro e W11 ⟨hb11, D11, c11, i11, rfl⟩
                  have E11 := Lib.hid ((E10.out.keep hb11).push i11)
                  clear hb11 i11 b0 b1 b2 E10
                  obtain ⟨b0, b1, b2⟩ := E11.out.cells (w.heap.size + 1) b A' c' (by simp)
                  clear hd hg
                  go_wp2_with fail
                  refine (depth_too b RB.out.2.1 A' c' _ (by exact E11.out.tree (w.heap.size + 1) b A' c' (by simp))).mono ?_
                  rintro e W12 ⟨rfl, hb12⟩
                  have E12 := Lib.hid (E11.out.keep hb12)
                  clear hb12 b0 b1 b2
                  obtain ⟨b0, b1, b2⟩ := E12.out.cells (w.heap.size + 1) b A' c' (by simp)
                  go_wp2_with fail
                  go_ret
                  exact ⟨rfl, E12.out.below⟩
            · have h5 : ((r : Int) != 0) = true := by rw [bne_iff_ne]; omega
              clear h0 hr DB GB
              go_wp2_with fail
              go_ret
              exact ⟨rfl, E6.out.below⟩
end Go.Proofs.Ytjdhmfpkhijkeaa
