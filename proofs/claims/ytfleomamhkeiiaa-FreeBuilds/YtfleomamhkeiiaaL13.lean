/- The law FreeBuilds, walked. -/
import Derived.Test.YtfleomamhkeiiaaL12
import Derived.Test.YtfleomamhkeiiaaBX
namespace Go.Proofs.Ytfleomamhkeiiaa
open Go.RowKit
set_option linter.unusedVariables false
set_option linter.unusedSimpArgs false
theorem pow_of (x : Int) (h0 : 0 ≤ x) (h1 : x ≤ 63) : withN 0 x = 2 ^ x.toNat := by unfold withN; rw [if_pos ⟨h0, h1⟩, Nat.zero_or]
structure BM (a b : Tr) (x : Int) (p : Nat) : Prop where
  fc : freeT (.node 6 0 [a, b]) = freeT a ||| freeT b
  fd : freeT (.node 7 x [a]) = withoutN (freeT a) x
  vd : varsT (.node 7 x [a]) = varsT a ||| p
  bd : boundT (.node 7 x [a]) = boundT a ||| p
  sub : varsT a &&& (freeT a ||| boundT a) = freeT a ||| boundT a
theorem builds_math (a b : Tr) (x : Int) (h0 : 0 ≤ x) (h1 : x ≤ 63) : BM a b x (2 ^ x.toNat) := by
  refine ⟨?_, ?_, ?_, ?_, ?_⟩
  · rw [freeT_eq, if_neg (by simp [Tr.k]), if_neg (by simp [Tr.k])]
    simp [Tr.ks, freeL_cons, freeL_nil]
  · rw [freeT_eq, if_neg (by simp [Tr.k]), if_pos (by simp [Tr.k])]
    simp [Tr.ks, Tr.i, freeL_cons, freeL_nil]
  · unfold varsT
    rw [occT_eq, if_neg (by simp [Tr.k]), boundT_eq, if_pos (by simp [Tr.k])]
    simp only [Tr.ks, Tr.i, occL_cons, occL_nil, boundL_cons, boundL_nil, Nat.or_zero]
    rw [pow_of x h0 h1, Nat.or_assoc, Nat.or_comm (2 ^ x.toNat)]
  · rw [boundT_eq, if_pos (by simp [Tr.k])]
    simp only [Tr.ks, Tr.i, boundL_cons, boundL_nil, Nat.or_zero]
    rw [pow_of x h0 h1, Nat.or_comm]
  · rw [Nat.and_comm]; exact sub_and (fun j h => free_vars a j h)
theorem bit_walk (x : Int) (h0 : 0 ≤ x) (h1 : x ≤ 63) : IntKind.u64.wrap ((2 : Int) ^ (x % 64).toNat) = ((2 ^ x.toNat : Nat) : Int) := by
  rw [show x % 64 = x by omega]
  exact wrap_pow x h0 h1
theorem builds_eqs (a b : Tr) (x : Int) (h0 : 0 ≤ x) (h1 : x ≤ 63) : bits .or .u64 (freeT a : Int) (freeT b : Int) = ((freeT a ||| freeT b : Nat) : Int) ∧ bits .andNot .u64 (freeT a : Int) ((2 ^ x.toNat : Nat) : Int) = ((withoutN (freeT a) x : Nat) : Int) ∧ bits .or .u64 (varsT a : Int) ((2 ^ x.toNat : Nat) : Int) = ((varsT a ||| 2 ^ x.toNat : Nat) : Int) ∧ bits .or .u64 (boundT a : Int) ((2 ^ x.toNat : Nat) : Int) = ((boundT a ||| 2 ^ x.toNat : Nat) : Int) ∧ bits .or .u64 (freeT a : Int) (boundT a : Int) = ((freeT a ||| boundT a : Nat) : Int) ∧ bits .and .u64 (varsT a : Int) ((freeT a ||| boundT a : Nat) : Int) = ((freeT a ||| boundT a : Nat) : Int) := by
  have hp : (2 : Nat) ^ x.toNat < 2 ^ 64 := Nat.pow_lt_pow_right (by decide) (by omega)
  refine ⟨or64 _ _ (freeT_U a) (freeT_U b), ?_, or64 _ _ (varsT_U a) hp, or64 _ _ (boundT_U a) hp, or64 _ _ (freeT_U a) (boundT_U a), ?_⟩
  · have e : withoutN (freeT a) x = if (freeT a).testBit x.toNat then freeT a - 2 ^ x.toNat else freeT a := by unfold withoutN; rw [if_pos ⟨h0, h1⟩]
    rw [e]
    exact andNot_pow (freeT a) x.toNat (freeT_U a) (by omega)
  · rw [and64 _ _ (varsT_U a) (Nat.or_lt_two_pow (freeT_U a) (boundT_U a)), (builds_math a b x h0 h1).sub]
set_option maxHeartbeats 40000000 in
set_option maxRecDepth 100000 in
theorem builds_law (a b : Tr) (x : Int) (A A' : Option Addr) (c c' : Nat) (w : World) (ha : IsT w w.heap.size a A c) (hb : IsT w w.heap.size b A' c') :
    Calls Try.prog 11 #[.agg #[.int .i64 a.k, .int .i64 a.i, .slice A a.ks.length c], .agg #[.int .i64 b.k, .int .i64 b.i, .slice A' b.ks.length c'], .int .i64 x] w fun e w' => e = .returned (.bool true) ∧ Below w.heap.size w w' := by
  have FA := Lib.hid (ha.fit a)
  have FB := Lib.hid (hb.fit b)
  have q1 := Bt.new ha
  have Ba0 := Lib.hid (q1.keep (alB _ (.cells #[.int .i64 b.k, .int .i64 b.i, .slice A' b.ks.length c'] 24)))
  have q2 := Bt.new (hb.keep (alB w (.cells #[.int .i64 a.k, .int .i64 a.i, .slice A a.ks.length c] 24)) (by simp))
  have LL0 := Lib.hid ((alB w (.cells #[.int .i64 a.k, .int .i64 a.i, .slice A a.ks.length c] 24)).trans ((alB (w.alloc (.cells #[.int .i64 a.k, .int .i64 a.i, .slice A a.ks.length c] 24)) (.cells #[.int .i64 b.k, .int .i64 b.i, .slice A' b.ks.length c'] 24)).mono (by simp)))
  simp only [World.size_alloc] at q2
  have Bb0 := Lib.hid q2
  have ba0 := Ba0.out.c0
  have ba1 := Ba0.out.c1
  have ba2 := Ba0.out.c2
  have bb0 := Bb0.out.c0
  have bb1 := Bb0.out.c1
  have bb2 := Bb0.out.c2
  clear ha hb q1 q2
  cases hA : rFB a with
  | false =>
    go_enter Try.func11, Try.ntmps11
    go_wp2_with fail
    refine (risform_any a A c _ (by exact Ba0.out.tree)).mono ?_
    rintro e w1 ⟨rfl, hb⟩
    rw [hA]
    have Ba1 := Lib.hid (Ba0.out.keep hb)
    have Bb1 := Lib.hid (Bb0.out.keep hb)
    have LL1 := Lib.hid (LL0.out.trans (hb.mono LL0.out.size))
    clear hb ba0 ba1 ba2 bb0 bb1 bb2
    have ba0 := Ba1.out.c0
    have ba1 := Ba1.out.c1
    have ba2 := Ba1.out.c2
    have bb0 := Bb1.out.c0
    have bb1 := Bb1.out.c1
    have bb2 := Bb1.out.c2
    go_wp2_with fail
    go_ret
    exact ⟨rfl, LL1.out⟩
  | true =>
    cases hB : rFB b with
    | false =>
      go_enter Try.func11, Try.ntmps11
      go_wp2_with fail
      refine (risform_any a A c _ (by exact Ba0.out.tree)).mono ?_
      rintro e w1 ⟨rfl, hb⟩
      rw [hA]
      have Ba1 := Lib.hid (Ba0.out.keep hb)
      have Bb1 := Lib.hid (Bb0.out.keep hb)
      have LL1 := Lib.hid (LL0.out.trans (hb.mono LL0.out.size))
      clear hb ba0 ba1 ba2 bb0 bb1 bb2
      have ba0 := Ba1.out.c0
      have ba1 := Ba1.out.c1
      have ba2 := Ba1.out.c2
      have bb0 := Bb1.out.c0
      have bb1 := Bb1.out.c1
      have bb2 := Bb1.out.c2
      go_wp2_with fail
      refine (risform_any b A' c' _ (by exact Bb1.out.tree)).mono ?_
      rintro e w2 ⟨rfl, hb⟩
      rw [hB]
      have Ba2 := Lib.hid (Ba1.out.keep hb)
      have Bb2 := Lib.hid (Bb1.out.keep hb)
      have LL2 := Lib.hid (LL1.out.trans (hb.mono LL1.out.size))
      clear hb ba0 ba1 ba2 bb0 bb1 bb2
      have ba0 := Ba2.out.c0
      have ba1 := Ba2.out.c1
      have ba2 := Ba2.out.c2
      have bb0 := Bb2.out.c0
      have bb1 := Bb2.out.c1
      have bb2 := Bb2.out.c2
      go_wp2_with fail
      go_ret
      exact ⟨rfl, LL2.out⟩
    | true =>
      by_cases hx0 : x < 0
      · go_enter Try.func11, Try.ntmps11
        go_wp2_with fail
        refine (risform_any a A c _ (by exact Ba0.out.tree)).mono ?_
        rintro e w1 ⟨rfl, hb⟩
        rw [hA]
        have Ba1 := Lib.hid (Ba0.out.keep hb)
        have Bb1 := Lib.hid (Bb0.out.keep hb)
        have LL1 := Lib.hid (LL0.out.trans (hb.mono LL0.out.size))
        clear hb ba0 ba1 ba2 bb0 bb1 bb2
        have ba0 := Ba1.out.c0
        have ba1 := Ba1.out.c1
        have ba2 := Ba1.out.c2
        have bb0 := Bb1.out.c0
        have bb1 := Bb1.out.c1
        have bb2 := Bb1.out.c2
        go_wp2_with fail
        refine (risform_any b A' c' _ (by exact Bb1.out.tree)).mono ?_
        rintro e w2 ⟨rfl, hb⟩
        rw [hB]
        have Ba2 := Lib.hid (Ba1.out.keep hb)
        have Bb2 := Lib.hid (Bb1.out.keep hb)
        have LL2 := Lib.hid (LL1.out.trans (hb.mono LL1.out.size))
        clear hb ba0 ba1 ba2 bb0 bb1 bb2
        have ba0 := Ba2.out.c0
        have ba1 := Ba2.out.c1
        have ba2 := Ba2.out.c2
        have bb0 := Bb2.out.c0
        have bb1 := Bb2.out.c1
        have bb2 := Bb2.out.c2
        go_wp2_with fail
        go_ret
        exact ⟨rfl, LL2.out⟩
      · by_cases hx1 : 63 < x
        · go_enter Try.func11, Try.ntmps11
          go_wp2_with fail
          refine (risform_any a A c _ (by exact Ba0.out.tree)).mono ?_
          rintro e w1 ⟨rfl, hb⟩
          rw [hA]
          have Ba1 := Lib.hid (Ba0.out.keep hb)
          have Bb1 := Lib.hid (Bb0.out.keep hb)
          have LL1 := Lib.hid (LL0.out.trans (hb.mono LL0.out.size))
          clear hb ba0 ba1 ba2 bb0 bb1 bb2
          have ba0 := Ba1.out.c0
          have ba1 := Ba1.out.c1
          have ba2 := Ba1.out.c2
          have bb0 := Bb1.out.c0
          have bb1 := Bb1.out.c1
          have bb2 := Bb1.out.c2
          go_wp2_with fail
          refine (risform_any b A' c' _ (by exact Bb1.out.tree)).mono ?_
          rintro e w2 ⟨rfl, hb⟩
          rw [hB]
          have Ba2 := Lib.hid (Ba1.out.keep hb)
          have Bb2 := Lib.hid (Bb1.out.keep hb)
          have LL2 := Lib.hid (LL1.out.trans (hb.mono LL1.out.size))
          clear hb ba0 ba1 ba2 bb0 bb1 bb2
          have ba0 := Ba2.out.c0
          have ba1 := Ba2.out.c1
          have ba2 := Ba2.out.c2
          have bb0 := Bb2.out.c0
          have bb1 := Bb2.out.c1
          have bb2 := Bb2.out.c2
          go_wp2_with fail
          go_ret
          exact ⟨rfl, LL2.out⟩
        · have hx0' : 0 ≤ x := by omega
          have hx1' : x ≤ 63 := by omega
          go_enter Try.func11, Try.ntmps11
          go_wp2_with fail
          refine (risform_any a A c _ (by exact Ba0.out.tree)).mono ?_
          rintro e w1 ⟨rfl, hb⟩
          rw [hA]
          have Ba1 := Lib.hid (Ba0.out.keep hb)
          have Bb1 := Lib.hid (Bb0.out.keep hb)
          have LL1 := Lib.hid (LL0.out.trans (hb.mono LL0.out.size))
          clear hb ba0 ba1 ba2 bb0 bb1 bb2
          have ba0 := Ba1.out.c0
          have ba1 := Ba1.out.c1
          have ba2 := Ba1.out.c2
          have bb0 := Bb1.out.c0
          have bb1 := Bb1.out.c1
          have bb2 := Bb1.out.c2
          go_wp2_with fail
          refine (risform_any b A' c' _ (by exact Bb1.out.tree)).mono ?_
          rintro e w2 ⟨rfl, hb⟩
          rw [hB]
          have Ba2 := Lib.hid (Ba1.out.keep hb)
          have Bb2 := Lib.hid (Bb1.out.keep hb)
          have LL2 := Lib.hid (LL1.out.trans (hb.mono LL1.out.size))
          clear hb ba0 ba1 ba2 bb0 bb1 bb2
          have ba0 := Ba2.out.c0
          have ba1 := Ba2.out.c1
          have ba2 := Ba2.out.c2
          have bb0 := Bb2.out.c0
          have bb1 := Bb2.out.c1
          have bb2 := Bb2.out.c2
          go_wp2_with fail
          have hs2 : w.heap.size + 2 ≤ w2.heap.size := by have := block_lt_of_cell Bb2.out.c0; simp at this; omega
          have SK := Lib.hid (show ∀ X : World, Below w2.heap.size w2 X → (X.cell? ⟨w.heap.size, 0, none⟩ = some (.int .i64 a.k) ∧ X.cell? ⟨w.heap.size, 1, none⟩ = some (.int .i64 a.i) ∧ X.cell? ⟨w.heap.size, 2, none⟩ = some (.slice A a.ks.length c)) ∧ (X.cell? ⟨w.heap.size + 1, 0, none⟩ = some (.int .i64 b.k) ∧ X.cell? ⟨w.heap.size + 1, 1, none⟩ = some (.int .i64 b.i) ∧ X.cell? ⟨w.heap.size + 1, 2, none⟩ = some (.slice A' b.ks.length c')) from fun X hX => by
            have p := Ba2.out.keep hX
            have q := Bb2.out.keep hX
            exact ⟨⟨p.c0, p.c1, p.c2⟩, q.c0, q.c1, q.c2⟩)
          have TK := Lib.hid (show ∀ X : World, Below w2.heap.size w2 X → IsT X X.heap.size a A c ∧ IsT X X.heap.size b A' c' from fun X hX => ⟨(Ba2.out.keep hX).tree, (Bb2.out.keep hX).tree⟩)
          clear ba0 ba1 ba2 bb0 bb1 bb2
          go_region_held3 (fun w' => (w'.cell? ⟨w.heap.size, 0, none⟩ = some (.int .i64 a.k) ∧ w'.cell? ⟨w.heap.size, 1, none⟩ = some (.int .i64 a.i) ∧ w'.cell? ⟨w.heap.size, 2, none⟩ = some (.slice A a.ks.length c)) ∧ (w'.cell? ⟨w.heap.size + 1, 0, none⟩ = some (.int .i64 b.k) ∧ w'.cell? ⟨w.heap.size + 1, 1, none⟩ = some (.int .i64 b.i) ∧ w'.cell? ⟨w.heap.size + 1, 2, none⟩ = some (.slice A' b.ks.length c')))
            (first
              | with_reducible exact SK.out _ ((Below.refl _ _).drew)
              | with_reducible exact SK.out _ ((alB _ _).drew)
              | with_reducible exact SK.out _ hw3
              | with_reducible exact SK.out _ hw4
              | with_reducible exact SK.out _ (hw3.alloc hw3.size _)
              | with_reducible exact SK.out _ (hw4.alloc hw4.size _)
              | exact SK.out _ ((hw4.alloc hw4.size _).alloc (Nat.le_trans hw4.size (by simp)) _)
              | exact SK.out _ (below_set3 (hw4.alloc hw4.size _) _ _ _ (by first | exact Nat.le_refl _ | exact hw3.size)))
            (first
              | (go_at_call_of 33 (Value.slice A (Tr.ks a).length c); refine (copy_any a.sz a A c _ (Nat.le_refl _) (by first | exact (TK.out _ ((Below.refl _ _).drew)).1 | exact (TK.out _ ((alB _ _).drew)).1)).mono ?_; rintro e w3 ⟨A2, c2, rfl, hoa, hba⟩; have hw3 : Below w2.heap.size w2 w3 := (by first | exact ((Below.refl w2.heap.size w2).drew).trans hba | exact ((alB w2 _).drew).trans (hba.mono (by simp))); have hz3 := hw3.size; (first | (have zb : Box3 w3 w2.heap.size (.int .i64 0) (.int .i64 0) (.slice none 0 0) := (hba.block _ (by simp)).trans (Box3.new w2 _ _ _)) | skip); (first | (rw [drew_sz, World.size_alloc] at hoa; obtain ⟨la, hla, hOA⟩ : ∃ la, la = w2.heap.size + 1 ∧ OwnT w3 la w3.heap.size a A2 c2 := ⟨_, rfl, hoa⟩) | (obtain ⟨la, hla, hOA⟩ : ∃ la, la = w2.heap.size ∧ OwnT w3 la w3.heap.size a A2 c2 := ⟨_, rfl, hoa⟩)); have OA := Lib.hid hOA; clear hoa hba hOA)
              | (go_at_call_of 33 (Value.slice A' (Tr.ks b).length c'); refine (copy_any b.sz b A' c' _ (Nat.le_refl _) (by first | exact (TK.out _ hw3).2 | exact (TK.out _ (hw3.alloc hw3.size _)).2)).mono ?_; rintro e w4 ⟨A3, c3, rfl, hob, hbb⟩; have hw4 : Below w2.heap.size w2 w4 := (by first | exact hw3.trans (hbb.mono hw3.size) | exact (hw3.alloc hw3.size _).trans (hbb.mono (Nat.le_trans hw3.size (by simp)))); have hz4 : w3.heap.size ≤ w4.heap.size := (by first | exact hbb.size | exact Nat.le_trans (by simp) hbb.size); (first | (rw [World.size_alloc] at hob; obtain ⟨lb, hlb, hOB⟩ : ∃ lb, lb = w3.heap.size + 1 ∧ OwnT w4 lb w4.heap.size b A3 c3 := ⟨_, rfl, hob⟩) | (obtain ⟨lb, hlb, hOB⟩ : ∃ lb, lb = w3.heap.size ∧ OwnT w4 lb w4.heap.size b A3 c3 := ⟨_, rfl, hob⟩)); have OB := Lib.hid hOB; clear hOB; (first | (have zb : Box3 w4 w3.heap.size (.int .i64 0) (.int .i64 0) (.slice none 0 0) := (hbb.block _ (by simp)).trans (Box3.new w3 _ _ _)) | (replace zb := zb.keep hbb zb.lt) | skip); have o34 : ∀ k, k < w3.heap.size → w4.heap[k]? = w3.heap[k]? := (by first | exact fun k hk => hbb.block k hk | exact fun k hk => (hbb.block k (by simp; omega)).trans (Below.heap_alloc _ _ _ hk)); have OA4 := Lib.hid (OwnT.same _ (fun k _ k2 => o34 k k2) OA.out); (try (have zc0 := fun o => (zb.keep (alB w4 o) zb.lt).cells.1; have zc1 := fun o => (zb.keep (alB w4 o) zb.lt).cells.2.1; have zc2 := fun o => (zb.keep (alB w4 o) zb.lt).cells.2.2; have zf0 := fun o => (zb.keep (alB w4 o) zb.lt).frozen 0; have zf1 := fun o => (zb.keep (alB w4 o) zb.lt).frozen 1; have zf2 := fun o => (zb.keep (alB w4 o) zb.lt).frozen 2)); clear hob hbb o34))
          · with_reducible change Exit.then _ _ Exit.normal _ ((w4.alloc (.cells #[.int .i64 a.k, .int .i64 a.i, .slice A2 a.ks.length c2, .int .i64 b.k, .int .i64 b.i, .slice A3 b.ks.length c3] 24)).alloc (.cells #[.int .i64 6, .int .i64 0, .slice (some ⟨w4.heap.size, 0, none⟩) 2 2] 24))
            have ia : IsT ((w4.alloc (.cells #[.int .i64 a.k, .int .i64 a.i, .slice A2 a.ks.length c2, .int .i64 b.k, .int .i64 b.i, .slice A3 b.ks.length c3] 24)).alloc (.cells #[.int .i64 6, .int .i64 0, .slice (some ⟨w4.heap.size, 0, none⟩) 2 2] 24)) ((w4.alloc (.cells #[.int .i64 a.k, .int .i64 a.i, .slice A2 a.ks.length c2, .int .i64 b.k, .int .i64 b.i, .slice A3 b.ks.length c3] 24)).alloc (.cells #[.int .i64 6, .int .i64 0, .slice (some ⟨w4.heap.size, 0, none⟩) 2 2] 24)).heap.size a A2 c2 := ownIs OA4.out (fun k k1 k2 => al2_far _ _ _ (by omega)) (by first | (simp; omega) | (simp; done)) FA.out
            have ib : IsT ((w4.alloc (.cells #[.int .i64 a.k, .int .i64 a.i, .slice A2 a.ks.length c2, .int .i64 b.k, .int .i64 b.i, .slice A3 b.ks.length c3] 24)).alloc (.cells #[.int .i64 6, .int .i64 0, .slice (some ⟨w4.heap.size, 0, none⟩) 2 2] 24)) ((w4.alloc (.cells #[.int .i64 a.k, .int .i64 a.i, .slice A2 a.ks.length c2, .int .i64 b.k, .int .i64 b.i, .slice A3 b.ks.length c3] 24)).alloc (.cells #[.int .i64 6, .int .i64 0, .slice (some ⟨w4.heap.size, 0, none⟩) 2 2] 24)).heap.size b A3 c3 := ownIs OB.out (fun k k1 k2 => al2_far _ _ _ (by omega)) (by first | (simp; done) | (simp; omega)) FB.out
            have BC := Lib.hid (show Bt ((w4.alloc (.cells #[.int .i64 a.k, .int .i64 a.i, .slice A2 a.ks.length c2, .int .i64 b.k, .int .i64 b.i, .slice A3 b.ks.length c3] 24)).alloc (.cells #[.int .i64 6, .int .i64 0, .slice (some ⟨w4.heap.size, 0, none⟩) 2 2] 24)) (w4.heap.size + 1) (.node 6 0 [a, b]) (some ⟨w4.heap.size, 0, none⟩) 2 from (by have q := Bt.new (W := w4.alloc (.cells #[.int .i64 a.k, .int .i64 a.i, .slice A2 a.ks.length c2, .int .i64 b.k, .int .i64 b.i, .slice A3 b.ks.length c3] 24)) (t := .node 6 0 [a, b]) (A := some ⟨w4.heap.size, 0, none⟩) (c := 2) (isT_two2 (new_at w4 _) (ownIs OA4.out (fun k k1 k2 => Below.heap_alloc _ _ _ (by omega)) (by first | (simp; omega) | (simp; done)) FA.out) (ownIs OB.out (fun k k1 k2 => Below.heap_alloc _ _ _ (by omega)) (by first | (simp; done) | (simp; omega)) FB.out)); rw [World.size_alloc] at q; exact q))
            have LW := Lib.hid (show Below w2.heap.size w2 ((w4.alloc (.cells #[.int .i64 a.k, .int .i64 a.i, .slice A2 a.ks.length c2, .int .i64 b.k, .int .i64 b.i, .slice A3 b.ks.length c3] 24)).alloc (.cells #[.int .i64 6, .int .i64 0, .slice (some ⟨w4.heap.size, 0, none⟩) 2 2] 24)) from ((hw4.alloc hw4.size _).alloc (Nat.le_trans hw4.size (by simp)) _))
            clear ia ib
            generalize ((w4.alloc (.cells #[.int .i64 a.k, .int .i64 a.i, .slice A2 a.ks.length c2, .int .i64 b.k, .int .i64 b.i, .slice A3 b.ks.length c3] 24)).alloc (.cells #[.int .i64 6, .int .i64 0, .slice (some ⟨w4.heap.size, 0, none⟩) 2 2] 24)) = W5 at BC LW ⊢
            generalize (some ⟨w4.heap.size, 0, none⟩ : Option Addr) = A5 at BC ⊢
            generalize w4.heap.size + 1 = g5 at BC ⊢
            have Ba5 := Lib.hid (Ba2.out.keep LW.out)
            have Bb5 := Lib.hid (Bb2.out.keep LW.out)
            have LL5 := Lib.hid (LL2.out.trans (LW.out.mono LL2.out.size))
            clear LW
            have ba0 := Ba5.out.c0
            have ba1 := Ba5.out.c1
            have ba2 := Ba5.out.c2
            go_wp2_with fail
            refine (copy_any a.sz a A c _ (Nat.le_refl _) (by exact Ba5.out.tree)).mono ?_
            rintro e w6 ⟨A6, c6, rfl, hoa, hba⟩
            have OA6 := Lib.hid hoa
            have hw6 := hba
            clear hoa hba ba0 ba1 ba2
            have LYa : Below w6.heap.size w6 ((w6.alloc (.cells #[.int .i64 a.k, .int .i64 a.i, .slice A6 a.ks.length c6] 24)).alloc (.cells #[.int .i64 7, .int .i64 x, .slice (some ⟨w6.heap.size, 0, none⟩) 1 1] 24)) := (alB _ _).trans ((alB _ _).mono (by simp))
            have q : Bt ((((w6.alloc (.cells #[.int .i64 a.k, .int .i64 a.i, .slice A6 a.ks.length c6] 24)).alloc (.cells #[.int .i64 7, .int .i64 x, .slice (some ⟨w6.heap.size, 0, none⟩) 1 1] 24)))) (w6.heap.size + 1) (.node 7 x [a]) (some ⟨w6.heap.size, 0, none⟩) 1 := by
              have q := Bt.new (W := w6.alloc (.cells #[.int .i64 a.k, .int .i64 a.i, .slice A6 a.ks.length c6] 24)) (t := .node 7 x [a]) (A := some ⟨w6.heap.size, 0, none⟩) (c := 1) (isT_one1 (new_at w6 _) (ownIs OA6.out (fun k k1 k2 => Below.heap_alloc _ _ _ (by omega)) (by simp) FA.out))
              rw [World.size_alloc] at q
              exact q
            have BD := Lib.hid q
            have Ba7 := Lib.hid ((Ba5.out.keep hw6).keep LYa)
            have Bb7 := Lib.hid ((Bb5.out.keep hw6).keep LYa)
            have BC7 := Lib.hid ((BC.out.keep hw6).keep LYa)
            have LL7 := Lib.hid ((LL5.out.trans (hw6.mono LL5.out.size)).trans (LYa.mono (Nat.le_trans LL5.out.size hw6.size)))
            have bc0 : (((w6.alloc (.cells #[.int .i64 a.k, .int .i64 a.i, .slice A6 a.ks.length c6] 24)).alloc (.cells #[.int .i64 7, .int .i64 x, .slice (some ⟨w6.heap.size, 0, none⟩) 1 1] 24))).cell? ⟨g5, 0, none⟩ = some (.int .i64 6) := BC7.out.c0
            have bc1 : (((w6.alloc (.cells #[.int .i64 a.k, .int .i64 a.i, .slice A6 a.ks.length c6] 24)).alloc (.cells #[.int .i64 7, .int .i64 x, .slice (some ⟨w6.heap.size, 0, none⟩) 1 1] 24))).cell? ⟨g5, 1, none⟩ = some (.int .i64 0) := BC7.out.c1
            have bc2 : (((w6.alloc (.cells #[.int .i64 a.k, .int .i64 a.i, .slice A6 a.ks.length c6] 24)).alloc (.cells #[.int .i64 7, .int .i64 x, .slice (some ⟨w6.heap.size, 0, none⟩) 1 1] 24))).cell? ⟨g5, 2, none⟩ = some (.slice A5 2 2) := BC7.out.c2
            clear q LYa hw6 BC
            go_wp2_with fail
            generalize ((w6.alloc (.cells #[.int .i64 a.k, .int .i64 a.i, .slice A6 a.ks.length c6] 24)).alloc (.cells #[.int .i64 7, .int .i64 x, .slice (some ⟨w6.heap.size, 0, none⟩) 1 1] 24)) = W7 at BD Ba7 Bb7 BC7 LL7 bc0 bc1 bc2 ⊢
            generalize w6.heap.size + 1 = g7 at BD ⊢
            generalize (some ⟨w6.heap.size, 0, none⟩ : Option Addr) = A7 at BD ⊢
            have BD7 := BD
            clear bc0 bc1 bc2
            have ba0 := Ba7.out.c0
            have ba1 := Ba7.out.c1
            have ba2 := Ba7.out.c2
            have bb0 := Bb7.out.c0
            have bb1 := Bb7.out.c1
            have bb2 := Bb7.out.c2
            have bc0 : W7.cell? ⟨g5, 0, none⟩ = some (.int .i64 6) := BC7.out.c0
            have bc1 : W7.cell? ⟨g5, 1, none⟩ = some (.int .i64 0) := BC7.out.c1
            have bc2 : W7.cell? ⟨g5, 2, none⟩ = some (.slice A5 2 2) := BC7.out.c2
            have bd0 : W7.cell? ⟨g7, 0, none⟩ = some (.int .i64 7) := BD7.out.c0
            have bd1 : W7.cell? ⟨g7, 1, none⟩ = some (.int .i64 x) := BD7.out.c1
            have bd2 : W7.cell? ⟨g7, 2, none⟩ = some (.slice A7 1 1) := BD7.out.c2
            have RU := Lib.hid (fun (W : World) (h : IsT W W.heap.size (.node 6 0 [a, b]) A5 2) => rright_any (.node 6 0 [a, b]) A5 2 W h)
            have RV := Lib.hid (fun (W : World) (h : IsT W W.heap.size (.node 7 x [a]) A7 1) => rright_any (.node 7 x [a]) A7 1 W h)
            have FU := Lib.hid (fun (W : World) (h : IsT W W.heap.size (.node 6 0 [a, b]) A5 2) => free_any (.node 6 0 [a, b]) A5 2 W h)
            have FVV := Lib.hid (fun (W : World) (h : IsT W W.heap.size (.node 7 x [a]) A7 1) => free_any (.node 7 x [a]) A7 1 W h)
            have VV := Lib.hid (fun (W : World) (h : IsT W W.heap.size (.node 7 x [a]) A7 1) => vars_any (.node 7 x [a]) A7 1 W h)
            have BV := Lib.hid (fun (W : World) (h : IsT W W.heap.size (.node 7 x [a]) A7 1) => bound_any (.node 7 x [a]) A7 1 W h)
            simp only [Tr.k, Tr.i, Tr.ks, List.length_cons, List.length_nil, Nat.zero_add, Nat.reduceAdd] at RU RV FU FVV VV BV
            obtain ⟨ru, hru⟩ : ∃ ru, ru = rightN (.node 6 0 [a, b]) := ⟨_, rfl⟩
            obtain ⟨rv, hrv⟩ : ∃ rv, rv = rightN (.node 7 x [a]) := ⟨_, rfl⟩
            refine (RU.out _ (by exact BC7.out.tree)).mono ?_
            rintro e W8 ⟨rfl, hb⟩
            rw [← hru]
            have Ba8 := Lib.hid (Ba7.out.keep hb)
            have Bb8 := Lib.hid (Bb7.out.keep hb)
            have BC8 := Lib.hid (BC7.out.keep hb)
            have BD8 := Lib.hid (BD7.out.keep hb)
            have LL8 := Lib.hid (LL7.out.trans (hb.mono LL7.out.size))
            clear hb ba0 ba1 ba2 bb0 bb1 bb2 bc0 bc1 bc2 bd0 bd1 bd2
            have ba0 := Ba8.out.c0
            have ba1 := Ba8.out.c1
            have ba2 := Ba8.out.c2
            have bb0 := Bb8.out.c0
            have bb1 := Bb8.out.c1
            have bb2 := Bb8.out.c2
            have bc0 : W8.cell? ⟨g5, 0, none⟩ = some (.int .i64 6) := BC8.out.c0
            have bc1 : W8.cell? ⟨g5, 1, none⟩ = some (.int .i64 0) := BC8.out.c1
            have bc2 : W8.cell? ⟨g5, 2, none⟩ = some (.slice A5 2 2) := BC8.out.c2
            have bd0 : W8.cell? ⟨g7, 0, none⟩ = some (.int .i64 7) := BD8.out.c0
            have bd1 : W8.cell? ⟨g7, 1, none⟩ = some (.int .i64 x) := BD8.out.c1
            have bd2 : W8.cell? ⟨g7, 2, none⟩ = some (.slice A7 1 1) := BD8.out.c2
            by_cases h8 : ru = 0
            · have e8 : ((ru : Int) != 0) = false := by simp [h8]
              go_wp2_with fail
              refine (RV.out _ (by exact BD8.out.tree)).mono ?_
              rintro e W9 ⟨rfl, hb⟩
              rw [← hrv]
              have Ba9 := Lib.hid (Ba8.out.keep hb)
              have Bb9 := Lib.hid (Bb8.out.keep hb)
              have BC9 := Lib.hid (BC8.out.keep hb)
              have BD9 := Lib.hid (BD8.out.keep hb)
              have LL9 := Lib.hid (LL8.out.trans (hb.mono LL8.out.size))
              clear hb ba0 ba1 ba2 bb0 bb1 bb2 bc0 bc1 bc2 bd0 bd1 bd2
              have ba0 := Ba9.out.c0
              have ba1 := Ba9.out.c1
              have ba2 := Ba9.out.c2
              have bb0 := Bb9.out.c0
              have bb1 := Bb9.out.c1
              have bb2 := Bb9.out.c2
              have bc0 : W9.cell? ⟨g5, 0, none⟩ = some (.int .i64 6) := BC9.out.c0
              have bc1 : W9.cell? ⟨g5, 1, none⟩ = some (.int .i64 0) := BC9.out.c1
              have bc2 : W9.cell? ⟨g5, 2, none⟩ = some (.slice A5 2 2) := BC9.out.c2
              have bd0 : W9.cell? ⟨g7, 0, none⟩ = some (.int .i64 7) := BD9.out.c0
              have bd1 : W9.cell? ⟨g7, 1, none⟩ = some (.int .i64 x) := BD9.out.c1
              have bd2 : W9.cell? ⟨g7, 2, none⟩ = some (.slice A7 1 1) := BD9.out.c2
              by_cases h9 : rv = 0
              · have e9 : ((rv : Int) != 0) = false := by simp [h9]
                have rA : rightN a = 0 := by unfold rFB at hA; simp at hA; exact hA.1
                have rB : rightN b = 0 := by unfold rFB at hB; simp at hB; exact hB.1
                have rU : rightN (.node 6 0 [a, b]) = 0 := by rw [← hru]; exact h8
                have rV : rightN (.node 7 x [a]) = 0 := by rw [← hrv]; exact h9
                have M := Lib.hid (builds_math a b x hx0' hx1')
                have vA := Lib.hid (valR_ok (f := freeT) rA)
                have vB := Lib.hid (valR_ok (f := freeT) rB)
                have vU := Lib.hid (valR_ok (f := freeT) rU)
                have vV := Lib.hid (valR_ok (f := freeT) rV)
                have wA := Lib.hid (valR_ok (f := varsT) rA)
                have wV := Lib.hid (valR_ok (f := varsT) rV)
                have cA := Lib.hid (valR_ok (f := boundT) rA)
                have cV := Lib.hid (valR_ok (f := boundT) rV)
                have RR := Lib.hid (And.intro rA (And.intro rB (And.intro rU rV)))
                clear rA rB rU rV hru hrv h8 h9
                go_wp2_with fail
                refine (free_any a A c _ (by exact Ba9.out.tree)).mono ?_
                rintro e W10 ⟨rfl, hb⟩
                rw [vA.out, RR.out.1]
                have Ba10 := Lib.hid (Ba9.out.keep hb)
                have Bb10 := Lib.hid (Bb9.out.keep hb)
                have BC10 := Lib.hid (BC9.out.keep hb)
                have BD10 := Lib.hid (BD9.out.keep hb)
                have LL10 := Lib.hid (LL9.out.trans (hb.mono LL9.out.size))
                clear hb ba0 ba1 ba2 bb0 bb1 bb2 bc0 bc1 bc2 bd0 bd1 bd2
                have ba0 := Ba10.out.c0
                have ba1 := Ba10.out.c1
                have ba2 := Ba10.out.c2
                have bb0 := Bb10.out.c0
                have bb1 := Bb10.out.c1
                have bb2 := Bb10.out.c2
                have bc0 : W10.cell? ⟨g5, 0, none⟩ = some (.int .i64 6) := BC10.out.c0
                have bc1 : W10.cell? ⟨g5, 1, none⟩ = some (.int .i64 0) := BC10.out.c1
                have bc2 : W10.cell? ⟨g5, 2, none⟩ = some (.slice A5 2 2) := BC10.out.c2
                have bd0 : W10.cell? ⟨g7, 0, none⟩ = some (.int .i64 7) := BD10.out.c0
                have bd1 : W10.cell? ⟨g7, 1, none⟩ = some (.int .i64 x) := BD10.out.c1
                have bd2 : W10.cell? ⟨g7, 2, none⟩ = some (.slice A7 1 1) := BD10.out.c2
                go_wp2_with fail
                refine (free_any b A' c' _ (by exact Bb10.out.tree)).mono ?_
                rintro e W11 ⟨rfl, hb⟩
                rw [vB.out, RR.out.2.1]
                have Ba11 := Lib.hid (Ba10.out.keep hb)
                have Bb11 := Lib.hid (Bb10.out.keep hb)
                have BC11 := Lib.hid (BC10.out.keep hb)
                have BD11 := Lib.hid (BD10.out.keep hb)
                have LL11 := Lib.hid (LL10.out.trans (hb.mono LL10.out.size))
                clear hb ba0 ba1 ba2 bb0 bb1 bb2 bc0 bc1 bc2 bd0 bd1 bd2
                have ba0 := Ba11.out.c0
                have ba1 := Ba11.out.c1
                have ba2 := Ba11.out.c2
                have bb0 := Bb11.out.c0
                have bb1 := Bb11.out.c1
                have bb2 := Bb11.out.c2
                have bc0 : W11.cell? ⟨g5, 0, none⟩ = some (.int .i64 6) := BC11.out.c0
                have bc1 : W11.cell? ⟨g5, 1, none⟩ = some (.int .i64 0) := BC11.out.c1
                have bc2 : W11.cell? ⟨g5, 2, none⟩ = some (.slice A5 2 2) := BC11.out.c2
                have bd0 : W11.cell? ⟨g7, 0, none⟩ = some (.int .i64 7) := BD11.out.c0
                have bd1 : W11.cell? ⟨g7, 1, none⟩ = some (.int .i64 x) := BD11.out.c1
                have bd2 : W11.cell? ⟨g7, 2, none⟩ = some (.slice A7 1 1) := BD11.out.c2
                go_wp2_with fail
                refine (FU.out _ (by exact BC11.out.tree)).mono ?_
                rintro e W12 ⟨rfl, hb⟩
                rw [vU.out, RR.out.2.2.1]
                have Ba12 := Lib.hid (Ba11.out.keep hb)
                have Bb12 := Lib.hid (Bb11.out.keep hb)
                have BC12 := Lib.hid (BC11.out.keep hb)
                have BD12 := Lib.hid (BD11.out.keep hb)
                have LL12 := Lib.hid (LL11.out.trans (hb.mono LL11.out.size))
                clear hb ba0 ba1 ba2 bb0 bb1 bb2 bc0 bc1 bc2 bd0 bd1 bd2
                have ba0 := Ba12.out.c0
                have ba1 := Ba12.out.c1
                have ba2 := Ba12.out.c2
                have bb0 := Bb12.out.c0
                have bb1 := Bb12.out.c1
                have bb2 := Bb12.out.c2
                have bc0 : W12.cell? ⟨g5, 0, none⟩ = some (.int .i64 6) := BC12.out.c0
                have bc1 : W12.cell? ⟨g5, 1, none⟩ = some (.int .i64 0) := BC12.out.c1
                have bc2 : W12.cell? ⟨g5, 2, none⟩ = some (.slice A5 2 2) := BC12.out.c2
                have bd0 : W12.cell? ⟨g7, 0, none⟩ = some (.int .i64 7) := BD12.out.c0
                have bd1 : W12.cell? ⟨g7, 1, none⟩ = some (.int .i64 x) := BD12.out.c1
                have bd2 : W12.cell? ⟨g7, 2, none⟩ = some (.slice A7 1 1) := BD12.out.c2
                go_wp2_with fail
                refine (FVV.out _ (by exact BD12.out.tree)).mono ?_
                rintro e W13 ⟨rfl, hb⟩
                rw [vV.out, RR.out.2.2.2]
                have Ba13 := Lib.hid (Ba12.out.keep hb)
                have Bb13 := Lib.hid (Bb12.out.keep hb)
                have BC13 := Lib.hid (BC12.out.keep hb)
                have BD13 := Lib.hid (BD12.out.keep hb)
                have LL13 := Lib.hid (LL12.out.trans (hb.mono LL12.out.size))
                clear hb ba0 ba1 ba2 bb0 bb1 bb2 bc0 bc1 bc2 bd0 bd1 bd2
                have ba0 := Ba13.out.c0
                have ba1 := Ba13.out.c1
                have ba2 := Ba13.out.c2
                have bb0 := Bb13.out.c0
                have bb1 := Bb13.out.c1
                have bb2 := Bb13.out.c2
                have bc0 : W13.cell? ⟨g5, 0, none⟩ = some (.int .i64 6) := BC13.out.c0
                have bc1 : W13.cell? ⟨g5, 1, none⟩ = some (.int .i64 0) := BC13.out.c1
                have bc2 : W13.cell? ⟨g5, 2, none⟩ = some (.slice A5 2 2) := BC13.out.c2
                have bd0 : W13.cell? ⟨g7, 0, none⟩ = some (.int .i64 7) := BD13.out.c0
                have bd1 : W13.cell? ⟨g7, 1, none⟩ = some (.int .i64 x) := BD13.out.c1
                have bd2 : W13.cell? ⟨g7, 2, none⟩ = some (.slice A7 1 1) := BD13.out.c2
                go_wp2_with fail
                refine (vars_any a A c _ (by exact Ba13.out.tree)).mono ?_
                rintro e W14 ⟨rfl, hb⟩
                rw [wA.out, RR.out.1]
                have Ba14 := Lib.hid (Ba13.out.keep hb)
                have Bb14 := Lib.hid (Bb13.out.keep hb)
                have BC14 := Lib.hid (BC13.out.keep hb)
                have BD14 := Lib.hid (BD13.out.keep hb)
                have LL14 := Lib.hid (LL13.out.trans (hb.mono LL13.out.size))
                clear hb ba0 ba1 ba2 bb0 bb1 bb2 bc0 bc1 bc2 bd0 bd1 bd2
                have ba0 := Ba14.out.c0
                have ba1 := Ba14.out.c1
                have ba2 := Ba14.out.c2
                have bb0 := Bb14.out.c0
                have bb1 := Bb14.out.c1
                have bb2 := Bb14.out.c2
                have bc0 : W14.cell? ⟨g5, 0, none⟩ = some (.int .i64 6) := BC14.out.c0
                have bc1 : W14.cell? ⟨g5, 1, none⟩ = some (.int .i64 0) := BC14.out.c1
                have bc2 : W14.cell? ⟨g5, 2, none⟩ = some (.slice A5 2 2) := BC14.out.c2
                have bd0 : W14.cell? ⟨g7, 0, none⟩ = some (.int .i64 7) := BD14.out.c0
                have bd1 : W14.cell? ⟨g7, 1, none⟩ = some (.int .i64 x) := BD14.out.c1
                have bd2 : W14.cell? ⟨g7, 2, none⟩ = some (.slice A7 1 1) := BD14.out.c2
                go_wp2_with fail
                refine (VV.out _ (by exact BD14.out.tree)).mono ?_
                rintro e W15 ⟨rfl, hb⟩
                rw [wV.out, RR.out.2.2.2]
                have Ba15 := Lib.hid (Ba14.out.keep hb)
                have Bb15 := Lib.hid (Bb14.out.keep hb)
                have BC15 := Lib.hid (BC14.out.keep hb)
                have BD15 := Lib.hid (BD14.out.keep hb)
                have LL15 := Lib.hid (LL14.out.trans (hb.mono LL14.out.size))
                clear hb ba0 ba1 ba2 bb0 bb1 bb2 bc0 bc1 bc2 bd0 bd1 bd2
                have ba0 := Ba15.out.c0
                have ba1 := Ba15.out.c1
                have ba2 := Ba15.out.c2
                have bb0 := Bb15.out.c0
                have bb1 := Bb15.out.c1
                have bb2 := Bb15.out.c2
                have bc0 : W15.cell? ⟨g5, 0, none⟩ = some (.int .i64 6) := BC15.out.c0
                have bc1 : W15.cell? ⟨g5, 1, none⟩ = some (.int .i64 0) := BC15.out.c1
                have bc2 : W15.cell? ⟨g5, 2, none⟩ = some (.slice A5 2 2) := BC15.out.c2
                have bd0 : W15.cell? ⟨g7, 0, none⟩ = some (.int .i64 7) := BD15.out.c0
                have bd1 : W15.cell? ⟨g7, 1, none⟩ = some (.int .i64 x) := BD15.out.c1
                have bd2 : W15.cell? ⟨g7, 2, none⟩ = some (.slice A7 1 1) := BD15.out.c2
                go_wp2_with fail
                refine (bound_any a A c _ (by exact Ba15.out.tree)).mono ?_
                rintro e W16 ⟨rfl, hb⟩
                rw [cA.out, RR.out.1]
                have Ba16 := Lib.hid (Ba15.out.keep hb)
                have Bb16 := Lib.hid (Bb15.out.keep hb)
                have BC16 := Lib.hid (BC15.out.keep hb)
                have BD16 := Lib.hid (BD15.out.keep hb)
                have LL16 := Lib.hid (LL15.out.trans (hb.mono LL15.out.size))
                clear hb ba0 ba1 ba2 bb0 bb1 bb2 bc0 bc1 bc2 bd0 bd1 bd2
                have ba0 := Ba16.out.c0
                have ba1 := Ba16.out.c1
                have ba2 := Ba16.out.c2
                have bb0 := Bb16.out.c0
                have bb1 := Bb16.out.c1
                have bb2 := Bb16.out.c2
                have bc0 : W16.cell? ⟨g5, 0, none⟩ = some (.int .i64 6) := BC16.out.c0
                have bc1 : W16.cell? ⟨g5, 1, none⟩ = some (.int .i64 0) := BC16.out.c1
                have bc2 : W16.cell? ⟨g5, 2, none⟩ = some (.slice A5 2 2) := BC16.out.c2
                have bd0 : W16.cell? ⟨g7, 0, none⟩ = some (.int .i64 7) := BD16.out.c0
                have bd1 : W16.cell? ⟨g7, 1, none⟩ = some (.int .i64 x) := BD16.out.c1
                have bd2 : W16.cell? ⟨g7, 2, none⟩ = some (.slice A7 1 1) := BD16.out.c2
                go_wp2_with fail
                refine (BV.out _ (by exact BD16.out.tree)).mono ?_
                rintro e W17 ⟨rfl, hb⟩
                rw [cV.out, RR.out.2.2.2]
                have Ba17 := Lib.hid (Ba16.out.keep hb)
                have Bb17 := Lib.hid (Bb16.out.keep hb)
                have BC17 := Lib.hid (BC16.out.keep hb)
                have BD17 := Lib.hid (BD16.out.keep hb)
                have LL17 := Lib.hid (LL16.out.trans (hb.mono LL16.out.size))
                clear hb ba0 ba1 ba2 bb0 bb1 bb2 bc0 bc1 bc2 bd0 bd1 bd2
                have ba0 := Ba17.out.c0
                have ba1 := Ba17.out.c1
                have ba2 := Ba17.out.c2
                have bb0 := Bb17.out.c0
                have bb1 := Bb17.out.c1
                have bb2 := Bb17.out.c2
                have bc0 : W17.cell? ⟨g5, 0, none⟩ = some (.int .i64 6) := BC17.out.c0
                have bc1 : W17.cell? ⟨g5, 1, none⟩ = some (.int .i64 0) := BC17.out.c1
                have bc2 : W17.cell? ⟨g5, 2, none⟩ = some (.slice A5 2 2) := BC17.out.c2
                have bd0 : W17.cell? ⟨g7, 0, none⟩ = some (.int .i64 7) := BD17.out.c0
                have bd1 : W17.cell? ⟨g7, 1, none⟩ = some (.int .i64 x) := BD17.out.c1
                have bd2 : W17.cell? ⟨g7, 2, none⟩ = some (.slice A7 1 1) := BD17.out.c2
                rw [M.out.fc, M.out.fd, M.out.vd, M.out.bd, (bit_walk x hx0' hx1')]
                obtain ⟨o1, o2, o3, o4, o5, o6⟩ := builds_eqs a b x hx0' hx1'
                generalize freeT a = fa at o1 o2 o5 o6 ⊢
                generalize freeT b = fb at o1 ⊢
                generalize varsT a = va at o3 o6 ⊢
                generalize boundT a = ba at o4 o5 o6 ⊢
                generalize withoutN fa x = fd at o2 ⊢
                generalize (2 : Nat) ^ x.toNat = p at o2 o3 o4 ⊢
                clear M vA vB vU vV wA wV cA cV RR
                go_wp2_with fail
                go_ret
                exact ⟨by simp, LL17.out⟩
              · have e9 : ((rv : Int) != 0) = true := by rw [bne_iff_ne]; omega
                clear hru hrv
                go_wp2_with fail
                go_ret
                exact ⟨rfl, LL9.out⟩
            · have e8 : ((ru : Int) != 0) = true := by rw [bne_iff_ne]; omega
              clear hru hrv
              go_wp2_with fail
              go_ret
              exact ⟨rfl, LL8.out⟩
          · with_reducible change Exit.then _ _ Exit.normal _ ((w4.alloc (.cells #[.int .i64 6, .int .i64 0, .slice (some ⟨w4.heap.size + 1, 0, none⟩) 2 2] 24)).alloc (.cells #[.int .i64 a.k, .int .i64 a.i, .slice A2 a.ks.length c2, .int .i64 b.k, .int .i64 b.i, .slice A3 b.ks.length c3] 24))
            have ia : IsT ((w4.alloc (.cells #[.int .i64 6, .int .i64 0, .slice (some ⟨w4.heap.size + 1, 0, none⟩) 2 2] 24)).alloc (.cells #[.int .i64 a.k, .int .i64 a.i, .slice A2 a.ks.length c2, .int .i64 b.k, .int .i64 b.i, .slice A3 b.ks.length c3] 24)) ((w4.alloc (.cells #[.int .i64 6, .int .i64 0, .slice (some ⟨w4.heap.size + 1, 0, none⟩) 2 2] 24)).alloc (.cells #[.int .i64 a.k, .int .i64 a.i, .slice A2 a.ks.length c2, .int .i64 b.k, .int .i64 b.i, .slice A3 b.ks.length c3] 24)).heap.size a A2 c2 := ownIs OA4.out (fun k k1 k2 => al2_far _ _ _ (by omega)) (by first | (simp; omega) | (simp; done)) FA.out
            have ib : IsT ((w4.alloc (.cells #[.int .i64 6, .int .i64 0, .slice (some ⟨w4.heap.size + 1, 0, none⟩) 2 2] 24)).alloc (.cells #[.int .i64 a.k, .int .i64 a.i, .slice A2 a.ks.length c2, .int .i64 b.k, .int .i64 b.i, .slice A3 b.ks.length c3] 24)) ((w4.alloc (.cells #[.int .i64 6, .int .i64 0, .slice (some ⟨w4.heap.size + 1, 0, none⟩) 2 2] 24)).alloc (.cells #[.int .i64 a.k, .int .i64 a.i, .slice A2 a.ks.length c2, .int .i64 b.k, .int .i64 b.i, .slice A3 b.ks.length c3] 24)).heap.size b A3 c3 := ownIs OB.out (fun k k1 k2 => al2_far _ _ _ (by omega)) (by first | (simp; done) | (simp; omega)) FB.out
            have BC := Lib.hid (show Bt ((w4.alloc (.cells #[.int .i64 6, .int .i64 0, .slice (some ⟨w4.heap.size + 1, 0, none⟩) 2 2] 24)).alloc (.cells #[.int .i64 a.k, .int .i64 a.i, .slice A2 a.ks.length c2, .int .i64 b.k, .int .i64 b.i, .slice A3 b.ks.length c3] 24)) (w4.heap.size) (.node 6 0 [a, b]) (some ⟨w4.heap.size + 1, 0, none⟩) 2 from (bt_ahead (t := .node 6 0 [a, b]) (A := some ⟨w4.heap.size + 1, 0, none⟩) (c := 2) (isT_two2 (by have q := new_at (w4.alloc (.cells #[.int .i64 6, .int .i64 0, .slice (some ⟨w4.heap.size + 1, 0, none⟩) 2 2] 24)) (.cells #[.int .i64 a.k, .int .i64 a.i, .slice A2 a.ks.length c2, .int .i64 b.k, .int .i64 b.i, .slice A3 b.ks.length c3] 24); rw [World.size_alloc] at q; exact q) ia ib)))
            have LW := Lib.hid (show Below w2.heap.size w2 ((w4.alloc (.cells #[.int .i64 6, .int .i64 0, .slice (some ⟨w4.heap.size + 1, 0, none⟩) 2 2] 24)).alloc (.cells #[.int .i64 a.k, .int .i64 a.i, .slice A2 a.ks.length c2, .int .i64 b.k, .int .i64 b.i, .slice A3 b.ks.length c3] 24)) from ((hw4.alloc hw4.size _).alloc (Nat.le_trans hw4.size (by simp)) _))
            clear ia ib
            generalize ((w4.alloc (.cells #[.int .i64 6, .int .i64 0, .slice (some ⟨w4.heap.size + 1, 0, none⟩) 2 2] 24)).alloc (.cells #[.int .i64 a.k, .int .i64 a.i, .slice A2 a.ks.length c2, .int .i64 b.k, .int .i64 b.i, .slice A3 b.ks.length c3] 24)) = W5 at BC LW ⊢
            generalize (some ⟨w4.heap.size + 1, 0, none⟩ : Option Addr) = A5 at BC ⊢
            generalize w4.heap.size = g5 at BC ⊢
            have Ba5 := Lib.hid (Ba2.out.keep LW.out)
            have Bb5 := Lib.hid (Bb2.out.keep LW.out)
            have LL5 := Lib.hid (LL2.out.trans (LW.out.mono LL2.out.size))
            clear LW
            have ba0 := Ba5.out.c0
            have ba1 := Ba5.out.c1
            have ba2 := Ba5.out.c2
            go_wp2_with fail
            refine (copy_any a.sz a A c _ (Nat.le_refl _) (by exact Ba5.out.tree)).mono ?_
            rintro e w6 ⟨A6, c6, rfl, hoa, hba⟩
            have OA6 := Lib.hid hoa
            have hw6 := hba
            clear hoa hba ba0 ba1 ba2
            have LYa : Below w6.heap.size w6 ((w6.alloc (.cells #[.int .i64 a.k, .int .i64 a.i, .slice A6 a.ks.length c6] 24)).alloc (.cells #[.int .i64 7, .int .i64 x, .slice (some ⟨w6.heap.size, 0, none⟩) 1 1] 24)) := (alB _ _).trans ((alB _ _).mono (by simp))
            have q : Bt ((((w6.alloc (.cells #[.int .i64 a.k, .int .i64 a.i, .slice A6 a.ks.length c6] 24)).alloc (.cells #[.int .i64 7, .int .i64 x, .slice (some ⟨w6.heap.size, 0, none⟩) 1 1] 24)))) (w6.heap.size + 1) (.node 7 x [a]) (some ⟨w6.heap.size, 0, none⟩) 1 := by
              have q := Bt.new (W := w6.alloc (.cells #[.int .i64 a.k, .int .i64 a.i, .slice A6 a.ks.length c6] 24)) (t := .node 7 x [a]) (A := some ⟨w6.heap.size, 0, none⟩) (c := 1) (isT_one1 (new_at w6 _) (ownIs OA6.out (fun k k1 k2 => Below.heap_alloc _ _ _ (by omega)) (by simp) FA.out))
              rw [World.size_alloc] at q
              exact q
            have BD := Lib.hid q
            have Ba7 := Lib.hid ((Ba5.out.keep hw6).keep LYa)
            have Bb7 := Lib.hid ((Bb5.out.keep hw6).keep LYa)
            have BC7 := Lib.hid ((BC.out.keep hw6).keep LYa)
            have LL7 := Lib.hid ((LL5.out.trans (hw6.mono LL5.out.size)).trans (LYa.mono (Nat.le_trans LL5.out.size hw6.size)))
            have bc0 : (((w6.alloc (.cells #[.int .i64 a.k, .int .i64 a.i, .slice A6 a.ks.length c6] 24)).alloc (.cells #[.int .i64 7, .int .i64 x, .slice (some ⟨w6.heap.size, 0, none⟩) 1 1] 24))).cell? ⟨g5, 0, none⟩ = some (.int .i64 6) := BC7.out.c0
            have bc1 : (((w6.alloc (.cells #[.int .i64 a.k, .int .i64 a.i, .slice A6 a.ks.length c6] 24)).alloc (.cells #[.int .i64 7, .int .i64 x, .slice (some ⟨w6.heap.size, 0, none⟩) 1 1] 24))).cell? ⟨g5, 1, none⟩ = some (.int .i64 0) := BC7.out.c1
            have bc2 : (((w6.alloc (.cells #[.int .i64 a.k, .int .i64 a.i, .slice A6 a.ks.length c6] 24)).alloc (.cells #[.int .i64 7, .int .i64 x, .slice (some ⟨w6.heap.size, 0, none⟩) 1 1] 24))).cell? ⟨g5, 2, none⟩ = some (.slice A5 2 2) := BC7.out.c2
            clear q LYa hw6 BC
            go_wp2_with fail
            generalize ((w6.alloc (.cells #[.int .i64 a.k, .int .i64 a.i, .slice A6 a.ks.length c6] 24)).alloc (.cells #[.int .i64 7, .int .i64 x, .slice (some ⟨w6.heap.size, 0, none⟩) 1 1] 24)) = W7 at BD Ba7 Bb7 BC7 LL7 bc0 bc1 bc2 ⊢
            generalize w6.heap.size + 1 = g7 at BD ⊢
            generalize (some ⟨w6.heap.size, 0, none⟩ : Option Addr) = A7 at BD ⊢
            have BD7 := BD
            clear bc0 bc1 bc2
            have ba0 := Ba7.out.c0
            have ba1 := Ba7.out.c1
            have ba2 := Ba7.out.c2
            have bb0 := Bb7.out.c0
            have bb1 := Bb7.out.c1
            have bb2 := Bb7.out.c2
            have bc0 : W7.cell? ⟨g5, 0, none⟩ = some (.int .i64 6) := BC7.out.c0
            have bc1 : W7.cell? ⟨g5, 1, none⟩ = some (.int .i64 0) := BC7.out.c1
            have bc2 : W7.cell? ⟨g5, 2, none⟩ = some (.slice A5 2 2) := BC7.out.c2
            have bd0 : W7.cell? ⟨g7, 0, none⟩ = some (.int .i64 7) := BD7.out.c0
            have bd1 : W7.cell? ⟨g7, 1, none⟩ = some (.int .i64 x) := BD7.out.c1
            have bd2 : W7.cell? ⟨g7, 2, none⟩ = some (.slice A7 1 1) := BD7.out.c2
            have RU := Lib.hid (fun (W : World) (h : IsT W W.heap.size (.node 6 0 [a, b]) A5 2) => rright_any (.node 6 0 [a, b]) A5 2 W h)
            have RV := Lib.hid (fun (W : World) (h : IsT W W.heap.size (.node 7 x [a]) A7 1) => rright_any (.node 7 x [a]) A7 1 W h)
            have FU := Lib.hid (fun (W : World) (h : IsT W W.heap.size (.node 6 0 [a, b]) A5 2) => free_any (.node 6 0 [a, b]) A5 2 W h)
            have FVV := Lib.hid (fun (W : World) (h : IsT W W.heap.size (.node 7 x [a]) A7 1) => free_any (.node 7 x [a]) A7 1 W h)
            have VV := Lib.hid (fun (W : World) (h : IsT W W.heap.size (.node 7 x [a]) A7 1) => vars_any (.node 7 x [a]) A7 1 W h)
            have BV := Lib.hid (fun (W : World) (h : IsT W W.heap.size (.node 7 x [a]) A7 1) => bound_any (.node 7 x [a]) A7 1 W h)
            simp only [Tr.k, Tr.i, Tr.ks, List.length_cons, List.length_nil, Nat.zero_add, Nat.reduceAdd] at RU RV FU FVV VV BV
            obtain ⟨ru, hru⟩ : ∃ ru, ru = rightN (.node 6 0 [a, b]) := ⟨_, rfl⟩
            obtain ⟨rv, hrv⟩ : ∃ rv, rv = rightN (.node 7 x [a]) := ⟨_, rfl⟩
            refine (RU.out _ (by exact BC7.out.tree)).mono ?_
            rintro e W8 ⟨rfl, hb⟩
            rw [← hru]
            have Ba8 := Lib.hid (Ba7.out.keep hb)
            have Bb8 := Lib.hid (Bb7.out.keep hb)
            have BC8 := Lib.hid (BC7.out.keep hb)
            have BD8 := Lib.hid (BD7.out.keep hb)
            have LL8 := Lib.hid (LL7.out.trans (hb.mono LL7.out.size))
            clear hb ba0 ba1 ba2 bb0 bb1 bb2 bc0 bc1 bc2 bd0 bd1 bd2
            have ba0 := Ba8.out.c0
            have ba1 := Ba8.out.c1
            have ba2 := Ba8.out.c2
            have bb0 := Bb8.out.c0
            have bb1 := Bb8.out.c1
            have bb2 := Bb8.out.c2
            have bc0 : W8.cell? ⟨g5, 0, none⟩ = some (.int .i64 6) := BC8.out.c0
            have bc1 : W8.cell? ⟨g5, 1, none⟩ = some (.int .i64 0) := BC8.out.c1
            have bc2 : W8.cell? ⟨g5, 2, none⟩ = some (.slice A5 2 2) := BC8.out.c2
            have bd0 : W8.cell? ⟨g7, 0, none⟩ = some (.int .i64 7) := BD8.out.c0
            have bd1 : W8.cell? ⟨g7, 1, none⟩ = some (.int .i64 x) := BD8.out.c1
            have bd2 : W8.cell? ⟨g7, 2, none⟩ = some (.slice A7 1 1) := BD8.out.c2
            by_cases h8 : ru = 0
            · have e8 : ((ru : Int) != 0) = false := by simp [h8]
              go_wp2_with fail
              refine (RV.out _ (by exact BD8.out.tree)).mono ?_
              rintro e W9 ⟨rfl, hb⟩
              rw [← hrv]
              have Ba9 := Lib.hid (Ba8.out.keep hb)
              have Bb9 := Lib.hid (Bb8.out.keep hb)
              have BC9 := Lib.hid (BC8.out.keep hb)
              have BD9 := Lib.hid (BD8.out.keep hb)
              have LL9 := Lib.hid (LL8.out.trans (hb.mono LL8.out.size))
              clear hb ba0 ba1 ba2 bb0 bb1 bb2 bc0 bc1 bc2 bd0 bd1 bd2
              have ba0 := Ba9.out.c0
              have ba1 := Ba9.out.c1
              have ba2 := Ba9.out.c2
              have bb0 := Bb9.out.c0
              have bb1 := Bb9.out.c1
              have bb2 := Bb9.out.c2
              have bc0 : W9.cell? ⟨g5, 0, none⟩ = some (.int .i64 6) := BC9.out.c0
              have bc1 : W9.cell? ⟨g5, 1, none⟩ = some (.int .i64 0) := BC9.out.c1
              have bc2 : W9.cell? ⟨g5, 2, none⟩ = some (.slice A5 2 2) := BC9.out.c2
              have bd0 : W9.cell? ⟨g7, 0, none⟩ = some (.int .i64 7) := BD9.out.c0
              have bd1 : W9.cell? ⟨g7, 1, none⟩ = some (.int .i64 x) := BD9.out.c1
              have bd2 : W9.cell? ⟨g7, 2, none⟩ = some (.slice A7 1 1) := BD9.out.c2
              by_cases h9 : rv = 0
              · have e9 : ((rv : Int) != 0) = false := by simp [h9]
                have rA : rightN a = 0 := by unfold rFB at hA; simp at hA; exact hA.1
                have rB : rightN b = 0 := by unfold rFB at hB; simp at hB; exact hB.1
                have rU : rightN (.node 6 0 [a, b]) = 0 := by rw [← hru]; exact h8
                have rV : rightN (.node 7 x [a]) = 0 := by rw [← hrv]; exact h9
                have M := Lib.hid (builds_math a b x hx0' hx1')
                have vA := Lib.hid (valR_ok (f := freeT) rA)
                have vB := Lib.hid (valR_ok (f := freeT) rB)
                have vU := Lib.hid (valR_ok (f := freeT) rU)
                have vV := Lib.hid (valR_ok (f := freeT) rV)
                have wA := Lib.hid (valR_ok (f := varsT) rA)
                have wV := Lib.hid (valR_ok (f := varsT) rV)
                have cA := Lib.hid (valR_ok (f := boundT) rA)
                have cV := Lib.hid (valR_ok (f := boundT) rV)
                have RR := Lib.hid (And.intro rA (And.intro rB (And.intro rU rV)))
                clear rA rB rU rV hru hrv h8 h9
                go_wp2_with fail
                refine (free_any a A c _ (by exact Ba9.out.tree)).mono ?_
                rintro e W10 ⟨rfl, hb⟩
                rw [vA.out, RR.out.1]
                have Ba10 := Lib.hid (Ba9.out.keep hb)
                have Bb10 := Lib.hid (Bb9.out.keep hb)
                have BC10 := Lib.hid (BC9.out.keep hb)
                have BD10 := Lib.hid (BD9.out.keep hb)
                have LL10 := Lib.hid (LL9.out.trans (hb.mono LL9.out.size))
                clear hb ba0 ba1 ba2 bb0 bb1 bb2 bc0 bc1 bc2 bd0 bd1 bd2
                have ba0 := Ba10.out.c0
                have ba1 := Ba10.out.c1
                have ba2 := Ba10.out.c2
                have bb0 := Bb10.out.c0
                have bb1 := Bb10.out.c1
                have bb2 := Bb10.out.c2
                have bc0 : W10.cell? ⟨g5, 0, none⟩ = some (.int .i64 6) := BC10.out.c0
                have bc1 : W10.cell? ⟨g5, 1, none⟩ = some (.int .i64 0) := BC10.out.c1
                have bc2 : W10.cell? ⟨g5, 2, none⟩ = some (.slice A5 2 2) := BC10.out.c2
                have bd0 : W10.cell? ⟨g7, 0, none⟩ = some (.int .i64 7) := BD10.out.c0
                have bd1 : W10.cell? ⟨g7, 1, none⟩ = some (.int .i64 x) := BD10.out.c1
                have bd2 : W10.cell? ⟨g7, 2, none⟩ = some (.slice A7 1 1) := BD10.out.c2
                go_wp2_with fail
                refine (free_any b A' c' _ (by exact Bb10.out.tree)).mono ?_
                rintro e W11 ⟨rfl, hb⟩
                rw [vB.out, RR.out.2.1]
                have Ba11 := Lib.hid (Ba10.out.keep hb)
                have Bb11 := Lib.hid (Bb10.out.keep hb)
                have BC11 := Lib.hid (BC10.out.keep hb)
                have BD11 := Lib.hid (BD10.out.keep hb)
                have LL11 := Lib.hid (LL10.out.trans (hb.mono LL10.out.size))
                clear hb ba0 ba1 ba2 bb0 bb1 bb2 bc0 bc1 bc2 bd0 bd1 bd2
                have ba0 := Ba11.out.c0
                have ba1 := Ba11.out.c1
                have ba2 := Ba11.out.c2
                have bb0 := Bb11.out.c0
                have bb1 := Bb11.out.c1
                have bb2 := Bb11.out.c2
                have bc0 : W11.cell? ⟨g5, 0, none⟩ = some (.int .i64 6) := BC11.out.c0
                have bc1 : W11.cell? ⟨g5, 1, none⟩ = some (.int .i64 0) := BC11.out.c1
                have bc2 : W11.cell? ⟨g5, 2, none⟩ = some (.slice A5 2 2) := BC11.out.c2
                have bd0 : W11.cell? ⟨g7, 0, none⟩ = some (.int .i64 7) := BD11.out.c0
                have bd1 : W11.cell? ⟨g7, 1, none⟩ = some (.int .i64 x) := BD11.out.c1
                have bd2 : W11.cell? ⟨g7, 2, none⟩ = some (.slice A7 1 1) := BD11.out.c2
                go_wp2_with fail
                refine (FU.out _ (by exact BC11.out.tree)).mono ?_
                rintro e W12 ⟨rfl, hb⟩
                rw [vU.out, RR.out.2.2.1]
                have Ba12 := Lib.hid (Ba11.out.keep hb)
                have Bb12 := Lib.hid (Bb11.out.keep hb)
                have BC12 := Lib.hid (BC11.out.keep hb)
                have BD12 := Lib.hid (BD11.out.keep hb)
                have LL12 := Lib.hid (LL11.out.trans (hb.mono LL11.out.size))
                clear hb ba0 ba1 ba2 bb0 bb1 bb2 bc0 bc1 bc2 bd0 bd1 bd2
                have ba0 := Ba12.out.c0
                have ba1 := Ba12.out.c1
                have ba2 := Ba12.out.c2
                have bb0 := Bb12.out.c0
                have bb1 := Bb12.out.c1
                have bb2 := Bb12.out.c2
                have bc0 : W12.cell? ⟨g5, 0, none⟩ = some (.int .i64 6) := BC12.out.c0
                have bc1 : W12.cell? ⟨g5, 1, none⟩ = some (.int .i64 0) := BC12.out.c1
                have bc2 : W12.cell? ⟨g5, 2, none⟩ = some (.slice A5 2 2) := BC12.out.c2
                have bd0 : W12.cell? ⟨g7, 0, none⟩ = some (.int .i64 7) := BD12.out.c0
                have bd1 : W12.cell? ⟨g7, 1, none⟩ = some (.int .i64 x) := BD12.out.c1
                have bd2 : W12.cell? ⟨g7, 2, none⟩ = some (.slice A7 1 1) := BD12.out.c2
                go_wp2_with fail
                refine (FVV.out _ (by exact BD12.out.tree)).mono ?_
                rintro e W13 ⟨rfl, hb⟩
                rw [vV.out, RR.out.2.2.2]
                have Ba13 := Lib.hid (Ba12.out.keep hb)
                have Bb13 := Lib.hid (Bb12.out.keep hb)
                have BC13 := Lib.hid (BC12.out.keep hb)
                have BD13 := Lib.hid (BD12.out.keep hb)
                have LL13 := Lib.hid (LL12.out.trans (hb.mono LL12.out.size))
                clear hb ba0 ba1 ba2 bb0 bb1 bb2 bc0 bc1 bc2 bd0 bd1 bd2
                have ba0 := Ba13.out.c0
                have ba1 := Ba13.out.c1
                have ba2 := Ba13.out.c2
                have bb0 := Bb13.out.c0
                have bb1 := Bb13.out.c1
                have bb2 := Bb13.out.c2
                have bc0 : W13.cell? ⟨g5, 0, none⟩ = some (.int .i64 6) := BC13.out.c0
                have bc1 : W13.cell? ⟨g5, 1, none⟩ = some (.int .i64 0) := BC13.out.c1
                have bc2 : W13.cell? ⟨g5, 2, none⟩ = some (.slice A5 2 2) := BC13.out.c2
                have bd0 : W13.cell? ⟨g7, 0, none⟩ = some (.int .i64 7) := BD13.out.c0
                have bd1 : W13.cell? ⟨g7, 1, none⟩ = some (.int .i64 x) := BD13.out.c1
                have bd2 : W13.cell? ⟨g7, 2, none⟩ = some (.slice A7 1 1) := BD13.out.c2
                go_wp2_with fail
                refine (vars_any a A c _ (by exact Ba13.out.tree)).mono ?_
                rintro e W14 ⟨rfl, hb⟩
                rw [wA.out, RR.out.1]
                have Ba14 := Lib.hid (Ba13.out.keep hb)
                have Bb14 := Lib.hid (Bb13.out.keep hb)
                have BC14 := Lib.hid (BC13.out.keep hb)
                have BD14 := Lib.hid (BD13.out.keep hb)
                have LL14 := Lib.hid (LL13.out.trans (hb.mono LL13.out.size))
                clear hb ba0 ba1 ba2 bb0 bb1 bb2 bc0 bc1 bc2 bd0 bd1 bd2
                have ba0 := Ba14.out.c0
                have ba1 := Ba14.out.c1
                have ba2 := Ba14.out.c2
                have bb0 := Bb14.out.c0
                have bb1 := Bb14.out.c1
                have bb2 := Bb14.out.c2
                have bc0 : W14.cell? ⟨g5, 0, none⟩ = some (.int .i64 6) := BC14.out.c0
                have bc1 : W14.cell? ⟨g5, 1, none⟩ = some (.int .i64 0) := BC14.out.c1
                have bc2 : W14.cell? ⟨g5, 2, none⟩ = some (.slice A5 2 2) := BC14.out.c2
                have bd0 : W14.cell? ⟨g7, 0, none⟩ = some (.int .i64 7) := BD14.out.c0
                have bd1 : W14.cell? ⟨g7, 1, none⟩ = some (.int .i64 x) := BD14.out.c1
                have bd2 : W14.cell? ⟨g7, 2, none⟩ = some (.slice A7 1 1) := BD14.out.c2
                go_wp2_with fail
                refine (VV.out _ (by exact BD14.out.tree)).mono ?_
                rintro e W15 ⟨rfl, hb⟩
                rw [wV.out, RR.out.2.2.2]
                have Ba15 := Lib.hid (Ba14.out.keep hb)
                have Bb15 := Lib.hid (Bb14.out.keep hb)
                have BC15 := Lib.hid (BC14.out.keep hb)
                have BD15 := Lib.hid (BD14.out.keep hb)
                have LL15 := Lib.hid (LL14.out.trans (hb.mono LL14.out.size))
                clear hb ba0 ba1 ba2 bb0 bb1 bb2 bc0 bc1 bc2 bd0 bd1 bd2
                have ba0 := Ba15.out.c0
                have ba1 := Ba15.out.c1
                have ba2 := Ba15.out.c2
                have bb0 := Bb15.out.c0
                have bb1 := Bb15.out.c1
                have bb2 := Bb15.out.c2
                have bc0 : W15.cell? ⟨g5, 0, none⟩ = some (.int .i64 6) := BC15.out.c0
                have bc1 : W15.cell? ⟨g5, 1, none⟩ = some (.int .i64 0) := BC15.out.c1
                have bc2 : W15.cell? ⟨g5, 2, none⟩ = some (.slice A5 2 2) := BC15.out.c2
                have bd0 : W15.cell? ⟨g7, 0, none⟩ = some (.int .i64 7) := BD15.out.c0
                have bd1 : W15.cell? ⟨g7, 1, none⟩ = some (.int .i64 x) := BD15.out.c1
                have bd2 : W15.cell? ⟨g7, 2, none⟩ = some (.slice A7 1 1) := BD15.out.c2
                go_wp2_with fail
                refine (bound_any a A c _ (by exact Ba15.out.tree)).mono ?_
                rintro e W16 ⟨rfl, hb⟩
                rw [cA.out, RR.out.1]
                have Ba16 := Lib.hid (Ba15.out.keep hb)
                have Bb16 := Lib.hid (Bb15.out.keep hb)
                have BC16 := Lib.hid (BC15.out.keep hb)
                have BD16 := Lib.hid (BD15.out.keep hb)
                have LL16 := Lib.hid (LL15.out.trans (hb.mono LL15.out.size))
                clear hb ba0 ba1 ba2 bb0 bb1 bb2 bc0 bc1 bc2 bd0 bd1 bd2
                have ba0 := Ba16.out.c0
                have ba1 := Ba16.out.c1
                have ba2 := Ba16.out.c2
                have bb0 := Bb16.out.c0
                have bb1 := Bb16.out.c1
                have bb2 := Bb16.out.c2
                have bc0 : W16.cell? ⟨g5, 0, none⟩ = some (.int .i64 6) := BC16.out.c0
                have bc1 : W16.cell? ⟨g5, 1, none⟩ = some (.int .i64 0) := BC16.out.c1
                have bc2 : W16.cell? ⟨g5, 2, none⟩ = some (.slice A5 2 2) := BC16.out.c2
                have bd0 : W16.cell? ⟨g7, 0, none⟩ = some (.int .i64 7) := BD16.out.c0
                have bd1 : W16.cell? ⟨g7, 1, none⟩ = some (.int .i64 x) := BD16.out.c1
                have bd2 : W16.cell? ⟨g7, 2, none⟩ = some (.slice A7 1 1) := BD16.out.c2
                go_wp2_with fail
                refine (BV.out _ (by exact BD16.out.tree)).mono ?_
                rintro e W17 ⟨rfl, hb⟩
                rw [cV.out, RR.out.2.2.2]
                have Ba17 := Lib.hid (Ba16.out.keep hb)
                have Bb17 := Lib.hid (Bb16.out.keep hb)
                have BC17 := Lib.hid (BC16.out.keep hb)
                have BD17 := Lib.hid (BD16.out.keep hb)
                have LL17 := Lib.hid (LL16.out.trans (hb.mono LL16.out.size))
                clear hb ba0 ba1 ba2 bb0 bb1 bb2 bc0 bc1 bc2 bd0 bd1 bd2
                have ba0 := Ba17.out.c0
                have ba1 := Ba17.out.c1
                have ba2 := Ba17.out.c2
                have bb0 := Bb17.out.c0
                have bb1 := Bb17.out.c1
                have bb2 := Bb17.out.c2
                have bc0 : W17.cell? ⟨g5, 0, none⟩ = some (.int .i64 6) := BC17.out.c0
                have bc1 : W17.cell? ⟨g5, 1, none⟩ = some (.int .i64 0) := BC17.out.c1
                have bc2 : W17.cell? ⟨g5, 2, none⟩ = some (.slice A5 2 2) := BC17.out.c2
                have bd0 : W17.cell? ⟨g7, 0, none⟩ = some (.int .i64 7) := BD17.out.c0
                have bd1 : W17.cell? ⟨g7, 1, none⟩ = some (.int .i64 x) := BD17.out.c1
                have bd2 : W17.cell? ⟨g7, 2, none⟩ = some (.slice A7 1 1) := BD17.out.c2
                rw [M.out.fc, M.out.fd, M.out.vd, M.out.bd, (bit_walk x hx0' hx1')]
                obtain ⟨o1, o2, o3, o4, o5, o6⟩ := builds_eqs a b x hx0' hx1'
                generalize freeT a = fa at o1 o2 o5 o6 ⊢
                generalize freeT b = fb at o1 ⊢
                generalize varsT a = va at o3 o6 ⊢
                generalize boundT a = ba at o4 o5 o6 ⊢
                generalize withoutN fa x = fd at o2 ⊢
                generalize (2 : Nat) ^ x.toNat = p at o2 o3 o4 ⊢
                clear M vA vB vU vV wA wV cA cV RR
                go_wp2_with fail
                go_ret
                exact ⟨by simp, LL17.out⟩
              · have e9 : ((rv : Int) != 0) = true := by rw [bne_iff_ne]; omega
                clear hru hrv
                go_wp2_with fail
                go_ret
                exact ⟨rfl, LL9.out⟩
            · have e8 : ((ru : Int) != 0) = true := by rw [bne_iff_ne]; omega
              clear hru hrv
              go_wp2_with fail
              go_ret
              exact ⟨rfl, LL8.out⟩
          · with_reducible change Exit.then _ _ Exit.normal _ ((((w4.alloc (.cells #[.int .i64 a.k, .int .i64 a.i, .slice A2 a.ks.length c2, .int .i64 b.k, .int .i64 b.i, .slice A3 b.ks.length c3] 24)).setCell ⟨w3.heap.size, 0, none⟩ (.int .i64 6)).setCell ⟨w3.heap.size, 1, none⟩ (.int .i64 0)).setCell ⟨w3.heap.size, 2, none⟩ (.slice (some ⟨w4.heap.size, 0, none⟩) 2 2))
            have ia : IsT ((((w4.alloc (.cells #[.int .i64 a.k, .int .i64 a.i, .slice A2 a.ks.length c2, .int .i64 b.k, .int .i64 b.i, .slice A3 b.ks.length c3] 24)).setCell ⟨w3.heap.size, 0, none⟩ (.int .i64 6)).setCell ⟨w3.heap.size, 1, none⟩ (.int .i64 0)).setCell ⟨w3.heap.size, 2, none⟩ (.slice (some ⟨w4.heap.size, 0, none⟩) 2 2)) ((((w4.alloc (.cells #[.int .i64 a.k, .int .i64 a.i, .slice A2 a.ks.length c2, .int .i64 b.k, .int .i64 b.i, .slice A3 b.ks.length c3] 24)).setCell ⟨w3.heap.size, 0, none⟩ (.int .i64 6)).setCell ⟨w3.heap.size, 1, none⟩ (.int .i64 0)).setCell ⟨w3.heap.size, 2, none⟩ (.slice (some ⟨w4.heap.size, 0, none⟩) 2 2)).heap.size a A2 c2 := ownIs OA4.out (fun k k1 k2 => set3a_far _ _ _ _ _ (by omega) (show k ≠ w3.heap.size by omega)) (by first | (simp; omega) | (simp; done)) FA.out
            have ib : IsT ((((w4.alloc (.cells #[.int .i64 a.k, .int .i64 a.i, .slice A2 a.ks.length c2, .int .i64 b.k, .int .i64 b.i, .slice A3 b.ks.length c3] 24)).setCell ⟨w3.heap.size, 0, none⟩ (.int .i64 6)).setCell ⟨w3.heap.size, 1, none⟩ (.int .i64 0)).setCell ⟨w3.heap.size, 2, none⟩ (.slice (some ⟨w4.heap.size, 0, none⟩) 2 2)) ((((w4.alloc (.cells #[.int .i64 a.k, .int .i64 a.i, .slice A2 a.ks.length c2, .int .i64 b.k, .int .i64 b.i, .slice A3 b.ks.length c3] 24)).setCell ⟨w3.heap.size, 0, none⟩ (.int .i64 6)).setCell ⟨w3.heap.size, 1, none⟩ (.int .i64 0)).setCell ⟨w3.heap.size, 2, none⟩ (.slice (some ⟨w4.heap.size, 0, none⟩) 2 2)).heap.size b A3 c3 := ownIs OB.out (fun k k1 k2 => set3a_far _ _ _ _ _ (by omega) (show k ≠ w3.heap.size by omega)) (by first | (simp; done) | (simp; omega)) FB.out
            have BC := Lib.hid (show Bt ((((w4.alloc (.cells #[.int .i64 a.k, .int .i64 a.i, .slice A2 a.ks.length c2, .int .i64 b.k, .int .i64 b.i, .slice A3 b.ks.length c3] 24)).setCell ⟨w3.heap.size, 0, none⟩ (.int .i64 6)).setCell ⟨w3.heap.size, 1, none⟩ (.int .i64 0)).setCell ⟨w3.heap.size, 2, none⟩ (.slice (some ⟨w4.heap.size, 0, none⟩) 2 2)) (w3.heap.size) (.node 6 0 [a, b]) (some ⟨w4.heap.size, 0, none⟩) 2 from (bt_set3 (t := .node 6 0 [a, b]) (A := some ⟨w4.heap.size, 0, none⟩) (c := 2) zb (isT_two2 (set3a_new _ _ _ _ _ (show w4.heap.size ≠ w3.heap.size by have := zb.lt; omega)) ia ib)))
            have LW := Lib.hid (show Below w2.heap.size w2 ((((w4.alloc (.cells #[.int .i64 a.k, .int .i64 a.i, .slice A2 a.ks.length c2, .int .i64 b.k, .int .i64 b.i, .slice A3 b.ks.length c3] 24)).setCell ⟨w3.heap.size, 0, none⟩ (.int .i64 6)).setCell ⟨w3.heap.size, 1, none⟩ (.int .i64 0)).setCell ⟨w3.heap.size, 2, none⟩ (.slice (some ⟨w4.heap.size, 0, none⟩) 2 2)) from (below_set3 (hw4.alloc hw4.size _) _ _ _ hw3.size))
            clear ia ib
            generalize ((((w4.alloc (.cells #[.int .i64 a.k, .int .i64 a.i, .slice A2 a.ks.length c2, .int .i64 b.k, .int .i64 b.i, .slice A3 b.ks.length c3] 24)).setCell ⟨w3.heap.size, 0, none⟩ (.int .i64 6)).setCell ⟨w3.heap.size, 1, none⟩ (.int .i64 0)).setCell ⟨w3.heap.size, 2, none⟩ (.slice (some ⟨w4.heap.size, 0, none⟩) 2 2)) = W5 at BC LW ⊢
            generalize (some ⟨w4.heap.size, 0, none⟩ : Option Addr) = A5 at BC ⊢
            generalize w3.heap.size = g5 at BC ⊢
            have Ba5 := Lib.hid (Ba2.out.keep LW.out)
            have Bb5 := Lib.hid (Bb2.out.keep LW.out)
            have LL5 := Lib.hid (LL2.out.trans (LW.out.mono LL2.out.size))
            clear LW
            have ba0 := Ba5.out.c0
            have ba1 := Ba5.out.c1
            have ba2 := Ba5.out.c2
            go_wp2_with fail
            refine (copy_any a.sz a A c _ (Nat.le_refl _) (by exact Ba5.out.tree)).mono ?_
            rintro e w6 ⟨A6, c6, rfl, hoa, hba⟩
            have OA6 := Lib.hid hoa
            have hw6 := hba
            clear hoa hba ba0 ba1 ba2
            have LYa : Below w6.heap.size w6 ((w6.alloc (.cells #[.int .i64 a.k, .int .i64 a.i, .slice A6 a.ks.length c6] 24)).alloc (.cells #[.int .i64 7, .int .i64 x, .slice (some ⟨w6.heap.size, 0, none⟩) 1 1] 24)) := (alB _ _).trans ((alB _ _).mono (by simp))
            have q : Bt ((((w6.alloc (.cells #[.int .i64 a.k, .int .i64 a.i, .slice A6 a.ks.length c6] 24)).alloc (.cells #[.int .i64 7, .int .i64 x, .slice (some ⟨w6.heap.size, 0, none⟩) 1 1] 24)))) (w6.heap.size + 1) (.node 7 x [a]) (some ⟨w6.heap.size, 0, none⟩) 1 := by
              have q := Bt.new (W := w6.alloc (.cells #[.int .i64 a.k, .int .i64 a.i, .slice A6 a.ks.length c6] 24)) (t := .node 7 x [a]) (A := some ⟨w6.heap.size, 0, none⟩) (c := 1) (isT_one1 (new_at w6 _) (ownIs OA6.out (fun k k1 k2 => Below.heap_alloc _ _ _ (by omega)) (by simp) FA.out))
              rw [World.size_alloc] at q
              exact q
            have BD := Lib.hid q
            have Ba7 := Lib.hid ((Ba5.out.keep hw6).keep LYa)
            have Bb7 := Lib.hid ((Bb5.out.keep hw6).keep LYa)
            have BC7 := Lib.hid ((BC.out.keep hw6).keep LYa)
            have LL7 := Lib.hid ((LL5.out.trans (hw6.mono LL5.out.size)).trans (LYa.mono (Nat.le_trans LL5.out.size hw6.size)))
            have bc0 : (((w6.alloc (.cells #[.int .i64 a.k, .int .i64 a.i, .slice A6 a.ks.length c6] 24)).alloc (.cells #[.int .i64 7, .int .i64 x, .slice (some ⟨w6.heap.size, 0, none⟩) 1 1] 24))).cell? ⟨g5, 0, none⟩ = some (.int .i64 6) := BC7.out.c0
            have bc1 : (((w6.alloc (.cells #[.int .i64 a.k, .int .i64 a.i, .slice A6 a.ks.length c6] 24)).alloc (.cells #[.int .i64 7, .int .i64 x, .slice (some ⟨w6.heap.size, 0, none⟩) 1 1] 24))).cell? ⟨g5, 1, none⟩ = some (.int .i64 0) := BC7.out.c1
            have bc2 : (((w6.alloc (.cells #[.int .i64 a.k, .int .i64 a.i, .slice A6 a.ks.length c6] 24)).alloc (.cells #[.int .i64 7, .int .i64 x, .slice (some ⟨w6.heap.size, 0, none⟩) 1 1] 24))).cell? ⟨g5, 2, none⟩ = some (.slice A5 2 2) := BC7.out.c2
            clear q LYa hw6 BC
            go_wp2_with fail
            generalize ((w6.alloc (.cells #[.int .i64 a.k, .int .i64 a.i, .slice A6 a.ks.length c6] 24)).alloc (.cells #[.int .i64 7, .int .i64 x, .slice (some ⟨w6.heap.size, 0, none⟩) 1 1] 24)) = W7 at BD Ba7 Bb7 BC7 LL7 bc0 bc1 bc2 ⊢
            generalize w6.heap.size + 1 = g7 at BD ⊢
            generalize (some ⟨w6.heap.size, 0, none⟩ : Option Addr) = A7 at BD ⊢
            have BD7 := BD
            clear bc0 bc1 bc2
            have ba0 := Ba7.out.c0
            have ba1 := Ba7.out.c1
            have ba2 := Ba7.out.c2
            have bb0 := Bb7.out.c0
            have bb1 := Bb7.out.c1
            have bb2 := Bb7.out.c2
            have bc0 : W7.cell? ⟨g5, 0, none⟩ = some (.int .i64 6) := BC7.out.c0
            have bc1 : W7.cell? ⟨g5, 1, none⟩ = some (.int .i64 0) := BC7.out.c1
            have bc2 : W7.cell? ⟨g5, 2, none⟩ = some (.slice A5 2 2) := BC7.out.c2
            have bd0 : W7.cell? ⟨g7, 0, none⟩ = some (.int .i64 7) := BD7.out.c0
            have bd1 : W7.cell? ⟨g7, 1, none⟩ = some (.int .i64 x) := BD7.out.c1
            have bd2 : W7.cell? ⟨g7, 2, none⟩ = some (.slice A7 1 1) := BD7.out.c2
            have RU := Lib.hid (fun (W : World) (h : IsT W W.heap.size (.node 6 0 [a, b]) A5 2) => rright_any (.node 6 0 [a, b]) A5 2 W h)
            have RV := Lib.hid (fun (W : World) (h : IsT W W.heap.size (.node 7 x [a]) A7 1) => rright_any (.node 7 x [a]) A7 1 W h)
            have FU := Lib.hid (fun (W : World) (h : IsT W W.heap.size (.node 6 0 [a, b]) A5 2) => free_any (.node 6 0 [a, b]) A5 2 W h)
            have FVV := Lib.hid (fun (W : World) (h : IsT W W.heap.size (.node 7 x [a]) A7 1) => free_any (.node 7 x [a]) A7 1 W h)
            have VV := Lib.hid (fun (W : World) (h : IsT W W.heap.size (.node 7 x [a]) A7 1) => vars_any (.node 7 x [a]) A7 1 W h)
            have BV := Lib.hid (fun (W : World) (h : IsT W W.heap.size (.node 7 x [a]) A7 1) => bound_any (.node 7 x [a]) A7 1 W h)
            simp only [Tr.k, Tr.i, Tr.ks, List.length_cons, List.length_nil, Nat.zero_add, Nat.reduceAdd] at RU RV FU FVV VV BV
            obtain ⟨ru, hru⟩ : ∃ ru, ru = rightN (.node 6 0 [a, b]) := ⟨_, rfl⟩
            obtain ⟨rv, hrv⟩ : ∃ rv, rv = rightN (.node 7 x [a]) := ⟨_, rfl⟩
            refine (RU.out _ (by exact BC7.out.tree)).mono ?_
            rintro e W8 ⟨rfl, hb⟩
            rw [← hru]
            have Ba8 := Lib.hid (Ba7.out.keep hb)
            have Bb8 := Lib.hid (Bb7.out.keep hb)
            have BC8 := Lib.hid (BC7.out.keep hb)
            have BD8 := Lib.hid (BD7.out.keep hb)
            have LL8 := Lib.hid (LL7.out.trans (hb.mono LL7.out.size))
            clear hb ba0 ba1 ba2 bb0 bb1 bb2 bc0 bc1 bc2 bd0 bd1 bd2
            have ba0 := Ba8.out.c0
            have ba1 := Ba8.out.c1
            have ba2 := Ba8.out.c2
            have bb0 := Bb8.out.c0
            have bb1 := Bb8.out.c1
            have bb2 := Bb8.out.c2
            have bc0 : W8.cell? ⟨g5, 0, none⟩ = some (.int .i64 6) := BC8.out.c0
            have bc1 : W8.cell? ⟨g5, 1, none⟩ = some (.int .i64 0) := BC8.out.c1
            have bc2 : W8.cell? ⟨g5, 2, none⟩ = some (.slice A5 2 2) := BC8.out.c2
            have bd0 : W8.cell? ⟨g7, 0, none⟩ = some (.int .i64 7) := BD8.out.c0
            have bd1 : W8.cell? ⟨g7, 1, none⟩ = some (.int .i64 x) := BD8.out.c1
            have bd2 : W8.cell? ⟨g7, 2, none⟩ = some (.slice A7 1 1) := BD8.out.c2
            by_cases h8 : ru = 0
            · have e8 : ((ru : Int) != 0) = false := by simp [h8]
              go_wp2_with fail
              refine (RV.out _ (by exact BD8.out.tree)).mono ?_
              rintro e W9 ⟨rfl, hb⟩
              rw [← hrv]
              have Ba9 := Lib.hid (Ba8.out.keep hb)
              have Bb9 := Lib.hid (Bb8.out.keep hb)
              have BC9 := Lib.hid (BC8.out.keep hb)
              have BD9 := Lib.hid (BD8.out.keep hb)
              have LL9 := Lib.hid (LL8.out.trans (hb.mono LL8.out.size))
              clear hb ba0 ba1 ba2 bb0 bb1 bb2 bc0 bc1 bc2 bd0 bd1 bd2
              have ba0 := Ba9.out.c0
              have ba1 := Ba9.out.c1
              have ba2 := Ba9.out.c2
              have bb0 := Bb9.out.c0
              have bb1 := Bb9.out.c1
              have bb2 := Bb9.out.c2
              have bc0 : W9.cell? ⟨g5, 0, none⟩ = some (.int .i64 6) := BC9.out.c0
              have bc1 : W9.cell? ⟨g5, 1, none⟩ = some (.int .i64 0) := BC9.out.c1
              have bc2 : W9.cell? ⟨g5, 2, none⟩ = some (.slice A5 2 2) := BC9.out.c2
              have bd0 : W9.cell? ⟨g7, 0, none⟩ = some (.int .i64 7) := BD9.out.c0
              have bd1 : W9.cell? ⟨g7, 1, none⟩ = some (.int .i64 x) := BD9.out.c1
              have bd2 : W9.cell? ⟨g7, 2, none⟩ = some (.slice A7 1 1) := BD9.out.c2
              by_cases h9 : rv = 0
              · have e9 : ((rv : Int) != 0) = false := by simp [h9]
                have rA : rightN a = 0 := by unfold rFB at hA; simp at hA; exact hA.1
                have rB : rightN b = 0 := by unfold rFB at hB; simp at hB; exact hB.1
                have rU : rightN (.node 6 0 [a, b]) = 0 := by rw [← hru]; exact h8
                have rV : rightN (.node 7 x [a]) = 0 := by rw [← hrv]; exact h9
                have M := Lib.hid (builds_math a b x hx0' hx1')
                have vA := Lib.hid (valR_ok (f := freeT) rA)
                have vB := Lib.hid (valR_ok (f := freeT) rB)
                have vU := Lib.hid (valR_ok (f := freeT) rU)
                have vV := Lib.hid (valR_ok (f := freeT) rV)
                have wA := Lib.hid (valR_ok (f := varsT) rA)
                have wV := Lib.hid (valR_ok (f := varsT) rV)
                have cA := Lib.hid (valR_ok (f := boundT) rA)
                have cV := Lib.hid (valR_ok (f := boundT) rV)
                have RR := Lib.hid (And.intro rA (And.intro rB (And.intro rU rV)))
                clear rA rB rU rV hru hrv h8 h9
                go_wp2_with fail
                refine (free_any a A c _ (by exact Ba9.out.tree)).mono ?_
                rintro e W10 ⟨rfl, hb⟩
                rw [vA.out, RR.out.1]
                have Ba10 := Lib.hid (Ba9.out.keep hb)
                have Bb10 := Lib.hid (Bb9.out.keep hb)
                have BC10 := Lib.hid (BC9.out.keep hb)
                have BD10 := Lib.hid (BD9.out.keep hb)
                have LL10 := Lib.hid (LL9.out.trans (hb.mono LL9.out.size))
                clear hb ba0 ba1 ba2 bb0 bb1 bb2 bc0 bc1 bc2 bd0 bd1 bd2
                have ba0 := Ba10.out.c0
                have ba1 := Ba10.out.c1
                have ba2 := Ba10.out.c2
                have bb0 := Bb10.out.c0
                have bb1 := Bb10.out.c1
                have bb2 := Bb10.out.c2
                have bc0 : W10.cell? ⟨g5, 0, none⟩ = some (.int .i64 6) := BC10.out.c0
                have bc1 : W10.cell? ⟨g5, 1, none⟩ = some (.int .i64 0) := BC10.out.c1
                have bc2 : W10.cell? ⟨g5, 2, none⟩ = some (.slice A5 2 2) := BC10.out.c2
                have bd0 : W10.cell? ⟨g7, 0, none⟩ = some (.int .i64 7) := BD10.out.c0
                have bd1 : W10.cell? ⟨g7, 1, none⟩ = some (.int .i64 x) := BD10.out.c1
                have bd2 : W10.cell? ⟨g7, 2, none⟩ = some (.slice A7 1 1) := BD10.out.c2
                go_wp2_with fail
                refine (free_any b A' c' _ (by exact Bb10.out.tree)).mono ?_
                rintro e W11 ⟨rfl, hb⟩
                rw [vB.out, RR.out.2.1]
                have Ba11 := Lib.hid (Ba10.out.keep hb)
                have Bb11 := Lib.hid (Bb10.out.keep hb)
                have BC11 := Lib.hid (BC10.out.keep hb)
                have BD11 := Lib.hid (BD10.out.keep hb)
                have LL11 := Lib.hid (LL10.out.trans (hb.mono LL10.out.size))
                clear hb ba0 ba1 ba2 bb0 bb1 bb2 bc0 bc1 bc2 bd0 bd1 bd2
                have ba0 := Ba11.out.c0
                have ba1 := Ba11.out.c1
                have ba2 := Ba11.out.c2
                have bb0 := Bb11.out.c0
                have bb1 := Bb11.out.c1
                have bb2 := Bb11.out.c2
                have bc0 : W11.cell? ⟨g5, 0, none⟩ = some (.int .i64 6) := BC11.out.c0
                have bc1 : W11.cell? ⟨g5, 1, none⟩ = some (.int .i64 0) := BC11.out.c1
                have bc2 : W11.cell? ⟨g5, 2, none⟩ = some (.slice A5 2 2) := BC11.out.c2
                have bd0 : W11.cell? ⟨g7, 0, none⟩ = some (.int .i64 7) := BD11.out.c0
                have bd1 : W11.cell? ⟨g7, 1, none⟩ = some (.int .i64 x) := BD11.out.c1
                have bd2 : W11.cell? ⟨g7, 2, none⟩ = some (.slice A7 1 1) := BD11.out.c2
                go_wp2_with fail
                refine (FU.out _ (by exact BC11.out.tree)).mono ?_
                rintro e W12 ⟨rfl, hb⟩
                rw [vU.out, RR.out.2.2.1]
                have Ba12 := Lib.hid (Ba11.out.keep hb)
                have Bb12 := Lib.hid (Bb11.out.keep hb)
                have BC12 := Lib.hid (BC11.out.keep hb)
                have BD12 := Lib.hid (BD11.out.keep hb)
                have LL12 := Lib.hid (LL11.out.trans (hb.mono LL11.out.size))
                clear hb ba0 ba1 ba2 bb0 bb1 bb2 bc0 bc1 bc2 bd0 bd1 bd2
                have ba0 := Ba12.out.c0
                have ba1 := Ba12.out.c1
                have ba2 := Ba12.out.c2
                have bb0 := Bb12.out.c0
                have bb1 := Bb12.out.c1
                have bb2 := Bb12.out.c2
                have bc0 : W12.cell? ⟨g5, 0, none⟩ = some (.int .i64 6) := BC12.out.c0
                have bc1 : W12.cell? ⟨g5, 1, none⟩ = some (.int .i64 0) := BC12.out.c1
                have bc2 : W12.cell? ⟨g5, 2, none⟩ = some (.slice A5 2 2) := BC12.out.c2
                have bd0 : W12.cell? ⟨g7, 0, none⟩ = some (.int .i64 7) := BD12.out.c0
                have bd1 : W12.cell? ⟨g7, 1, none⟩ = some (.int .i64 x) := BD12.out.c1
                have bd2 : W12.cell? ⟨g7, 2, none⟩ = some (.slice A7 1 1) := BD12.out.c2
                go_wp2_with fail
                refine (FVV.out _ (by exact BD12.out.tree)).mono ?_
                rintro e W13 ⟨rfl, hb⟩
                rw [vV.out, RR.out.2.2.2]
                have Ba13 := Lib.hid (Ba12.out.keep hb)
                have Bb13 := Lib.hid (Bb12.out.keep hb)
                have BC13 := Lib.hid (BC12.out.keep hb)
                have BD13 := Lib.hid (BD12.out.keep hb)
                have LL13 := Lib.hid (LL12.out.trans (hb.mono LL12.out.size))
                clear hb ba0 ba1 ba2 bb0 bb1 bb2 bc0 bc1 bc2 bd0 bd1 bd2
                have ba0 := Ba13.out.c0
                have ba1 := Ba13.out.c1
                have ba2 := Ba13.out.c2
                have bb0 := Bb13.out.c0
                have bb1 := Bb13.out.c1
                have bb2 := Bb13.out.c2
                have bc0 : W13.cell? ⟨g5, 0, none⟩ = some (.int .i64 6) := BC13.out.c0
                have bc1 : W13.cell? ⟨g5, 1, none⟩ = some (.int .i64 0) := BC13.out.c1
                have bc2 : W13.cell? ⟨g5, 2, none⟩ = some (.slice A5 2 2) := BC13.out.c2
                have bd0 : W13.cell? ⟨g7, 0, none⟩ = some (.int .i64 7) := BD13.out.c0
                have bd1 : W13.cell? ⟨g7, 1, none⟩ = some (.int .i64 x) := BD13.out.c1
                have bd2 : W13.cell? ⟨g7, 2, none⟩ = some (.slice A7 1 1) := BD13.out.c2
                go_wp2_with fail
                refine (vars_any a A c _ (by exact Ba13.out.tree)).mono ?_
                rintro e W14 ⟨rfl, hb⟩
                rw [wA.out, RR.out.1]
                have Ba14 := Lib.hid (Ba13.out.keep hb)
                have Bb14 := Lib.hid (Bb13.out.keep hb)
                have BC14 := Lib.hid (BC13.out.keep hb)
                have BD14 := Lib.hid (BD13.out.keep hb)
                have LL14 := Lib.hid (LL13.out.trans (hb.mono LL13.out.size))
                clear hb ba0 ba1 ba2 bb0 bb1 bb2 bc0 bc1 bc2 bd0 bd1 bd2
                have ba0 := Ba14.out.c0
                have ba1 := Ba14.out.c1
                have ba2 := Ba14.out.c2
                have bb0 := Bb14.out.c0
                have bb1 := Bb14.out.c1
                have bb2 := Bb14.out.c2
                have bc0 : W14.cell? ⟨g5, 0, none⟩ = some (.int .i64 6) := BC14.out.c0
                have bc1 : W14.cell? ⟨g5, 1, none⟩ = some (.int .i64 0) := BC14.out.c1
                have bc2 : W14.cell? ⟨g5, 2, none⟩ = some (.slice A5 2 2) := BC14.out.c2
                have bd0 : W14.cell? ⟨g7, 0, none⟩ = some (.int .i64 7) := BD14.out.c0
                have bd1 : W14.cell? ⟨g7, 1, none⟩ = some (.int .i64 x) := BD14.out.c1
                have bd2 : W14.cell? ⟨g7, 2, none⟩ = some (.slice A7 1 1) := BD14.out.c2
                go_wp2_with fail
                refine (VV.out _ (by exact BD14.out.tree)).mono ?_
                rintro e W15 ⟨rfl, hb⟩
                rw [wV.out, RR.out.2.2.2]
                have Ba15 := Lib.hid (Ba14.out.keep hb)
                have Bb15 := Lib.hid (Bb14.out.keep hb)
                have BC15 := Lib.hid (BC14.out.keep hb)
                have BD15 := Lib.hid (BD14.out.keep hb)
                have LL15 := Lib.hid (LL14.out.trans (hb.mono LL14.out.size))
                clear hb ba0 ba1 ba2 bb0 bb1 bb2 bc0 bc1 bc2 bd0 bd1 bd2
                have ba0 := Ba15.out.c0
                have ba1 := Ba15.out.c1
                have ba2 := Ba15.out.c2
                have bb0 := Bb15.out.c0
                have bb1 := Bb15.out.c1
                have bb2 := Bb15.out.c2
                have bc0 : W15.cell? ⟨g5, 0, none⟩ = some (.int .i64 6) := BC15.out.c0
                have bc1 : W15.cell? ⟨g5, 1, none⟩ = some (.int .i64 0) := BC15.out.c1
                have bc2 : W15.cell? ⟨g5, 2, none⟩ = some (.slice A5 2 2) := BC15.out.c2
                have bd0 : W15.cell? ⟨g7, 0, none⟩ = some (.int .i64 7) := BD15.out.c0
                have bd1 : W15.cell? ⟨g7, 1, none⟩ = some (.int .i64 x) := BD15.out.c1
                have bd2 : W15.cell? ⟨g7, 2, none⟩ = some (.slice A7 1 1) := BD15.out.c2
                go_wp2_with fail
                refine (bound_any a A c _ (by exact Ba15.out.tree)).mono ?_
                rintro e W16 ⟨rfl, hb⟩
                rw [cA.out, RR.out.1]
                have Ba16 := Lib.hid (Ba15.out.keep hb)
                have Bb16 := Lib.hid (Bb15.out.keep hb)
                have BC16 := Lib.hid (BC15.out.keep hb)
                have BD16 := Lib.hid (BD15.out.keep hb)
                have LL16 := Lib.hid (LL15.out.trans (hb.mono LL15.out.size))
                clear hb ba0 ba1 ba2 bb0 bb1 bb2 bc0 bc1 bc2 bd0 bd1 bd2
                have ba0 := Ba16.out.c0
                have ba1 := Ba16.out.c1
                have ba2 := Ba16.out.c2
                have bb0 := Bb16.out.c0
                have bb1 := Bb16.out.c1
                have bb2 := Bb16.out.c2
                have bc0 : W16.cell? ⟨g5, 0, none⟩ = some (.int .i64 6) := BC16.out.c0
                have bc1 : W16.cell? ⟨g5, 1, none⟩ = some (.int .i64 0) := BC16.out.c1
                have bc2 : W16.cell? ⟨g5, 2, none⟩ = some (.slice A5 2 2) := BC16.out.c2
                have bd0 : W16.cell? ⟨g7, 0, none⟩ = some (.int .i64 7) := BD16.out.c0
                have bd1 : W16.cell? ⟨g7, 1, none⟩ = some (.int .i64 x) := BD16.out.c1
                have bd2 : W16.cell? ⟨g7, 2, none⟩ = some (.slice A7 1 1) := BD16.out.c2
                go_wp2_with fail
                refine (BV.out _ (by exact BD16.out.tree)).mono ?_
                rintro e W17 ⟨rfl, hb⟩
                rw [cV.out, RR.out.2.2.2]
                have Ba17 := Lib.hid (Ba16.out.keep hb)
                have Bb17 := Lib.hid (Bb16.out.keep hb)
                have BC17 := Lib.hid (BC16.out.keep hb)
                have BD17 := Lib.hid (BD16.out.keep hb)
                have LL17 := Lib.hid (LL16.out.trans (hb.mono LL16.out.size))
                clear hb ba0 ba1 ba2 bb0 bb1 bb2 bc0 bc1 bc2 bd0 bd1 bd2
                have ba0 := Ba17.out.c0
                have ba1 := Ba17.out.c1
                have ba2 := Ba17.out.c2
                have bb0 := Bb17.out.c0
                have bb1 := Bb17.out.c1
                have bb2 := Bb17.out.c2
                have bc0 : W17.cell? ⟨g5, 0, none⟩ = some (.int .i64 6) := BC17.out.c0
                have bc1 : W17.cell? ⟨g5, 1, none⟩ = some (.int .i64 0) := BC17.out.c1
                have bc2 : W17.cell? ⟨g5, 2, none⟩ = some (.slice A5 2 2) := BC17.out.c2
                have bd0 : W17.cell? ⟨g7, 0, none⟩ = some (.int .i64 7) := BD17.out.c0
                have bd1 : W17.cell? ⟨g7, 1, none⟩ = some (.int .i64 x) := BD17.out.c1
                have bd2 : W17.cell? ⟨g7, 2, none⟩ = some (.slice A7 1 1) := BD17.out.c2
                rw [M.out.fc, M.out.fd, M.out.vd, M.out.bd, (bit_walk x hx0' hx1')]
                obtain ⟨o1, o2, o3, o4, o5, o6⟩ := builds_eqs a b x hx0' hx1'
                generalize freeT a = fa at o1 o2 o5 o6 ⊢
                generalize freeT b = fb at o1 ⊢
                generalize varsT a = va at o3 o6 ⊢
                generalize boundT a = ba at o4 o5 o6 ⊢
                generalize withoutN fa x = fd at o2 ⊢
                generalize (2 : Nat) ^ x.toNat = p at o2 o3 o4 ⊢
                clear M vA vB vU vV wA wV cA cV RR
                go_wp2_with fail
                go_ret
                exact ⟨by simp, LL17.out⟩
              · have e9 : ((rv : Int) != 0) = true := by rw [bne_iff_ne]; omega
                clear hru hrv
                go_wp2_with fail
                go_ret
                exact ⟨rfl, LL9.out⟩
            · have e8 : ((ru : Int) != 0) = true := by rw [bne_iff_ne]; omega
              clear hru hrv
              go_wp2_with fail
              go_ret
              exact ⟨rfl, LL8.out⟩
          · with_reducible change Exit.then _ _ Exit.normal _ ((((w4.alloc (.cells #[.int .i64 a.k, .int .i64 a.i, .slice A2 a.ks.length c2, .int .i64 b.k, .int .i64 b.i, .slice A3 b.ks.length c3] 24)).setCell ⟨w2.heap.size, 0, none⟩ (.int .i64 6)).setCell ⟨w2.heap.size, 1, none⟩ (.int .i64 0)).setCell ⟨w2.heap.size, 2, none⟩ (.slice (some ⟨w4.heap.size, 0, none⟩) 2 2))
            have hlaw := OA4.out.le
            have ia : IsT ((((w4.alloc (.cells #[.int .i64 a.k, .int .i64 a.i, .slice A2 a.ks.length c2, .int .i64 b.k, .int .i64 b.i, .slice A3 b.ks.length c3] 24)).setCell ⟨w2.heap.size, 0, none⟩ (.int .i64 6)).setCell ⟨w2.heap.size, 1, none⟩ (.int .i64 0)).setCell ⟨w2.heap.size, 2, none⟩ (.slice (some ⟨w4.heap.size, 0, none⟩) 2 2)) ((((w4.alloc (.cells #[.int .i64 a.k, .int .i64 a.i, .slice A2 a.ks.length c2, .int .i64 b.k, .int .i64 b.i, .slice A3 b.ks.length c3] 24)).setCell ⟨w2.heap.size, 0, none⟩ (.int .i64 6)).setCell ⟨w2.heap.size, 1, none⟩ (.int .i64 0)).setCell ⟨w2.heap.size, 2, none⟩ (.slice (some ⟨w4.heap.size, 0, none⟩) 2 2)).heap.size a A2 c2 := ownIs OA4.out (fun k k1 k2 => set3a_far _ _ _ _ _ (by omega) (show k ≠ w2.heap.size by omega)) (by first | (simp; omega) | (simp; done)) FA.out
            have ib : IsT ((((w4.alloc (.cells #[.int .i64 a.k, .int .i64 a.i, .slice A2 a.ks.length c2, .int .i64 b.k, .int .i64 b.i, .slice A3 b.ks.length c3] 24)).setCell ⟨w2.heap.size, 0, none⟩ (.int .i64 6)).setCell ⟨w2.heap.size, 1, none⟩ (.int .i64 0)).setCell ⟨w2.heap.size, 2, none⟩ (.slice (some ⟨w4.heap.size, 0, none⟩) 2 2)) ((((w4.alloc (.cells #[.int .i64 a.k, .int .i64 a.i, .slice A2 a.ks.length c2, .int .i64 b.k, .int .i64 b.i, .slice A3 b.ks.length c3] 24)).setCell ⟨w2.heap.size, 0, none⟩ (.int .i64 6)).setCell ⟨w2.heap.size, 1, none⟩ (.int .i64 0)).setCell ⟨w2.heap.size, 2, none⟩ (.slice (some ⟨w4.heap.size, 0, none⟩) 2 2)).heap.size b A3 c3 := ownIs OB.out (fun k k1 k2 => set3a_far _ _ _ _ _ (by omega) (show k ≠ w2.heap.size by omega)) (by first | (simp; done) | (simp; omega)) FB.out
            have BC := Lib.hid (show Bt ((((w4.alloc (.cells #[.int .i64 a.k, .int .i64 a.i, .slice A2 a.ks.length c2, .int .i64 b.k, .int .i64 b.i, .slice A3 b.ks.length c3] 24)).setCell ⟨w2.heap.size, 0, none⟩ (.int .i64 6)).setCell ⟨w2.heap.size, 1, none⟩ (.int .i64 0)).setCell ⟨w2.heap.size, 2, none⟩ (.slice (some ⟨w4.heap.size, 0, none⟩) 2 2)) (w2.heap.size) (.node 6 0 [a, b]) (some ⟨w4.heap.size, 0, none⟩) 2 from (bt_set3 (t := .node 6 0 [a, b]) (A := some ⟨w4.heap.size, 0, none⟩) (c := 2) zb (isT_two2 (set3a_new _ _ _ _ _ (show w4.heap.size ≠ w2.heap.size by have := zb.lt; omega)) ia ib)))
            have LW := Lib.hid (show Below w2.heap.size w2 ((((w4.alloc (.cells #[.int .i64 a.k, .int .i64 a.i, .slice A2 a.ks.length c2, .int .i64 b.k, .int .i64 b.i, .slice A3 b.ks.length c3] 24)).setCell ⟨w2.heap.size, 0, none⟩ (.int .i64 6)).setCell ⟨w2.heap.size, 1, none⟩ (.int .i64 0)).setCell ⟨w2.heap.size, 2, none⟩ (.slice (some ⟨w4.heap.size, 0, none⟩) 2 2)) from (below_set3 (hw4.alloc hw4.size _) _ _ _ (Nat.le_refl _)))
            clear ia ib
            generalize ((((w4.alloc (.cells #[.int .i64 a.k, .int .i64 a.i, .slice A2 a.ks.length c2, .int .i64 b.k, .int .i64 b.i, .slice A3 b.ks.length c3] 24)).setCell ⟨w2.heap.size, 0, none⟩ (.int .i64 6)).setCell ⟨w2.heap.size, 1, none⟩ (.int .i64 0)).setCell ⟨w2.heap.size, 2, none⟩ (.slice (some ⟨w4.heap.size, 0, none⟩) 2 2)) = W5 at BC LW ⊢
            generalize (some ⟨w4.heap.size, 0, none⟩ : Option Addr) = A5 at BC ⊢
            generalize w2.heap.size = g5 at BC ⊢
            have Ba5 := Lib.hid (Ba2.out.keep LW.out)
            have Bb5 := Lib.hid (Bb2.out.keep LW.out)
            have LL5 := Lib.hid (LL2.out.trans (LW.out.mono LL2.out.size))
            clear LW
            have ba0 := Ba5.out.c0
            have ba1 := Ba5.out.c1
            have ba2 := Ba5.out.c2
            go_wp2_with fail
            refine (copy_any a.sz a A c _ (Nat.le_refl _) (by exact Ba5.out.tree)).mono ?_
            rintro e w6 ⟨A6, c6, rfl, hoa, hba⟩
            have OA6 := Lib.hid hoa
            have hw6 := hba
            clear hoa hba ba0 ba1 ba2
            have LYa : Below w6.heap.size w6 ((w6.alloc (.cells #[.int .i64 a.k, .int .i64 a.i, .slice A6 a.ks.length c6] 24)).alloc (.cells #[.int .i64 7, .int .i64 x, .slice (some ⟨w6.heap.size, 0, none⟩) 1 1] 24)) := (alB _ _).trans ((alB _ _).mono (by simp))
            have q : Bt ((((w6.alloc (.cells #[.int .i64 a.k, .int .i64 a.i, .slice A6 a.ks.length c6] 24)).alloc (.cells #[.int .i64 7, .int .i64 x, .slice (some ⟨w6.heap.size, 0, none⟩) 1 1] 24)))) (w6.heap.size + 1) (.node 7 x [a]) (some ⟨w6.heap.size, 0, none⟩) 1 := by
              have q := Bt.new (W := w6.alloc (.cells #[.int .i64 a.k, .int .i64 a.i, .slice A6 a.ks.length c6] 24)) (t := .node 7 x [a]) (A := some ⟨w6.heap.size, 0, none⟩) (c := 1) (isT_one1 (new_at w6 _) (ownIs OA6.out (fun k k1 k2 => Below.heap_alloc _ _ _ (by omega)) (by simp) FA.out))
              rw [World.size_alloc] at q
              exact q
            have BD := Lib.hid q
            have Ba7 := Lib.hid ((Ba5.out.keep hw6).keep LYa)
            have Bb7 := Lib.hid ((Bb5.out.keep hw6).keep LYa)
            have BC7 := Lib.hid ((BC.out.keep hw6).keep LYa)
            have LL7 := Lib.hid ((LL5.out.trans (hw6.mono LL5.out.size)).trans (LYa.mono (Nat.le_trans LL5.out.size hw6.size)))
            have bc0 : (((w6.alloc (.cells #[.int .i64 a.k, .int .i64 a.i, .slice A6 a.ks.length c6] 24)).alloc (.cells #[.int .i64 7, .int .i64 x, .slice (some ⟨w6.heap.size, 0, none⟩) 1 1] 24))).cell? ⟨g5, 0, none⟩ = some (.int .i64 6) := BC7.out.c0
            have bc1 : (((w6.alloc (.cells #[.int .i64 a.k, .int .i64 a.i, .slice A6 a.ks.length c6] 24)).alloc (.cells #[.int .i64 7, .int .i64 x, .slice (some ⟨w6.heap.size, 0, none⟩) 1 1] 24))).cell? ⟨g5, 1, none⟩ = some (.int .i64 0) := BC7.out.c1
            have bc2 : (((w6.alloc (.cells #[.int .i64 a.k, .int .i64 a.i, .slice A6 a.ks.length c6] 24)).alloc (.cells #[.int .i64 7, .int .i64 x, .slice (some ⟨w6.heap.size, 0, none⟩) 1 1] 24))).cell? ⟨g5, 2, none⟩ = some (.slice A5 2 2) := BC7.out.c2
            clear q LYa hw6 BC
            go_wp2_with fail
            generalize ((w6.alloc (.cells #[.int .i64 a.k, .int .i64 a.i, .slice A6 a.ks.length c6] 24)).alloc (.cells #[.int .i64 7, .int .i64 x, .slice (some ⟨w6.heap.size, 0, none⟩) 1 1] 24)) = W7 at BD Ba7 Bb7 BC7 LL7 bc0 bc1 bc2 ⊢
            generalize w6.heap.size + 1 = g7 at BD ⊢
            generalize (some ⟨w6.heap.size, 0, none⟩ : Option Addr) = A7 at BD ⊢
            have BD7 := BD
            clear bc0 bc1 bc2
            have ba0 := Ba7.out.c0
            have ba1 := Ba7.out.c1
            have ba2 := Ba7.out.c2
            have bb0 := Bb7.out.c0
            have bb1 := Bb7.out.c1
            have bb2 := Bb7.out.c2
            have bc0 : W7.cell? ⟨g5, 0, none⟩ = some (.int .i64 6) := BC7.out.c0
            have bc1 : W7.cell? ⟨g5, 1, none⟩ = some (.int .i64 0) := BC7.out.c1
            have bc2 : W7.cell? ⟨g5, 2, none⟩ = some (.slice A5 2 2) := BC7.out.c2
            have bd0 : W7.cell? ⟨g7, 0, none⟩ = some (.int .i64 7) := BD7.out.c0
            have bd1 : W7.cell? ⟨g7, 1, none⟩ = some (.int .i64 x) := BD7.out.c1
            have bd2 : W7.cell? ⟨g7, 2, none⟩ = some (.slice A7 1 1) := BD7.out.c2
            have RU := Lib.hid (fun (W : World) (h : IsT W W.heap.size (.node 6 0 [a, b]) A5 2) => rright_any (.node 6 0 [a, b]) A5 2 W h)
            have RV := Lib.hid (fun (W : World) (h : IsT W W.heap.size (.node 7 x [a]) A7 1) => rright_any (.node 7 x [a]) A7 1 W h)
            have FU := Lib.hid (fun (W : World) (h : IsT W W.heap.size (.node 6 0 [a, b]) A5 2) => free_any (.node 6 0 [a, b]) A5 2 W h)
            have FVV := Lib.hid (fun (W : World) (h : IsT W W.heap.size (.node 7 x [a]) A7 1) => free_any (.node 7 x [a]) A7 1 W h)
            have VV := Lib.hid (fun (W : World) (h : IsT W W.heap.size (.node 7 x [a]) A7 1) => vars_any (.node 7 x [a]) A7 1 W h)
            have BV := Lib.hid (fun (W : World) (h : IsT W W.heap.size (.node 7 x [a]) A7 1) => bound_any (.node 7 x [a]) A7 1 W h)
            simp only [Tr.k, Tr.i, Tr.ks, List.length_cons, List.length_nil, Nat.zero_add, Nat.reduceAdd] at RU RV FU FVV VV BV
            obtain ⟨ru, hru⟩ : ∃ ru, ru = rightN (.node 6 0 [a, b]) := ⟨_, rfl⟩
            obtain ⟨rv, hrv⟩ : ∃ rv, rv = rightN (.node 7 x [a]) := ⟨_, rfl⟩
            refine (RU.out _ (by exact BC7.out.tree)).mono ?_
            rintro e W8 ⟨rfl, hb⟩
            rw [← hru]
            have Ba8 := Lib.hid (Ba7.out.keep hb)
            have Bb8 := Lib.hid (Bb7.out.keep hb)
            have BC8 := Lib.hid (BC7.out.keep hb)
            have BD8 := Lib.hid (BD7.out.keep hb)
            have LL8 := Lib.hid (LL7.out.trans (hb.mono LL7.out.size))
            clear hb ba0 ba1 ba2 bb0 bb1 bb2 bc0 bc1 bc2 bd0 bd1 bd2
            have ba0 := Ba8.out.c0
            have ba1 := Ba8.out.c1
            have ba2 := Ba8.out.c2
            have bb0 := Bb8.out.c0
            have bb1 := Bb8.out.c1
            have bb2 := Bb8.out.c2
            have bc0 : W8.cell? ⟨g5, 0, none⟩ = some (.int .i64 6) := BC8.out.c0
            have bc1 : W8.cell? ⟨g5, 1, none⟩ = some (.int .i64 0) := BC8.out.c1
            have bc2 : W8.cell? ⟨g5, 2, none⟩ = some (.slice A5 2 2) := BC8.out.c2
            have bd0 : W8.cell? ⟨g7, 0, none⟩ = some (.int .i64 7) := BD8.out.c0
            have bd1 : W8.cell? ⟨g7, 1, none⟩ = some (.int .i64 x) := BD8.out.c1
            have bd2 : W8.cell? ⟨g7, 2, none⟩ = some (.slice A7 1 1) := BD8.out.c2
            by_cases h8 : ru = 0
            · have e8 : ((ru : Int) != 0) = false := by simp [h8]
              go_wp2_with fail
              refine (RV.out _ (by exact BD8.out.tree)).mono ?_
              rintro e W9 ⟨rfl, hb⟩
              rw [← hrv]
              have Ba9 := Lib.hid (Ba8.out.keep hb)
              have Bb9 := Lib.hid (Bb8.out.keep hb)
              have BC9 := Lib.hid (BC8.out.keep hb)
              have BD9 := Lib.hid (BD8.out.keep hb)
              have LL9 := Lib.hid (LL8.out.trans (hb.mono LL8.out.size))
              clear hb ba0 ba1 ba2 bb0 bb1 bb2 bc0 bc1 bc2 bd0 bd1 bd2
              have ba0 := Ba9.out.c0
              have ba1 := Ba9.out.c1
              have ba2 := Ba9.out.c2
              have bb0 := Bb9.out.c0
              have bb1 := Bb9.out.c1
              have bb2 := Bb9.out.c2
              have bc0 : W9.cell? ⟨g5, 0, none⟩ = some (.int .i64 6) := BC9.out.c0
              have bc1 : W9.cell? ⟨g5, 1, none⟩ = some (.int .i64 0) := BC9.out.c1
              have bc2 : W9.cell? ⟨g5, 2, none⟩ = some (.slice A5 2 2) := BC9.out.c2
              have bd0 : W9.cell? ⟨g7, 0, none⟩ = some (.int .i64 7) := BD9.out.c0
              have bd1 : W9.cell? ⟨g7, 1, none⟩ = some (.int .i64 x) := BD9.out.c1
              have bd2 : W9.cell? ⟨g7, 2, none⟩ = some (.slice A7 1 1) := BD9.out.c2
              by_cases h9 : rv = 0
              · have e9 : ((rv : Int) != 0) = false := by simp [h9]
                have rA : rightN a = 0 := by unfold rFB at hA; simp at hA; exact hA.1
                have rB : rightN b = 0 := by unfold rFB at hB; simp at hB; exact hB.1
                have rU : rightN (.node 6 0 [a, b]) = 0 := by rw [← hru]; exact h8
                have rV : rightN (.node 7 x [a]) = 0 := by rw [← hrv]; exact h9
                have M := Lib.hid (builds_math a b x hx0' hx1')
                have vA := Lib.hid (valR_ok (f := freeT) rA)
                have vB := Lib.hid (valR_ok (f := freeT) rB)
                have vU := Lib.hid (valR_ok (f := freeT) rU)
                have vV := Lib.hid (valR_ok (f := freeT) rV)
                have wA := Lib.hid (valR_ok (f := varsT) rA)
                have wV := Lib.hid (valR_ok (f := varsT) rV)
                have cA := Lib.hid (valR_ok (f := boundT) rA)
                have cV := Lib.hid (valR_ok (f := boundT) rV)
                have RR := Lib.hid (And.intro rA (And.intro rB (And.intro rU rV)))
                clear rA rB rU rV hru hrv h8 h9
                go_wp2_with fail
                refine (free_any a A c _ (by exact Ba9.out.tree)).mono ?_
                rintro e W10 ⟨rfl, hb⟩
                rw [vA.out, RR.out.1]
                have Ba10 := Lib.hid (Ba9.out.keep hb)
                have Bb10 := Lib.hid (Bb9.out.keep hb)
                have BC10 := Lib.hid (BC9.out.keep hb)
                have BD10 := Lib.hid (BD9.out.keep hb)
                have LL10 := Lib.hid (LL9.out.trans (hb.mono LL9.out.size))
                clear hb ba0 ba1 ba2 bb0 bb1 bb2 bc0 bc1 bc2 bd0 bd1 bd2
                have ba0 := Ba10.out.c0
                have ba1 := Ba10.out.c1
                have ba2 := Ba10.out.c2
                have bb0 := Bb10.out.c0
                have bb1 := Bb10.out.c1
                have bb2 := Bb10.out.c2
                have bc0 : W10.cell? ⟨g5, 0, none⟩ = some (.int .i64 6) := BC10.out.c0
                have bc1 : W10.cell? ⟨g5, 1, none⟩ = some (.int .i64 0) := BC10.out.c1
                have bc2 : W10.cell? ⟨g5, 2, none⟩ = some (.slice A5 2 2) := BC10.out.c2
                have bd0 : W10.cell? ⟨g7, 0, none⟩ = some (.int .i64 7) := BD10.out.c0
                have bd1 : W10.cell? ⟨g7, 1, none⟩ = some (.int .i64 x) := BD10.out.c1
                have bd2 : W10.cell? ⟨g7, 2, none⟩ = some (.slice A7 1 1) := BD10.out.c2
                go_wp2_with fail
                refine (free_any b A' c' _ (by exact Bb10.out.tree)).mono ?_
                rintro e W11 ⟨rfl, hb⟩
                rw [vB.out, RR.out.2.1]
                have Ba11 := Lib.hid (Ba10.out.keep hb)
                have Bb11 := Lib.hid (Bb10.out.keep hb)
                have BC11 := Lib.hid (BC10.out.keep hb)
                have BD11 := Lib.hid (BD10.out.keep hb)
                have LL11 := Lib.hid (LL10.out.trans (hb.mono LL10.out.size))
                clear hb ba0 ba1 ba2 bb0 bb1 bb2 bc0 bc1 bc2 bd0 bd1 bd2
                have ba0 := Ba11.out.c0
                have ba1 := Ba11.out.c1
                have ba2 := Ba11.out.c2
                have bb0 := Bb11.out.c0
                have bb1 := Bb11.out.c1
                have bb2 := Bb11.out.c2
                have bc0 : W11.cell? ⟨g5, 0, none⟩ = some (.int .i64 6) := BC11.out.c0
                have bc1 : W11.cell? ⟨g5, 1, none⟩ = some (.int .i64 0) := BC11.out.c1
                have bc2 : W11.cell? ⟨g5, 2, none⟩ = some (.slice A5 2 2) := BC11.out.c2
                have bd0 : W11.cell? ⟨g7, 0, none⟩ = some (.int .i64 7) := BD11.out.c0
                have bd1 : W11.cell? ⟨g7, 1, none⟩ = some (.int .i64 x) := BD11.out.c1
                have bd2 : W11.cell? ⟨g7, 2, none⟩ = some (.slice A7 1 1) := BD11.out.c2
                go_wp2_with fail
                refine (FU.out _ (by exact BC11.out.tree)).mono ?_
                rintro e W12 ⟨rfl, hb⟩
                rw [vU.out, RR.out.2.2.1]
                have Ba12 := Lib.hid (Ba11.out.keep hb)
                have Bb12 := Lib.hid (Bb11.out.keep hb)
                have BC12 := Lib.hid (BC11.out.keep hb)
                have BD12 := Lib.hid (BD11.out.keep hb)
                have LL12 := Lib.hid (LL11.out.trans (hb.mono LL11.out.size))
                clear hb ba0 ba1 ba2 bb0 bb1 bb2 bc0 bc1 bc2 bd0 bd1 bd2
                have ba0 := Ba12.out.c0
                have ba1 := Ba12.out.c1
                have ba2 := Ba12.out.c2
                have bb0 := Bb12.out.c0
                have bb1 := Bb12.out.c1
                have bb2 := Bb12.out.c2
                have bc0 : W12.cell? ⟨g5, 0, none⟩ = some (.int .i64 6) := BC12.out.c0
                have bc1 : W12.cell? ⟨g5, 1, none⟩ = some (.int .i64 0) := BC12.out.c1
                have bc2 : W12.cell? ⟨g5, 2, none⟩ = some (.slice A5 2 2) := BC12.out.c2
                have bd0 : W12.cell? ⟨g7, 0, none⟩ = some (.int .i64 7) := BD12.out.c0
                have bd1 : W12.cell? ⟨g7, 1, none⟩ = some (.int .i64 x) := BD12.out.c1
                have bd2 : W12.cell? ⟨g7, 2, none⟩ = some (.slice A7 1 1) := BD12.out.c2
                go_wp2_with fail
                refine (FVV.out _ (by exact BD12.out.tree)).mono ?_
                rintro e W13 ⟨rfl, hb⟩
                rw [vV.out, RR.out.2.2.2]
                have Ba13 := Lib.hid (Ba12.out.keep hb)
                have Bb13 := Lib.hid (Bb12.out.keep hb)
                have BC13 := Lib.hid (BC12.out.keep hb)
                have BD13 := Lib.hid (BD12.out.keep hb)
                have LL13 := Lib.hid (LL12.out.trans (hb.mono LL12.out.size))
                clear hb ba0 ba1 ba2 bb0 bb1 bb2 bc0 bc1 bc2 bd0 bd1 bd2
                have ba0 := Ba13.out.c0
                have ba1 := Ba13.out.c1
                have ba2 := Ba13.out.c2
                have bb0 := Bb13.out.c0
                have bb1 := Bb13.out.c1
                have bb2 := Bb13.out.c2
                have bc0 : W13.cell? ⟨g5, 0, none⟩ = some (.int .i64 6) := BC13.out.c0
                have bc1 : W13.cell? ⟨g5, 1, none⟩ = some (.int .i64 0) := BC13.out.c1
                have bc2 : W13.cell? ⟨g5, 2, none⟩ = some (.slice A5 2 2) := BC13.out.c2
                have bd0 : W13.cell? ⟨g7, 0, none⟩ = some (.int .i64 7) := BD13.out.c0
                have bd1 : W13.cell? ⟨g7, 1, none⟩ = some (.int .i64 x) := BD13.out.c1
                have bd2 : W13.cell? ⟨g7, 2, none⟩ = some (.slice A7 1 1) := BD13.out.c2
                go_wp2_with fail
                refine (vars_any a A c _ (by exact Ba13.out.tree)).mono ?_
                rintro e W14 ⟨rfl, hb⟩
                rw [wA.out, RR.out.1]
                have Ba14 := Lib.hid (Ba13.out.keep hb)
                have Bb14 := Lib.hid (Bb13.out.keep hb)
                have BC14 := Lib.hid (BC13.out.keep hb)
                have BD14 := Lib.hid (BD13.out.keep hb)
                have LL14 := Lib.hid (LL13.out.trans (hb.mono LL13.out.size))
                clear hb ba0 ba1 ba2 bb0 bb1 bb2 bc0 bc1 bc2 bd0 bd1 bd2
                have ba0 := Ba14.out.c0
                have ba1 := Ba14.out.c1
                have ba2 := Ba14.out.c2
                have bb0 := Bb14.out.c0
                have bb1 := Bb14.out.c1
                have bb2 := Bb14.out.c2
                have bc0 : W14.cell? ⟨g5, 0, none⟩ = some (.int .i64 6) := BC14.out.c0
                have bc1 : W14.cell? ⟨g5, 1, none⟩ = some (.int .i64 0) := BC14.out.c1
                have bc2 : W14.cell? ⟨g5, 2, none⟩ = some (.slice A5 2 2) := BC14.out.c2
                have bd0 : W14.cell? ⟨g7, 0, none⟩ = some (.int .i64 7) := BD14.out.c0
                have bd1 : W14.cell? ⟨g7, 1, none⟩ = some (.int .i64 x) := BD14.out.c1
                have bd2 : W14.cell? ⟨g7, 2, none⟩ = some (.slice A7 1 1) := BD14.out.c2
                go_wp2_with fail
                refine (VV.out _ (by exact BD14.out.tree)).mono ?_
                rintro e W15 ⟨rfl, hb⟩
                rw [wV.out, RR.out.2.2.2]
                have Ba15 := Lib.hid (Ba14.out.keep hb)
                have Bb15 := Lib.hid (Bb14.out.keep hb)
                have BC15 := Lib.hid (BC14.out.keep hb)
                have BD15 := Lib.hid (BD14.out.keep hb)
                have LL15 := Lib.hid (LL14.out.trans (hb.mono LL14.out.size))
                clear hb ba0 ba1 ba2 bb0 bb1 bb2 bc0 bc1 bc2 bd0 bd1 bd2
                have ba0 := Ba15.out.c0
                have ba1 := Ba15.out.c1
                have ba2 := Ba15.out.c2
                have bb0 := Bb15.out.c0
                have bb1 := Bb15.out.c1
                have bb2 := Bb15.out.c2
                have bc0 : W15.cell? ⟨g5, 0, none⟩ = some (.int .i64 6) := BC15.out.c0
                have bc1 : W15.cell? ⟨g5, 1, none⟩ = some (.int .i64 0) := BC15.out.c1
                have bc2 : W15.cell? ⟨g5, 2, none⟩ = some (.slice A5 2 2) := BC15.out.c2
                have bd0 : W15.cell? ⟨g7, 0, none⟩ = some (.int .i64 7) := BD15.out.c0
                have bd1 : W15.cell? ⟨g7, 1, none⟩ = some (.int .i64 x) := BD15.out.c1
                have bd2 : W15.cell? ⟨g7, 2, none⟩ = some (.slice A7 1 1) := BD15.out.c2
                go_wp2_with fail
                refine (bound_any a A c _ (by exact Ba15.out.tree)).mono ?_
                rintro e W16 ⟨rfl, hb⟩
                rw [cA.out, RR.out.1]
                have Ba16 := Lib.hid (Ba15.out.keep hb)
                have Bb16 := Lib.hid (Bb15.out.keep hb)
                have BC16 := Lib.hid (BC15.out.keep hb)
                have BD16 := Lib.hid (BD15.out.keep hb)
                have LL16 := Lib.hid (LL15.out.trans (hb.mono LL15.out.size))
                clear hb ba0 ba1 ba2 bb0 bb1 bb2 bc0 bc1 bc2 bd0 bd1 bd2
                have ba0 := Ba16.out.c0
                have ba1 := Ba16.out.c1
                have ba2 := Ba16.out.c2
                have bb0 := Bb16.out.c0
                have bb1 := Bb16.out.c1
                have bb2 := Bb16.out.c2
                have bc0 : W16.cell? ⟨g5, 0, none⟩ = some (.int .i64 6) := BC16.out.c0
                have bc1 : W16.cell? ⟨g5, 1, none⟩ = some (.int .i64 0) := BC16.out.c1
                have bc2 : W16.cell? ⟨g5, 2, none⟩ = some (.slice A5 2 2) := BC16.out.c2
                have bd0 : W16.cell? ⟨g7, 0, none⟩ = some (.int .i64 7) := BD16.out.c0
                have bd1 : W16.cell? ⟨g7, 1, none⟩ = some (.int .i64 x) := BD16.out.c1
                have bd2 : W16.cell? ⟨g7, 2, none⟩ = some (.slice A7 1 1) := BD16.out.c2
                go_wp2_with fail
                refine (BV.out _ (by exact BD16.out.tree)).mono ?_
                rintro e W17 ⟨rfl, hb⟩
                rw [cV.out, RR.out.2.2.2]
                have Ba17 := Lib.hid (Ba16.out.keep hb)
                have Bb17 := Lib.hid (Bb16.out.keep hb)
                have BC17 := Lib.hid (BC16.out.keep hb)
                have BD17 := Lib.hid (BD16.out.keep hb)
                have LL17 := Lib.hid (LL16.out.trans (hb.mono LL16.out.size))
                clear hb ba0 ba1 ba2 bb0 bb1 bb2 bc0 bc1 bc2 bd0 bd1 bd2
                have ba0 := Ba17.out.c0
                have ba1 := Ba17.out.c1
                have ba2 := Ba17.out.c2
                have bb0 := Bb17.out.c0
                have bb1 := Bb17.out.c1
                have bb2 := Bb17.out.c2
                have bc0 : W17.cell? ⟨g5, 0, none⟩ = some (.int .i64 6) := BC17.out.c0
                have bc1 : W17.cell? ⟨g5, 1, none⟩ = some (.int .i64 0) := BC17.out.c1
                have bc2 : W17.cell? ⟨g5, 2, none⟩ = some (.slice A5 2 2) := BC17.out.c2
                have bd0 : W17.cell? ⟨g7, 0, none⟩ = some (.int .i64 7) := BD17.out.c0
                have bd1 : W17.cell? ⟨g7, 1, none⟩ = some (.int .i64 x) := BD17.out.c1
                have bd2 : W17.cell? ⟨g7, 2, none⟩ = some (.slice A7 1 1) := BD17.out.c2
                rw [M.out.fc, M.out.fd, M.out.vd, M.out.bd, (bit_walk x hx0' hx1')]
                obtain ⟨o1, o2, o3, o4, o5, o6⟩ := builds_eqs a b x hx0' hx1'
                generalize freeT a = fa at o1 o2 o5 o6 ⊢
                generalize freeT b = fb at o1 ⊢
                generalize varsT a = va at o3 o6 ⊢
                generalize boundT a = ba at o4 o5 o6 ⊢
                generalize withoutN fa x = fd at o2 ⊢
                generalize (2 : Nat) ^ x.toNat = p at o2 o3 o4 ⊢
                clear M vA vB vU vV wA wV cA cV RR
                go_wp2_with fail
                go_ret
                exact ⟨by simp, LL17.out⟩
              · have e9 : ((rv : Int) != 0) = true := by rw [bne_iff_ne]; omega
                clear hru hrv
                go_wp2_with fail
                go_ret
                exact ⟨rfl, LL9.out⟩
            · have e8 : ((ru : Int) != 0) = true := by rw [bne_iff_ne]; omega
              clear hru hrv
              go_wp2_with fail
              go_ret
              exact ⟨rfl, LL8.out⟩
end Go.Proofs.Ytfleomamhkeiiaa
