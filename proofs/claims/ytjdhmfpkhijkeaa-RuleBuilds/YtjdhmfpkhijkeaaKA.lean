/- Equal of package rule; the laws RulePlains, RuleEquals, walked. -/
import Derived.Test.YtjdhmfpkhijkeaaK9
namespace Go.Proofs.Ytjdhmfpkhijkeaa
open Go.RowKit
set_option linter.unusedVariables false
set_option linter.unusedSimpArgs false
theorem like_same8 (a : Tr) : likeB a a = true := by unfold likeB; exact decide_eq_true (cmpT_self a)
theorem plainR_fit {t : Tr} (h : t.fit) : (plainR t).1.fit := by
  have hz : zeroT.fit := (fit_eq zeroT).2 ⟨by simp [zeroT, Tr.ks, Cap], fun q hq => by simp [zeroT, Tr.ks] at hq⟩
  have hp : ∀ t : Tr, t.fit → (plainT t).fit := by
    intro t
    induction t using Tr.ind with
    | h t ih =>
      intro h
      rw [fit_eq] at h
      have hk : ∀ q ∈ plainL t.ks, q.fit := fun q hq => by
        rw [plainL_map] at hq
        obtain ⟨p, hp, rfl⟩ := List.mem_map.1 hq
        exact ih p hp (h.2 p hp)
      rw [plainT_eq]
      rcases unf_cases t.k t.i (plainL t.ks) with ⟨a, b, e, e'⟩ | ⟨a, b, e, e'⟩ | ⟨a, e, e'⟩ | ⟨e, _⟩
      · rw [e, e']
        rw [e] at hk
        exact fit_node1 (fit_node2 (hk a (by simp)) (fit_node1 (hk b (by simp))))
      · rw [e, e']
        rw [e] at hk
        exact fit_node2 (fit_node1 (hk a (by simp))) (hk b (by simp))
      · rw [e, e']
        rw [e] at hk
        exact fit_node1 (fit_node1 (fit_node1 (hk a (by simp))))
      · rw [e]
        exact (fit_eq _).2 ⟨by rw [nod_ks, plainL_len]; exact h.1, fun q hq => hk q (by simpa [nod_ks] using hq)⟩
  unfold plainR
  split
  · exact hz
  · split
    · exact hz
    · exact hp t h
theorem AnsPost.isJ {w w' : World} {x : Tr × Nat} {e : Ending} (h : AnsPost w x e w') (hf : x.1.fit) : AnsJ w x e w' := by
  obtain ⟨hb, A, c, ho, he⟩ := h
  exact ⟨hb, A, c, ho.isT _ (Nat.le_refl _) hf, he⟩
theorem cplain_is (t : Tr) (A : Option Addr) (c : Nat) (w : World) (ht : IsT w w.heap.size t A c) :
    Calls Try.prog 31 #[.agg #[.int .i64 t.k, .int .i64 t.i, .slice A t.ks.length c]] w (AnsJ w (plainR t)) :=
  (cplain_any t A c w ht).mono fun e w' h => h.isJ (plainR_fit (IsT.fit t ht))
set_option maxHeartbeats 4000000 in
set_option maxRecDepth 100000 in
theorem plains_law (t : Tr) (A : Option Addr) (c : Nat) (w : World) (ht : IsT w w.heap.size t A c) :
    Calls Try.prog 8 #[.agg #[.int .i64 t.k, .int .i64 t.i, .slice A t.ks.length c]] w fun e w' => e = .returned (.bool true) ∧ Below w.heap.size w w' := by
  have E0 := Lib.hid (env1 ht)
  obtain ⟨a0, a1, a2⟩ := E0.out.cells w.heap.size t A c (by simp)
  clear ht
  go_enter Try.func8, Try.ntmps8
  go_wp2_with fail
  refine (cplain_is t A c _ (by exact E0.out.tree w.heap.size t A c (by simp))).mono ?_
  rintro e w1 ⟨hb1, A1, c1, i1, rfl⟩
  have E1 := Lib.hid ((E0.out.keep hb1).push i1)
  clear hb1 i1 a0 a1 a2 E0
  obtain ⟨a0, a1, a2⟩ := E1.out.cells w.heap.size t A c (by simp)
  go_wp2_with fail
  refine (rplain8_any t A c _ (by exact E1.out.tree w.heap.size t A c (by simp))).mono ?_
  rintro e w2 ⟨hb2, A2, c2, i2, rfl⟩
  have E2 := Lib.hid ((E1.out.keep hb2).push i2)
  clear hb2 i2 a0 a1 a2 E1
  obtain ⟨a0, a1, a2⟩ := E2.out.cells w1.heap.size (plainR t).1 A1 c1 (by simp)
  obtain ⟨n0, n1, n2⟩ := E2.out.cells w2.heap.size (plainR t).1 A2 c2 (by simp)
  go_wp2_with fail
  refine (like_any _ _ A1 A2 c1 c2 _ (by exact E2.out.tree w1.heap.size (plainR t).1 A1 c1 (by simp)) (by exact E2.out.tree w2.heap.size (plainR t).1 A2 c2 (by simp))).mono ?_
  rintro e w3 ⟨rfl, hb3⟩
  rw [like_same8]
  have E3 := Lib.hid (E2.out.keep hb3)
  clear hb3
  go_wp2_with fail
  go_ret
  exact ⟨rfl, E3.out.below⟩
/-! ### Equal -/
theorem firstL_pair (a b : Tr) : firstL [a, b] = firstN a b := firstL_two a b
theorem pair_new {w W : World} {a b : Tr} {A B : Option Addr} {c d : Nat} (h : Env w W [(w.heap.size + 1, b, B, d), (w.heap.size, a, A, c)]) :
    IsT (W.alloc (.cells #[.int .i64 a.k, .int .i64 a.i, .slice A a.ks.length c, .int .i64 b.k, .int .i64 b.i, .slice B b.ks.length d] 24)) (W.alloc (.cells #[.int .i64 a.k, .int .i64 a.i, .slice A a.ks.length c, .int .i64 b.k, .int .i64 b.i, .slice B b.ks.length d] 24)).heap.size (.node 0 0 [a, b]) (some ⟨W.heap.size, 0, none⟩) 2 :=
  isT_two2 (new_at W _) ((h.alloc _).tree w.heap.size a A c (by simp)) ((h.alloc _).tree (w.heap.size + 1) b B d (by simp))
set_option maxHeartbeats 4000000 in
set_option maxRecDepth 100000 in
theorem cequal_any (a b : Tr) (A B : Option Addr) (c d : Nat) (w : World) (ha : IsT w w.heap.size a A c) (hb : IsT w w.heap.size b B d) :
    Calls Try.prog 33 #[.agg #[.int .i64 a.k, .int .i64 a.i, .slice A a.ks.length c], .agg #[.int .i64 b.k, .int .i64 b.i, .slice B b.ks.length d]] w fun e w' => e = .returned (.tuple #[.bool (eqV a b), .int .i64 (eqN a b : Nat)]) ∧ Below w.heap.size w w' := by
  have E0 := Lib.hid (env2 ha hb)
  obtain ⟨b0, b1, b2⟩ := E0.out.cells (w.heap.size + 1) b B d (by simp)
  obtain ⟨a0, a1, a2⟩ := E0.out.cells w.heap.size a A c (by simp)
  have PW := Lib.hid (pair_new E0.out)
  clear ha hb
  go_enter Try.func33, Try.ntmps33
  go_wp2_with fail
  refine (rfirst_any (.node 0 0 [a, b]) _ 2 _ (by simpa using PW.out)).mono ?_
  rintro e w1 ⟨rfl, hb1⟩
  rw [show firstL (Tr.node 0 0 [a, b]).ks = firstN a b from firstL_two a b]
  have E1 := Lib.hid ((E0.out.alloc (.cells #[.int .i64 a.k, .int .i64 a.i, .slice A a.ks.length c, .int .i64 b.k, .int .i64 b.i, .slice B b.ks.length d] 24)).keep hb1)
  clear hb1 a0 a1 a2 b0 b1 b2 E0 PW
  obtain ⟨b0, b1, b2⟩ := E1.out.cells (w.heap.size + 1) b B d (by simp)
  obtain ⟨a0, a1, a2⟩ := E1.out.cells w.heap.size a A c (by simp)
  by_cases h0 : firstN a b = 0
  · have RA := Lib.hid (first_zero h0).1
    have RB := Lib.hid (first_zero h0).2
    have N0 := Lib.hid (show eqN a b = if plainF a ≠ 0 then plainF a else plainF b by unfold eqN; rw [if_neg (by rw [h0]; simp)])
    rw [h0]
    clear h0
    go_wp2_with fail
    refine (cplain_is a A c _ (by exact E1.out.tree w.heap.size a A c (by simp))).mono ?_
    rintro e w2 ⟨hb2, A2, c2, i2, rfl⟩
    rw [plainR2 RA.out]
    obtain ⟨p, hp⟩ : ∃ p, p = (plainR a).1 := ⟨_, rfl⟩
    rw [← hp] at i2 ⊢
    have HP := Lib.hid hp
    clear hp
    have E2 := Lib.hid ((E1.out.keep hb2).push i2)
    clear hb2 i2 a0 a1 a2 b0 b1 b2 E1
    obtain ⟨b0, b1, b2⟩ := E2.out.cells (w.heap.size + 1) b B d (by simp)
    by_cases h1 : plainF a = 0
    · have N1 := Lib.hid (show eqN a b = plainF b by rw [N0.out, if_neg (by rw [h1]; simp)])
      have PA := Lib.hid (show p = plainT a by rw [HP.out, plainR1 RA.out h1])
      have QA := Lib.hid (show rightN p = 0 by rw [PA.out, plain_right (right_parts RA.out).2.2, h1])
      rw [h1]
      clear h1
      go_wp2_with fail
      refine (cplain_is b B d _ (by exact E2.out.tree (w.heap.size + 1) b B d (by simp))).mono ?_
      rintro e w3 ⟨hb3, A3, c3, i3, rfl⟩
      rw [plainR2 RB.out]
      obtain ⟨q, hq⟩ : ∃ q, q = (plainR b).1 := ⟨_, rfl⟩
      rw [← hq] at i3 ⊢
      have HQ := Lib.hid hq
      clear hq
      have E3 := Lib.hid ((E2.out.keep hb3).push i3)
      clear hb3 i3 b0 b1 b2 E2
      by_cases h2 : plainF b = 0
      · have PB := Lib.hid (show q = plainT b by rw [HQ.out, plainR1 RB.out h2])
        have QB := Lib.hid (show rightN q = 0 by rw [PB.out, plain_right (right_parts RB.out).2.2, h2])
        have V := Lib.hid (show eqV a b = sameB p q by
          unfold eqV; rw [N1.out, h2, if_pos rfl, sameB_eq, QA.out, QB.out, PA.out, PB.out]; rfl)
        have N2 := Lib.hid (show eqN a b = 0 by rw [N1.out, h2])
        rw [h2]
        clear h2
        obtain ⟨q0, q1, q2⟩ := E3.out.cells w3.heap.size q A3 c3 (by simp)
        obtain ⟨p0, p1, p2⟩ := E3.out.cells w2.heap.size p A2 c2 (by simp)
        go_wp2_with fail
        refine (same_any p q A2 A3 c2 c3 _ (by exact E3.out.tree w2.heap.size p A2 c2 (by simp)) (by exact E3.out.tree w3.heap.size q A3 c3 (by simp))).mono ?_
        rintro e w4 ⟨rfl, hb4⟩
        have E4 := Lib.hid (E3.out.keep hb4)
        clear hb4
        go_wp2_with fail
        go_ret2
        exact ⟨by rw [V.out, N2.out]; rfl, E4.out.below⟩
      · have h5 : ((plainF b : Int) != 0) = true := by rw [bne_iff_ne]; omega
        have V := Lib.hid (show eqV a b = false by unfold eqV; rw [N1.out, if_neg h2])
        clear h2
        go_wp2_with fail
        go_ret2
        exact ⟨by rw [V.out, N1.out]; rfl, E3.out.below⟩
    · have h5 : ((plainF a : Int) != 0) = true := by rw [bne_iff_ne]; omega
      have N1 := Lib.hid (show eqN a b = plainF a by rw [N0.out, if_pos h1])
      have V := Lib.hid (show eqV a b = false by unfold eqV; rw [N1.out, if_neg h1])
      clear h1
      go_wp2_with fail
      go_ret2
      exact ⟨by rw [V.out, N1.out]; rfl, E2.out.below⟩
  · have h5 : ((firstN a b : Int) != 0) = true := by rw [bne_iff_ne]; omega
    have N1 := Lib.hid (show eqN a b = firstN a b by unfold eqN; rw [if_pos h0])
    have V := Lib.hid (show eqV a b = false by unfold eqV; rw [N1.out, if_neg h0])
    clear h0
    go_wp2_with fail
    go_ret2
    exact ⟨by rw [V.out, N1.out]; rfl, E1.out.below⟩
set_option maxHeartbeats 4000000 in
set_option maxRecDepth 100000 in
theorem equals_law (a b : Tr) (A B : Option Addr) (c d : Nat) (w : World) (ha : IsT w w.heap.size a A c) (hb : IsT w w.heap.size b B d) :
    Calls Try.prog 9 #[.agg #[.int .i64 a.k, .int .i64 a.i, .slice A a.ks.length c], .agg #[.int .i64 b.k, .int .i64 b.i, .slice B b.ks.length d]] w fun e w' => e = .returned (.bool true) ∧ Below w.heap.size w w' := by
  have E0 := Lib.hid (env2 ha hb)
  obtain ⟨b0, b1, b2⟩ := E0.out.cells (w.heap.size + 1) b B d (by simp)
  obtain ⟨a0, a1, a2⟩ := E0.out.cells w.heap.size a A c (by simp)
  clear ha hb
  go_enter Try.func9, Try.ntmps9
  go_wp2_with fail
  refine (cequal_any a b A B c d _ (by exact E0.out.tree w.heap.size a A c (by simp)) (by exact E0.out.tree (w.heap.size + 1) b B d (by simp))).mono ?_
  rintro e w1 ⟨rfl, hb1⟩
  have E1 := Lib.hid (E0.out.keep hb1)
  clear hb1 a0 a1 a2 b0 b1 b2 E0
  obtain ⟨b0, b1, b2⟩ := E1.out.cells (w.heap.size + 1) b B d (by simp)
  obtain ⟨a0, a1, a2⟩ := E1.out.cells w.heap.size a A c (by simp)
  obtain ⟨v, hv⟩ : ∃ v, v = eqV a b := ⟨_, rfl⟩
  obtain ⟨n, hn⟩ : ∃ n, n = eqN a b := ⟨_, rfl⟩
  have HV := Lib.hid hv
  have HN := Lib.hid hn
  rw [← hv, ← hn]
  clear hv hn
  go_wp2_with fail
  refine (requal8_any a b A B c d _ (by exact E1.out.tree w.heap.size a A c (by simp)) (by exact E1.out.tree (w.heap.size + 1) b B d (by simp))).mono ?_
  rintro e w2 ⟨rfl, hb2⟩
  rw [← HV.out, ← HN.out]
  have E2 := Lib.hid (E1.out.keep hb2)
  clear hb2
  cases v <;>
    (go_wp2_with fail
     go_ret
     exact ⟨by simp, E2.out.below⟩)
end Go.Proofs.Ytjdhmfpkhijkeaa
