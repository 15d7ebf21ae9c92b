/- The law RuleSettles, walked. -/
import Derived.Test.YtjdhmfpkhijkeaaKE
namespace Go.Proofs.Ytjdhmfpkhijkeaa
open Go.RowKit Go.Sort
set_option linter.unusedVariables false
set_option linter.unusedSimpArgs false
theorem cplain_to (t u : Tr) (f : Nat) (h : plainR t = (u, f)) (A : Option Addr) (c : Nat) (w : World) (ht : IsT w w.heap.size t A c) :
    Calls Try.prog 31 #[.agg #[.int .i64 t.k, .int .i64 t.i, .slice A t.ks.length c]] w fun e w' => Below w.heap.size w w' ∧ ∃ A' c', IsT w' w'.heap.size u A' c' ∧ e = .returned (.tuple #[.agg #[.int .i64 u.k, .int .i64 u.i, .slice A' u.ks.length c'], .int .i64 (f : Int)]) := by
  have := cplain_is t A c w ht
  rw [h] at this
  exact this
theorem cequal_to (a b : Tr) (v : Bool) (n : Nat) (hv : eqV a b = v) (hn : eqN a b = n) (A B : Option Addr) (c d : Nat) (w : World) (ha : IsT w w.heap.size a A c) (hb : IsT w w.heap.size b B d) :
    Calls Try.prog 33 #[.agg #[.int .i64 a.k, .int .i64 a.i, .slice A a.ks.length c], .agg #[.int .i64 b.k, .int .i64 b.i, .slice B b.ks.length d]] w fun e w' => e = .returned (.tuple #[.bool v, .int .i64 (n : Int)]) ∧ Below w.heap.size w w' := by
  have := cequal_any a b A B c d w ha hb
  rw [hv, hn] at this
  exact this
theorem short_to (t : Tr) (v : Bool) (h : shortT t = v) (A : Option Addr) (c : Nat) (w : World) (hsm : t.sz ≤ 1000) (ht : IsT w w.heap.size t A c) :
    Calls Try.prog 39 #[.agg #[.int .i64 t.k, .int .i64 t.i, .slice A t.ks.length c]] w fun e w' => e = .returned (.bool v) ∧ Below w.heap.size w w' := by
  have := short_any t A c w hsm ht
  rw [h] at this
  exact this
theorem free_to (t : Tr) (F : Nat) (h : freeT t = F) (A : Option Addr) (c : Nat) (w : World) (ht : IsT w w.heap.size t A c) :
    Calls Try.prog 24 #[.agg #[.int .i64 t.k, .int .i64 t.i, .slice A t.ks.length c]] w fun e w' => e = .returned (.int .u64 (F : Int)) ∧ Below w.heap.size w w' := by
  have := roffree_any t.sz t A c w (Nat.le_refl _) ht
  rw [h] at this
  exact this
theorem like_to (a b : Tr) (v : Bool) (h : likeB a b = v) (A B : Option Addr) (c d : Nat) (w : World) (ha : IsT w w.heap.size a A c) (hb : IsT w w.heap.size b B d) :
    Calls Try.prog 16 #[.agg #[.int .i64 a.k, .int .i64 a.i, .slice A a.ks.length c], .agg #[.int .i64 b.k, .int .i64 b.i, .slice B b.ks.length d]] w fun e w' => e = .returned (.bool v) ∧ Below w.heap.size w w' := by
  have := like_any a b A B c d w ha hb
  rw [h] at this
  exact this
theorem plain_self {t : Tr} (hr : rightN t = 0) (hf : plainF t = 0) : rightN (plainT t) = 0 ∧ plainR (plainT t) = (plainT t, 0) ∧ eqN t (plainT t) = 0 ∧ eqV t (plainT t) = true := by
  have hs := (right_parts hr).2.2
  have h1 : rightN (plainT t) = 0 := by rw [plain_right hs, hf]
  have h2 : plainT (plainT t) = plainT t := plain_plain hs
  have h3 : plainF (plainT t) = 0 := by
    have := plain_right (plain_shp t hs)
    rw [h2, h1] at this
    exact this.symm
  have h4 : eqN t (plainT t) = 0 := by
    unfold eqN
    have : firstN t (plainT t) = 0 := by unfold firstN; rw [if_neg (by rw [hr]; simp), h1]
    rw [if_neg (by rw [this]; simp), if_neg (by rw [hf]; simp), h3]
  refine ⟨h1, ?_, h4, ?_⟩
  · rw [plainR_right h1, if_neg (by rw [h3]; simp), h2]
  · unfold eqV; rw [if_pos h4, h2, like_same8]
theorem plain_bad {t : Tr} (hr : rightN t = 0) (hf : plainF t ≠ 0) : shortT t = true ∧ (plainF t = 20 ∨ plainF t = 21) ∧ (300 < t.sz ∨ 30 < t.dp) := by
  refine ⟨?_, ?_, ?_⟩
  · cases hb : shortT t with
    | true => rfl
    | false =>
      exfalso
      have h2 := plain_id t hb
      have := plain_right (right_parts hr).2.2
      rw [h2, hr] at this
      exact hf this.symm
  · unfold plainF at hf ⊢
    split
    · exact .inl rfl
    · split
      · exact .inr rfl
      · next h1 h2 => rw [if_neg h1, if_neg h2] at hf; exact absurd rfl hf
  · by_cases h1 : 300 < t.sz
    · exact .inl h1
    · by_cases h2 : 30 < t.dp
      · exact .inr h2
      · exact absurd (plain_fits (by omega) (by omega)) hf
set_option maxHeartbeats 4000000 in
set_option maxRecDepth 100000 in
theorem settles_law (t : Tr) (A : Option Addr) (c : Nat) (w : World) (ht : IsT w w.heap.size t A c) :
    Calls Try.prog 12 #[.agg #[.int .i64 t.k, .int .i64 t.i, .slice A t.ks.length c]] w fun e w' => e = .returned (.bool true) ∧ Below w.heap.size w w' := by
  have E0 := Lib.hid (env1 ht)
  obtain ⟨a0, a1, a2⟩ := E0.out.cells w.heap.size t A c (by simp)
  clear ht
  go_enter Try.func12, Try.ntmps12
  go_wp2_with fail
  refine (rright_any t A c _ (by exact E0.out.tree w.heap.size t A c (by simp))).mono ?_
  rintro e w1 ⟨rfl, hb1⟩
  have E1 := Lib.hid (E0.out.keep hb1)
  clear hb1 a0 a1 a2 E0
  obtain ⟨a0, a1, a2⟩ := E1.out.cells w.heap.size t A c (by simp)
  by_cases hr : rightN t = 0
  · have R0 := Lib.hid hr
    have RP := Lib.hid (right_parts hr)
    rw [hr]
    clear hr
    by_cases hf : plainF t = 0
    · have PS := Lib.hid (plain_self R0.out hf)
      have PR := Lib.hid (show plainR t = (plainT t, 0) by rw [plainR_right R0.out, if_neg (by rw [hf]; simp)])
      have SF := Lib.hid (plain_short t RP.out.2.2)
      have FR := Lib.hid (plain_free t)
      have ID := Lib.hid (plain_id t)
      obtain ⟨p, hp⟩ : ∃ p, p = plainT t := ⟨_, rfl⟩
      rw [← hp] at PS PR SF FR ID
      clear hp hf
      have PZ := Lib.hid (right_parts PS.out.1)
      go_wp2_with fail
      refine (cplain_to t p 0 PR.out A c _ (by exact E1.out.tree w.heap.size t A c (by simp))).mono ?_
      rintro e w2 ⟨hb2, P, cp, ip, rfl⟩
      have E2 := Lib.hid ((E1.out.keep hb2).push ip)
      clear hb2 ip a0 a1 a2 E1
      obtain ⟨p0, p1, p2⟩ := E2.out.cells w2.heap.size p P cp (by simp)
      go_wp2_with fail
      refine (cplain_to p p 0 PS.out.2.1 P cp _ (by exact E2.out.tree w2.heap.size p P cp (by simp))).mono ?_
      rintro e w3 ⟨hb3, Q, cq, iq, rfl⟩
      have E3 := Lib.hid ((E2.out.keep hb3).push iq)
      clear hb3 iq p0 p1 p2 E2
      obtain ⟨p0, p1, p2⟩ := E3.out.cells w2.heap.size p P cp (by simp)
      obtain ⟨a0, a1, a2⟩ := E3.out.cells w.heap.size t A c (by simp)
      go_wp2_with fail
      refine (cequal_to t p true 0 PS.out.2.2.2 PS.out.2.2.1 A P c cp _ (by exact E3.out.tree w.heap.size t A c (by simp)) (by exact E3.out.tree w2.heap.size p P cp (by simp))).mono ?_
      rintro e W ⟨rfl, hb4⟩
      have E4 := Lib.hid (E3.out.keep hb4)
      clear hb4 p0 p1 p2 a0 a1 a2 E3
      obtain ⟨p0, p1, p2⟩ := E4.out.cells w2.heap.size p P cp (by simp)
      obtain ⟨q0, q1, q2⟩ := E4.out.cells w3.heap.size p Q cq (by simp)
      obtain ⟨a0, a1, a2⟩ := E4.out.cells w.heap.size t A c (by simp)
      have p0' := cell_regrown p0
      have p1' := cell_regrown p1
      have p2' := cell_regrown p2
      have q0' := cell_regrown q0
      have q1' := cell_regrown q1
      have q2' := cell_regrown q2
      have a0' := cell_regrown a0
      have a1' := cell_regrown a1
      have a2' := cell_regrown a2
      have TP := Lib.hid (fun d os => (E4.out.keep (below_regrown W d os)).tree w2.heap.size p P cp (by simp))
      have TQ := Lib.hid (fun d os => (E4.out.keep (below_regrown W d os)).tree w3.heap.size p Q cq (by simp))
      have TA := Lib.hid (fun d os => (E4.out.keep (below_regrown W d os)).tree w.heap.size t A c (by simp))
      obtain ⟨F, hF⟩ : ∃ F, F = freeT t := ⟨_, rfl⟩
      have FT := Lib.hid hF
      rw [← hF] at FR
      clear hF p0 p1 p2 q0 q1 q2 a0 a1 a2
      have L1 := Lib.hid (show ∀ d os, Calls Try.prog 16 #[.agg #[.int .i64 p.k, .int .i64 p.i, .slice P p.ks.length cp], .agg #[.int .i64 p.k, .int .i64 p.i, .slice Q p.ks.length cq]] (grow (redrawn W d) os) fun e w'' => e = .returned (.bool true) ∧ ∃ p : Regrown, w'' = grow (redrawn W p.d) p.os from
        fun d os => Calls.regrown_of (like_to p p true (like_same8 p) P Q cp cq _ (TP.out d os) (TQ.out d os)))
      have S1 := Lib.hid (show ∀ d os, Calls Try.prog 39 #[.agg #[.int .i64 p.k, .int .i64 p.i, .slice P p.ks.length cp]] (grow (redrawn W d) os) fun e w'' => e = .returned (.bool false) ∧ ∃ p : Regrown, w'' = grow (redrawn W p.d) p.os from
        fun d os => Calls.regrown_of (short_to p false SF.out P cp _ PZ.out.1 (TP.out d os)))
      have F1 := Lib.hid (show ∀ d os, Calls Try.prog 24 #[.agg #[.int .i64 p.k, .int .i64 p.i, .slice P p.ks.length cp]] (grow (redrawn W d) os) fun e w'' => e = .returned (.int .u64 (F : Int)) ∧ ∃ p : Regrown, w'' = grow (redrawn W p.d) p.os from
        fun d os => Calls.regrown_of (free_to p F FR.out P cp _ (TP.out d os)))
      have F2 := Lib.hid (show ∀ d os, Calls Try.prog 24 #[.agg #[.int .i64 t.k, .int .i64 t.i, .slice A t.ks.length c]] (grow (redrawn W d) os) fun e w'' => e = .returned (.int .u64 (F : Int)) ∧ ∃ p : Regrown, w'' = grow (redrawn W p.d) p.os from
        fun d os => Calls.regrown_of (free_to t F FT.out.symm A c _ (TA.out d os)))
      cases hsv : shortT t with
      | true =>
        have S2 := Lib.hid (show ∀ d os, Calls Try.prog 39 #[.agg #[.int .i64 t.k, .int .i64 t.i, .slice A t.ks.length c]] (grow (redrawn W d) os) fun e w'' => e = .returned (.bool true) ∧ ∃ p : Regrown, w'' = grow (redrawn W p.d) p.os from
          fun d os => Calls.regrown_of (short_to t true hsv A c _ RP.out.1 (TA.out d os)))
        clear hsv
        go_wp2_with fail
        refine wp_region_quiet_below (by kernel_rfl) (by kernel_rfl) ?_
        repeat (go_big_quiet_step (first | with_reducible exact L1.out _ _ | with_reducible exact S1.out _ _ | with_reducible exact F1.out _ _ | with_reducible exact F2.out _ _ | with_reducible exact S2.out _ _))
        refine wpQuiet_nil ?_
        intro w5 hw'
        obtain ⟨⟨dq, osq⟩, hw''⟩ := hw'
        have hb5 := below_regrown W dq osq
        rw [← hw''] at hb5
        have E5 := Lib.hid (E4.out.keep hb5)
        clear hw'' hb5
        go_wp2_with fail
        go_ret
        exact ⟨rfl, E5.out.below⟩
      | false =>
        have TT := Lib.hid (ID.out hsv)
        have S2 := Lib.hid (show ∀ d os, Calls Try.prog 39 #[.agg #[.int .i64 t.k, .int .i64 t.i, .slice A t.ks.length c]] (grow (redrawn W d) os) fun e w'' => e = .returned (.bool false) ∧ ∃ p : Regrown, w'' = grow (redrawn W p.d) p.os from
          fun d os => Calls.regrown_of (short_to t false hsv A c _ RP.out.1 (TA.out d os)))
        have L2 := Lib.hid (show ∀ d os, Calls Try.prog 16 #[.agg #[.int .i64 p.k, .int .i64 p.i, .slice P p.ks.length cp], .agg #[.int .i64 t.k, .int .i64 t.i, .slice A t.ks.length c]] (grow (redrawn W d) os) fun e w'' => e = .returned (.bool true) ∧ ∃ p : Regrown, w'' = grow (redrawn W p.d) p.os from
          fun d os => Calls.regrown_of (like_to p t true (by rw [TT.out]; exact like_same8 t) P A cp c _ (TP.out d os) (TA.out d os)))
        clear hsv
        go_wp2_with fail
        refine wp_region_quiet_below (by kernel_rfl) (by kernel_rfl) ?_
        repeat (go_big_quiet_step (first | with_reducible exact L1.out _ _ | with_reducible exact S1.out _ _ | with_reducible exact F1.out _ _ | with_reducible exact F2.out _ _ | with_reducible exact S2.out _ _ | with_reducible exact L2.out _ _))
        refine wpQuiet_nil ?_
        intro w5 hw'
        obtain ⟨⟨dq, osq⟩, hw''⟩ := hw'
        have hb5 := below_regrown W dq osq
        rw [← hw''] at hb5
        have E5 := Lib.hid (E4.out.keep hb5)
        clear hw'' hb5
        go_wp2_with fail
        go_ret
        exact ⟨rfl, E5.out.below⟩
    · have PB := Lib.hid (plain_bad R0.out hf)
      have PR := Lib.hid (show plainR t = (zeroT, plainF t) by rw [plainR_right R0.out, if_pos hf])
      have SZ := Lib.hid (show ∀ W : World, IsT W W.heap.size t A c → Calls Try.prog 40 #[.agg #[.int .i64 t.k, .int .i64 t.i, .slice A t.ks.length c]] W fun e w' => e = .returned (.int .i64 ((t.sz : Nat) : Int)) ∧ Below W.heap.size W w' from fun W h => by
        have := rsize_any t A c W h
        rwa [show min t.sz 1001 = t.sz by have := RP.out.1; omega] at this)
      have DZ := Lib.hid (show ∀ W : World, IsT W W.heap.size t A c → Calls Try.prog 41 #[.agg #[.int .i64 t.k, .int .i64 t.i, .slice A t.ks.length c]] W fun e w' => e = .returned (.int .i64 ((t.dp : Nat) : Int)) ∧ Below W.heap.size W w' from fun W h => by
        have := rdepth_any t A c W h
        rwa [show min t.dp 101 = t.dp by have := RP.out.2.1; omega] at this)
      obtain ⟨s, hs⟩ : ∃ s, s = t.sz := ⟨_, rfl⟩
      obtain ⟨d, hd⟩ : ∃ d, d = t.dp := ⟨_, rfl⟩
      obtain ⟨f, hff⟩ : ∃ f, f = plainF t := ⟨_, rfl⟩
      have hsm : t.sz ≤ 1000 := RP.out.1
      rw [← hs] at SZ PB
      rw [← hd] at DZ PB
      rw [← hff] at PB PR hf
      clear hs hd hff
      go_wp2_with fail
      refine (cplain_to t zeroT f PR.out A c _ (by exact E1.out.tree w.heap.size t A c (by simp))).mono ?_
      rintro e w2 ⟨hb2, P, cp, ip, rfl⟩
      have E2 := Lib.hid ((E1.out.keep hb2).push ip)
      clear hb2 ip a0 a1 a2 E1
      obtain ⟨a0, a1, a2⟩ := E2.out.cells w.heap.size t A c (by simp)
      have h1 : ((f : Int) != 0) = true := by rw [bne_iff_ne]; omega
      have hff : (f = 20 ∨ f = 21) := PB.out.2.1
      have hsd := PB.out.2.2
      clear hf
      rcases hff with rfl | rfl
      all_goals
        go_wp2_with fail
        refine (short_to t true PB.out.1 A c _ hsm (by exact E2.out.tree w.heap.size t A c (by simp))).mono ?_
        rintro e w3 ⟨rfl, hb3⟩
        have E3 := Lib.hid (E2.out.keep hb3)
        clear hb3 a0 a1 a2
        obtain ⟨a0, a1, a2⟩ := E3.out.cells w.heap.size t A c (by simp)
        go_wp2_with fail
        refine (SZ.out _ (by exact E3.out.tree w.heap.size t A c (by simp))).mono ?_
        rintro e w4 ⟨rfl, hb4⟩
        have E4 := Lib.hid (E3.out.keep hb4)
        clear hb4 a0 a1 a2
        obtain ⟨a0, a1, a2⟩ := E4.out.cells w.heap.size t A c (by simp)
        by_cases h3 : 300 < s
        · have h3' : decide ((300 : Int) < (s : Int)) = true := by simp; omega
          clear hsd
          go_wp2_with fail
          go_ret
          exact ⟨rfl, E4.out.below⟩
        · have h3' : decide ((300 : Int) < (s : Int)) = false := by simp; omega
          have h4 : 30 < d := by omega
          clear hsd
          go_wp2_with fail
          refine (DZ.out _ (by exact E4.out.tree w.heap.size t A c (by simp))).mono ?_
          rintro e w5 ⟨rfl, hb5⟩
          have E5 := Lib.hid (E4.out.keep hb5)
          have h4' : decide ((30 : Int) < (d : Int)) = true := by simp; omega
          clear hb5 a0 a1 a2
          go_wp2_with fail
          go_ret
          exact ⟨rfl, E5.out.below⟩
  · have h5 : ((rightN t : Int) != 0) = true := by rw [bne_iff_ne]; omega
    clear hr
    go_wp2_with fail
    go_ret
    exact ⟨rfl, E1.out.below⟩
end Go.Proofs.Ytjdhmfpkhijkeaa
