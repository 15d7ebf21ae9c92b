/- Detach of the document's layer 8 and of package rule; the law RuleDetaches, walked. -/
import Derived.Test.YtjdhmfpkhijkeaaKA
import Derived.Test.YtjdhmfpkhijkeaaG2
import Derived.Deep.RegionHeld3
import Derived.Deep.DeepCutAuto
import Derived.BigQuiet
import Derived.WalkSmall
namespace Go.Proofs.Ytjdhmfpkhijkeaa
open Go.RowKit
set_option linter.unusedVariables false
set_option linter.unusedSimpArgs false
theorem names2 : Names ⟨#[102, 102]⟩ [false, false] := by
  intro m h
  have hm : m < 2 := h
  rcases Nat.lt_or_ge m 1 with h2 | h2
  · obtain rfl : m = 0 := by omega
    rfl
  · obtain rfl : m = 1 := by omega
    rfl
theorem names2_size : (⟨#[102, 102]⟩ : ByteArray).size = 2 := rfl
theorem sorted_forms (a b : Tr) : sortedN [a, b] [false, false] = formsN [a, b] := by
  unfold sortedN formsN
  by_cases h : firstL [a, b] = 0
  · rw [if_neg (show ¬ firstL [a, b] ≠ 0 by rw [h]; simp), if_neg (show ¬ firstL [a, b] ≠ 0 by rw [h]; simp)]
    have hr := firstL_zero h
    have ha := isFB_form (hr a (by simp))
    have hb := isFB_form (hr b (by simp))
    have hs : sortsB [a, b] [false, false] = [a, b].all isFB := by
      show ((termB a.k == false) && ((termB b.k == false) && true)) = (isFB a && (isFB b && true))
      rw [ha, hb]
      cases termB a.k <;> cases termB b.k <;> rfl
    rw [hs]
  · rw [if_pos h, if_pos h]
theorem forms_zero {a b : Tr} (h : formsN [a, b] = 0) : rightN a = 0 ∧ rightN b = 0 := by
  unfold formsN at h
  by_cases h1 : firstL [a, b] = 0
  · exact ⟨firstL_zero h1 a (by simp), firstL_zero h1 b (by simp)⟩
  · rw [if_pos h1] at h; exact absurd h h1
/-- what Detach answers -/
def detR (a b : Tr) : Tr × Nat := if formsN [a, b] ≠ 0 then (zeroT, formsN [a, b]) else if b.k = 6 ∧ likeB a (b.ks.getD 0 default) = true then (b.ks.getD 1 default, 0) else (zeroT, 80)
theorem imp_form {b : Tr} (h : rightN b = 0) (hk : b.k = 6) : ∃ i p q, b = .node 6 i [p, q] := by
  obtain ⟨k, i, ks⟩ := b
  have hs := (right_parts h).2.2
  rw [nod_shp, Bool.and_eq_true] at hs
  have hk' : k = 6 := hk
  subst hk'
  have := hs.1
  simp [kindOk] at this
  obtain ⟨p, q, rfl⟩ := len_two (by omega : ks.length = 2)
  exact ⟨i, p, q, rfl⟩
theorem right_kid8 {k i : Int} {ks : List Tr} {p : Tr} (h : rightN (.node k i ks) = 0) (hp : p ∈ ks) : rightN p = 0 := by
  obtain ⟨h1, h2, h3⟩ := right_parts h
  obtain ⟨m, hm, rfl⟩ := List.getElem_of_mem hp
  have e1 := kid_sz (.node k i ks) m hm
  have e2 := kid_dp (.node k i ks) m hm
  have e3 := vok_kids h3 _ hp
  simp only [nod_ks] at e1 e2
  unfold rightN
  rw [if_neg (by omega), if_neg (by omega), e3]
  rfl
/-- b's two kids, where they lie -/
structure Kd (W : World) (g o : Nat) (p : Tr) (P : Option Addr) (cp : Nat) (q : Tr) (Q : Option Addr) (cq : Nat) : Prop where
  ka : Cel W g o p P cp
  kb : Cel W g (o + 3) q Q cq
  tp : IsT W W.heap.size p P cp
  tq : IsT W W.heap.size q Q cq
  lt : g < W.heap.size
theorem Kd.keep {W W' : World} {g o : Nat} {p q : Tr} {P Q : Option Addr} {cp cq : Nat} (h : Kd W g o p P cp q Q cq) (hb : Below W.heap.size W W') : Kd W' g o p P cp q Q cq :=
  ⟨h.ka.keep hb h.lt, h.kb.keep hb h.lt, h.tp.keep hb hb.size, h.tq.keep hb hb.size, by have := hb.size; have := h.lt; omega⟩
theorem IsT.kd {W : World} {i : Int} {p q : Tr} {B : Option Addr} {d : Nat} (h : IsT W W.heap.size (.node 6 i [p, q]) B d) : ∃ g o P cp Q cq, B = some ⟨g, o, none⟩ ∧ Kd W g o p P cp q Q cq ∧ 2 ≤ d := by
  obtain ⟨g, o, P, cp, Q, cq, hB, hg, kp, kq, tp, tq, hd⟩ := kidsA2 h
  exact ⟨g, o, P, cp, Q, cq, hB, ⟨kp, kq, tp, tq, hg⟩, hd⟩
theorem rd_one (W : World) (z : Int) (t : TypeId) : Rd .i64 (W.alloc (.cells #[.int .i64 z] t)) (W.alloc (.cells #[.int .i64 z] t)).heap.size (some ⟨W.heap.size, 0, none⟩) [z] := fun j hj => by
  obtain rfl : j = 0 := by simpa using hj
  exact ⟨_, rfl, by simp, cell_new3 W _ t 0⟩
theorem at_one {i : Int} {p q : Tr} (h : rightN (.node 6 i [p, q]) = 0) : atN (.node 6 i [p, q]) [1] = (q, 0) := by
  unfold atN
  rw [if_pos h, show partAt (.node 6 i [p, q]) [1] = some q from rfl]
theorem at_imp (b : Tr) (i : Int) (p q : Tr) (hb : b = .node 6 i [p, q]) (hr : rightN b = 0) (A : Option Addr) (c : Nat) (w : World) (ht : IsT w w.heap.size b A c) (t : TypeId) :
    Calls Try.prog 74 #[.agg #[.int .i64 b.k, .int .i64 b.i, .slice A 2 c], .slice (some ⟨w.heap.size, 0, none⟩) 1 1] (w.alloc (.cells #[.int .i64 1] t)) fun e w' => ∃ Q d, e = .returned (.tuple #[.agg #[.int .i64 q.k, .int .i64 q.i, .slice Q q.ks.length d], .int .i64 0]) ∧ OwnT w' (w.heap.size + 1) w'.heap.size q Q d ∧ Below w.heap.size w w' := by
  have h0 : IsT (w.alloc (.cells #[.int .i64 1] t)) (w.alloc (.cells #[.int .i64 1] t)).heap.size b A c := ht.keep (alB w _) (alB w _).size
  have hl : b.ks.length = 2 := by rw [hb]; rfl
  have h := at_any b A c (some ⟨w.heap.size, 0, none⟩) 1 1 [1] (w.alloc (.cells #[.int .i64 1] t)) h0 rfl (by unfold maxLen; omega) (rd_one w 1 t)
  rw [hl] at h
  refine h.mono fun e w' hp => ?_
  obtain ⟨hb3, Q, d, ho, he⟩ := hp
  have e1 : atN b [1] = (q, 0) := by subst hb; exact at_one hr
  rw [e1] at ho he
  refine ⟨Q, d, he, by simpa using ho, (alB w _).trans (hb3.mono (by simp))⟩

set_option maxHeartbeats 4000000 in
set_option maxRecDepth 100000 in
theorem rdetach8_any (a b : Tr) (A B : Option Addr) (c d : Nat) (w : World) (ha : IsT w w.heap.size a A c) (hb : IsT w w.heap.size b B d) :
    Calls Try.prog 36 #[.agg #[.int .i64 a.k, .int .i64 a.i, .slice A a.ks.length c], .agg #[.int .i64 b.k, .int .i64 b.i, .slice B b.ks.length d]] w (AnsJ w (detR a b)) := by
  have E0 := Lib.hid (qe2 ha hb)
  obtain ⟨b0, b1, b2⟩ := E0.out.env.cells (w.heap.size + 1) b B d (by simp)
  obtain ⟨a0, a1, a2⟩ := E0.out.env.cells w.heap.size a A c (by simp)
  have PW := Lib.hid (pair_new E0.out.env)
  clear ha hb
  go_enter Try.func36, Try.ntmps36
  go_wp2_with fail
  refine (rsorted_any (.node 0 0 [a, b]) _ 2 ⟨#[102, 102]⟩ [false, false] _ (by simpa using PW.out) names2_size names2).mono ?_
  rintro e w1 ⟨rfl, hb1⟩
  rw [show sortedN (Tr.node 0 0 [a, b]).ks [false, false] = formsN [a, b] from sorted_forms a b]
  have E1 := Lib.hid ((E0.out.keep (alB _ (.cells #[.int .i64 a.k, .int .i64 a.i, .slice A a.ks.length c, .int .i64 b.k, .int .i64 b.i, .slice B b.ks.length d] 24))).keep hb1)
  clear hb1 a0 a1 a2 b0 b1 b2 E0 PW
  obtain ⟨b0, b1, b2⟩ := E1.out.env.cells (w.heap.size + 1) b B d (by simp)
  obtain ⟨a0, a1, a2⟩ := E1.out.env.cells w.heap.size a A c (by simp)
  obtain ⟨y0, y1, y2⟩ := E1.out.rb.cells
  have f0 := E1.out.rb.frozen 0
  have f1 := E1.out.rb.frozen 1
  have f2 := E1.out.rb.frozen 2
  obtain ⟨n, hn⟩ : ∃ n, n = formsN [a, b] := ⟨_, rfl⟩
  rw [← hn]
  have HN := Lib.hid hn
  clear hn
  by_cases h0 : n = 0
  · have RR := Lib.hid (forms_zero (show formsN [a, b] = 0 by rw [← HN.out]; exact h0))
    have D0 := Lib.hid (show detR a b = if b.k = 6 ∧ likeB a (b.ks.getD 0 default) = true then (b.ks.getD 1 default, 0) else (zeroT, 80) by unfold detR; rw [if_neg (by rw [← HN.out, h0]; simp)])
    subst h0
    by_cases h6 : b.k = 6
    · obtain ⟨i, p, q, hbb⟩ := imp_form RR.out.2 h6
      have D1 := Lib.hid (show detR a b = if likeB a p = true then (q, 0) else (zeroT, 80) by
        rw [D0.out, hbb]
        simp [nod_k, nod_ks])
      have HB := Lib.hid hbb
      have SL := Lib.hid (show sameB a p = likeB a p by rw [sameB_eq, RR.out.1, right_kid8 (show rightN (.node 6 i [p, q]) = 0 by rw [← hbb]; exact RR.out.2) (by simp)]; rfl)
      have k6 : (b.k != 6) = false := by simp [h6]
      have hlen : b.ks.length = 2 := by rw [hbb]; rfl
      obtain ⟨g, o, P, cp, Q, cq, rfl, K0, hd⟩ := IsT.kd (show IsT w1 w1.heap.size (.node 6 i [p, q]) B d by rw [← hbb]; exact E1.out.env.tree (w.heap.size + 1) b B d (by simp))
      have K1 := Lib.hid K0
      rw [hlen] at b2
      have XB := Lib.hid (show ∀ W : World, Below w1.heap.size w1 W → W.cell? ⟨w.heap.size + 1, 2, none⟩ = some (.slice (some ⟨g, o, none⟩) 2 d) from fun W hW => (hW.cell (by have := E1.out.rb.lt; show w.heap.size + 1 < w1.heap.size; omega)).trans b2)
      clear K0 h6 hbb hlen a0 a1 a2 b0 b1 b2 y0 y1 y2 f0 f1 f2
      go_wp2_with fail
      have T' := E1.out.keep ((Below.refl _ _).drew)
      have K' := K1.out.keep ((Below.refl _ _).drew)
      have X' := XB.out w1.drew ((Below.refl _ _).drew)
      go_region_held3 (fun w' => (w'.cell? ⟨w.heap.size + 1, 0, none⟩ = some (.int .i64 b.k) ∧ w'.cell? ⟨w.heap.size + 1, 2, none⟩ = some (.slice (some ⟨g, o, none⟩) 2 d)) ∧ (w'.cell? ⟨w.heap.size, 0, none⟩ = some (.int .i64 a.k) ∧ w'.cell? ⟨w.heap.size, 1, none⟩ = some (.int .i64 a.i) ∧ w'.cell? ⟨w.heap.size, 2, none⟩ = some (.slice A a.ks.length c)) ∧ (w'.cell? ⟨g, o, none⟩ = some (.int .i64 p.k) ∧ w'.cell? ⟨g, o + 1, none⟩ = some (.int .i64 p.i) ∧ w'.cell? ⟨g, o + 2, none⟩ = some (.slice P p.ks.length cp)))
        (exact ⟨⟨(T'.env.cells (w.heap.size + 1) b (some ⟨g, o, none⟩) d (by simp)).1, X'⟩, T'.env.cells w.heap.size a A c (by simp), K'.ka⟩)
        (first
          | (go_at_call 16; refine (like_any a p A P c cp _ (by exact T'.env.tree w.heap.size a A c (by simp)) (by exact K'.tp)).mono ?_; rintro e w2 ⟨rfl, hb2⟩; have HB2 := Lib.hid ((Below.refl w1.heap.size w1).drew.trans (hb2.mono (Nat.le_refl _))); replace X' := XB.out w2 HB2.out; replace T' := T'.keep hb2; replace K' := K'.keep hb2; clear hb2))
      all_goals
        have E2 := Lib.hid T'
        have K2 := Lib.hid K'
        skip
        obtain ⟨y0, y1, y2⟩ := E2.out.rb.cells
        have f0 := E2.out.rb.frozen 0
        have f1 := E2.out.rb.frozen 1
        have f2 := E2.out.rb.frozen 2
        clear T' K'
        cases hv : likeB a p with
        | true =>
          have D := Lib.hid (show detR a b = (q, 0) by rw [D1.out, if_pos hv])
          clear hv
          obtain ⟨b0, b1, b2⟩ := E2.out.env.cells (w.heap.size + 1) b (some ⟨g, o, none⟩) d (by simp)
          clear b2
          obtain ⟨x0, x1, x2⟩ := K2.out.kb
          clear y0 y1 y2 f0 f1 f2
          go_wp2_with fail
          refine (copy_any q.sz q Q cq _ (Nat.le_refl _) (by exact K2.out.tq)).mono ?_
          rintro e w3 ⟨Q3, c3, rfl, ho3, hb3⟩
          have E3 := Lib.hid (E2.out.keep hb3)
          have FR := Lib.hid (own_fr ho3 (Nat.le_refl _) (IsT.fit q K2.out.tq))
          have z2 := E2.out.rb.lt
          obtain ⟨y0, y1, y2⟩ := E3.out.rb.cells
          have f0 := E3.out.rb.frozen 0
          have f1 := E3.out.rb.frozen 1
          have f2 := E3.out.rb.frozen 2
          obtain ⟨q0, q1, q2⟩ := (E3.out.rb.setall (.int .i64 q.k) (.int .i64 q.i) (.slice Q3 q.ks.length c3)).cells
          clear hb3 ho3
          go_wp2_with fail
          exact bodyPost_ret (v := .tuple #[.agg #[.int .i64 q.k, .int .i64 q.i, .slice Q3 q.ks.length c3], .int .i64 0]) (by simp [results, Try.results36, go_sem, q0, q1, q2]) rfl (ansJ_tree D.out E3.out.env.below FR.out (by show w.heap.size + 2 < w2.heap.size; omega) (by omega))
        | false =>
          have D := Lib.hid (show detR a b = (zeroT, 80) by rw [D1.out, if_neg (by rw [hv]; simp)])
          clear hv
          obtain ⟨q0, q1, q2⟩ := (E2.out.rb.setall (.int .i64 0) (.int .i64 0) (.slice none 0 0)).cells
          go_wp2_with fail
          exact bodyPost_ret (v := .tuple #[.agg #[.int .i64 0, .int .i64 0, .slice none 0 0], .int .i64 80]) (by simp [results, Try.results36, go_sem, q0, q1, q2]) rfl (ansJ_zero D.out E2.out.env.below (by omega))
    · have k6 : (b.k != 6) = true := by simpa using h6
      have D := Lib.hid (show detR a b = (zeroT, 80) by rw [D0.out, if_neg (fun h => h6 h.1)])
      have E2 := Lib.hid (fun n => E1.out.keep (below_drewN (Below.refl _ w1) n))
      have q0 := fun n => ((E2.out n).rb.setall (.int .i64 0) (.int .i64 0) (.slice none 0 0)).cells.1
      have q1 := fun n => ((E2.out n).rb.setall (.int .i64 0) (.int .i64 0) (.slice none 0 0)).cells.2.1
      have q2 := fun n => ((E2.out n).rb.setall (.int .i64 0) (.int .i64 0) (.slice none 0 0)).cells.2.2
      clear h6
      go_wp2_with fail
      go_quiet (fail)
      have y0' := fun n => (E2.out n).rb.cells.1
      have y1' := fun n => (E2.out n).rb.cells.2.1
      have y2' := fun n => (E2.out n).rb.cells.2.2
      have f0' := fun n => (E2.out n).rb.frozen 0
      have f1' := fun n => (E2.out n).rb.frozen 1
      have f2' := fun n => (E2.out n).rb.frozen 2
      go_wp2_with fail
      exact bodyPost_ret (v := .tuple #[.agg #[.int .i64 0, .int .i64 0, .slice none 0 0], .int .i64 80]) (by simp [results, Try.results36, go_sem, q0, q1, q2]) rfl (ansJ_zero D.out (E2.out _).env.below (by omega))
  · have h1 : ((n : Int) != 0) = true := by rw [bne_iff_ne]; omega
    have D := Lib.hid (show detR a b = (zeroT, n) by unfold detR; rw [← HN.out, if_pos h0])
    obtain ⟨q0, q1, q2⟩ := (E1.out.rb.setall (.int .i64 0) (.int .i64 0) (.slice none 0 0)).cells
    clear h0
    go_wp2_with fail
    exact bodyPost_ret (v := .tuple #[.agg #[.int .i64 0, .int .i64 0, .slice none 0 0], .int .i64 (n : Int)]) (by simp [results, Try.results36, go_sem, q0, q1, q2]) rfl (ansJ_zero D.out E1.out.env.below (by omega))
set_option maxHeartbeats 4000000 in
set_option maxRecDepth 100000 in
theorem cdetach_any (a b : Tr) (A B : Option Addr) (c d : Nat) (w : World) (ha : IsT w w.heap.size a A c) (hb : IsT w w.heap.size b B d) :
    Calls Try.prog 35 #[.agg #[.int .i64 a.k, .int .i64 a.i, .slice A a.ks.length c], .agg #[.int .i64 b.k, .int .i64 b.i, .slice B b.ks.length d]] w (AnsJ w (detR a b)) := by
  have E0 := Lib.hid (qe2 ha hb)
  obtain ⟨b0, b1, b2⟩ := E0.out.env.cells (w.heap.size + 1) b B d (by simp)
  obtain ⟨a0, a1, a2⟩ := E0.out.env.cells w.heap.size a A c (by simp)
  have PW := Lib.hid (pair_new E0.out.env)
  clear ha hb
  go_enter Try.func35, Try.ntmps35
  go_wp2_with fail
  refine (forms_any (.node 0 0 [a, b]) _ 2 _ (by simpa using PW.out)).mono ?_
  rintro e w1 ⟨rfl, hb1⟩
  rw [show formsN (Tr.node 0 0 [a, b]).ks = formsN [a, b] from rfl]
  have E1 := Lib.hid ((E0.out.keep (alB _ (.cells #[.int .i64 a.k, .int .i64 a.i, .slice A a.ks.length c, .int .i64 b.k, .int .i64 b.i, .slice B b.ks.length d] 24))).keep hb1)
  clear hb1 a0 a1 a2 b0 b1 b2 E0 PW
  obtain ⟨b0, b1, b2⟩ := E1.out.env.cells (w.heap.size + 1) b B d (by simp)
  obtain ⟨a0, a1, a2⟩ := E1.out.env.cells w.heap.size a A c (by simp)
  obtain ⟨y0, y1, y2⟩ := E1.out.rb.cells
  have f0 := E1.out.rb.frozen 0
  have f1 := E1.out.rb.frozen 1
  have f2 := E1.out.rb.frozen 2
  obtain ⟨n, hn⟩ : ∃ n, n = formsN [a, b] := ⟨_, rfl⟩
  rw [← hn]
  have HN := Lib.hid hn
  clear hn
  by_cases h0 : n = 0
  · have RR := Lib.hid (forms_zero (show formsN [a, b] = 0 by rw [← HN.out]; exact h0))
    have D0 := Lib.hid (show detR a b = if b.k = 6 ∧ likeB a (b.ks.getD 0 default) = true then (b.ks.getD 1 default, 0) else (zeroT, 80) by unfold detR; rw [if_neg (by rw [← HN.out, h0]; simp)])
    subst h0
    by_cases h6 : b.k = 6
    · obtain ⟨i, p, q, hbb⟩ := imp_form RR.out.2 h6
      have D1 := Lib.hid (show detR a b = if likeB a p = true then (q, 0) else (zeroT, 80) by
        rw [D0.out, hbb]
        simp [nod_k, nod_ks])
      have HB := Lib.hid hbb
      have SL := Lib.hid (show sameB a p = likeB a p by rw [sameB_eq, RR.out.1, right_kid8 (show rightN (.node 6 i [p, q]) = 0 by rw [← hbb]; exact RR.out.2) (by simp)]; rfl)
      have k6 : (b.k != 6) = false := by simp [h6]
      have hlen : b.ks.length = 2 := by rw [hbb]; rfl
      obtain ⟨g, o, P, cp, Q, cq, rfl, K0, hd⟩ := IsT.kd (show IsT w1 w1.heap.size (.node 6 i [p, q]) B d by rw [← hbb]; exact E1.out.env.tree (w.heap.size + 1) b B d (by simp))
      have K1 := Lib.hid K0
      rw [hlen] at b2
      have XB := Lib.hid (show ∀ W : World, Below w1.heap.size w1 W → W.cell? ⟨w.heap.size + 1, 2, none⟩ = some (.slice (some ⟨g, o, none⟩) 2 d) from fun W hW => (hW.cell (by have := E1.out.rb.lt; show w.heap.size + 1 < w1.heap.size; omega)).trans b2)
      clear K0 h6 hbb hlen a0 a1 a2 b0 b1 b2 y0 y1 y2 f0 f1 f2
      go_wp2_with fail
      have T' := E1.out.keep ((Below.refl _ _).drew)
      have K' := K1.out.keep ((Below.refl _ _).drew)
      have X' := XB.out w1.drew ((Below.refl _ _).drew)
      go_region_held3 (fun w' => (w'.cell? ⟨w.heap.size + 1, 0, none⟩ = some (.int .i64 b.k) ∧ w'.cell? ⟨w.heap.size + 1, 2, none⟩ = some (.slice (some ⟨g, o, none⟩) 2 d)) ∧ (w'.cell? ⟨w.heap.size, 0, none⟩ = some (.int .i64 a.k) ∧ w'.cell? ⟨w.heap.size, 1, none⟩ = some (.int .i64 a.i) ∧ w'.cell? ⟨w.heap.size, 2, none⟩ = some (.slice A a.ks.length c)) ∧ (w'.cell? ⟨g, o, none⟩ = some (.int .i64 p.k) ∧ w'.cell? ⟨g, o + 1, none⟩ = some (.int .i64 p.i) ∧ w'.cell? ⟨g, o + 2, none⟩ = some (.slice P p.ks.length cp)))
        (exact ⟨⟨(T'.env.cells (w.heap.size + 1) b (some ⟨g, o, none⟩) d (by simp)).1, X'⟩, T'.env.cells w.heap.size a A c (by simp), K'.ka⟩)
        (first
          | (go_at_call 71; refine (same_any a p A P c cp _ (by exact T'.env.tree w.heap.size a A c (by simp)) (by exact K'.tp)).mono ?_; rintro e w2 ⟨rfl, hb2⟩; have HB2 := Lib.hid ((Below.refl w1.heap.size w1).drew.trans (hb2.mono (Nat.le_refl _))); replace X' := XB.out w2 HB2.out; replace T' := T'.keep hb2; replace K' := K'.keep hb2; clear hb2))
      all_goals
        have E2 := Lib.hid T'
        have K2 := Lib.hid K'
        rw [SL.out]
        obtain ⟨y0, y1, y2⟩ := E2.out.rb.cells
        have f0 := E2.out.rb.frozen 0
        have f1 := E2.out.rb.frozen 1
        have f2 := E2.out.rb.frozen 2
        clear T' K'
        cases hv : likeB a p with
        | true =>
          have D := Lib.hid (show detR a b = (q, 0) by rw [D1.out, if_pos hv])
          clear hv
          obtain ⟨b0, b1, b2⟩ := E2.out.env.cells (w.heap.size + 1) b (some ⟨g, o, none⟩) d (by simp)
          clear b2
          obtain ⟨x0, x1, x2⟩ := K2.out.kb
          clear y0 y1 y2 f0 f1 f2
          go_wp2_with fail
          refine (at_imp b i p q HB.out RR.out.2 (some ⟨g, o, none⟩) d w2 (by exact E2.out.env.tree (w.heap.size + 1) b (some ⟨g, o, none⟩) d (by simp)) 3).mono ?_
          rintro e w3 ⟨Q3, c3, rfl, ho3, hb3⟩
          have E3 := Lib.hid (E2.out.keep hb3)
          have FR := Lib.hid (own_fr ho3 (Nat.le_refl _) (IsT.fit q K2.out.tq))
          have z2 := E2.out.rb.lt
          obtain ⟨y0, y1, y2⟩ := E3.out.rb.cells
          have f0 := E3.out.rb.frozen 0
          have f1 := E3.out.rb.frozen 1
          have f2 := E3.out.rb.frozen 2
          obtain ⟨q0, q1, q2⟩ := (E3.out.rb.setall (.int .i64 q.k) (.int .i64 q.i) (.slice Q3 q.ks.length c3)).cells
          clear hb3 ho3
          go_wp2_with fail
          exact bodyPost_ret (v := .tuple #[.agg #[.int .i64 q.k, .int .i64 q.i, .slice Q3 q.ks.length c3], .int .i64 0]) (by simp [results, Try.results35, go_sem, q0, q1, q2]) rfl (ansJ_tree D.out E3.out.env.below FR.out (by show w.heap.size + 2 < w2.heap.size + 1; omega) (by omega))
        | false =>
          have D := Lib.hid (show detR a b = (zeroT, 80) by rw [D1.out, if_neg (by rw [hv]; simp)])
          clear hv
          obtain ⟨q0, q1, q2⟩ := (E2.out.rb.setall (.int .i64 0) (.int .i64 0) (.slice none 0 0)).cells
          go_wp2_with fail
          exact bodyPost_ret (v := .tuple #[.agg #[.int .i64 0, .int .i64 0, .slice none 0 0], .int .i64 80]) (by simp [results, Try.results35, go_sem, q0, q1, q2]) rfl (ansJ_zero D.out E2.out.env.below (by omega))
    · have k6 : (b.k != 6) = true := by simpa using h6
      have D := Lib.hid (show detR a b = (zeroT, 80) by rw [D0.out, if_neg (fun h => h6 h.1)])
      have E2 := Lib.hid (fun n => E1.out.keep (below_drewN (Below.refl _ w1) n))
      have q0 := fun n => ((E2.out n).rb.setall (.int .i64 0) (.int .i64 0) (.slice none 0 0)).cells.1
      have q1 := fun n => ((E2.out n).rb.setall (.int .i64 0) (.int .i64 0) (.slice none 0 0)).cells.2.1
      have q2 := fun n => ((E2.out n).rb.setall (.int .i64 0) (.int .i64 0) (.slice none 0 0)).cells.2.2
      clear h6
      go_wp2_with fail
      go_quiet (fail)
      have y0' := fun n => (E2.out n).rb.cells.1
      have y1' := fun n => (E2.out n).rb.cells.2.1
      have y2' := fun n => (E2.out n).rb.cells.2.2
      have f0' := fun n => (E2.out n).rb.frozen 0
      have f1' := fun n => (E2.out n).rb.frozen 1
      have f2' := fun n => (E2.out n).rb.frozen 2
      go_wp2_with fail
      exact bodyPost_ret (v := .tuple #[.agg #[.int .i64 0, .int .i64 0, .slice none 0 0], .int .i64 80]) (by simp [results, Try.results35, go_sem, q0, q1, q2]) rfl (ansJ_zero D.out (E2.out _).env.below (by omega))
  · have h1 : ((n : Int) != 0) = true := by rw [bne_iff_ne]; omega
    have D := Lib.hid (show detR a b = (zeroT, n) by unfold detR; rw [← HN.out, if_pos h0])
    obtain ⟨q0, q1, q2⟩ := (E1.out.rb.setall (.int .i64 0) (.int .i64 0) (.slice none 0 0)).cells
    clear h0
    go_wp2_with fail
    exact bodyPost_ret (v := .tuple #[.agg #[.int .i64 0, .int .i64 0, .slice none 0 0], .int .i64 (n : Int)]) (by simp [results, Try.results35, go_sem, q0, q1, q2]) rfl (ansJ_zero D.out E1.out.env.below (by omega))
set_option maxHeartbeats 4000000 in
set_option maxRecDepth 100000 in
theorem detaches_law (a b : Tr) (A B : Option Addr) (c d : Nat) (w : World) (ha : IsT w w.heap.size a A c) (hb : IsT w w.heap.size b B d) :
    Calls Try.prog 10 #[.agg #[.int .i64 a.k, .int .i64 a.i, .slice A a.ks.length c], .agg #[.int .i64 b.k, .int .i64 b.i, .slice B b.ks.length d]] w fun e w' => e = .returned (.bool true) ∧ Below w.heap.size w w' := by
  have E0 := Lib.hid (env2 ha hb)
  obtain ⟨b0, b1, b2⟩ := E0.out.cells (w.heap.size + 1) b B d (by simp)
  obtain ⟨a0, a1, a2⟩ := E0.out.cells w.heap.size a A c (by simp)
  clear ha hb
  go_enter Try.func10, Try.ntmps10
  go_wp2_with fail
  refine (cdetach_any a b A B c d _ (by exact E0.out.tree w.heap.size a A c (by simp)) (by exact E0.out.tree (w.heap.size + 1) b B d (by simp))).mono ?_
  rintro e w1 ⟨hb1, A1, c1, i1, rfl⟩
  have E1 := Lib.hid ((E0.out.keep hb1).push i1)
  clear hb1 i1 a0 a1 a2 b0 b1 b2 E0
  obtain ⟨b0, b1, b2⟩ := E1.out.cells (w.heap.size + 1) b B d (by simp)
  obtain ⟨a0, a1, a2⟩ := E1.out.cells w.heap.size a A c (by simp)
  go_wp2_with fail
  refine (rdetach8_any a b A B c d _ (by exact E1.out.tree w.heap.size a A c (by simp)) (by exact E1.out.tree (w.heap.size + 1) b B d (by simp))).mono ?_
  rintro e w2 ⟨hb2, A2, c2, i2, rfl⟩
  have E2 := Lib.hid ((E1.out.keep hb2).push i2)
  clear hb2 i2 a0 a1 a2 b0 b1 b2 E1
  obtain ⟨a0, a1, a2⟩ := E2.out.cells w1.heap.size (detR a b).1 A1 c1 (by simp)
  obtain ⟨n0, n1, n2⟩ := E2.out.cells w2.heap.size (detR a b).1 A2 c2 (by simp)
  go_wp2_with fail
  refine (like_any _ _ A1 A2 c1 c2 _ (by exact E2.out.tree w1.heap.size (detR a b).1 A1 c1 (by simp)) (by exact E2.out.tree w2.heap.size (detR a b).1 A2 c2 (by simp))).mono ?_
  rintro e w3 ⟨rfl, hb3⟩
  rw [like_same8]
  have E3 := Lib.hid (E2.out.keep hb3)
  clear hb3
  go_wp2_with fail
  go_ret
  exact ⟨rfl, E3.out.below⟩
end Go.Proofs.Ytjdhmfpkhijkeaa
