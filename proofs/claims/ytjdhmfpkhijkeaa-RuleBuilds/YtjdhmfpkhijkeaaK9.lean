/- Plain, Equal, Detach, Gen of the document's layer 8. -/
import Derived.Test.YtjdhmfpkhijkeaaK7
import Derived.Test.YtjdhmfpkhijkeaaK8
import Derived.Test.YtjdhmfpkhijkeaaEV
import Derived.Test.YtjdhmfpkhijkeaaLK
namespace Go.Proofs.Ytjdhmfpkhijkeaa
open Go.RowKit
set_option linter.unusedVariables false
set_option linter.unusedSimpArgs false
/-- an answer: a tree, and a fault -/
def AnsJ (w : World) (x : Tr × Nat) (e : Ending) (w' : World) : Prop :=
  Below w.heap.size w w' ∧ ∃ A' c', IsT w' w'.heap.size x.1 A' c' ∧ e = .returned (.tuple #[.agg #[.int .i64 x.1.k, .int .i64 x.1.i, .slice A' x.1.ks.length c'], .int .i64 ((x.2 : Nat) : Int)])
theorem zeroIs (W : World) (B : Nat) : IsT W B zeroT none 0 := IsT.mk (Nat.le_refl _) (by simp [zeroT, Tr.ks, Cap]) fun m hm => by simp [zeroT, Tr.ks] at hm
theorem ansJ_zero {w wr : World} {x : Tr × Nat} {f b : Nat} (hd : x = (zeroT, f)) (hbr : Below w.heap.size w wr) (hb : w.heap.size ≤ b) :
    AnsJ w x (.returned (.tuple #[.agg #[.int .i64 0, .int .i64 0, .slice none 0 0], .int .i64 ((f : Nat) : Int)])) (((wr.setCell ⟨b, 0, none⟩ (.int .i64 0)).setCell ⟨b, 1, none⟩ (.int .i64 0)).setCell ⟨b, 2, none⟩ (.slice none 0 0)) := by
  subst hd
  exact ⟨below_set3 hbr _ _ _ hb, none, 0, zeroIs _ _, rfl⟩
theorem ansJ_tree {w wr : World} {x : Tr × Nat} {t : Tr} {A : Option Addr} {c b : Nat} {X : Nat → Prop} (hd : x = (t, 0)) (hbr : Below w.heap.size w wr) (hf : FrT X wr t A c) (hx : X b) (hb : w.heap.size ≤ b) :
    AnsJ w x (.returned (.tuple #[.agg #[.int .i64 t.k, .int .i64 t.i, .slice A t.ks.length c], .int .i64 0])) (((wr.setCell ⟨b, 0, none⟩ (.int .i64 t.k)).setCell ⟨b, 1, none⟩ (.int .i64 t.i)).setCell ⟨b, 2, none⟩ (.slice A t.ks.length c)) := by
  subst hd
  exact ⟨below_set3 hbr _ _ _ hb, A, c, (hf.set3 hx _ _ _).isT, rfl⟩
theorem own_fr {W : World} {lo hi : Nat} {t : Tr} {A : Option Addr} {c : Nat} (ho : OwnT W lo hi t A c) (hh : hi ≤ W.heap.size) (hf : t.fit) : FrT (fun k => k < lo) W t A c :=
  fun W' h1 h2 => (OwnT.same t (fun b b1 b2 => h1 b (by omega) (by omega)) ho).isT t (by omega) hf
/-- boxed arguments, and the box of the answer -/
structure QE (w W : World) (r : Nat) (bs : List (Nat × Tr × Option Addr × Nat)) : Prop where
  env : Env w W bs
  rb : Box3 W r (.int .i64 0) (.int .i64 0) (.slice none 0 0)
theorem QE.keep {w W W' : World} {r : Nat} {bs : List (Nat × Tr × Option Addr × Nat)} (h : QE w W r bs) (hb : Below W.heap.size W W') : QE w W' r bs := ⟨h.env.keep hb, h.rb.keep hb h.rb.lt⟩
theorem qe1 {w : World} {a : Tr} {A : Option Addr} {c : Nat} (ha : IsT w w.heap.size a A c) : QE w ((w.alloc (.cells #[.int .i64 a.k, .int .i64 a.i, .slice A a.ks.length c] 24)).alloc (.cells #[.int .i64 0, .int .i64 0, .slice none 0 0] 24)) (w.heap.size + 1) [(w.heap.size, a, A, c)] := by
  have h := Box3.new (w.alloc (.cells #[.int .i64 a.k, .int .i64 a.i, .slice A a.ks.length c] 24)) (.int .i64 0) (.int .i64 0) (.slice none 0 0)
  rw [World.size_alloc] at h
  exact ⟨(env1 ha).alloc _, h⟩
theorem qe2 {w : World} {a b : Tr} {A B : Option Addr} {c d : Nat} (ha : IsT w w.heap.size a A c) (hb : IsT w w.heap.size b B d) : QE w (((w.alloc (.cells #[.int .i64 a.k, .int .i64 a.i, .slice A a.ks.length c] 24)).alloc (.cells #[.int .i64 b.k, .int .i64 b.i, .slice B b.ks.length d] 24)).alloc (.cells #[.int .i64 0, .int .i64 0, .slice none 0 0] 24)) (w.heap.size + 2) [(w.heap.size + 1, b, B, d), (w.heap.size, a, A, c)] := by
  have h := Box3.new ((w.alloc (.cells #[.int .i64 a.k, .int .i64 a.i, .slice A a.ks.length c] 24)).alloc (.cells #[.int .i64 b.k, .int .i64 b.i, .slice B b.ks.length d] 24)) (.int .i64 0) (.int .i64 0) (.slice none 0 0)
  simp only [World.size_alloc] at h
  exact ⟨(env2 ha hb).alloc _, h⟩
/-! ### Plain -/
set_option maxHeartbeats 4000000 in
set_option maxRecDepth 100000 in
theorem rplain8_any (t : Tr) (A : Option Addr) (c : Nat) (w : World) (ht : IsT w w.heap.size t A c) :
    Calls Try.prog 32 #[.agg #[.int .i64 t.k, .int .i64 t.i, .slice A t.ks.length c]] w (AnsJ w (plainR t)) := by
  have E0 := Lib.hid (qe1 ht)
  obtain ⟨p0, p1, p2⟩ := E0.out.env.cells w.heap.size t A c (by simp)
  clear ht
  go_enter Try.func32, Try.ntmps32
  go_wp2_with fail
  refine (rright_any t A c _ (by exact E0.out.env.tree w.heap.size t A c (by simp))).mono ?_
  rintro e w1 ⟨rfl, hb1⟩
  have E1 := Lib.hid (E0.out.keep hb1)
  clear hb1 p0 p1 p2 E0
  obtain ⟨p0, p1, p2⟩ := E1.out.env.cells w.heap.size t A c (by simp)
  by_cases h0 : rightN t = 0
  · have R0 := Lib.hid h0
    have RP := Lib.hid (right_parts h0)
    rw [h0]
    clear h0
    go_wp2_with fail
    refine (runfolded_any t.sz t A c _ (Nat.le_refl _) RP.out.2.2 (by exact E1.out.env.tree w.heap.size t A c (by simp))).mono ?_
    rintro e w2 ⟨A2, c2, rfl, hf2, hb2⟩
    have z1 := E1.out.rb.lt
    have E2 := Lib.hid ((E1.out.keep hb2).keep (alB w2 (.cells #[.int .i64 (plainT t).k, .int .i64 (plainT t).i, .slice A2 (plainT t).ks.length c2] 24)))
    have F2 := Lib.hid ((hf2.less (Y := fun k => k < w.heap.size + 2) (fun k hk => by omega)).keep (alB w2 (.cells #[.int .i64 (plainT t).k, .int .i64 (plainT t).i, .slice A2 (plainT t).ks.length c2] 24)))
    have P2 := Lib.hid (Box3.new w2 (.int .i64 (plainT t).k) (.int .i64 (plainT t).i) (.slice A2 (plainT t).ks.length c2))
    have PR := Lib.hid (plain_right RP.out.2.2)
    clear hf2 hb2 p0 p1 p2 E1 z1
    obtain ⟨p0, p1, p2⟩ := P2.out.cells
    go_wp2_with fail
    refine (rright_any (plainT t) A2 c2 _ (by exact F2.out.isT)).mono ?_
    rintro e w3 ⟨rfl, hb3⟩
    rw [PR.out]
    have E3 := Lib.hid (E2.out.keep hb3)
    have F3 := Lib.hid (F2.out.keep hb3)
    have P3 := Lib.hid (P2.out.keep hb3 P2.out.lt)
    clear hb3 p0 p1 p2 E2 F2 P2
    obtain ⟨p0, p1, p2⟩ := P3.out.cells
    by_cases h1 : plainF t = 0
    · have D := Lib.hid (show plainR t = (plainT t, 0) by unfold plainR; rw [if_neg (by rw [R0.out]; simp), if_neg (by rw [h1]; simp)])
      rw [h1]
      clear h1
      obtain ⟨y0, y1, y2⟩ := E3.out.rb.cells
      have f0 := E3.out.rb.frozen 0
      have f1 := E3.out.rb.frozen 1
      have f2 := E3.out.rb.frozen 2
      obtain ⟨q0, q1, q2⟩ := (E3.out.rb.setall (.int .i64 (plainT t).k) (.int .i64 (plainT t).i) (.slice A2 (plainT t).ks.length c2)).cells
      go_wp2_with fail
      exact bodyPost_ret (v := .tuple #[.agg #[.int .i64 (plainT t).k, .int .i64 (plainT t).i, .slice A2 (plainT t).ks.length c2], .int .i64 0]) (by simp [results, Try.results32, go_sem, q0, q1, q2]) rfl (ansJ_tree D.out E3.out.env.below F3.out (by show w.heap.size + 1 < w.heap.size + 2; omega) (by omega))
    · have D := Lib.hid (show plainR t = (zeroT, plainF t) by unfold plainR; rw [if_neg (by rw [R0.out]; simp), if_pos h1])
      have h5 : ((plainF t : Int) != 0) = true := by rw [bne_iff_ne]; omega
      clear h1
      go_wp2_with fail
      refine (rright_any (plainT t) A2 c2 _ (by exact F3.out.isT)).mono ?_
      rintro e w4 ⟨rfl, hb4⟩
      rw [PR.out]
      have E4 := Lib.hid (E3.out.keep hb4)
      clear hb4 p0 p1 p2
      obtain ⟨y0, y1, y2⟩ := E4.out.rb.cells
      have f0 := E4.out.rb.frozen 0
      have f1 := E4.out.rb.frozen 1
      have f2 := E4.out.rb.frozen 2
      obtain ⟨q0, q1, q2⟩ := (E4.out.rb.setall (.int .i64 0) (.int .i64 0) (.slice none 0 0)).cells
      go_wp2_with fail
      exact bodyPost_ret (v := .tuple #[.agg #[.int .i64 0, .int .i64 0, .slice none 0 0], .int .i64 (plainF t : Int)]) (by simp [results, Try.results32, go_sem, q0, q1, q2]) rfl (ansJ_zero D.out E4.out.env.below (by omega))
  · have D := Lib.hid (show plainR t = (zeroT, rightN t) by unfold plainR; rw [if_pos h0])
    have h5 : ((rightN t : Int) != 0) = true := by rw [bne_iff_ne]; omega
    clear h0
    go_wp2_with fail
    refine (rright_any t A c _ (by exact E1.out.env.tree w.heap.size t A c (by simp))).mono ?_
    rintro e w4 ⟨rfl, hb4⟩
    have E4 := Lib.hid (E1.out.keep hb4)
    clear hb4 p0 p1 p2
    obtain ⟨y0, y1, y2⟩ := E4.out.rb.cells
    have f0 := E4.out.rb.frozen 0
    have f1 := E4.out.rb.frozen 1
    have f2 := E4.out.rb.frozen 2
    obtain ⟨q0, q1, q2⟩ := (E4.out.rb.setall (.int .i64 0) (.int .i64 0) (.slice none 0 0)).cells
    go_wp2_with fail
    exact bodyPost_ret (v := .tuple #[.agg #[.int .i64 0, .int .i64 0, .slice none 0 0], .int .i64 (rightN t : Int)]) (by simp [results, Try.results32, go_sem, q0, q1, q2]) rfl (ansJ_zero D.out E4.out.env.below (by omega))
/-! ### Equal -/
def eqN (a b : Tr) : Nat := if firstN a b ≠ 0 then firstN a b else if plainF a ≠ 0 then plainF a else plainF b
def eqV (a b : Tr) : Bool := if eqN a b = 0 then likeB (plainT a) (plainT b) else false
theorem plainR_right {t : Tr} (h : rightN t = 0) : plainR t = if plainF t ≠ 0 then (zeroT, plainF t) else (plainT t, 0) := by unfold plainR; rw [if_neg (by rw [h]; simp)]
theorem first_zero {a b : Tr} (h : firstN a b = 0) : rightN a = 0 ∧ rightN b = 0 := by
  unfold firstN at h
  split at h
  · omega
  · exact ⟨by omega, h⟩
theorem plainR2 {t : Tr} (h : rightN t = 0) : (plainR t).2 = plainF t := by
  rw [plainR_right h]
  split
  · rfl
  · next h' => exact (Decidable.not_not.1 h').symm
theorem plainR1 {t : Tr} (h : rightN t = 0) (h' : plainF t = 0) : (plainR t).1 = plainT t := by
  rw [plainR_right h, if_neg (by rw [h']; simp)]
set_option maxHeartbeats 4000000 in
set_option maxRecDepth 100000 in
theorem requal8_any (a b : Tr) (A B : Option Addr) (c d : Nat) (w : World) (ha : IsT w w.heap.size a A c) (hb : IsT w w.heap.size b B d) :
    Calls Try.prog 34 #[.agg #[.int .i64 a.k, .int .i64 a.i, .slice A a.ks.length c], .agg #[.int .i64 b.k, .int .i64 b.i, .slice B b.ks.length d]] w fun e w' => e = .returned (.tuple #[.bool (eqV a b), .int .i64 (eqN a b : Nat)]) ∧ Below w.heap.size w w' := by
  have E0 := Lib.hid (env2 ha hb)
  obtain ⟨b0, b1, b2⟩ := E0.out.cells (w.heap.size + 1) b B d (by simp)
  obtain ⟨a0, a1, a2⟩ := E0.out.cells w.heap.size a A c (by simp)
  clear ha hb
  go_enter Try.func34, Try.ntmps34
  go_wp2_with fail
  refine (first_any a b A B c d _ (by exact E0.out.tree w.heap.size a A c (by simp)) (by exact E0.out.tree (w.heap.size + 1) b B d (by simp))).mono ?_
  rintro e w1 ⟨rfl, hb1⟩
  have E1 := Lib.hid (E0.out.keep hb1)
  clear hb1 a0 a1 a2 b0 b1 b2 E0
  obtain ⟨b0, b1, b2⟩ := E1.out.cells (w.heap.size + 1) b B d (by simp)
  obtain ⟨a0, a1, a2⟩ := E1.out.cells w.heap.size a A c (by simp)
  by_cases h0 : firstN a b = 0
  · have RA := Lib.hid (first_zero h0).1
    have RB := Lib.hid (first_zero h0).2
    have N0 := Lib.hid (show eqN a b = if plainF a ≠ 0 then plainF a else plainF b by unfold eqN; rw [if_neg (by rw [h0]; simp)])
    rw [h0]
    clear h0
    go_wp2_with fail
    refine (rplain8_any a A c _ (by exact E1.out.tree w.heap.size a A c (by simp))).mono ?_
    rintro e w2 ⟨hb2, A2, c2, i2, rfl⟩
    rw [plainR2 RA.out]
    obtain ⟨p, hp⟩ : ∃ p, p = (plainR a).1 := ⟨_, rfl⟩
    rw [← hp] at i2 ⊢
    have HP := Lib.hid hp
    clear hp
    have E2 := Lib.hid ((E1.out.keep hb2).push i2)
    clear hb2 i2 a0 a1 a2 b0 b1 b2 E1
    obtain ⟨b0, b1, b2⟩ := E2.out.cells (w.heap.size + 1) b B d (by simp)
    by_cases h1 : plainF a = 0
    · have N1 := Lib.hid (show eqN a b = plainF b by rw [N0.out, if_neg (by rw [h1]; simp)])
      have PA := Lib.hid (show p = plainT a by rw [HP.out, plainR1 RA.out h1])
      rw [h1]
      clear h1
      go_wp2_with fail
      refine (rplain8_any b B d _ (by exact E2.out.tree (w.heap.size + 1) b B d (by simp))).mono ?_
      rintro e w3 ⟨hb3, A3, c3, i3, rfl⟩
      rw [plainR2 RB.out]
      obtain ⟨q, hq⟩ : ∃ q, q = (plainR b).1 := ⟨_, rfl⟩
      rw [← hq] at i3 ⊢
      have HQ := Lib.hid hq
      clear hq
      have E3 := Lib.hid ((E2.out.keep hb3).push i3)
      clear hb3 i3 b0 b1 b2 E2
      by_cases h2 : plainF b = 0
      · have PB := Lib.hid (show q = plainT b by rw [HQ.out, plainR1 RB.out h2])
        have V := Lib.hid (show eqV a b = likeB p q by unfold eqV; rw [N1.out, h2, if_pos rfl, PA.out, PB.out])
        have N2 := Lib.hid (show eqN a b = 0 by rw [N1.out, h2])
        rw [h2]
        clear h2
        obtain ⟨q0, q1, q2⟩ := E3.out.cells w3.heap.size q A3 c3 (by simp)
        obtain ⟨p0, p1, p2⟩ := E3.out.cells w2.heap.size p A2 c2 (by simp)
        go_wp2_with fail
        refine (like_any p q A2 A3 c2 c3 _ (by exact E3.out.tree w2.heap.size p A2 c2 (by simp)) (by exact E3.out.tree w3.heap.size q A3 c3 (by simp))).mono ?_
        rintro e w4 ⟨rfl, hb4⟩
        have E4 := Lib.hid (E3.out.keep hb4)
        clear hb4
        go_wp2_with fail
        go_ret2
        exact ⟨by rw [V.out, N2.out]; rfl, E4.out.below⟩
      · have h5 : ((plainF b : Int) != 0) = true := by rw [bne_iff_ne]; omega
        have V := Lib.hid (show eqV a b = false by unfold eqV; rw [N1.out, if_neg h2])
        clear h2
        go_wp2_with fail
        go_ret2
        exact ⟨by rw [V.out, N1.out]; rfl, E3.out.below⟩
    · have h5 : ((plainF a : Int) != 0) = true := by rw [bne_iff_ne]; omega
      have N1 := Lib.hid (show eqN a b = plainF a by rw [N0.out, if_pos h1])
      have V := Lib.hid (show eqV a b = false by unfold eqV; rw [N1.out, if_neg h1])
      clear h1
      go_wp2_with fail
      go_ret2
      exact ⟨by rw [V.out, N1.out]; rfl, E2.out.below⟩
  · have h5 : ((firstN a b : Int) != 0) = true := by rw [bne_iff_ne]; omega
    have N1 := Lib.hid (show eqN a b = firstN a b by unfold eqN; rw [if_pos h0])
    have V := Lib.hid (show eqV a b = false by unfold eqV; rw [N1.out, if_neg h0])
    clear h0
    go_wp2_with fail
    go_ret2
    exact ⟨by rw [V.out, N1.out]; rfl, E1.out.below⟩
end Go.Proofs.Ytjdhmfpkhijkeaa
