/- limited, asked, Put of the document's layer 5. -/
import Derived.Test.YtkncchhalahpoaaU1
import Derived.Test.YtkncchhalahpoaaV0
namespace Go.Proofs.Ytkncchhalahpoaa
open Go.RowKit
set_option linter.unusedVariables false
set_option linter.unusedSimpArgs false
/-- an answer: a tree in memory, and a fault -/
def AnsI (w : World) (x : Tr × Nat) (e : Ending) (w' : World) : Prop :=
  Below w.heap.size w w' ∧ ∃ A' c', IsT w' w'.heap.size x.1 A' c' ∧ e = .returned (.tuple #[.agg #[.int .i64 x.1.k, .int .i64 x.1.i, .slice A' x.1.ks.length c'], .int .i64 ((x.2 : Nat) : Int)])
theorem isT_zero (W : World) (B : Nat) : IsT W B zeroT none 0 := IsT.mk (Nat.le_refl _) (by simp [zeroT, Tr.ks, Cap]) fun m hm => by simp [zeroT, Tr.ks] at hm
theorem ansI_zero {w w' : World} {f : Nat} (hb : Below w.heap.size w w') : AnsI w (zeroT, f) (.returned (.tuple #[.agg #[.int .i64 0, .int .i64 0, .slice none 0 0], .int .i64 ((f : Nat) : Int)])) w' := ⟨hb, none, 0, isT_zero _ _, rfl⟩
/-- the value that limited answers -/
def limV (t : Tr) (A : Option Addr) (c : Nat) : Value := if rightN t = 0 then .agg #[.int .i64 t.k, .int .i64 t.i, .slice A t.ks.length c] else .agg #[.int .i64 0, .int .i64 0, .slice none 0 0]
theorem shp_fit (t : Tr) : t.shp = true → t.fit := by
  induction t using Tr.ind with
  | h t ih =>
    intro hs
    have := (kind_of_shp t hs).2.2.2.2
    exact (fit_eq t).2 ⟨by unfold Cap; omega, fun q hq => ih q hq (shp_kid hs hq)⟩
/-- what limited holds: what came, boxed; the box of the answer -/
structure LK2 (w W : World) (o t : Value) (t2 : Value) (t3 : Value) (n : Value) : Prop where
  wb : BoxW W w.heap.size o t t2 t3 n
  rb : Box3 W (w.heap.size + 1) (.int .i64 0) (.int .i64 0) (.slice none 0 0)
  below : Below w.heap.size w W
theorem LK2.start (w : World) (o t t2 t3 n : Value) : LK2 w ((w.alloc (.cells #[o, t, t2, t3, n] 55)).alloc (.cells #[.int .i64 0, .int .i64 0, .slice none 0 0] 24)) o t t2 t3 n := by
  have h1 := below_alloc w (.cells #[o, t, t2, t3, n] 55)
  have h2 := below_alloc (w.alloc (.cells #[o, t, t2, t3, n] 55)) (.cells #[.int .i64 0, .int .i64 0, .slice none 0 0] 24)
  have e := Box3.new (w.alloc (.cells #[o, t, t2, t3, n] 55)) (.int .i64 0) (.int .i64 0) (.slice none 0 0)
  rw [World.size_alloc] at e
  exact ⟨(BoxW.new w o t t2 t3 n).keep h2 (BoxW.new w o t t2 t3 n).lt, e, h1.trans (h2.mono h1.size)⟩
theorem LK2.keep {w W W' : World} {o t t2 t3 n : Value} (h : LK2 w W o t t2 t3 n) (hb : Below W.heap.size W W') : LK2 w W' o t t2 t3 n := ⟨h.wb.keep hb h.wb.lt, h.rb.keep hb h.rb.lt, h.below.trans (hb.mono h.below.size)⟩
set_option maxHeartbeats 2000000 in
set_option maxRecDepth 100000 in
theorem limited_no (w : World) : Calls Try.prog 41 #[noW] w fun e w' => Below w.heap.size w w' ∧ e = .returned (.tuple #[.agg #[.int .i64 0, .int .i64 0, .slice none 0 0], .int .i64 20]) := by
  have K0 := Lib.hid (LK2.start w (.bool false) (.int .i64 0) (.int .i64 0) (.slice none 0 0) (.int .i64 0))
  obtain ⟨r0, r1, r2, r3, r4⟩ := K0.out.wb.cells
  obtain ⟨z0, z1, z2⟩ := K0.out.rb.cells
  have f0 := K0.out.rb.frozen 0
  have f1 := K0.out.rb.frozen 1
  have f2 := K0.out.rb.frozen 2
  unfold noW
  go_enter Try.func41, Try.ntmps41
  go_wp2_with fail
  exact bodyPost_ret (v := .tuple #[.agg #[.int .i64 0, .int .i64 0, .slice none 0 0], .int .i64 20]) (by simp [results, Try.results41, go_sem, z0, z1, z2]) rfl ⟨K0.out.below, rfl⟩
set_option maxHeartbeats 2000000 in
set_option maxRecDepth 100000 in
theorem limited_got (t : Tr) (A : Option Addr) (c : Nat) (w : World) (ht : IsT w w.heap.size t A c) : Calls Try.prog 41 #[gotW t A c] w fun e w' => Below w.heap.size w w' ∧ e = .returned (.tuple #[limV t A c, .int .i64 (rightN t : Int)]) := by
  have K0 := Lib.hid (LK2.start w (.bool true) (.int .i64 t.k) (.int .i64 t.i) (.slice A t.ks.length c) (.int .i64 (t.sz : Int)))
  have T0 := Lib.hid (ht.keep K0.out.below K0.out.below.size)
  have HT := Lib.hid ht
  obtain ⟨r0, r1, r2, r3, r4⟩ := K0.out.wb.cells
  clear ht
  unfold gotW
  go_enter Try.func41, Try.ntmps41
  go_wp2_with fail
  refine (rright_any t A c _ (by exact T0.out)).mono ?_
  rintro e w1 ⟨rfl, hb1⟩
  have K1 := Lib.hid (K0.out.keep hb1)
  have T1 := Lib.hid (T0.out.keep hb1 hb1.size)
  clear hb1 r0 r1 r2 r3 r4 K0 T0
  obtain ⟨r0, r1, r2, r3, r4⟩ := K1.out.wb.cells
  obtain ⟨z0, z1, z2⟩ := K1.out.rb.cells
  have f0 := K1.out.rb.frozen 0
  have f1 := K1.out.rb.frozen 1
  have f2 := K1.out.rb.frozen 2
  by_cases hr : rightN t = 0
  · have h0 : ((rightN t : Int) != 0) = false := by simp [hr]
    have F := Lib.hid (show limV t A c = .agg #[.int .i64 t.k, .int .i64 t.i, .slice A t.ks.length c] by unfold limV; rw [if_pos hr])
    have F2 := Lib.hid hr
    clear hr
    go_wp2_with fail
    refine bodyPost_ret (v := .tuple #[.agg #[.int .i64 t.k, .int .i64 t.i, .slice A t.ks.length c], .int .i64 0]) (by simp [results, Try.results41, go_sem, z0, z1, z2]) rfl ?_
    rw [F.out, F2.out]
    exact ⟨below_set3 K1.out.below _ _ _ (by omega), rfl⟩
  · have h0 : ((rightN t : Int) != 0) = true := by rw [bne_iff_ne]; omega
    have F := Lib.hid (show limV t A c = .agg #[.int .i64 0, .int .i64 0, .slice none 0 0] by unfold limV; rw [if_neg hr])
    clear hr
    go_wp2_with fail
    refine (rright_any t A c _ (by exact T1.out)).mono ?_
    rintro e w2 ⟨rfl, hb2⟩
    have K2 := Lib.hid (K1.out.keep hb2)
    clear hb2 r0 r1 r2 r3 r4 z0 z1 z2 f0 f1 f2
    obtain ⟨z0, z1, z2⟩ := K2.out.rb.cells
    have f0 := K2.out.rb.frozen 0
    have f1 := K2.out.rb.frozen 1
    have f2 := K2.out.rb.frozen 2
    go_wp2_with fail
    refine bodyPost_ret (v := .tuple #[.agg #[.int .i64 0, .int .i64 0, .slice none 0 0], .int .i64 (rightN t : Int)]) (by simp [results, Try.results41, go_sem, z0, z1, z2]) rfl ?_
    rw [F.out]
    exact ⟨below_set3 K2.out.below _ _ _ (by omega), rfl⟩
set_option maxHeartbeats 2000000 in
set_option maxRecDepth 100000 in
theorem rasked5_any (a t : Tr) (x : Int) (A A' : Option Addr) (c c' : Nat) (w : World) (ha : IsT w w.heap.size a A c) (ht : IsT w w.heap.size t A' c') :
    Calls Try.prog 40 #[.agg #[.int .i64 a.k, .int .i64 a.i, .slice A a.ks.length c], .int .i64 x, .agg #[.int .i64 t.k, .int .i64 t.i, .slice A' t.ks.length c']] w fun e w' => e = .returned (.int .i64 ((faultE a [(x, t)] : Nat) : Int)) ∧ Below w.heap.size w w' := by
  have T0 := Lib.hid (two_start ha ht)
  have FE := Lib.hid (faultE_one (a := a) (t := t) (x := x))
  have b0 := T0.out.b0
  have b1 := T0.out.b1
  have b2 := T0.out.b2
  have d0 := T0.out.d0
  have d1 := T0.out.d1
  have d2 := T0.out.d2
  clear ha ht
  by_cases hx0 : 0 ≤ x
  · by_cases hx1 : x ≤ 63
    · have hx0' : ¬ x < 0 := by omega
      have hx1' : ¬ 63 < x := by omega
      rw [if_neg (show ¬ ¬ (0 ≤ x ∧ x ≤ 63) from fun h => h ⟨hx0, hx1⟩)] at FE
      go_enter Try.func40, Try.ntmps40
      go_wp2_with fail
      refine (first_any a t A A' c c' _ (by exact T0.out.ta) (by exact T0.out.tb)).mono ?_
      rintro e w1 ⟨rfl, hb1⟩
      have T1 := Lib.hid (T0.out.keep hb1)
      clear hb1 b0 b1 b2 d0 d1 d2
      have d0 := T1.out.d0
      have d1 := T1.out.d1
      have d2 := T1.out.d2
      by_cases hf : firstN a t = 0
      · have h0 : ((firstN a t : Int) != 0) = false := by simp [hf]
        have F := Lib.hid (show faultE a [(x, t)] = wantTN t by
          rw [FE.out]
          unfold firstN at hf
          by_cases h1 : rightN a = 0
          · rw [if_neg (by simp [h1])] at hf ⊢
            rw [if_neg (by simp [hf])]
            unfold wantTN
            rw [if_pos hf]
            cases termB t.k <;> rfl
          · rw [if_pos h1] at hf
            exact absurd hf h1)
        clear hf
        go_wp2_with fail
        refine (rwantT_any t A' c' _ (by exact T1.out.tb)).mono ?_
        rintro e w2 ⟨rfl, hb2⟩
        have T2 := Lib.hid (T1.out.keep hb2)
        clear hb2
        go_wp2_with fail
        go_ret
        exact ⟨by rw [F.out]; rfl, T2.out.below⟩
      · have h0 : ((firstN a t : Int) != 0) = true := by rw [bne_iff_ne]; omega
        have F := Lib.hid (show faultE a [(x, t)] = firstN a t by
          rw [FE.out]
          unfold firstN at hf ⊢
          by_cases h1 : rightN a = 0
          · have h2 : ¬ rightN t = 0 := by simpa [h1] using hf
            simp [h1, h2]
          · simp [h1])
        clear hf
        go_wp2_with fail
        go_ret
        exact ⟨by rw [F.out]; rfl, T1.out.below⟩
    · have hx0' : ¬ x < 0 := by omega
      have hx1' : 63 < x := by omega
      rw [if_pos (show ¬ (0 ≤ x ∧ x ≤ 63) from fun h => hx1 h.2)] at FE
      go_enter Try.func40, Try.ntmps40
      go_wp2_with fail
      go_ret
      exact ⟨by rw [FE.out]; rfl, T0.out.below⟩
  · have hx0' : x < 0 := by omega
    rw [if_pos (show ¬ (0 ≤ x ∧ x ≤ 63) from fun h => hx0 h.1)] at FE
    go_enter Try.func40, Try.ntmps40
    go_wp2_with fail
    go_ret
    exact ⟨by rw [FE.out]; rfl, T0.out.below⟩
/-- what Put holds -/
structure PK (w W : World) (a : Tr) (A : Option Addr) (c : Nat) (t : Tr) (A' : Option Addr) (c' : Nat) : Prop where
  ab : Box3 W w.heap.size (.int .i64 a.k) (.int .i64 a.i) (.slice A a.ks.length c)
  tb : Box3 W (w.heap.size + 1) (.int .i64 t.k) (.int .i64 t.i) (.slice A' t.ks.length c')
  rb : Box3 W (w.heap.size + 2) (.int .i64 0) (.int .i64 0) (.slice none 0 0)
  ta : IsT W W.heap.size a A c
  tt : IsT W W.heap.size t A' c'
  below : Below w.heap.size w W
theorem PK.keep {w W W' : World} {a : Tr} {A : Option Addr} {c : Nat} {t : Tr} {A' : Option Addr} {c' : Nat} (h : PK w W a A c t A' c') (hb : Below W.heap.size W W') : PK w W' a A c t A' c' :=
  ⟨h.ab.keep hb h.ab.lt, h.tb.keep hb h.tb.lt, h.rb.keep hb h.rb.lt, h.ta.keep hb hb.size, h.tt.keep hb hb.size, h.below.trans (hb.mono h.below.size)⟩
set_option maxHeartbeats 4000000 in
set_option maxRecDepth 100000 in
theorem rput5_any (a t : Tr) (x : Int) (A A' : Option Addr) (c c' : Nat) (w : World) (ha : IsT w w.heap.size a A c) (ht : IsT w w.heap.size t A' c') :
    Calls Try.prog 16 #[.agg #[.int .i64 a.k, .int .i64 a.i, .slice A a.ks.length c], .int .i64 x, .agg #[.int .i64 t.k, .int .i64 t.i, .slice A' t.ks.length c']] w (AnsI w (eachR a [(x, t)])) := by
  obtain ⟨e0, e1, e2, hb0⟩ := three_boxes w (.int .i64 a.k) (.int .i64 a.i) (.slice A a.ks.length c) (.int .i64 t.k) (.int .i64 t.i) (.slice A' t.ks.length c') (.int .i64 0) (.int .i64 0) (.slice none 0 0)
  have K0 := Lib.hid (PK.mk e0 e1 e2 (ha.keep hb0 hb0.size) (ht.keep hb0 hb0.size) hb0)
  obtain ⟨y0, y1, y2⟩ := e0.cells
  obtain ⟨t0, t1, t2⟩ := e1.cells
  clear e0 e1 e2 hb0 ha ht
  go_enter Try.func16, Try.ntmps16
  go_wp2_with fail
  refine (rasked5_any a t x A A' c c' _ (by exact K0.out.ta) (by exact K0.out.tt)).mono ?_
  rintro e w1 ⟨rfl, hb1⟩
  have K1 := Lib.hid (K0.out.keep hb1)
  clear hb1 y0 y1 y2 t0 t1 t2 K0
  obtain ⟨y0, y1, y2⟩ := K1.out.ab.cells
  obtain ⟨t0, t1, t2⟩ := K1.out.tb.cells
  obtain ⟨z0, z1, z2⟩ := K1.out.rb.cells
  have f0 := K1.out.rb.frozen 0
  have f1 := K1.out.rb.frozen 1
  have f2 := K1.out.rb.frozen 2
  by_cases h0 : faultE a [(x, t)] = 0
  · have h1 : ((faultE a [(x, t)] : Int) != 0) = false := by simp [h0]
    obtain ⟨q1, q2, q3, q4⟩ := faultE_zero h0
    have hx := argE_mem q1 (x, t) (by simp)
    have RA := Lib.hid q2
    have RT := Lib.hid (q3 (x, t) (by simp))
    have FF := Lib.hid (ffB_ok hx.1 hx.2 (q3 (x, t) (by simp)) q2 (q4 (x, t) (by simp)))
    have F0 := Lib.hid h0
    have TK := Lib.hid (q4 (x, t) (by simp))
    simp only at RT FF TK
    clear h0 q1 q2 q3 q4
    go_wp2_with fail
    refine (rfreefor_any t a x A' A c' c _ (by exact K1.out.tt) (by exact K1.out.ta)).mono ?_
    rintro e w2 ⟨rfl, hb2⟩
    rw [FF.out.1, FF.out.2]
    have K2 := Lib.hid (K1.out.keep hb2)
    clear hb2 y0 y1 y2 t0 t1 t2 z0 z1 z2 f0 f1 f2 K1
    obtain ⟨y0, y1, y2⟩ := K2.out.ab.cells
    obtain ⟨t0, t1, t2⟩ := K2.out.tb.cells
    obtain ⟨z0, z1, z2⟩ := K2.out.rb.cells
    have f0 := K2.out.rb.frozen 0
    have f1 := K2.out.rb.frozen 1
    have f2 := K2.out.rb.frozen 2
    by_cases hc : catT (varsT t) x a = 0
    · rw [decide_eq_true hc]
      have F := Lib.hid (eachR_ok F0.out (by rw [capE_one]; exact decide_eq_true hc))
      have hlt2 := K2.out.rb.lt
      clear hc
      obtain ⟨S, hS⟩ : ∃ S, S = putX x t a := ⟨_, rfl⟩
      have WI := Lib.hid (within_any x hx.1 hx.2 t A' c' (right_shp' RT.out).2.1 a.sz a A c 1000 w2 (Nat.le_refl _) (right_shp' RA.out).2.1 (Nat.le_refl _) K2.out.ta K2.out.tt)
      have SF := Lib.hid (show S.fit by rw [hS]; exact shp_fit _ (putE_shp (by simp [TK.out, (right_shp' RT.out).1]) a 0 (right_shp' RA.out).1))
      rw [← hS] at WI
      rw [show putE [(x, t)] a 0 = S from hS.symm] at F
      clear hS
      go_wp2_with fail
      refine WI.out.mono ?_
      rintro e w3 ⟨hb3, hres⟩
      have K3 := Lib.hid (K2.out.keep hb3)
      clear hb3 y0 y1 y2 t0 t1 t2 z0 z1 z2 f0 f1 f2
      by_cases hfit : S.sz ≤ 1000
      · rw [if_pos hfit] at hres
        obtain ⟨A2, c2, rfl, ho⟩ := hres
        have HO := Lib.hid ho
        have IS := Lib.hid (ho.isT _ (Nat.le_refl _) SF.out)
        clear ho hfit
        go_wp2_with fail
        refine (limited_got S A2 c2 _ (by exact IS.out)).mono ?_
        rintro e w4 ⟨hb4, rfl⟩
        have K4 := Lib.hid (K3.out.keep hb4)
        have HO4 := Lib.hid (OwnT.same _ (SameIn.of_below hb4 (Nat.le_refl _)) HO.out)
        have hz4 := hb4.size
        clear hb4
        obtain ⟨z0, z1, z2⟩ := K4.out.rb.cells
        have f0 := K4.out.rb.frozen 0
        have f1 := K4.out.rb.frozen 1
        have f2 := K4.out.rb.frozen 2
        by_cases hr : rightN S = 0
        · have LV := Lib.hid (show limV S A2 c2 = .agg #[.int .i64 S.k, .int .i64 S.i, .slice A2 S.ks.length c2] by unfold limV; rw [if_pos hr])
          have LR := Lib.hid (show limR S = (S, 0) by unfold limR; rw [if_pos hr])
          rw [LV.out, hr]
          clear hr
          go_wp2_with fail
          refine bodyPost_ret (v := .tuple #[.agg #[.int .i64 S.k, .int .i64 S.i, .slice A2 S.ks.length c2], .int .i64 0]) (by simp [results, Try.results16, go_sem, z0, z1, z2]) rfl ?_
          rw [F.out, LR.out]
          have hs : SameIn w2.heap.size w3.heap.size w4 (((w4.setCell ⟨w.heap.size + 2, 0, none⟩ (.int .i64 S.k)).setCell ⟨w.heap.size + 2, 1, none⟩ (.int .i64 S.i)).setCell ⟨w.heap.size + 2, 2, none⟩ (.slice A2 S.ks.length c2)) := same_set3 _ _ _ _ _ (by omega)
          exact ⟨below_set3 K4.out.below _ _ _ (by omega), A2, c2, (OwnT.same _ hs HO4.out).isT _ (by simpa using hz4) SF.out, rfl⟩
        · have LV := Lib.hid (show limV S A2 c2 = .agg #[.int .i64 0, .int .i64 0, .slice none 0 0] by unfold limV; rw [if_neg hr])
          have LR := Lib.hid (show limR S = (zeroT, rightN S) by unfold limR; rw [if_neg hr])
          rw [LV.out]
          clear hr
          go_wp2_with fail
          refine bodyPost_ret (v := .tuple #[.agg #[.int .i64 0, .int .i64 0, .slice none 0 0], .int .i64 (rightN S : Int)]) (by simp [results, Try.results16, go_sem, z0, z1, z2]) rfl ?_
          rw [F.out, LR.out]
          exact ansI_zero (below_set3 K4.out.below _ _ _ (by omega))
      · rw [if_neg hfit] at hres
        obtain rfl := hres
        have LR := Lib.hid (show limR S = (zeroT, 20) by
          have : rightN S = 20 := by unfold rightN; rw [if_pos (by omega)]
          unfold limR
          rw [this]
          rfl)
        clear hfit
        go_wp2_with fail
        refine (limited_no _).mono ?_
        rintro e w4 ⟨hb4, rfl⟩
        have K4 := Lib.hid (K3.out.keep hb4)
        clear hb4
        obtain ⟨z0, z1, z2⟩ := K4.out.rb.cells
        have f0 := K4.out.rb.frozen 0
        have f1 := K4.out.rb.frozen 1
        have f2 := K4.out.rb.frozen 2
        go_wp2_with fail
        refine bodyPost_ret (v := .tuple #[.agg #[.int .i64 0, .int .i64 0, .slice none 0 0], .int .i64 20]) (by simp [results, Try.results16, go_sem, z0, z1, z2]) rfl ?_
        rw [F.out, LR.out]
        exact ansI_zero (f := 20) (below_set3 K4.out.below _ _ _ (by omega))
    · rw [decide_eq_false hc]
      have F := Lib.hid (eachR_cap F0.out (by rw [capE_one]; exact decide_eq_false hc))
      clear hc
      go_wp2_with fail
      refine bodyPost_ret (v := .tuple #[.agg #[.int .i64 0, .int .i64 0, .slice none 0 0], .int .i64 50]) (by simp [results, Try.results16, go_sem, z0, z1, z2]) rfl ?_
      rw [F.out]
      exact ansI_zero (f := 50) (below_set3 K2.out.below _ _ _ (by omega))
  · have h1 : ((faultE a [(x, t)] : Int) != 0) = true := by rw [bne_iff_ne]; omega
    have F := Lib.hid (eachR_fault h0)
    clear h0
    go_wp2_with fail
    refine bodyPost_ret (v := .tuple #[.agg #[.int .i64 0, .int .i64 0, .slice none 0 0], .int .i64 (faultE a [(x, t)] : Int)]) (by simp [results, Try.results16, go_sem, z0, z1, z2]) rfl ?_
    rw [F.out]
    exact ansI_zero (below_set3 K1.out.below _ _ _ (by omega))
end Go.Proofs.Ytkncchhalahpoaa
