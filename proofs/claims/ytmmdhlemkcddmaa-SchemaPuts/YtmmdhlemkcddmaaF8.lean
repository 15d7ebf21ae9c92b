/- Caught, FreeFor of package free. -/
import Derived.Test.YtmmdhlemkcddmaaF7
import Derived.Test.YtmmdhlemkcddmaaF4
namespace Go.Proofs.Ytmmdhlemkcddmaa
open Go.RowKit
set_option linter.unusedVariables false
set_option linter.unusedSimpArgs false
/-- block p is a variable that holds the number x -/
def IntBox (W : World) (p : Nat) (x : Int) : Prop := W.heap[p]? = some (.cells #[.int .i64 x] 3 (0, 0))
theorem IntBox.cell {W : World} {p : Nat} {x : Int} (h : IntBox W p x) : W.cell? ⟨p, 0, none⟩ = some (.int .i64 x) := by
  unfold IntBox at h
  simp [World.cell?, h]
theorem IntBox.lt {W : World} {p : Nat} {x : Int} (h : IntBox W p x) : p < W.heap.size := (Array.getElem?_eq_some_iff.1 h).1
theorem IntBox.keep {W W' : World} {p : Nat} {x : Int} (h : IntBox W p x) (hb : Below W.heap.size W W') : IntBox W' p x := (hb.block p h.lt).trans h
theorem or_walk64 (a b : Nat) (ha : U64 a) (hb : U64 b) : bits .or .u64 (a : Int) (b : Int) = ((a ||| b : Nat) : Int) := or64 a b ha hb
theorem and_walk64 (a b : Nat) (ha : U64 a) (hb : U64 b) : bits .and .u64 (a : Int) (b : Int) = ((a &&& b : Nat) : Int) := and64 a b ha hb
theorem gCatch_eq (x k i : Int) (ar acc : Nat) : gCatch x k i ar acc = if freeB k i ar = true ∧ i = x then acc ||| ar else acc := by
  unfold gCatch freeB
  by_cases h : k = 1 ∧ hasN ar i = false ∧ i = x
  · rw [if_pos h, if_pos ⟨by simp [h.1, h.2.1], h.2.2⟩]
  · rw [if_neg h, if_neg]
    rintro ⟨a, b⟩
    simp at a
    exact h ⟨a.1, a.2, b⟩
set_option maxHeartbeats 2000000 in
set_option maxRecDepth 100000 in
theorem caught1_any (p b : Nat) (hpb : p ≠ b) (x : Int) : Finds 141 p b (gCatch x) (fun W => IntBox W p x) := by
  intro k i A n c ar s W hUa hUs hS hI
  have hbw := hS.lt
  have hpw := hI.lt
  have hb0 : Below W.heap.size W (W.alloc (.cells #[.int .i64 k, .int .i64 i, .slice A n c] 24)) := (Below.refl _ _).alloc (Nat.le_refl _) _
  obtain ⟨y0, y1, y2⟩ := box_new W (.int .i64 k) (.int .i64 i) (.slice A n c) 24
  have S0 := Lib.hid (hS.keep hb0)
  have I0 := Lib.hid (hI.keep hb0)
  have HB0 := Lib.hid hb0
  have BX := Lib.hid (Box3.new W (.int .i64 k) (.int .i64 i) (.slice A n c))
  have HUa := Lib.hid hUa
  have OW := Lib.hid (or_walk64 s ar hUs hUa)
  clear hb0 hS hI hUa hUs
  go_enter Try.func141, Try.ntmps141
  go_wp2_with fail
  refine (isFree_any k i A n c ar _ HUa.out).mono ?_
  rintro e w1 ⟨rfl, hb1⟩
  have S1 := Lib.hid (S0.out.keep hb1)
  have K1 := Lib.hid ((KeepX.of_below (b := b) HB0.out).trans (KeepX.of_below hb1))
  obtain ⟨z0, z1, z2⟩ := (BX.out.keep hb1 BX.out.lt).cells
  have sc := S1.out.cell
  have sf := S1.out.frozen
  have ic := (I0.out.keep hb1).cell
  clear hb1 y0 y1 y2
  have G := Lib.hid (gCatch_eq x k i ar s)
  cases hw : freeB k i ar with
  | true =>
    by_cases hx : i = x
    · have hx' : (i == x) = true := by simp [hx]
      have G1 := Lib.hid (show gCatch x k i ar s = s ||| ar by rw [G.out, if_pos ⟨hw, hx⟩])
      have ow := OW.out
      clear hx G
      go_wp2_with fail
      go_end0
      refine ⟨rfl, ?_, ?_⟩
      · rw [G1.out]
        first | exact S1.out.set _ | (rw [ow]; exact S1.out.set _)
      · exact K1.out.trans (KeepX.set b 0 _ _)
    · have hx' : (i == x) = false := by simpa using hx
      have G1 := Lib.hid (show gCatch x k i ar s = s by rw [G.out, if_neg (fun h => hx h.2)])
      clear hx G
      go_wp2_with fail
      go_end0
      exact ⟨rfl, by rw [G1.out]; exact S1.out, K1.out⟩
  | false =>
    have G1 := Lib.hid (show gCatch x k i ar s = s by rw [G.out, if_neg (fun h => by rw [hw] at h; cases h.1)])
    clear G
    go_wp2_with fail
    go_end0
    exact ⟨rfl, by rw [G1.out]; exact S1.out, K1.out⟩
/-- is it right, and a term? as the code asks -/
def isTB (t : Tr) : Bool := decide (sortN t.k = 1) && decide (rightN t = 0)
set_option maxHeartbeats 1000000 in
theorem isTerm_any (t : Tr) (A : Option Addr) (c : Nat) (w : World) (ht : IsT w w.heap.size t A c) :
    Calls Try.prog 39 #[.agg #[.int .i64 t.k, .int .i64 t.i, .slice A t.ks.length c]] w fun e w' => e = .returned (.bool (isTB t)) ∧ Below w.heap.size w w' := by
  have T0 := Lib.hid (One.new ht)
  obtain ⟨y0, y1, y2⟩ := And.intro T0.out.b0 (And.intro T0.out.b1 T0.out.b2)
  clear ht
  go_enter Try.func39, Try.ntmps39
  go_wp2_with fail
  refine (sortOf_any t.k t.i A t.ks.length c _).mono ?_
  rintro e w1 ⟨rfl, hb1⟩
  have T1 := Lib.hid (T0.out.keep hb1)
  obtain ⟨z0, z1, z2⟩ := And.intro T1.out.b0 (And.intro T1.out.b1 T1.out.b2)
  clear hb1 y0 y1 y2
  by_cases hs : sortN t.k = 1
  · have h1 : (sortN t.k == 1) = true := by simp [hs]
    have F := Lib.hid (show isTB t = decide (rightN t = 0) by unfold isTB; rw [decide_eq_true hs]; rfl)
    clear hs
    go_wp2_with fail
    refine (right_any t A c _ (by exact T1.out.tree)).mono ?_
    rintro e w2 ⟨rfl, hb2⟩
    have T2 := Lib.hid (T1.out.keep hb2)
    clear hb2
    by_cases hr : rightN t = 0
    · have h0 : ((rightN t : Int) == 0) = true := by simp [hr]
      have F2 := Lib.hid (show isTB t = true by rw [F.out, decide_eq_true hr])
      clear hr
      go_wp2_with fail
      go_ret
      exact ⟨by rw [F2.out]; rfl, T2.out.below⟩
    · have h0 : ((rightN t : Int) == 0) = false := by rw [beq_eq_false_iff_ne]; omega
      have F2 := Lib.hid (show isTB t = false by rw [F.out, decide_eq_false hr])
      clear hr
      go_wp2_with fail
      go_ret
      exact ⟨by rw [F2.out]; rfl, T2.out.below⟩
  · have h1 : (sortN t.k == 1) = false := by simpa using hs
    have F := Lib.hid (show isTB t = false by unfold isTB; rw [decide_eq_false hs]; rfl)
    clear hs
    go_wp2_with fail
    go_ret
    exact ⟨by rw [F.out]; rfl, T1.out.below⟩
/-- what Caught was handed, boxed, in a later world -/
structure Cau (w wr : World) (t a : Tr) (x : Int) (A A' : Option Addr) (c c' : Nat) : Prop where
  b0 : wr.cell? ⟨w.heap.size, 0, none⟩ = some (.int .i64 t.k)
  b1 : wr.cell? ⟨w.heap.size, 1, none⟩ = some (.int .i64 t.i)
  b2 : wr.cell? ⟨w.heap.size, 2, none⟩ = some (.slice A t.ks.length c)
  xb : IntBox wr (w.heap.size + 1) x
  d0 : wr.cell? ⟨w.heap.size + 1 + 1, 0, none⟩ = some (.int .i64 a.k)
  d1 : wr.cell? ⟨w.heap.size + 1 + 1, 1, none⟩ = some (.int .i64 a.i)
  d2 : wr.cell? ⟨w.heap.size + 1 + 1, 2, none⟩ = some (.slice A' a.ks.length c')
  ta : IsT wr wr.heap.size t A c
  tb : IsT wr wr.heap.size a A' c'
  below : Below w.heap.size w wr
  size : w.heap.size + 3 ≤ wr.heap.size
theorem Cau.new {w : World} {t a : Tr} {A A' : Option Addr} {c c' : Nat} (x : Int) (ht : IsT w w.heap.size t A c) (ha : IsT w w.heap.size a A' c') :
    Cau w (((w.alloc (.cells #[.int .i64 t.k, .int .i64 t.i, .slice A t.ks.length c] 24)).alloc (.cells #[.int .i64 x] 3)).alloc (.cells #[.int .i64 a.k, .int .i64 a.i, .slice A' a.ks.length c'] 24)) t a x A A' c c' := by
  have h1 : Below w.heap.size w (((w.alloc (.cells #[.int .i64 t.k, .int .i64 t.i, .slice A t.ks.length c] 24)).alloc (.cells #[.int .i64 x] 3)).alloc (.cells #[.int .i64 a.k, .int .i64 a.i, .slice A' a.ks.length c'] 24)) := (((Below.refl _ _).alloc (Nat.le_refl _) _).alloc (by simp) _).alloc (by simp; omega) _
  have h2 : Below (w.heap.size + 1) (w.alloc (.cells #[.int .i64 t.k, .int .i64 t.i, .slice A t.ks.length c] 24)) (((w.alloc (.cells #[.int .i64 t.k, .int .i64 t.i, .slice A t.ks.length c] 24)).alloc (.cells #[.int .i64 x] 3)).alloc (.cells #[.int .i64 a.k, .int .i64 a.i, .slice A' a.ks.length c'] 24)) := ((Below.refl _ _).alloc (by simp) _).alloc (by simp) _
  obtain ⟨f0, f1, f2⟩ := (Box3.keep (Box3.new w (.int .i64 t.k) (.int .i64 t.i) (.slice A t.ks.length c)) h2 (Nat.lt_succ_self _)).cells
  have e1 := World.alloc_heap_new (w.alloc (.cells #[.int .i64 t.k, .int .i64 t.i, .slice A t.ks.length c] 24)) (.cells #[.int .i64 x] 3)
  rw [World.size_alloc] at e1
  have e3 := Box3.new ((w.alloc (.cells #[.int .i64 t.k, .int .i64 t.i, .slice A t.ks.length c] 24)).alloc (.cells #[.int .i64 x] 3)) (.int .i64 a.k) (.int .i64 a.i) (.slice A' a.ks.length c')
  rw [World.size_alloc, World.size_alloc] at e3
  obtain ⟨g0, g1, g2⟩ := e3.cells
  refine ⟨f0, f1, f2, ?_, g0, g1, g2, ht.keep h1 h1.size, ha.keep h1 h1.size, h1, by simp⟩
  exact (Below.heap_alloc _ _ _ (by simp)).trans e1
theorem Cau.keep {w wr w1 : World} {t a : Tr} {x : Int} {A A' : Option Addr} {c c' : Nat} (h : Cau w wr t a x A A' c c') (hb : Below wr.heap.size wr w1) : Cau w w1 t a x A A' c c' := by
  have e : ∀ {p : Addr} {v : Value}, wr.cell? p = some v → w1.cell? p = some v := fun hv => (hb.cell (block_lt_of_cell hv)).trans hv
  exact ⟨e h.b0, e h.b1, e h.b2, h.xb.keep hb, e h.d0, e h.d1, e h.d2, h.ta.keep hb hb.size, h.tb.keep hb hb.size, h.below.trans (hb.mono h.below.size), Nat.le_trans h.size hb.size⟩
theorem isTB_term {t : Tr} (hr : rightN t = 0) : isTB t = termB t.k := by
  unfold isTB
  rw [decide_eq_true hr, Bool.and_true]
  cases ht : termB t.k with
  | true => rw [decide_eq_true ((sort_term t.k).2 ht)]
  | false => rw [decide_eq_false (fun e => by rw [(sort_term t.k).1 e] at ht; cases ht)]
set_option maxHeartbeats 4000000 in
set_option maxRecDepth 100000 in
theorem caught_any (t a : Tr) (x : Int) (A A' : Option Addr) (c c' : Nat) (w : World) (ht : IsT w w.heap.size t A c) (ha : IsT w w.heap.size a A' c') :
    Calls Try.prog 125 #[.agg #[.int .i64 t.k, .int .i64 t.i, .slice A t.ks.length c], .int .i64 x, .agg #[.int .i64 a.k, .int .i64 a.i, .slice A' a.ks.length c']] w fun e w' => e = .returned (.tuple #[.int .u64 (catV x t a : Nat), .int .i64 (askN x t a : Nat)]) ∧ Below w.heap.size w w' := by
  have hmf : ∀ (fn : Fn) (first cap : Array Value) (w : World), (Instr.makeFunc fn first cap).run Try.prog w = .ok (.func fn first cap) w := fun _ _ _ _ => rfl
  have T0 := Lib.hid (Cau.new x ht ha)
  have b0 := T0.out.b0
  have b1 := T0.out.b1
  have b2 := T0.out.b2
  have xc := T0.out.xb.cell
  have d0 := T0.out.d0
  have d1 := T0.out.d1
  have d2 := T0.out.d2
  clear ht ha
  by_cases hx : 0 ≤ x ∧ x ≤ 63
  · have FX := Lib.hid (show fitsB x = true by unfold fitsB; rw [decide_eq_true hx])
    go_enter Try.func125, Try.ntmps125
    go_wp2_with fail
    refine (isNumber_any x _).mono ?_
    rintro e w9 ⟨rfl, hw9⟩
    rw [← hw9, FX.out]
    clear hw9
    go_wp2_with fail
    refine (vars_any t A c _ (by exact T0.out.ta)).mono ?_
    rintro e w1 ⟨rfl, hb1⟩
    have T1 := Lib.hid (T0.out.keep hb1)
    clear hb1 b0 b1 b2 xc d0 d1 d2
    have b0 := T1.out.b0
    have b1 := T1.out.b1
    have b2 := T1.out.b2
    have xc := T1.out.xb.cell
    have d0 := T1.out.d0
    have d1 := T1.out.d1
    have d2 := T1.out.d2
    by_cases hr : rightN t = 0
    · have h0 : ((rightN t : Int) != 0) = false := by simp [hr]
      have VV := Lib.hid (show valR varsT t = varsT t from valR_ok hr)
      have f1 : firstN t a = rightN a := by unfold firstN; rw [if_neg (by simp [hr])]
      have TT := Lib.hid (isTB_term hr)
      go_wp2_with fail
      refine (right_any a A' c' _ (by exact T1.out.tb)).mono ?_
      rintro e w2 ⟨rfl, hb2⟩
      have T2 := Lib.hid (T1.out.keep hb2)
      clear hb2 b0 b1 b2 xc d0 d1 d2
      have b0 := T2.out.b0
      have b1 := T2.out.b1
      have b2 := T2.out.b2
      have xc := T2.out.xb.cell
      have d0 := T2.out.d0
      have d1 := T2.out.d1
      have d2 := T2.out.d2
      by_cases hra : rightN a = 0
      · have h1 : ((rightN a : Int) != 0) = false := by simp [hra]
        go_wp2_with fail
        refine (isTerm_any t A c _ (by exact T2.out.ta)).mono ?_
        rintro e w3 ⟨rfl, hb3⟩
        rw [TT.out]
        have T3 := Lib.hid (T2.out.keep hb3)
        clear hb3 b0 b1 b2 xc d0 d1 d2
        have b0 := T3.out.b0
        have b1 := T3.out.b1
        have b2 := T3.out.b2
        have xc := T3.out.xb.cell
        have d0 := T3.out.d0
        have d1 := T3.out.d1
        have d2 := T3.out.d2
        cases htk : termB t.k with
        | false =>
          have AE := Lib.hid (show askN x t a = 40 by unfold askN; rw [if_pos hx, f1, if_pos hra]; unfold wantTN; rw [if_pos hr, htk]; rfl)
          have CE := Lib.hid (show catV x t a = 0 by unfold catV; rw [AE.out, if_neg (by omega)])
          clear hr hra hx
          go_wp2_with fail
          go_ret2
          exact ⟨by rw [AE.out, CE.out]; rfl, T3.out.below⟩
        | true =>
          have AE := Lib.hid (show askN x t a = 0 by unfold askN; rw [if_pos hx, f1, if_pos hra]; unfold wantTN; rw [if_pos hr, htk]; rfl)
          have CE := Lib.hid (show catV x t a = varsT t &&& foldV (gCatch x) a 0 0 by unfold catV; rw [if_pos AE.out, code_catch _ x hx.1 hx.2 a (right_shp hra)])
          have hal : ∀ o, Below w3.heap.size w3 (w3.alloc o) := fun o => (Below.refl _ _).alloc (Nat.le_refl _) _
          have T4 := Lib.hid (fun o => T3.out.keep (hal o))
          have VC := Lib.hid (fvisit_any 141 (w.heap.size + 1) w3.heap.size w3.heap.size (gCatch x) (fun W => IntBox W (w.heap.size + 1) x) (Nat.le_refl _) (gCatch_U x) (fun X Y hk hx => (hk.block _ hx.lt (by have := T3.out.size; omega)).trans hx) (fun _ _ => by first | (go_simp; done) | rfl) (caught1_any (w.heap.size + 1) w3.heap.size (by have := T3.out.size; omega) x) a.sz a A' c' 0 0 (w3.alloc (.cells #[.int .u64 0] 55)) (Nat.le_refl _) (T3.out.tb.keep (hal _) (Nat.le_refl _)) zero_U zero_U (World.alloc_heap_new w3 _) (T4.out _).xb)
          have AW := Lib.hid (and_walk64 (varsT t) (foldV (gCatch x) a 0 0) (varsT_U t) (foldV_U (gCatch_U x) a 0 0 zero_U zero_U))
          have hz := T3.out.size
          rw [VV.out]
          clear hr hra hx b0 b1 b2 xc d0 d1 d2
          have d0 := fun o => (T4.out o).d0
          have d1 := fun o => (T4.out o).d1
          have d2 := fun o => (T4.out o).d2
          go_wp2_with fail
          refine VC.out.mono ?_
          rintro e w5 ⟨rfl, hS, hK⟩
          have sc := hS.cell
          have BB := Lib.hid ((T4.out _).below.trans (hK.below (B := w.heap.size) (by omega) (by simp; omega)))
          have aw := AW.out
          clear hS hK d0 d1 d2
          go_wp2_with fail
          go_ret2
          refine ⟨?_, BB.out⟩
          rw [AE.out, CE.out]
          first | rfl | (rw [aw]; rfl) | (simp [aw])
      · have h1 : ((rightN a : Int) != 0) = true := by rw [bne_iff_ne]; omega
        have AE := Lib.hid (show askN x t a = rightN a by unfold askN; rw [if_pos hx, f1, if_neg hra])
        have CE := Lib.hid (show catV x t a = 0 by unfold catV; rw [AE.out, if_neg hra])
        clear hr hra hx
        go_wp2_with fail
        go_ret2
        exact ⟨by rw [AE.out, CE.out]; rfl, T2.out.below⟩
    · have h0 : ((rightN t : Int) != 0) = true := by rw [bne_iff_ne]; omega
      have AE := Lib.hid (show askN x t a = rightN t by
        have f1 : firstN t a = rightN t := by unfold firstN; rw [if_pos hr]
        unfold askN; rw [if_pos hx, f1, if_neg hr])
      have CE := Lib.hid (show catV x t a = 0 by unfold catV; rw [AE.out, if_neg hr])
      clear hr hx
      go_wp2_with fail
      go_ret2
      exact ⟨by rw [AE.out, CE.out]; rfl, T1.out.below⟩
  · have FX := Lib.hid (show fitsB x = false by unfold fitsB; rw [decide_eq_false hx])
    have AE := Lib.hid (show askN x t a = 1 by unfold askN; rw [if_neg hx])
    have CE := Lib.hid (show catV x t a = 0 by unfold catV; rw [AE.out, if_neg (by omega)])
    clear hx
    go_enter Try.func125, Try.ntmps125
    go_wp2_with fail
    refine (isNumber_any x _).mono ?_
    rintro e w9 ⟨rfl, hw9⟩
    rw [← hw9, FX.out]
    clear hw9
    go_wp2_with fail
    go_ret2
    exact ⟨by rw [AE.out, CE.out]; rfl, T0.out.below⟩
set_option maxHeartbeats 1000000 in
set_option maxRecDepth 100000 in
theorem freeFor_any (t a : Tr) (x : Int) (A A' : Option Addr) (c c' : Nat) (w : World) (ht : IsT w w.heap.size t A c) (ha : IsT w w.heap.size a A' c') :
    Calls Try.prog 88 #[.agg #[.int .i64 t.k, .int .i64 t.i, .slice A t.ks.length c], .int .i64 x, .agg #[.int .i64 a.k, .int .i64 a.i, .slice A' a.ks.length c']] w fun e w' => e = .returned (.tuple #[.bool (ffB x t a), .int .i64 (askN x t a : Nat)]) ∧ Below w.heap.size w w' := by
  have T0 := Lib.hid (two_start ht ha)
  have b0 := T0.out.b0
  have b1 := T0.out.b1
  have b2 := T0.out.b2
  have d0 := T0.out.d0
  have d1 := T0.out.d1
  have d2 := T0.out.d2
  clear ht ha
  go_enter Try.func88, Try.ntmps88
  go_wp2_with fail
  refine (caught_any t a x A A' c c' _ (by exact T0.out.ta) (by exact T0.out.tb)).mono ?_
  rintro e w1 ⟨rfl, hb1⟩
  have T1 := Lib.hid (T0.out.keep hb1)
  clear hb1 b0 b1 b2 d0 d1 d2
  by_cases hf : askN x t a = 0
  · have h0 : ((askN x t a : Int) == 0) = true := by simp [hf]
    by_cases hc : catV x t a = 0
    · have h1 : ((catV x t a : Int) == 0) = true := by simp [hc]
      have R := Lib.hid (show ffB x t a = true by unfold ffB; rw [decide_eq_true hf, decide_eq_true hc]; rfl)
      clear hf hc
      go_wp2_with fail
      go_ret2
      exact ⟨by rw [R.out]; rfl, T1.out.below⟩
    · have h1 : ((catV x t a : Int) == 0) = false := by rw [beq_eq_false_iff_ne]; omega
      have R := Lib.hid (show ffB x t a = false by unfold ffB; rw [decide_eq_false hc]; simp)
      clear hf hc
      go_wp2_with fail
      go_ret2
      exact ⟨by rw [R.out]; rfl, T1.out.below⟩
  · have h0 : ((askN x t a : Int) == 0) = false := by rw [beq_eq_false_iff_ne]; omega
    have R := Lib.hid (show ffB x t a = false by unfold ffB; rw [decide_eq_false hf]; rfl)
    clear hf
    go_wp2_with fail
    go_ret2
    exact ⟨by rw [R.out]; rfl, T1.out.below⟩
end Go.Proofs.Ytmmdhlemkcddmaa
