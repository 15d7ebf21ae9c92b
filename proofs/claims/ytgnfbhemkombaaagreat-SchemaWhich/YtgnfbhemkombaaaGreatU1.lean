/- The document's within. -/
import Derived.Test.YtgnfbhemkombaaaGreatLY
import Derived.Test.YtgnfbhemkombaaaGreatE17
import Derived.Test.YtgnfbhemkombaaaGreatF1
import Derived.Test.YtgnfbhemkombaaaGreatT17
import Derived.Test.YtgnfbhemkombaaaGreatS2
import Derived.Deep.DeepCutAuto
namespace Go.Proofs.YtgnfbhemkombaaaGreat
open Go.RowKit
set_option linter.unusedVariables false
set_option linter.unusedSimpArgs false
/-- a box of what came -/
def BoxW (w : World) (b : Nat) (x y z u v : Value) : Prop := w.heap[b]? = some (.cells #[x, y, z, u, v] 57 (0, 0))
theorem BoxW.cells {w : World} {b : Nat} {x y z u v : Value} (h : BoxW w b x y z u v) : w.cell? ⟨b, 0, none⟩ = some x ∧ w.cell? ⟨b, 1, none⟩ = some y ∧ w.cell? ⟨b, 2, none⟩ = some z ∧ w.cell? ⟨b, 3, none⟩ = some u ∧ w.cell? ⟨b, 4, none⟩ = some v := by
  unfold BoxW at h
  simp [World.cell?, h]
theorem BoxW.frozen {w : World} {b : Nat} {x y z u v : Value} (h : BoxW w b x y z u v) (o : Nat) : w.frozen? ⟨b, o, none⟩ = false := by
  unfold BoxW at h
  simp [World.frozen?, h]
theorem BoxW.lt {w : World} {b : Nat} {x y z u v : Value} (h : BoxW w b x y z u v) : b < w.heap.size := (Array.getElem?_eq_some_iff.1 h).1
theorem BoxW.keep {w w' : World} {b B : Nat} {x y z u v : Value} (h : BoxW w b x y z u v) (hb : Below B w w') (hB : b < B) : BoxW w' b x y z u v := (hb.block b hB).trans h
theorem BoxW.grown {w w' : World} {b : Nat} {row : Option Nat} {x y z u v : Value} (h : BoxW w b x y z u v) (hg : w.grownBy w' row) (hne : some b ≠ row) : BoxW w' b x y z u v := (hg.block b h.lt hne).trans h
theorem BoxW.set_other {w : World} {b : Nat} {x y z u v : Value} (h : BoxW w b x y z u v) (p : Addr) (q : Value) (hne : b ≠ p.block) : BoxW (w.setCell p q) b x y z u v := (heap_setCell_other w p q b hne).trans h
theorem BoxW.new (w : World) (x y z u v : Value) : BoxW (w.alloc (.cells #[x, y, z, u, v] 57)) w.heap.size x y z u v := by
  show (w.heap.push _)[w.heap.size]? = _
  simp
theorem below_setW {B b : Nat} {w w' : World} (h : Below B w w') (hb : B ≤ b) (x y z u v : Value) : Below B w (((((w'.setCell ⟨b, 0, none⟩ x).setCell ⟨b, 1, none⟩ y).setCell ⟨b, 2, none⟩ z).setCell ⟨b, 3, none⟩ u).setCell ⟨b, 4, none⟩ v) :=
  ((((h.setCell (p := ⟨b, 0, none⟩) hb _).setCell (p := ⟨b, 1, none⟩) hb _).setCell (p := ⟨b, 2, none⟩) hb _).setCell (p := ⟨b, 3, none⟩) hb _).setCell (p := ⟨b, 4, none⟩) hb _
theorem setW_other (w : World) (o k : Nat) (x y z u v : Value) (h : k ≠ o) : (((((w.setCell ⟨o, 0, none⟩ x).setCell ⟨o, 1, none⟩ y).setCell ⟨o, 2, none⟩ z).setCell ⟨o, 3, none⟩ u).setCell ⟨o, 4, none⟩ v).heap[k]? = w.heap[k]? := by
  rw [heap_setCell_other _ _ _ _ h, heap_setCell_other _ _ _ _ h, heap_setCell_other _ _ _ _ h, heap_setCell_other _ _ _ _ h, heap_setCell_other _ _ _ _ h]
def noW : Value := .agg #[.bool false, .int .i64 0, .int .i64 0, .slice none 0 0, .int .i64 0]
def gotW (t : Tr) (A : Option Addr) (c : Nat) : Value := .agg #[.bool true, .int .i64 t.k, .int .i64 t.i, .slice A t.ks.length c, .int .i64 (t.sz : Int)]
/-- what came: a tree, if there is room for it -/
def WinP (w : World) (s : Tr) (room : Nat) (e : Ending) (w' : World) : Prop :=
  Below w.heap.size w w' ∧ if s.sz ≤ room then ∃ A c, e = .returned (gotW s A c) ∧ OwnT w' w.heap.size w'.heap.size s A c else e = .returned noW
theorem win_no {w w' : World} {s : Tr} {room : Nat} (hb : Below w.heap.size w w') (h : ¬ s.sz ≤ room) : WinP w s room (.returned noW) w' := ⟨hb, by rw [if_neg h]⟩
theorem win_box (w : World) (o1 o2 : Obj) : BoxW (((w.alloc o1).alloc o2).alloc (.cells #[.bool false, .int .i64 0, .int .i64 0, .slice none 0 0, .int .i64 0] 57)) (w.heap.size + 2) (.bool false) (.int .i64 0) (.int .i64 0) (.slice none 0 0) (.int .i64 0) := by
  have := BoxW.new ((w.alloc o1).alloc o2) (.bool false) (.int .i64 0) (.int .i64 0) (.slice none 0 0) (.int .i64 0)
  simpa using this
/-- what within holds: two trees, boxed, and the box of the answer -/
structure WK (w W : World) (a : Tr) (A : Option Addr) (c : Nat) (t : Tr) (A' : Option Addr) (c' : Nat) : Prop where
  ab : Box3 W w.heap.size (.int .i64 a.k) (.int .i64 a.i) (.slice A a.ks.length c)
  tb : Box3 W (w.heap.size + 1) (.int .i64 t.k) (.int .i64 t.i) (.slice A' t.ks.length c')
  rb : BoxW W (w.heap.size + 2) (.bool false) (.int .i64 0) (.int .i64 0) (.slice none 0 0) (.int .i64 0)
  ta : IsT W W.heap.size a A c
  tt : IsT W W.heap.size t A' c'
  below : Below w.heap.size w W
theorem WK.keep {w W W' : World} {a : Tr} {A : Option Addr} {c : Nat} {t : Tr} {A' : Option Addr} {c' : Nat} (h : WK w W a A c t A' c') (hb : Below W.heap.size W W') : WK w W' a A c t A' c' :=
  ⟨h.ab.keep hb h.ab.lt, h.tb.keep hb h.tb.lt, h.rb.keep hb h.rb.lt, h.ta.keep hb hb.size, h.tt.keep hb hb.size, h.below.trans (hb.mono h.below.size)⟩
theorem WK.start {w : World} {a : Tr} {A : Option Addr} {c : Nat} {t : Tr} {A' : Option Addr} {c' : Nat} (ha : IsT w w.heap.size a A c) (ht : IsT w w.heap.size t A' c') :
    WK w (((w.alloc (.cells #[.int .i64 a.k, .int .i64 a.i, .slice A a.ks.length c] 24)).alloc (.cells #[.int .i64 t.k, .int .i64 t.i, .slice A' t.ks.length c'] 24)).alloc (.cells #[.bool false, .int .i64 0, .int .i64 0, .slice none 0 0, .int .i64 0] 57)) a A c t A' c' := by
  obtain ⟨e0, e1, hb0⟩ := two_boxes0 w (.int .i64 a.k) (.int .i64 a.i) (.slice A a.ks.length c) (.int .i64 t.k) (.int .i64 t.i) (.slice A' t.ks.length c')
  have hb := below_alloc ((w.alloc (.cells #[.int .i64 a.k, .int .i64 a.i, .slice A a.ks.length c] 24)).alloc (.cells #[.int .i64 t.k, .int .i64 t.i, .slice A' t.ks.length c'] 24)) (.cells #[.bool false, .int .i64 0, .int .i64 0, .slice none 0 0, .int .i64 0] 57)
  exact ⟨e0.keep hb e0.lt, e1.keep hb e1.lt, win_box w _ _, (ha.keep hb0 hb0.size).keep hb hb.size, (ht.keep hb0 hb0.size).keep hb hb.size, hb0.trans (hb.mono hb0.size)⟩
theorem win_got {w w' : World} {s : Tr} {room : Nat} {A : Option Addr} {c lo : Nat} (hb : Below w.heap.size w w') (ho : OwnT w' lo w'.heap.size s A c) (hlo : w.heap.size + 2 < lo) (h : s.sz ≤ room) :
    WinP w s room (.returned (gotW s A c)) (((((w'.setCell ⟨w.heap.size + 2, 0, none⟩ (.bool true)).setCell ⟨w.heap.size + 2, 1, none⟩ (.int .i64 s.k)).setCell ⟨w.heap.size + 2, 2, none⟩ (.int .i64 s.i)).setCell ⟨w.heap.size + 2, 3, none⟩ (.slice A s.ks.length c)).setCell ⟨w.heap.size + 2, 4, none⟩ (.int .i64 (s.sz : Int))) := by
  refine ⟨below_setW hb (by omega) _ _ _ _ _, ?_⟩
  rw [if_pos h]
  refine ⟨A, c, rfl, ?_⟩
  have hs : SameIn lo w'.heap.size w' (((((w'.setCell ⟨w.heap.size + 2, 0, none⟩ (.bool true)).setCell ⟨w.heap.size + 2, 1, none⟩ (.int .i64 s.k)).setCell ⟨w.heap.size + 2, 2, none⟩ (.int .i64 s.i)).setCell ⟨w.heap.size + 2, 3, none⟩ (.slice A s.ks.length c)).setCell ⟨w.heap.size + 2, 4, none⟩ (.int .i64 (s.sz : Int))) := fun k k1 k2 => setW_other _ _ _ _ _ _ _ _ (by omega)
  have := (OwnT.same _ hs ho).lower (lo' := w.heap.size) (by omega)
  simpa using this
set_option maxHeartbeats 8000000 in
set_option maxRecDepth 100000 in
theorem within_any (x : Int) (x0 : 0 ≤ x) (x1 : x ≤ 63) (t : Tr) (A' : Option Addr) (c' : Nat) (hts : t.sz ≤ 1000) : ∀ (N : Nat) (a : Tr) (A : Option Addr) (c room : Nat) (w : World), a.sz ≤ N → a.sz ≤ 1000 → room ≤ 1000 → IsT w w.heap.size a A c → IsT w w.heap.size t A' c' →
    Calls Tryz.prog 96 #[.agg #[.int .i64 a.k, .int .i64 a.i, .slice A a.ks.length c], .int .i64 x, .agg #[.int .i64 t.k, .int .i64 t.i, .slice A' t.ks.length c'], .int .i64 (room : Int)] w (WinP w (putX x t a) room) := by
  intro N
  induction N with
  | zero => intro a A c room w h; have := sz_pos a; omega
  | succ N ih =>
    intro a A c room w hN hsz hroom ha ht
    have IH := Lib.hid ih
    have K0 := Lib.hid (WK.start ha ht)
    have hl := ha.len
    have sp := sz_pos (putX x t a)
    clear ih ha ht
    obtain ⟨r0, r1, r2, r3, r4⟩ := K0.out.rb.cells
    obtain ⟨a0, a1, a2⟩ := K0.out.ab.cells
    obtain ⟨t0, t1, t2⟩ := K0.out.tb.cells
    have f0 := K0.out.rb.frozen 0
    have f1 := K0.out.rb.frozen 1
    have f2 := K0.out.rb.frozen 2
    have f3 := K0.out.rb.frozen 3
    have f4 := K0.out.rb.frozen 4
    by_cases hr : room < 1
    · have hr' : (room : Int) < 1 := by omega
      have NO := Lib.hid (show ¬ (putX x t a).sz ≤ room by omega)
      go_enter Tryz.func96, Tryz.ntmps96
      go_wp2_with fail
      exact bodyPost_ret (v := noW) (by simp [noW, results, Tryz.results96, go_sem, r0, r1, r2, r3, r4]) rfl (win_no K0.out.below NO.out)
    · have hr' : ¬ (room : Int) < 1 := by omega
      clear t0 t1 t2 r0 r1 r2 r3 r4 f0 f1 f2 f3 f4
      go_enter Tryz.func96, Tryz.ntmps96
      go_upto_region 3 with fail
      go_cut [27] (fun v wc => v = .bool (decide (a.k = 1 ∧ a.i = x)) ∧ WK w wc a A c t A' c')
      case first =>
        by_cases hk : a.k = 1
        · have hv1 : (a.k == 1) = true := by simp [hk]
          by_cases hi : a.i = x
          · have hv2 : (a.i == x) = true := by simp [hi]
            have D := Lib.hid (decide_eq_true (show a.k = 1 ∧ a.i = x from ⟨hk, hi⟩))
            clear hk hi
            go_wp2_with fail
            go_meet
            exact ⟨by rw [D.out], K0.out⟩
          · have hv2 : (a.i == x) = false := by simpa using hi
            have D := Lib.hid (decide_eq_false (show ¬ (a.k = 1 ∧ a.i = x) from fun h => hi h.2))
            clear hk hi
            go_wp2_with fail
            go_meet
            exact ⟨by rw [D.out], K0.out⟩
        · have hv1 : (a.k == 1) = false := by simpa using hk
          have D := Lib.hid (decide_eq_false (show ¬ (a.k = 1 ∧ a.i = x) from fun h => hk h.1))
          clear hk
          go_wp2_with fail
          go_meet
          exact ⟨by rw [D.out], K0.out⟩
      case rest =>
        obtain ⟨rfl, hK⟩ := hcut
        have K1 := Lib.hid hK
        clear hK K0 a0 a1 a2
        by_cases hv : a.k = 1 ∧ a.i = x
        · rw [decide_eq_true hv]
          have P := Lib.hid (putX_var (u := t) hv.1 hv.2)
          clear hv
          have MS := Lib.hid (show min t.sz 1001 = t.sz by omega)
          obtain ⟨s0, s1, s2⟩ := K1.out.tb.cells
          go_wp2_with fail
          refine (rsize_any t A' c' _ (by exact K1.out.tt)).mono ?_
          rintro e w4 ⟨rfl, hb4⟩
          rw [MS.out]
          have K4 := Lib.hid (K1.out.keep hb4)
          clear hb4 s0 s1 s2
          obtain ⟨s0, s1, s2⟩ := K4.out.tb.cells
          obtain ⟨r0, r1, r2, r3, r4⟩ := K4.out.rb.cells
          have f0 := K4.out.rb.frozen 0
          have f1 := K4.out.rb.frozen 1
          have f2 := K4.out.rb.frozen 2
          have f3 := K4.out.rb.frozen 3
          have f4 := K4.out.rb.frozen 4
          have hlt4 := K4.out.rb.lt
          by_cases hfit : t.sz ≤ room
          · have hf' : ¬ (room : Int) < (t.sz : Int) := by omega
            go_wp2_with fail
            refine (copy_any t.sz t A' c' _ (Nat.le_refl _) (by exact K4.out.tt)).mono ?_
            rintro e w5 ⟨A2, c2, rfl, ho, hb5⟩
            have K5 := Lib.hid (K4.out.keep hb5)
            have HO := Lib.hid ho
            clear hb5 ho r0 r1 r2 r3 r4 f0 f1 f2 f3 f4 s0 s1 s2
            obtain ⟨r0, r1, r2, r3, r4⟩ := K5.out.rb.cells
            have f0 := K5.out.rb.frozen 0
            have f1 := K5.out.rb.frozen 1
            have f2 := K5.out.rb.frozen 2
            have f3 := K5.out.rb.frozen 3
            have f4 := K5.out.rb.frozen 4
            go_wp2_with fail
            refine bodyPost_ret (v := gotW t A2 c2) (by simp [gotW, results, Tryz.results96, go_sem, r0, r1, r2, r3, r4]) rfl ?_
            rw [P.out]
            exact win_got K5.out.below HO.out (by omega) hfit
          · have hf' : (room : Int) < (t.sz : Int) := by omega
            go_wp2_with fail
            refine bodyPost_ret (v := noW) (by simp [noW, results, Tryz.results96, go_sem, r0, r1, r2, r3, r4]) rfl ?_
            rw [P.out]
            exact win_no (below_setW K4.out.below (by omega) _ _ _ _ _) hfit
        · rw [decide_eq_false hv]
          obtain ⟨a0, a1, a2⟩ := K1.out.ab.cells
          go_upto_region 8 with fail
          go_cut [45] (fun v wc => v = .bool (decide ((a.k = 7 ∨ a.k = 10) ∧ a.i = x)) ∧ WK w wc a A c t A' c')
          case first =>
            go_wp2_with fail
            refine (rquantified_any a.k a.i A a.ks.length c _).mono ?_
            rintro e w2 ⟨rfl, hb2⟩
            have K2 := Lib.hid (K1.out.keep hb2)
            clear hb2 K1 a0 a1 a2
            obtain ⟨a0, a1, a2⟩ := K2.out.ab.cells
            by_cases hk : a.k = 7 ∨ a.k = 10
            · rw [decide_eq_true hk]
              by_cases hi : a.i = x
              · have hv2 : (a.i == x) = true := by simp [hi]
                have D := Lib.hid (decide_eq_true (show (a.k = 7 ∨ a.k = 10) ∧ a.i = x from ⟨hk, hi⟩))
                clear hk hi
                go_wp2_with fail
                go_meet
                exact ⟨by rw [D.out], K2.out⟩
              · have hv2 : (a.i == x) = false := by simpa using hi
                have D := Lib.hid (decide_eq_false (show ¬ ((a.k = 7 ∨ a.k = 10) ∧ a.i = x) from fun h => hi h.2))
                clear hk hi
                go_wp2_with fail
                go_meet
                exact ⟨by rw [D.out], K2.out⟩
            · rw [decide_eq_false hk]
              have D := Lib.hid (decide_eq_false (show ¬ ((a.k = 7 ∨ a.k = 10) ∧ a.i = x) from fun h => hk h.1))
              clear hk
              go_wp2_with fail
              go_meet
              exact ⟨by rw [D.out], K2.out⟩
          case rest =>
            obtain ⟨rfl, hK⟩ := hcut
            have K2 := Lib.hid hK
            clear hK K1 a0 a1 a2
            by_cases hq : (a.k = 7 ∨ a.k = 10) ∧ a.i = x
            · rw [decide_eq_true hq]
              have P := Lib.hid (putX_quant (u := t) x0 x1 hq.1 hq.2)
              clear hq
              have MS := Lib.hid (show min a.sz 1001 = a.sz by omega)
              obtain ⟨s0, s1, s2⟩ := K2.out.ab.cells
              go_wp2_with fail
              refine (rsize_any a A c _ (by exact K2.out.ta)).mono ?_
              rintro e w4 ⟨rfl, hb4⟩
              rw [MS.out]
              have K4 := Lib.hid (K2.out.keep hb4)
              clear hb4 s0 s1 s2
              obtain ⟨s0, s1, s2⟩ := K4.out.ab.cells
              obtain ⟨r0, r1, r2, r3, r4⟩ := K4.out.rb.cells
              have f0 := K4.out.rb.frozen 0
              have f1 := K4.out.rb.frozen 1
              have f2 := K4.out.rb.frozen 2
              have f3 := K4.out.rb.frozen 3
              have f4 := K4.out.rb.frozen 4
              have hlt4 := K4.out.rb.lt
              by_cases hfit : a.sz ≤ room
              · have hf' : ¬ (room : Int) < (a.sz : Int) := by omega
                go_wp2_with fail
                refine (copy_any a.sz a A c _ (Nat.le_refl _) (by exact K4.out.ta)).mono ?_
                rintro e w5 ⟨A2, c2, rfl, ho, hb5⟩
                have K5 := Lib.hid (K4.out.keep hb5)
                have HO := Lib.hid ho
                clear hb5 ho r0 r1 r2 r3 r4 f0 f1 f2 f3 f4 s0 s1 s2
                obtain ⟨r0, r1, r2, r3, r4⟩ := K5.out.rb.cells
                have f0 := K5.out.rb.frozen 0
                have f1 := K5.out.rb.frozen 1
                have f2 := K5.out.rb.frozen 2
                have f3 := K5.out.rb.frozen 3
                have f4 := K5.out.rb.frozen 4
                go_wp2_with fail
                refine bodyPost_ret (v := gotW a A2 c2) (by simp [gotW, results, Tryz.results96, go_sem, r0, r1, r2, r3, r4]) rfl ?_
                rw [P.out]
                exact win_got K5.out.below HO.out (by omega) hfit
              · have hf' : (room : Int) < (a.sz : Int) := by omega
                go_wp2_with fail
                refine bodyPost_ret (v := noW) (by simp [noW, results, Tryz.results96, go_sem, r0, r1, r2, r3, r4]) rfl ?_
                rw [P.out]
                exact win_no (below_setW K4.out.below (by omega) _ _ _ _ _) hfit
            · rw [decide_eq_false hq]
              have F := Lib.hid (putX_else (u := t) hv hq)
              clear hv hq
              obtain ⟨a0, a1, a2⟩ := K2.out.ab.cells
              have y2 : ∀ o, (wc.alloc o).cell? ⟨w.heap.size, 2, none⟩ = some (.slice A a.ks.length c) := fun o => (K2.out.ab.keep (below_alloc wc o) K2.out.ab.lt).cells.2.2
              obtain ⟨ts, hts0⟩ : ∃ ts, ts = a.ks.map (putX x t) := ⟨_, rfl⟩
              have HTS := Lib.hid hts0
              have hlen : ts.length = a.ks.length := by rw [hts0, List.length_map]
              rw [← hts0] at F
              clear hts0
              have FS := Lib.hid (show (putX x t a).sz = 1 + szL ts by rw [F.out]; simp [Tr.sz])
              obtain ⟨i0, hi, hz0, hz1, hz2⟩ := info_parts infoE
              have HI := Lib.hid (And.intro hi (And.intro hz0 (And.intro hz1 hz2)))
              clear hi hz0 hz1 hz2
              have BC := Lib.hid (Box3.new wc (.int .i64 a.k) (.int .i64 a.i) (.slice none 0 0))
              have hwc : w.heap.size + 2 < wc.heap.size := K2.out.rb.lt
              have hb2 := K2.out.below
              go_wp2_with fail
              go_loopw [12, 64] (fun nv i wr => ∃ (m : Nat) (A1 : Option Addr) (c1 : Nat) (cs : List (Option Addr × Nat)), m ≤ a.ks.length ∧ i = .int .i64 m ∧ nv = .int .i64 ((1 + szL (ts.take m) : Nat) : Int) ∧ 1 + szL (ts.take m) ≤ room ∧ Lay w wr w.heap.size (wc.heap.size + 1) wc.heap.size (.int .i64 a.k) (.int .i64 a.i) (ts.take m) A1 c1 cs ∧ Below wc.heap.size wc wr) (fun _ i _ => a.ks.length - (intOf i).toNat)
              case atStart => exact ⟨0, none, 0, [], Nat.zero_le _, rfl, rfl, by simp [szL]; omega, ⟨hb2.trans ((below_alloc wc _).mono hb2.size), rfl, by simpa using BC.out, by omega, by omega, by simpa [rowC] using World.ownsRow_nil _ _ _ _, by simp [OwnL]⟩, below_alloc wc _⟩
              case round =>
                obtain ⟨m, A1, c1, cs, hm', rfl, rfl, hnr, hL, hb⟩ := hrel
                have HL := Lib.hid hL
                have HBW := Lib.hid hb
                have hwr := hb.size
                have KR := Lib.hid (K2.out.keep hb)
                obtain ⟨n, hn⟩ : ∃ n, n = 1 + szL (ts.take m) := ⟨_, rfl⟩
                rw [← hn] at hnr ⊢
                have HN := Lib.hid hn
                clear hL hb hn a0 a1 a2 y2
                by_cases hlt : m < a.ks.length
                · obtain ⟨b, o, Aq, cq, rfl, hlt', p0, p1, p2, hk⟩ := KR.out.ta.kid m hlt
                  have kz := kid_sz a m hlt
                  have hm1 : m < ts.length := by omega
                  have tl : (ts.take m).length = m := by rw [List.length_take]; omega
                  have NT := Lib.hid (show ts.take (m + 1) = ts.take m ++ [putX x t a.ks[m]] by rw [List.take_succ_eq_append_getElem hm1]; congr 2; simp [HTS.out])
                  obtain ⟨q, hq⟩ : ∃ q, q = a.ks[m] := ⟨_, rfl⟩
                  rw [← hq] at p0 p1 p2 hk kz NT
                  obtain ⟨q', hq'⟩ : ∃ q', q' = putX x t q := ⟨_, rfl⟩
                  rw [← hq'] at NT
                  have SZ := Lib.hid (show szL (ts.take (m + 1)) = szL (ts.take m) + q'.sz by rw [NT.out, szL_append]; simp [szL])
                  have SLE := Lib.hid (szL_take_le ts (m + 1))
                  have NX := Lib.hid (show n + q'.sz = 1 + szL (ts.take (m + 1)) by rw [SZ.out, HN.out]; omega)
                  have ha := below_alloc wr (.cells #[.int .i64 q.k, .int .i64 q.i, .slice Aq q.ks.length cq] 24)
                  have KA := Lib.hid (KR.out.keep ha)
                  have IHQ := Lib.hid (IH.out q Aq cq (room - n) _ (by omega) (by omega) (by omega) (hk.keep ha ha.size) KA.out.tt)
                  rw [← hq'] at IHQ
                  have wr1 : IntKind.i64.wrap ((room : Int) - (n : Int)) = ((room - n : Nat) : Int) := by rw [IntKind.wrap_i64]; omega
                  have wr2 : (room : Int) - (n : Int) = ((room - n : Nat) : Int) := by omega
                  obtain ⟨t0, t1, t2⟩ := KA.out.tb.cells
                  have HLl := HL.out.own.lt
                  have STEP := Lib.hid (fun wa wx w4 => @Lay.stepG w wr wa wx w4 _ _ _ _ _ _ q' _ _ _ HL.out)
                  have OWN := Lib.hid (fun (W : World) (h : Below wr.heap.size wr W) => ownsRow_same (hi := wr.heap.size) (w' := W) HL.out.own (fun k k1 k2 => h.block k k2) (fun g e => (HL.out.own.lt g e).2))
                  have BXW := Lib.hid (fun (W : World) (h : Below wr.heap.size wr W) => HL.out.box.keep h HL.out.box.lt)
                  have HLT := Lib.hid HLl
                  have hbl2 : wc.heap.size < wr.heap.size := HL.out.box.lt
                  rw [tl] at STEP OWN BXW HLT
                  have NBL := Lib.hid (fun (W w4 : World) (g cap : Nat) (h : Below wr.heap.size wr W) (hg4 : W.grownBy w4 (Value.slice A1 m c1).ownBlock) => (by
                    have hz3 := h.size
                    refine HBW.out.trans ((h.mono hwr).trans ?_)
                    refine Below.setCell (B := wc.heap.size) (p := ⟨wc.heap.size, 2, none⟩) ?_ (by show wc.heap.size ≤ wc.heap.size; omega) _
                    exact ⟨hg4.os, hg4.tape, hg4.output, hg4.size, fun k hk => hg4.block k (by omega) (fun e => by have := HLT.out _ e.symm; omega)⟩ : Below wc.heap.size wc (w4.setCell ⟨wc.heap.size, 2, none⟩ (.slice (some ⟨g, 0, none⟩) (m + 1) cap))))
                  have hal := Lib.hid ha
                  clear hk hq hq' ha HLl
                  go_wp2_with fail
                  refine IHQ.out.mono ?_
                  rintro e w5 ⟨hb5, hres⟩
                  have KW := Lib.hid (KA.out.keep hb5)
                  have BW := Lib.hid (hal.out.trans (hb5.mono hal.out.size))
                  have hz5 := hb5.size
                  simp only [World.size_alloc] at hz5
                  clear hb5 t0 t1 t2 p0 p1 p2
                  by_cases hfit : q'.sz ≤ room - n
                  · rw [if_pos hfit] at hres
                    obtain ⟨A2, c2, rfl, ho⟩ := hres
                    have HO := Lib.hid (ho.lower (lo' := wr.heap.size) (by simp))
                    have wr3 : IntKind.i64.wrap ((n : Int) + (q'.sz : Int)) = (n : Int) + (q'.sz : Int) := by rw [IntKind.wrap_i64]; omega
                    have bx : ∀ o, (w5.alloc o).cell? ⟨wc.heap.size, 2, none⟩ = some (.slice A1 m c1) := fun o => (BXW.out _ (BW.out.trans ((below_alloc w5 o).mono BW.out.size))).cells.2.2
                    have B2 := Lib.hid (fun o o' => ((below_alloc w5 o).trans ((below_alloc (w5.alloc o) o').mono (below_alloc w5 o).size)))
                    clear ho
                    unfold gotW
                    go_wp2_with (at_builtin; refine wpList_append_lies _ (by rfl) _ _ _ (by rfl) (wc.heap.size + 1) 24 i0 _ 3 40 Tryz.underlying22 HI.out.1 HI.out.2.1 HI.out.2.2.1 HI.out.2.2.2 (by rfl) (by omega) (.slice A1 m c1) m (rowC (ts.take m) cs) (by rfl) (by exact OWN.out _ (BW.out.trans ((B2.out _ _).mono BW.out.size))) ⟨w5.heap.size + 1, 0, none⟩ 1 1 [.int .i64 q'.k, .int .i64 q'.i, .slice A2 q'.ks.length c2] (by rfl) (by rfl) (by exact news3 _ _ _ _ _ _) (by simp [Value.oneCell']) (by omega) (by unfold maxLen; omega) (by omega) (by simp; omega) (w5.heap.size + 2) (by simp) ?_; intro g cap w4 hown4 hgrow hat hlt4; have B4 := Lib.hid ((BXW.out _ (BW.out.trans ((B2.out _ _).mono BW.out.size))).grown hgrow (fun e => by have := HLT.out _ e.symm; omega)); have c4 := B4.out.cells.2.2; have f4 := B4.out.frozen 2; have W4 := Lib.hid (BoxW.grown (((BoxW.new w5 (.bool true) (.int .i64 q'.k) (.int .i64 q'.i) (.slice A2 q'.ks.length c2) (.int .i64 (q'.sz : Int))).keep (below_alloc (w5.alloc (.cells #[.bool true, .int .i64 q'.k, .int .i64 q'.i, .slice A2 q'.ks.length c2, .int .i64 (q'.sz : Int)] 57)) _) (by simp))) hgrow (fun e => by have := HLT.out _ e.symm; omega)); have v4 := ((W4.out.set_other ⟨wc.heap.size, 2, none⟩ (.slice (some ⟨g, 0, none⟩) (m + 1) cap) (by show w5.heap.size ≠ wc.heap.size; omega)).cells).2.2.2.2; have HO4 := Lib.hid hown4; have HG4 := Lib.hid hgrow; have HAT := Lib.hid hat; clear hown4 hgrow hat)
                    have NL := Lib.hid (STEP.out w5 _ w4 BW.out HO.out (B2.out _ _) HO4.out HG4.out (by simpa using HAT.out))
                    have NB := Lib.hid (NBL.out _ w4 g cap (BW.out.trans ((B2.out _ _).mono BW.out.size)) HG4.out)
                    go_roundw
                    case rel => exact ⟨m + 1, _, _, _, by omega, by go_num, by rw [← NX.out]; first | rfl | simp, by rw [← NX.out]; omega, by rw [NT.out]; exact NL.out, NB.out⟩
                    case measure => simp [intOf]; omega
                  · rw [if_neg hfit] at hres
                    obtain rfl := hres
                    have NO := Lib.hid (show ¬ (putX x t a).sz ≤ room by rw [FS.out]; have := SZ.out; have := SLE.out; have := HN.out; omega)
                    have KW2 := Lib.hid (fun o => KW.out.keep (below_alloc w5 o))
                    have r0 := fun o => (KW2.out o).rb.cells.1
                    have r1 := fun o => (KW2.out o).rb.cells.2.1
                    have r2 := fun o => (KW2.out o).rb.cells.2.2.1
                    have r3 := fun o => (KW2.out o).rb.cells.2.2.2.1
                    have r4 := fun o => (KW2.out o).rb.cells.2.2.2.2
                    have f0 := fun o => (KW2.out o).rb.frozen 0
                    have f1 := fun o => (KW2.out o).rb.frozen 1
                    have f2 := fun o => (KW2.out o).rb.frozen 2
                    have f3 := fun o => (KW2.out o).rb.frozen 3
                    have f4 := fun o => (KW2.out o).rb.frozen 4
                    unfold noW
                    go_wp2_with fail
                    exact bodyPost_ret (v := noW) (by simp [noW, results, Tryz.results96, go_sem, r0, r1, r2, r3, r4]) rfl (win_no (below_setW (KW2.out _).below (by omega) _ _ _ _ _) NO.out)
                · obtain rfl : m = a.ks.length := by omega
                  have tl : ts.take a.ks.length = ts := by rw [← hlen, List.take_length]
                  rw [tl] at HL HN
                  have DONE := Lib.hid (Lay.done (t := .node a.k a.i ts) HL.out)
                  have bxx := HL.out.box
                  rw [hlen] at bxx
                  obtain ⟨z0, z1, z2⟩ := bxx.cells
                  obtain ⟨r0, r1, r2, r3, r4⟩ := KR.out.rb.cells
                  have f0 := KR.out.rb.frozen 0
                  have f1 := KR.out.rb.frozen 1
                  have f2 := KR.out.rb.frozen 2
                  have f3 := KR.out.rb.frozen 3
                  have f4 := KR.out.rb.frozen 4
                  have NE := Lib.hid (show n = (Tr.node a.k a.i ts).sz by rw [HN.out]; simp [Tr.sz])
                  clear bxx
                  go_wp2_with fail
                  refine bodyPost_ret (v := .agg #[.bool true, .int .i64 a.k, .int .i64 a.i, .slice A1 a.ks.length c1, .int .i64 (n : Int)]) (by simp [results, Tryz.results96, go_sem, r0, r1, r2, r3, r4]) rfl ?_
                  rw [F.out]
                  have := win_got (s := .node a.k a.i ts) (room := room) KR.out.below DONE.out (by omega) (by rw [← NE.out]; exact hnr)
                  unfold gotW at this
                  rw [← NE.out] at this
                  simp only [node_k, node_i, node_ks, hlen] at this
                  exact this
end Go.Proofs.YtgnfbhemkombaaaGreat
