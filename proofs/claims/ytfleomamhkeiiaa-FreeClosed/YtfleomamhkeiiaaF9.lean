/- The document's Close (layer 4). -/
import Derived.Test.YtfleomamhkeiiaaF4
import Derived.Test.YtfleomamhkeiiaaE25
import Derived.Test.YtfleomamhkeiiaaBX
import Derived.Test.YtfleomamhkeiiaaT15
namespace Go.Proofs.Ytfleomamhkeiiaa
open Go.RowKit
set_option linter.unusedVariables false
set_option linter.unusedSimpArgs false
/-- what Close answers: the tree, the error -/
def closeA (t : Tr) : Tr × Nat := if wantFN t = 0 then (if rightN (closeT t) = 0 then (closeT t, 0) else (zeroT, rightN (closeT t))) else (zeroT, wantFN t)
/-- a tree behind quantifiers: its own memory, then one row for each quantifier, none of them the block b -/
def Chain (W : World) (b g lo hi : Nat) (t : Tr) : List Nat → Option Addr → Nat → Prop
  | [], A, c => OwnT W lo hi t A c
  | _ :: l, A, c => ∃ r A2 c2, A = some ⟨r, 0, none⟩ ∧ c = 1 ∧ r ≠ b ∧ g ≤ r ∧ W.heap[r]? = some (.cells #[.int .i64 (closeL l t).k, .int .i64 (closeL l t).i, .slice A2 (closeL l t).ks.length c2] 24 (0, 0)) ∧ Chain W b g lo hi t l A2 c2
theorem Chain.same {W W' : World} {b g lo hi : Nat} {t : Tr} (hs : ∀ k, g ≤ k → k < W.heap.size → k ≠ b → W'.heap[k]? = W.heap[k]?) (hg : g ≤ lo) (hh : hi ≤ b) (hz : hi ≤ W.heap.size) : ∀ {l : List Nat} {A : Option Addr} {c : Nat}, Chain W b g lo hi t l A c → Chain W' b g lo hi t l A c := by
  intro l
  induction l with
  | nil => intro A c h; exact OwnT.same t (fun k k1 k2 => hs k (by omega) (by omega) (by omega)) h
  | cons x l ih =>
    rintro A c ⟨r, A2, c2, rfl, rfl, h1, h2, h3, h4⟩
    have hr : r < W.heap.size := (Array.getElem?_eq_some_iff.1 h3).1
    exact ⟨r, A2, c2, rfl, rfl, h1, h2, (hs r h2 hr h1).trans h3, ih h4⟩
theorem Chain.isT {W : World} {b g lo hi : Nat} {t : Tr} (hz : hi ≤ W.heap.size) (hf : t.fit) : ∀ {l : List Nat} {A : Option Addr} {c : Nat}, Chain W b g lo hi t l A c → IsT W W.heap.size (closeL l t) A c := by
  intro l
  induction l with
  | nil => intro A c h; exact OwnT.isT t h hz hf
  | cons x l ih =>
    rintro A c ⟨r, A2, c2, rfl, rfl, h1, h2, h3, h4⟩
    exact isT_one1 h3 (ih h4)
theorem Chain.keep {W W' : World} {b g lo hi : Nat} {t : Tr} (hb : Below W.heap.size W W') (hg : g ≤ lo) (hh : hi ≤ b) (hz : hi ≤ W.heap.size) {l : List Nat} {A : Option Addr} {c : Nat} (h : Chain W b g lo hi t l A c) : Chain W' b g lo hi t l A c :=
  h.same (fun k _ k2 _ => hb.block k k2) hg hh hz
/-- the variables that are met in m rounds -/
def lst (s m : Nat) : List Nat := (List.range' (64 - m) m).filter s.testBit
theorem lst_zero (s : Nat) : lst s 0 = [] := rfl
theorem lst_all (s : Nat) : lst s 64 = listN s := by unfold lst listN listTo; rw [List.range_eq_range']
theorem lst_succ (s m : Nat) (h : m < 64) : lst s (m + 1) = if s.testBit (63 - m) then (63 - m) :: lst s m else lst s m := by
  unfold lst
  rw [List.range'_succ, show 64 - (m + 1) = 63 - m by omega, show 63 - m + 1 = 64 - m by omega, List.filter_cons]
/-- the tree handed in and the answer's box -/
structure CS (w wr : World) (t : Tr) (A : Option Addr) (c : Nat) : Prop where
  box : Box3 wr w.heap.size (.int .i64 t.k) (.int .i64 t.i) (.slice A t.ks.length c)
  res : Box3 wr (w.heap.size + 1) (.int .i64 0) (.int .i64 0) (.slice none 0 0)
  src : IsT w w.heap.size t A c
  below : Below w.heap.size w wr
theorem CS.tree {w wr : World} {t : Tr} {A : Option Addr} {c : Nat} (h : CS w wr t A c) : IsT wr wr.heap.size t A c := h.src.keep h.below h.below.size
theorem CS.size {w wr : World} {t : Tr} {A : Option Addr} {c : Nat} (h : CS w wr t A c) : w.heap.size + 2 ≤ wr.heap.size := by have := h.res.lt; omega
theorem CS.new {w : World} {t : Tr} {A : Option Addr} {c : Nat} (ht : IsT w w.heap.size t A c) : CS w ((w.alloc (.cells #[.int .i64 t.k, .int .i64 t.i, .slice A t.ks.length c] 24)).alloc (.cells #[.int .i64 0, .int .i64 0, .slice none 0 0] 24)) t A c := by
  obtain ⟨e0, e1, hb0⟩ := two_boxes0 w (.int .i64 t.k) (.int .i64 t.i) (.slice A t.ks.length c) (.int .i64 0) (.int .i64 0) (.slice none 0 0)
  exact ⟨e0, e1, ht, hb0⟩
theorem CS.keep {w wr w1 : World} {t : Tr} {A : Option Addr} {c : Nat} (h : CS w wr t A c) (hb : Below wr.heap.size wr w1) : CS w w1 t A c :=
  ⟨h.box.keep hb h.box.lt, h.res.keep hb h.res.lt, h.src, h.below.trans (hb.mono h.below.size)⟩
theorem CS.set3 {w wr : World} {t : Tr} {A : Option Addr} {c b : Nat} (h : CS w wr t A c) (hb : w.heap.size + 2 ≤ b) (x y z : Value) : CS w (((wr.setCell ⟨b, 0, none⟩ x).setCell ⟨b, 1, none⟩ y).setCell ⟨b, 2, none⟩ z) t A c :=
  ⟨h.box.set3_other (by omega) x y z, h.res.set3_other (by omega) x y z, h.src, below_set3 h.below x y z (by omega)⟩
/-- one quantifier more -/
theorem clo_step {w W : World} {t : Tr} {A : Option Addr} {c b lo hi : Nat} {x : Nat} {xi : Int} {l : List Nat} {A' : Option Addr} {c' : Nat} {u v y : Value} (hx : xi = (x : Int)) (hC : CS w W t A c) (hB : Box3 W b u v y) (hH : Chain W b (w.heap.size + 2) lo hi t l A' c') (hb : w.heap.size + 2 ≤ b) (hg : w.heap.size + 2 ≤ lo) (hh : hi ≤ b) :
    CS w ((((W.alloc (.cells #[.int .i64 (closeL l t).k, .int .i64 (closeL l t).i, .slice A' (closeL l t).ks.length c'] 24)).setCell ⟨b, 0, none⟩ (.int .i64 7)).setCell ⟨b, 1, none⟩ (.int .i64 xi)).setCell ⟨b, 2, none⟩ (.slice (some ⟨W.heap.size, 0, none⟩) 1 1)) t A c ∧
    Box3 ((((W.alloc (.cells #[.int .i64 (closeL l t).k, .int .i64 (closeL l t).i, .slice A' (closeL l t).ks.length c'] 24)).setCell ⟨b, 0, none⟩ (.int .i64 7)).setCell ⟨b, 1, none⟩ (.int .i64 xi)).setCell ⟨b, 2, none⟩ (.slice (some ⟨W.heap.size, 0, none⟩) 1 1)) b (.int .i64 (closeL (x :: l) t).k) (.int .i64 (closeL (x :: l) t).i) (.slice (some ⟨W.heap.size, 0, none⟩) (closeL (x :: l) t).ks.length 1) ∧
    Chain ((((W.alloc (.cells #[.int .i64 (closeL l t).k, .int .i64 (closeL l t).i, .slice A' (closeL l t).ks.length c'] 24)).setCell ⟨b, 0, none⟩ (.int .i64 7)).setCell ⟨b, 1, none⟩ (.int .i64 xi)).setCell ⟨b, 2, none⟩ (.slice (some ⟨W.heap.size, 0, none⟩) 1 1)) b (w.heap.size + 2) lo hi t (x :: l) (some ⟨W.heap.size, 0, none⟩) 1 := by
  subst hx
  have hlt := hB.lt
  have hs := hC.size
  refine ⟨(hC.keep (alB W _)).set3 hb _ _ _, (hB.keep (alB W _) hB.lt).setall _ _ _, W.heap.size, A', c', rfl, rfl, by omega, hs, set3a_new W _ _ _ _ (by omega), ?_⟩
  exact hH.same (fun k _ k2 k3 => set3a_far W _ _ _ _ k2 k3) hg hh (by omega)
/-- an answer: a tree that can be read, and a fault -/
def CloPost (w : World) (x : Tr × Nat) (e : Ending) (w' : World) : Prop :=
  Below w.heap.size w w' ∧ ∃ A' c', IsT w' w'.heap.size x.1 A' c' ∧ e = .returned (.tuple #[.agg #[.int .i64 x.1.k, .int .i64 x.1.i, .slice A' x.1.ks.length c'], .int .i64 ((x.2 : Nat) : Int)])
theorem read_zero {w wr : World} {x : Tr × Nat} {f b : Nat} (hd : x = (zeroT, f)) (hbr : Below w.heap.size w wr) (hb : w.heap.size ≤ b) :
    CloPost w x (.returned (.tuple #[.agg #[.int .i64 0, .int .i64 0, .slice none 0 0], .int .i64 ((f : Nat) : Int)])) (((wr.setCell ⟨b, 0, none⟩ (.int .i64 0)).setCell ⟨b, 1, none⟩ (.int .i64 0)).setCell ⟨b, 2, none⟩ (.slice none 0 0)) := by
  subst hd
  exact ⟨below_set3 hbr _ _ _ hb, none, 0, IsT.mk (Nat.le_refl _) (by simp [zeroT, Tr.ks, Cap]) (fun m hm => absurd hm (Nat.not_lt_zero _)), rfl⟩
theorem read_chain {w wr : World} {x : Tr × Nat} {t : Tr} {A : Option Addr} {c b lo hi : Nat} {A' : Option Addr} {c' : Nat} (hd : x = (closeT t, 0)) (hC : CS w wr t A c) (hH : Chain wr b (w.heap.size + 2) lo hi t (listN (freeT t)) A' c') (hg : w.heap.size + 2 ≤ lo) (hh : hi ≤ b) (hz : hi ≤ wr.heap.size) (hf : t.fit) :
    CloPost w x (.returned (.tuple #[.agg #[.int .i64 (closeT t).k, .int .i64 (closeT t).i, .slice A' (closeT t).ks.length c'], .int .i64 0])) (((wr.setCell ⟨w.heap.size + 1, 0, none⟩ (.int .i64 (closeT t).k)).setCell ⟨w.heap.size + 1, 1, none⟩ (.int .i64 (closeT t).i)).setCell ⟨w.heap.size + 1, 2, none⟩ (.slice A' (closeT t).ks.length c')) := by
  subst hd
  refine ⟨below_set3 hC.below _ _ _ (by omega), A', c', ?_, rfl⟩
  have h := hH.same (W' := (((wr.setCell ⟨w.heap.size + 1, 0, none⟩ (.int .i64 (closeT t).k)).setCell ⟨w.heap.size + 1, 1, none⟩ (.int .i64 (closeT t).i)).setCell ⟨w.heap.size + 1, 2, none⟩ (.slice A' (closeT t).ks.length c'))) (fun k k1 k2 k3 => same_set3 (lo := w.heap.size + 2) (hi := wr.heap.size) _ _ _ _ _ (by omega) k k1 k2) hg hh hz
  exact h.isT (by simpa using hz) hf
set_option maxHeartbeats 4000000 in
set_option maxRecDepth 100000 in
theorem rclose_any (t : Tr) (A : Option Addr) (c : Nat) (w : World) (ht : IsT w w.heap.size t A c) :
    Calls Try.prog 31 #[.agg #[.int .i64 t.k, .int .i64 t.i, .slice A t.ks.length c]] w (CloPost w (closeA t)) := by
  have T0 := Lib.hid (CS.new ht)
  have FT := Lib.hid (ht.fit t)
  clear ht
  go_enter Try.func31, Try.ntmps31
  go_wp2_with fail
  refine (rwantF_any t A c _ (by exact T0.out.tree)).mono ?_
  rintro e w1 ⟨rfl, hb1⟩
  have T1 := Lib.hid (T0.out.keep hb1)
  obtain ⟨x0, x1, x2⟩ := T1.out.box.cells
  obtain ⟨y0, y1, y2⟩ := T1.out.res.cells
  have f0 := T1.out.res.frozen 0
  have f1 := T1.out.res.frozen 1
  have f2 := T1.out.res.frozen 2
  clear hb1 T0
  obtain ⟨r, hrr⟩ : ∃ r, r = wantFN t := ⟨_, rfl⟩
  rw [← hrr]
  by_cases hr : r = 0
  · have R0 := Lib.hid (show wantFN t = 0 by rw [← hrr]; exact hr)
    subst hr
    clear hrr
    clear y0 y1 y2 f0 f1 f2
    go_wp2_with fail
    refine (copy_any t.sz t A c _ (Nat.le_refl _) (by exact T1.out.tree)).mono ?_
    rintro e w2 ⟨A2, c2, rfl, ho, hb2⟩
    have T2 := Lib.hid (T1.out.keep hb2)
    have HO := Lib.hid ho
    have hs1 := T1.out.size
    have hs2 := hb2.size
    have T3 := Lib.hid (T2.out.keep (alB w2 (.cells #[.int .i64 t.k, .int .i64 t.i, .slice A2 t.ks.length c2] 24)))
    have C3 := Lib.hid (show Chain (w2.alloc (.cells #[.int .i64 t.k, .int .i64 t.i, .slice A2 t.ks.length c2] 24)) w2.heap.size (w.heap.size + 2) w1.heap.size w2.heap.size t [] A2 c2 from OwnT.same t (SameIn.of_below (alB w2 _) (Nat.le_refl _)) ho)
    have B3 := Lib.hid (Box3.new w2 (.int .i64 t.k) (.int .i64 t.i) (.slice A2 t.ks.length c2))
    clear hb2 ho x0 x1 x2
    go_wp2_with fail
    have E3 := Lib.hid (show closeL (lst (freeT t) 0) t = t from rfl)
    go_loopw [6] (fun i wr => ∃ m : Nat, m ≤ 64 ∧ i = .int .i64 (63 - (m : Int)) ∧ CS w wr t A c ∧ ∃ A' c', Box3 wr w2.heap.size (.int .i64 (closeL (lst (freeT t) m) t).k) (.int .i64 (closeL (lst (freeT t) m) t).i) (.slice A' (closeL (lst (freeT t) m) t).ks.length c') ∧ Chain wr w2.heap.size (w.heap.size + 2) w1.heap.size w2.heap.size t (lst (freeT t) m) A' c') (fun i _ => (intOf i + 1).toNat)
    case atStart => exact ⟨0, Nat.zero_le _, rfl, T3.out, A2, c2, B3.out, C3.out⟩
    case round =>
      obtain ⟨m, hm', rfl, hC, A', c', hB, hH⟩ := hrel
      have HC := Lib.hid hC
      have HB := Lib.hid hB
      have HH := Lib.hid hH
      clear T3 C3 B3 E3 hC hB hH T2 HO
      obtain ⟨x0, x1, x2⟩ := HC.out.box.cells
      by_cases hlt : m < 64
      · have hge : (0 : Int) ≤ 63 - (m : Int) := by omega
        have SS := Lib.hid (lst_succ (freeT t) m hlt)
        go_wp2_with fail
        refine (risfree_any (63 - (m : Int)) t A c _ (by exact HC.out.tree)).mono ?_
        rintro e w4 ⟨rfl, hb4⟩
        have hsz := HB.out.lt
        have HC4 := Lib.hid (HC.out.keep hb4)
        have HB4 := Lib.hid (HB.out.keep hb4 HB.out.lt)
        have HH4 := Lib.hid (HH.out.keep hb4 (by omega) (Nat.le_refl _) (by omega))
        have EH := Lib.hid (show hasN (freeT t) (63 - (m : Int)) = (freeT t).testBit (63 - m) by rw [hasN_in _ _ (by omega) (by omega)]; congr 1; omega)
        clear HC HB HH hb4 x0 x1 x2
        cases hb : (freeT t).testBit (63 - m) with
        | true =>
          rw [EH.out, hb]
          rw [hb] at SS
          obtain ⟨x0, x1, x2⟩ := HB4.out.cells
          have HO4 := Lib.hid (fun o => HB4.out.keep (alB w4 o) HB4.out.lt)
          have y0 := fun o => (HO4.out o).cells.1
          have y1 := fun o => (HO4.out o).cells.2.1
          have y2 := fun o => (HO4.out o).cells.2.2
          have f0 := fun o => (HO4.out o).frozen 0
          have f1 := fun o => (HO4.out o).frozen 1
          have f2 := fun o => (HO4.out o).frozen 2
          have ST := Lib.hid (clo_step (x := 63 - m) (xi := 63 - (m : Int)) (by omega) HC4.out HB4.out HH4.out (by omega) (by omega) (Nat.le_refl _))
          have SE := Lib.hid (show lst (freeT t) (m + 1) = (63 - m) :: lst (freeT t) m by rw [SS.out]; rfl)
          clear SS
          go_wp2_with fail
          refine ⟨⟨m + 1, by omega, by congr 1; omega, ST.out.1, _, _, by rw [SE.out]; exact ST.out.2.1, by rw [SE.out]; exact ST.out.2.2⟩, by simp [intOf]; omega⟩
        | false =>
          rw [EH.out, hb]
          rw [hb] at SS
          go_wp2_with fail
          go_roundw
          case rel => exact ⟨m + 1, by omega, by go_num, HC4.out, A', c', by rw [SS.out]; exact HB4.out, by rw [SS.out]; exact HH4.out⟩
          case measure => simp [intOf]; omega
      · obtain rfl : m = 64 := by omega
        rw [lst_all] at HB HH
        obtain ⟨q0, q1, q2⟩ := HB.out.cells
        clear x0 x1 x2
        go_wp2_with fail
        refine (rright_any (closeT t) A' c' _ (by exact HH.out.isT (by have := HB.out.lt; omega) FT.out)).mono ?_
        rintro e w5 ⟨rfl, hb5⟩
        have hsz := HB.out.lt
        have HC5 := Lib.hid (HC.out.keep hb5)
        have HB5 := Lib.hid (HB.out.keep hb5 HB.out.lt)
        have HH5 := Lib.hid (HH.out.keep hb5 (by omega) (Nat.le_refl _) (by omega))
        have hs5 := hb5.size
        clear HC HB HH hb5 q0 q1 q2
        obtain ⟨q0, q1, q2⟩ := HB5.out.cells
        obtain ⟨r, hrr⟩ : ∃ r, r = rightN (closeT t) := ⟨_, rfl⟩
        rw [← hrr]
        by_cases hr : r = 0
        · have V := Lib.hid (show closeA t = (closeT t, 0) by unfold closeA; rw [if_pos R0.out, if_pos (by rw [← hrr]; exact hr)])
          subst hr
          clear hrr
          obtain ⟨y0, y1, y2⟩ := HC5.out.res.cells
          have f0 := HC5.out.res.frozen 0
          have f1 := HC5.out.res.frozen 1
          have f2 := HC5.out.res.frozen 2
          go_wp2_with fail
          exact bodyPost_ret (v := .tuple #[.agg #[.int .i64 (closeT t).k, .int .i64 (closeT t).i, .slice A' (closeT t).ks.length c'], .int .i64 0]) (by simp [closeT, results, Try.results31, go_sem, y0, y1, y2]) rfl (read_chain V.out HC5.out HH5.out (by omega) (Nat.le_refl _) (by omega) FT.out)
        · have h0 : ((r : Int) != 0) = true := by rw [bne_iff_ne]; omega
          have V := Lib.hid (show closeA t = (zeroT, r) by unfold closeA; rw [if_pos R0.out, if_neg (by rw [← hrr]; exact hr), hrr])
          have RR := Lib.hid hrr
          clear hr hrr
          go_wp2_with fail
          refine (rright_any (closeT t) A' c' _ (by exact HH5.out.isT (by have := HB5.out.lt; omega) FT.out)).mono ?_
          rintro e w6 ⟨rfl, hb6⟩
          rw [← RR.out]
          have HC6 := Lib.hid (HC5.out.keep hb6)
          clear hb6 q0 q1 q2
          obtain ⟨y0, y1, y2⟩ := HC6.out.res.cells
          have f0 := HC6.out.res.frozen 0
          have f1 := HC6.out.res.frozen 1
          have f2 := HC6.out.res.frozen 2
          go_wp2_with fail
          exact bodyPost_ret (v := .tuple #[.agg #[.int .i64 0, .int .i64 0, .slice none 0 0], .int .i64 (r : Int)]) (by simp [results, Try.results31, go_sem, y0, y1, y2]) rfl (read_zero V.out HC6.out.below (by omega))
  · have h0 : ((r : Int) != 0) = true := by rw [bne_iff_ne]; omega
    have V := Lib.hid (show closeA t = (zeroT, r) by unfold closeA; rw [if_neg (by rw [← hrr]; exact hr), hrr])
    clear hr hrr
    go_wp2_with fail
    exact bodyPost_ret (v := .tuple #[.agg #[.int .i64 0, .int .i64 0, .slice none 0 0], .int .i64 (r : Int)]) (by simp [results, Try.results31, go_sem, y0, y1, y2]) rfl (read_zero V.out T1.out.below (by omega))
end Go.Proofs.Ytfleomamhkeiiaa
