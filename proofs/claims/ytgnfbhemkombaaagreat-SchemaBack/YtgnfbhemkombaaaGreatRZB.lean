/- RG, RH, RX, RJ1, RJ2, RJ3, RJ5, RJ6, RJ7, RK, RJ4, one behind the other. -/
import Derived.Test.YtgnfbhemkombaaaGreatRZ1
import Derived.Orders
import Derived.RegionTactic
namespace Go.Proofs.YtgnfbhemkombaaaGreat
open Go.RowKit
set_option linter.unusedVariables false
set_option linter.unusedSimpArgs false
theorem kidT_nil (t : Tr) : kidT t [] = t := by unfold kidT; rw [partAt_nil]; rfl
theorem kidT_in (t : Tr) (z : Int) (r : List Int) (h0 : 0 ≤ z) (h : z.toNat < t.ks.length) : kidT t (z :: r) = kidT t.ks[z.toNat] r := by unfold kidT; rw [partAt_in t z r h0 h]
theorem kidT_out (t : Tr) (z : Int) (r : List Int) (h : ¬ z.toNat < t.ks.length) : kidT t (z :: r) = zeroT := by unfold kidT; rw [partAt_out t z r (fun hh => h hh.2)]; rfl
theorem zeroIsT (W : World) (B : Nat) : IsT W B zeroT none 0 := IsT.mk (Nat.le_refl _) (by simp [zeroT, Tr.ks, Cap]) fun m hm => by simp [zeroT, Tr.ks] at hm
/-- an answer: a tree, where it lies in w0 -/
def PartO (w0 : World) (B0 : Nat) (w : World) (u : Tr) (e : Ending) (w' : World) : Prop :=
  Below w.heap.size w w' ∧ ∃ A c, e = .returned (.agg #[.int .i64 u.k, .int .i64 u.i, .slice A u.ks.length c]) ∧ IsT w0 B0 u A c
set_option maxHeartbeats 4000000 in
set_option maxRecDepth 100000 in
theorem kid_any (w0 : World) (B0 : Nat) (t : Tr) (A : Option Addr) (c r n cap : Nat) (zs : List Int) (w : World) (hbw : Below B0 w0 w) (hB0 : B0 ≤ w.heap.size) (ht : IsT w0 B0 t A c) (hrl : r < w.heap.size) (hp : PathAt w r zs) (hn : zs.length = n) (hsm : n ≤ 8) (hz : ∀ z ∈ zs, 0 ≤ z) :
    Calls Tryz.prog 71 #[.agg #[.int .i64 t.k, .int .i64 t.i, .slice A t.ks.length c], .slice (some ⟨r, 0, none⟩) n cap] w (PartO w0 B0 w (kidT t zs)) := by
  have L0 := alB w (.cells #[.int .i64 t.k, .int .i64 t.i, .slice A t.ks.length c] 24)
  have X0 := Lib.hid ((Box3.new w (.int .i64 t.k) (.int .i64 t.i) (.slice A t.ks.length c)).keep (alB _ (.cells #[.int .i64 0, .int .i64 0, .slice none 0 0] 24)) (by simp))
  have R0 := Lib.hid (show Box3 ((w.alloc (.cells #[.int .i64 t.k, .int .i64 t.i, .slice A t.ks.length c] 24)).alloc (.cells #[.int .i64 0, .int .i64 0, .slice none 0 0] 24)) (w.heap.size + 1) (.int .i64 0) (.int .i64 0) (.slice none 0 0) from by
    have h := Box3.new (w.alloc (.cells #[.int .i64 t.k, .int .i64 t.i, .slice A t.ks.length c] 24)) (.int .i64 0) (.int .i64 0) (.slice none 0 0)
    simpa using h)
  have B1 := Lib.hid (bl_trans L0 (alB _ (.cells #[.int .i64 0, .int .i64 0, .slice none 0 0] 24)))
  have HT := Lib.hid ht
  have HP := Lib.hid hp
  have HZ := Lib.hid hz
  have HW := Lib.hid hbw
  have HN := Lib.hid hn
  clear ht hp hz hbw L0 hn
  go_enter Tryz.func71, Tryz.ntmps71
  go_wp2_with fail
  go_loopw [6, 9] (fun _ i wr => ∃ (m : Nat) (q : Tr) (Aq : Option Addr) (cq : Nat), m ≤ n ∧ i = .int .i64 (m : Int) ∧ kidT t zs = kidT q (zs.drop m) ∧ IsT w0 B0 q Aq cq ∧ Box3 wr w.heap.size (.int .i64 q.k) (.int .i64 q.i) (.slice Aq q.ks.length cq) ∧ Box3 wr (w.heap.size + 1) (.int .i64 0) (.int .i64 0) (.slice none 0 0) ∧ Below w.heap.size w wr) (fun _ i _ => n - (intOf i).toNat)
  case atStart => exact ⟨0, t, A, c, Nat.zero_le _, rfl, rfl, HT.out, X0.out, R0.out, B1.out⟩
  case round =>
    obtain ⟨m, q, Aq, cq, hm, rfl, hk, hq, hx, hr, hb⟩ := hrel
    have HK := Lib.hid hk
    have HQ := Lib.hid hq
    have HX := Lib.hid hx
    have HR := Lib.hid hr
    have HB := Lib.hid hb
    clear hk hq hx hr hb
    obtain ⟨x0, x1, x2⟩ := HX.out.cells
    by_cases hlt : m < n
    · have hml : m < zs.length := by have := HN.out; omega
      have c0 := (HB.out.cell (p := ⟨r, m, none⟩) hrl).trans (HP.out m hml)
      have z0 := HZ.out zs[m] (List.getElem_mem hml)
      have DR := Lib.hid (show zs.drop m = zs[m] :: zs.drop (m + 1) from List.drop_eq_getElem_cons hml)
      obtain ⟨z, hzz⟩ : ∃ z, z = zs[m] := ⟨_, rfl⟩
      rw [← hzz] at c0 z0 DR
      clear hzz
      have hql := HQ.out.len
      by_cases hin : z.toNat < q.ks.length
      · obtain ⟨b, o, A2, c2, rfl, hb2, p0, p1, p2, hk2⟩ := HQ.out.kid z.toNat hin
        have K2 := Lib.hid (show kidT t zs = kidT q.ks[z.toNat] (zs.drop (m + 1)) from by rw [HK.out, DR.out, kidT_in q z _ z0 hin])
        obtain ⟨u, hu⟩ : ∃ u, u = q.ks[z.toNat] := ⟨_, rfl⟩
        rw [← hu] at p0 p1 p2 hk2 K2
        have hbr : Below B0 w0 wr := HW.out.trans (HB.out.mono hB0)
        have d0 := (hbr.cell (p := ⟨b, o + z.toNat * 3, none⟩) hb2).trans p0
        have d1 := (hbr.cell (p := ⟨b, o + z.toNat * 3 + 1, none⟩) hb2).trans p1
        have d2 := (hbr.cell (p := ⟨b, o + z.toNat * 3 + 2, none⟩) hb2).trans p2
        have HU := Lib.hid hk2
        have f0 := HX.out.frozen 0
        have f1 := HX.out.frozen 1
        have f2 := HX.out.frozen 2
        have g1 : ¬ (q.ks.length : Int) ≤ z := by omega
        have g2 : z < (q.ks.length : Int) := by omega
        have X2 := Lib.hid (HX.out.setall (.int .i64 u.k) (.int .i64 u.i) (.slice A2 u.ks.length c2))
        have R2 := Lib.hid (((HR.out.set_other ⟨w.heap.size, 0, none⟩ (.int .i64 u.k) (by show w.heap.size + 1 ≠ w.heap.size; omega)).set_other ⟨w.heap.size, 1, none⟩ (.int .i64 u.i) (by show w.heap.size + 1 ≠ w.heap.size; omega)).set_other ⟨w.heap.size, 2, none⟩ (.slice A2 u.ks.length c2) (by show w.heap.size + 1 ≠ w.heap.size; omega))
        have B2 := Lib.hid (below_set3 HB.out (.int .i64 u.k) (.int .i64 u.i) (.slice A2 u.ks.length c2) (Nat.le_refl _))
        clear hu p0 p1 p2 hk2 hbr
        go_wp2_with fail
        go_roundw
        case rel => exact ⟨m + 1, u, A2, c2, by omega, by go_num, K2.out, HU.out, X2.out, R2.out, B2.out⟩
        case measure => simp [intOf]; omega
      · have K2 := Lib.hid (show kidT t zs = zeroT from by rw [HK.out, DR.out, kidT_out q z _ hin])
        have g1 : (q.ks.length : Int) ≤ z := by omega
        obtain ⟨r0, r1, r2⟩ := HR.out.cells
        have f0 := HR.out.frozen 0
        have f1 := HR.out.frozen 1
        have f2 := HR.out.frozen 2
        go_wp2_with fail
        obtain ⟨y0, y1, y2⟩ := (HR.out.setall (.int .i64 0) (.int .i64 0) (.slice none 0 0)).cells
        refine bodyPost_ret (v := .agg #[.int .i64 0, .int .i64 0, .slice none 0 0]) (by simp [results, Tryz.results71, go_sem, y0, y1, y2]) rfl ?_
        rw [K2.out]
        exact ⟨below_set3 HB.out _ _ _ (Nat.le_succ _), none, 0, rfl, zeroIsT _ _⟩
    · have K2 := Lib.hid (show kidT t zs = q from by rw [HK.out, List.drop_eq_nil_of_le (by have := HN.out; omega), kidT_nil])
      obtain ⟨r0, r1, r2⟩ := HR.out.cells
      have f0 := HR.out.frozen 0
      have f1 := HR.out.frozen 1
      have f2 := HR.out.frozen 2
      go_wp2_with fail
      obtain ⟨y0, y1, y2⟩ := (HR.out.setall (.int .i64 q.k) (.int .i64 q.i) (.slice Aq q.ks.length cq)).cells
      refine bodyPost_ret (v := .agg #[.int .i64 q.k, .int .i64 q.i, .slice Aq q.ks.length cq]) (by simp [results, Tryz.results71, go_sem, y0, y1, y2]) rfl ?_
      rw [K2.out]
      exact ⟨below_set3 HB.out _ _ _ (Nat.le_succ _), Aq, cq, rfl, HQ.out⟩
end Go.Proofs.YtgnfbhemkombaaaGreat
namespace Go.Proofs.YtgnfbhemkombaaaGreat
open Go.RowKit
set_option linter.unusedVariables false
set_option linter.unusedSimpArgs false
/-- rows of numbers that were laid, and have stayed -/
structure Trc (w0 W : World) (L : List (Nat × Array Value)) : Prop where
  bel : Below w0.heap.size w0 W
  mem : ∀ q ∈ L, q.1 < W.heap.size ∧ W.heap[q.1]? = some (.cells q.2 3 (0, 0))
theorem Trc.nil (w : World) : Trc w w [] := ⟨Below.refl _ _, by simp⟩
theorem Trc.al {w0 W : World} {L : List (Nat × Array Value)} (h : Trc w0 W L) (cs : Array Value) : Trc w0 (W.alloc (.cells cs 3)) ((W.heap.size, cs) :: L) := by
  refine ⟨bl_trans h.bel (alB _ _), fun q hq => ?_⟩
  rcases List.mem_cons.1 hq with rfl | hq
  · exact ⟨by simp, new_at W _⟩
  · obtain ⟨h1, h2⟩ := h.mem q hq
    exact ⟨by simp; omega, (Below.heap_alloc _ _ _ h1).trans h2⟩
theorem Trc.call {w0 W W' : World} {L : List (Nat × Array Value)} (h : Trc w0 W L) (hb : Below W.heap.size W W') : Trc w0 W' L :=
  ⟨bl_trans h.bel hb, fun q hq => ⟨Nat.lt_of_lt_of_le (h.mem q hq).1 hb.size, (hb.block q.1 (h.mem q hq).1).trans (h.mem q hq).2⟩⟩
theorem Trc.path {w0 W : World} {L : List (Nat × Array Value)} (h : Trc w0 W L) {j r r' : Nat} {cs : Array Value} {zs : List Int} (hj : L[j]? = some (r', cs)) (hr : r' = r) (hc : cs = (zs.map (Value.int .i64)).toArray) : r < W.heap.size ∧ PathAt W r zs := by
  subst hr hc
  obtain ⟨h1, h2⟩ := h.mem _ (List.mem_of_getElem? hj)
  refine ⟨h1, fun i hi => ?_⟩
  unfold World.cell?
  rw [h2]
  simp [hi]
theorem Trc.dr {w0 W : World} {L : List (Nat × Array Value)} (h : Trc w0 W L) : Trc w0 W.drew L := ⟨bl_trans h.bel (Below.refl _ _).drew, h.mem⟩
/-- the boxes of guess -/
structure GB (w W : World) (t : Tr) (A : Option Addr) (c : Nat) (x : Int) : Prop where
  xb : Box3 W w.heap.size (.int .i64 t.k) (.int .i64 t.i) (.slice A t.ks.length c)
  rb : BoxP W (w.heap.size + 1) none 0 0 0
  pb : BoxP W (w.heap.size + 2) none 0 0 x
  bel : Below w.heap.size w W
theorem GB.keep {w W W' : World} {t : Tr} {A : Option Addr} {c : Nat} {x : Int} (h : GB w W t A c x) (hb : Below W.heap.size W W') : GB w W' t A c x :=
  ⟨h.xb.keep hb h.xb.lt, h.rb.keep hb h.rb.lt, h.pb.keep hb h.pb.lt, bl_trans h.bel hb⟩
theorem GB.start (w : World) (t : Tr) (A : Option Addr) (c : Nat) :
    GB w (((w.alloc (.cells #[.int .i64 t.k, .int .i64 t.i, .slice A t.ks.length c] 24)).alloc (.cells #[.slice none 0 0, .int .i64 0] 32)).alloc (.cells #[.slice none 0 0, .int .i64 0] 32)) t A c 0 := by
  refine ⟨?_, ?_, ?_, bl_trans (bl_trans (alB _ _) (alB _ _)) (alB _ _)⟩
  · exact ((Box3.new w _ _ _).keep (alB _ _) (by simp)).keep (alB _ _) (by simp; omega)
  · have h := BoxP.new (w.alloc (.cells #[.int .i64 t.k, .int .i64 t.i, .slice A t.ks.length c] 24)) none 0 0 0
    exact (by simpa using h : BoxP _ (w.heap.size + 1) none 0 0 0).keep (alB _ _) (by simp)
  · have h := BoxP.new ((w.alloc (.cells #[.int .i64 t.k, .int .i64 t.i, .slice A t.ks.length c] 24)).alloc (.cells #[.slice none 0 0, .int .i64 0] 32)) none 0 0 0
    simpa using h
/-- an answer: parts; their trees where they lay -/
def GuessP (w : World) (p : List Tr × Int) (e : Ending) (w' : World) : Prop :=
  Below w.heap.size w w' ∧ ∃ A c, e = .returned (.agg #[.slice A p.1.length c, .int .i64 p.2]) ∧ FrT (fun k => k = w.heap.size ∨ k = w.heap.size + 1 ∨ k = w.heap.size + 2) w' (.node 0 0 p.1) A c
/-- a row of trees that lie in an elder world -/
theorem row_fr {w W : World} {X : Nat → Prop} {g : Nat} {l : List Tr} {cs : List (Option Addr × Nat)} (hl : cs.length = l.length) (hX : ∀ k, X k → w.heap.size ≤ k) (hg : ¬ X g) (hb : Below w.heap.size w W)
    (hr : W.heap[g]? = some (.cells (rowC l cs).toArray 24 (0, 0))) (hcap : Cap l.length) (ht : ∀ m (h : m < l.length), IsT w w.heap.size l[m] (cs[m]'(by omega)).1 (cs[m]'(by omega)).2) : FrT X W (.node 0 0 l) (some ⟨g, 0, none⟩) l.length := by
  intro W' h1 h2
  have hgl : g < W.heap.size := (Array.getElem?_eq_some_iff.1 hr).1
  have hr' : W'.heap[g]? = some (.cells (rowC l cs).toArray 24 (0, 0)) := (h1 g hgl hg).trans hr
  have hbw : ∀ k, k < w.heap.size → W'.heap[k]? = w.heap[k]? := fun k hk => (h1 k (by have := hb.size; omega) (fun hx => by have := hX k hx; omega)).trans (hb.block k hk)
  refine IsT.mk (Nat.le_refl _) hcap fun m hm => ?_
  have hm' : m < l.length := hm
  obtain ⟨r0, r1, r2⟩ := rowC_get l cs m hm' hl
  have cell : ∀ j, W'.cell? ⟨g, j, none⟩ = (rowC l cs)[j]? := fun j => by
    unfold World.cell?
    rw [hr']
    simp
  refine ⟨g, 0, (cs[m]'(by omega)).1, (cs[m]'(by omega)).2, rfl, by omega, ?_, ?_, ?_, (ht m hm').keepH hbw (by have := hb.size; omega)⟩
  · rw [Nat.zero_add, cell, r0]; rfl
  · rw [Nat.zero_add, cell, r1]; rfl
  · rw [Nat.zero_add, cell, r2]; rfl
/-- the boxes of guess, a row in the list -/
structure GQ (w wc : World) (g n : Nat) (x : Int) (cells : Array Value) : Prop where
  pb : BoxP wc (w.heap.size + 2) (some ⟨g, 0, none⟩) n n x
  rb : BoxP wc (w.heap.size + 1) none 0 0 0
  hg : w.heap.size + 3 ≤ g
  row : wc.heap[g]? = some (.cells cells 24 (0, 0))
  bel : Below w.heap.size w wc
theorem gq_one {w W : World} {t : Tr} {A : Option Addr} {c n : Nat} {x : Int} (h : GB w W t A c x) (cells : Array Value) : GQ w ((W.alloc (.cells cells 24)).setCell ⟨w.heap.size + 2, 0, none⟩ (.slice (some ⟨W.heap.size, 0, none⟩) n n)) W.heap.size n x cells := by
  have h' := h.keep (alB W (.cells cells 24))
  have hl := h.pb.lt
  refine ⟨h'.pb.set0 _ _ _, h'.rb.other _ _ (by show w.heap.size + 1 ≠ w.heap.size + 2; omega), by omega, ?_, h'.bel.setCell (p := ⟨w.heap.size + 2, 0, none⟩) (by show w.heap.size ≤ w.heap.size + 2; omega) _⟩
  rw [heap_setCell_other _ _ _ _ (by show W.heap.size ≠ w.heap.size + 2; omega)]
  exact new_at W _
theorem gq_two {w W : World} {t : Tr} {A : Option Addr} {c n : Nat} {x : Int} (h : GB w W t A c x) (cells : Array Value) : GQ w ((W.setCell ⟨w.heap.size + 2, 0, none⟩ (.slice (some ⟨W.heap.size, 0, none⟩) n n)).alloc (.cells cells 24)) W.heap.size n x cells := by
  have hl := h.pb.lt
  have hz : (W.setCell ⟨w.heap.size + 2, 0, none⟩ (.slice (some ⟨W.heap.size, 0, none⟩) n n)).heap.size = W.heap.size := by simp
  have b := alB (W.setCell ⟨w.heap.size + 2, 0, none⟩ (.slice (some ⟨W.heap.size, 0, none⟩) n n)) (.cells cells 24)
  rw [hz] at b
  refine ⟨(h.pb.set0 _ _ _).keep b hl, (h.rb.other _ _ (by show w.heap.size + 1 ≠ w.heap.size + 2; omega)).keep b h.rb.lt, by omega, ?_, (h.bel.setCell (p := ⟨w.heap.size + 2, 0, none⟩) (by show w.heap.size ≤ w.heap.size + 2; omega) _).trans (b.mono (by omega))⟩
  have := new_at (W.setCell ⟨w.heap.size + 2, 0, none⟩ (.slice (some ⟨W.heap.size, 0, none⟩) n n)) (.cells cells 24)
  rwa [hz] at this
theorem gq_end {w W : World} {t : Tr} {A : Option Addr} {c n : Nat} {x : Int} (h : GB w W t A c x) {l : List Tr} {cs : List (Option Addr × Nat)} (hn : l.length = n) (hl : cs.length = l.length) (hcap : Cap l.length) (ht : ∀ m (h : m < l.length), IsT w w.heap.size l[m] (cs[m]'(by omega)).1 (cs[m]'(by omega)).2) :
    ((((W.setCell ⟨w.heap.size + 1 + 1, 0, none⟩ (.slice (some ⟨W.heap.size, 0, none⟩) n n)).setCell ⟨w.heap.size + 1, 0, none⟩ (.slice (some ⟨W.heap.size, 0, none⟩) n n)).setCell ⟨w.heap.size + 1, 1, none⟩ (.int .i64 x)).alloc (.cells (rowC l cs).toArray 24)).cell? ⟨w.heap.size + 1, 0, none⟩ = some (.slice (some ⟨W.heap.size, 0, none⟩) n n) ∧
    ((((W.setCell ⟨w.heap.size + 1 + 1, 0, none⟩ (.slice (some ⟨W.heap.size, 0, none⟩) n n)).setCell ⟨w.heap.size + 1, 0, none⟩ (.slice (some ⟨W.heap.size, 0, none⟩) n n)).setCell ⟨w.heap.size + 1, 1, none⟩ (.int .i64 x)).alloc (.cells (rowC l cs).toArray 24)).cell? ⟨w.heap.size + 1, 1, none⟩ = some (.int .i64 x) ∧
    GuessP w (l, x) (.returned (.agg #[.slice (some ⟨W.heap.size, 0, none⟩) n n, .int .i64 x])) ((((W.setCell ⟨w.heap.size + 1 + 1, 0, none⟩ (.slice (some ⟨W.heap.size, 0, none⟩) n n)).setCell ⟨w.heap.size + 1, 0, none⟩ (.slice (some ⟨W.heap.size, 0, none⟩) n n)).setCell ⟨w.heap.size + 1, 1, none⟩ (.int .i64 x)).alloc (.cells (rowC l cs).toArray 24)) := by
  subst hn
  have hlt := h.pb.lt
  obtain ⟨W1, hW1⟩ : ∃ W1, W1 = (((W.setCell ⟨w.heap.size + 1 + 1, 0, none⟩ (.slice (some ⟨W.heap.size, 0, none⟩) l.length l.length)).setCell ⟨w.heap.size + 1, 0, none⟩ (.slice (some ⟨W.heap.size, 0, none⟩) l.length l.length)).setCell ⟨w.heap.size + 1, 1, none⟩ (.int .i64 x)) := ⟨_, rfl⟩
  have hz : W1.heap.size = W.heap.size := by rw [hW1]; simp
  have rb : BoxP W1 (w.heap.size + 1) (some ⟨W.heap.size, 0, none⟩) l.length l.length x := by
    rw [hW1]
    exact ((h.rb.other ⟨w.heap.size + 1 + 1, 0, none⟩ _ (by show w.heap.size + 1 ≠ w.heap.size + 1 + 1; omega)).set0 _ _ _).set1 _
  have bl : Below w.heap.size w W1 := by
    rw [hW1]
    exact ((h.bel.setCell (p := ⟨w.heap.size + 1 + 1, 0, none⟩) (by show w.heap.size ≤ w.heap.size + 1 + 1; omega) _).setCell (p := ⟨w.heap.size + 1, 0, none⟩) (Nat.le_succ _) _).setCell (p := ⟨w.heap.size + 1, 1, none⟩) (Nat.le_succ _) _
  have al := alB W1 (.cells (rowC l cs).toArray 24)
  have rb2 := (rb.keep al rb.lt).cells
  rw [← hW1]
  refine ⟨rb2.1, rb2.2, bl_trans bl al, some ⟨W.heap.size, 0, none⟩, l.length, rfl, ?_⟩
  refine row_fr hl (fun k hk => by rcases hk with hk | hk | hk <;> omega) (fun hk => by rcases hk with hk | hk | hk <;> omega) (bl_trans bl al) ?_ hcap ht
  rw [← hz]
  exact new_at W1 _
end Go.Proofs.YtgnfbhemkombaaaGreat
namespace Go.Proofs.YtgnfbhemkombaaaGreat
set_option linter.unusedVariables false
set_option linter.unusedSimpArgs false
section
variable {P : Program} {md : Region.Mode} {ops : Array Oper} {Q : Exit → Act → World → Prop}
/-- K where the operation has come to its end, and otherwise Q -/
def OneQ (K : Act → World → Prop) (Q : Exit → Act → World → Prop) (e : Exit) (a : Act) (w : World) : Prop := (e = .normal → K a w) ∧ (e ≠ .normal → Q e a w)
theorem OneQ.lets {K : Act → World → Prop} (h : LetsOut (OneQ K Q)) : LetsOut Q := by
  obtain ⟨a, w, h⟩ := h
  exact ⟨a, w, h.2 (by simp)⟩
theorem OneQ.wp {o : Oper} {a : Act} {w : World} {K : Act → World → Prop} (h : o.wp P a w (wpList P ops (OneQ K Q) []) (OneQ K Q)) : o.wp P a w K Q := by
  unfold Oper.wp at *
  generalize (execOp a.eval o).run P w = r at *
  cases r with
  | ok n w' =>
    cases n <;> simp only [Oper.upon] at h ⊢
    case value v => exact (show OneQ K Q .normal _ _ from h).1 rfl
    case skip => exact (show OneQ K Q .normal _ _ from h).1 rfl
    case defer d => exact (show OneQ K Q .normal _ _ from h).1 rfl
    case enter f args =>
      refine Calls.mono h fun e w'' he => ?_
      cases e with
      | returned u => exact (show OneQ K Q .normal _ _ from he).1 rfl
      | panicked c => exact (show OneQ K Q (.panic c) _ _ from he).2 (by simp)
      | outgrown => exact OneQ.lets he
    case row row args => exact Rows.mono h fun u w'' he => (show OneQ K Q .normal _ _ from he).1 rfl
  | halt x w' =>
    cases x <;> simp only [Oper.upon] at h ⊢
    case panic u => exact (show OneQ K Q (.panic _) _ _ from h).2 (by simp)
theorem wpOp_one {i : Nat} {o : Oper} {K : Act → World → Prop} {a : Act} {w : World} (ho : ops[i]? = some o) (h : wpList P ops (OneQ K Q) [o] a w) : wpOp P ops Q i K a w := by
  unfold wpOp
  rw [ho]
  show if Region.wanted o (yielded ops a.tmps) = true then _ else _
  have h' : if Region.wanted o (yielded ops a.tmps) = true then o.wp P a w (wpList P ops (OneQ K Q) []) (OneQ K Q) ∨ (o.asks P a w ∧ LetsOut (OneQ K Q)) else OneQ K Q .normal (a.put o.dst undef) w := h
  split
  · rename_i hw
    rw [if_pos hw] at h'
    rcases h' with h' | ⟨h1, h2⟩
    · exact .inl (OneQ.wp h')
    · exact .inr ⟨h1, OneQ.lets h2⟩
  · rename_i hw
    rw [if_neg hw] at h'
    exact h'.1 rfl
/-- how many operations have not come up yet -/
def unl (listed : Array Bool) : Nat := listed.toList.count false
theorem unl_set {listed : Array Bool} {i : Nat} (h : listed.getD i true = false) : unl (listed.setIfInBounds i true) < unl listed := by
  have hi : i < listed.size := by
    rcases Nat.lt_or_ge i listed.size with h1 | h1
    · exact h1
    · simp [Array.getD, Nat.not_lt.2 h1] at h
  have hv : listed.toList[i]'(by simpa using hi) = false := by
    have : listed.getD i true = listed[i] := by simp [Array.getD, hi]
    rw [this] at h
    simpa using h
  have hpos : 0 < listed.toList.count false := List.count_pos_iff.2 (by rw [← hv]; exact List.getElem_mem _)
  unfold unl
  rw [Array.toList_setIfInBounds, List.count_set (by simpa using hi), hv, if_pos (by rfl), if_neg (by simp)]
  omega
theorem unl_zero {listed : Array Bool} (h : unl listed = 0) (j : Nat) : listed.getD j true = true := by
  rcases Nat.lt_or_ge j listed.size with h1 | h1
  · have hn : false ∉ listed.toList := List.count_eq_zero.1 h
    have : listed.getD j true = listed[j] := by simp [Array.getD, h1]
    rw [this]
    cases hb : listed[j] with
    | true => rfl
    | false => exact absurd (by rw [← hb]; simp) hn
  · simp [Array.getD, Nat.not_lt.2 h1]
theorem wpAny_inv (J : Array Bool → Act → World → Prop)
    (step : ∀ (listed : Array Bool) (a : Act) (w : World) (i : Nat), J listed a w → i ∈ Region.ready md ops listed → wpOp P ops Q i (J (listed.setIfInBounds i true)) a w)
    (done : ∀ (listed : Array Bool) (a : Act) (w : World), J listed a w → Region.ready md ops listed = [] → Q .normal a w) :
    ∀ (fuel : Nat) (listed : Array Bool) (a : Act) (w : World), unl listed ≤ fuel → J listed a w → wpAny P md ops Q fuel listed a w := by
  intro fuel
  induction fuel with
  | zero =>
    intro listed a w hc h
    have hr : Region.ready md ops listed = [] := by
      apply List.eq_nil_iff_forall_not_mem.2
      intro j hj
      have h1 := (mem_ready.1 hj).1
      rw [unl_zero (by omega) j] at h1
      cases h1
    exact ⟨hr, done _ _ _ h hr⟩
  | succ fuel ih =>
    intro listed a w hc h
    refine ⟨fun hr => done _ _ _ h hr, fun i hi => wpOp_mono (fun a' w' h' => ih _ _ _ ?_ h') (step _ _ _ _ h hi)⟩
    have := unl_set (mem_ready.1 hi).1
    omega
/-- when nothing may come up, all have come up -/
theorem all_listed (hb : (List.range ops.size).all (fun i => ((ops[i]?).map (fun o => o.after.all fun e => decide (e.on < i))).getD true) = true) {listed : Array Bool} (hs : listed.size = ops.size) (hr : Region.ready md ops listed = []) :
    ∀ (n i : Nat), i < n → i < ops.size → listed.getD i false = true := by
  intro n
  induction n with
  | zero => intro i h; omega
  | succ n ih =>
    intro i hi hio
    have hlt : i < listed.size := by omega
    cases hv : listed.getD i false with
    | true => rfl
    | false =>
      exfalso
      have hm : i ∈ Region.ready md ops listed := by
        refine mem_ready.2 ⟨by simpa [Array.getD, hlt] using hv, ops[i], by simp [hio], fun e he _ => ?_⟩
        have h1 := List.all_eq_true.1 hb i (List.mem_range.2 hio)
        rw [Array.getElem?_eq_getElem hio] at h1
        have h2 : e.on < i := by
          have h3 := Array.all_eq_true_iff_forall_mem.1 (show (ops[i].after.all fun e => decide (e.on < i)) = true from h1) e he
          simpa using h3
        exact ih e.on (by omega) (by omega)
      rw [hr] at hm
      cases hm
/-- A region that draws its order: l tells which operations have come up. -/
theorem wp_region_inv {id : Nat} {a0 : Act} {w0 : World} (hm : P.follows .mixedOrders = true) (hb : (List.range ops.size).all (fun i => ((ops[i]?).map (fun o => o.after.all fun e => decide (e.on < i))).getD true) = true)
    (J : Act → (Nat → Bool) → Act → World → Prop) (h0 : J a0 (fun _ => false) a0 w0.drew)
    (step : ∀ (l : Nat → Bool) (a : Act) (w : World) (i : Nat) (o : Oper), ops[i]? = some o → l i = false → (∀ e ∈ o.after, Region.binds .any e = true → l e.on = true) → (∀ k o, ops[k]? = some o → l k = true → ∀ e ∈ o.after, Region.binds .any e = true → l e.on = true) →
      J a0 l a w → wpList P ops (OneQ (J a0 (fun k => if k = i then true else l k)) Q) [o] a w)
    (done : ∀ (l : Nat → Bool) (a : Act) (w : World), J a0 l a w → (∀ i, i < ops.size → l i = true) → Q .normal a w) : (Code.region id ops true).wp P Q a0 w0 := by
  refine wp_region_any hm (wpAny_inv (fun listed a w => listed.size = ops.size ∧ (∀ k o, ops[k]? = some o → listed.getD k false = true → ∀ e ∈ o.after, Region.binds .any e = true → listed.getD e.on false = true) ∧ J a0 (fun k => listed.getD k false) a w) ?_ ?_ _ _ _ _ (by unfold unl; simp [List.count_replicate]) ?_)
  · rintro listed a w i ⟨hs, hc, hJ⟩ hi
    obtain ⟨h1, o, ho, h2⟩ := mem_ready.1 hi
    have hio : i < ops.size := (Array.getElem?_eq_some_iff.1 ho).1
    have hlf : listed.getD i false = false := by
      have hlt : i < listed.size := by omega
      simpa [Array.getD, hlt] using h1
    have hset : (fun k => (listed.setIfInBounds i true).getD k false) = fun k => if k = i then true else listed.getD k false := by
      funext k
      by_cases hk : k = i
      · subst hk
        have hlt : k < listed.size := by omega
        simp [Array.getD, hlt]
      · rw [if_neg hk, getD_set_ne false (Ne.symm hk)]
    refine wpOp_mono (fun a' w' h' => ⟨by simpa using hs, ?_, ?_⟩) (wpOp_one ho (step (fun k => listed.getD k false) a w i o ho hlf h2 hc hJ))
    · intro k o' ho' hk e he hbd
      have hk' : (listed.setIfInBounds i true).getD k false = if k = i then true else listed.getD k false := congrFun hset k
      have he' : (listed.setIfInBounds i true).getD e.on false = if e.on = i then true else listed.getD e.on false := congrFun hset e.on
      rw [hk'] at hk
      rw [he']
      by_cases hei : e.on = i
      · rw [if_pos hei]
      · rw [if_neg hei]
        by_cases hki : k = i
        · subst hki
          rw [ho] at ho'
          cases ho'
          exact h2 e he hbd
        · rw [if_neg hki] at hk
          exact hc k o' ho' hk e he hbd
    · rw [hset]; exact h'
  · rintro listed a w ⟨hs, hc, hJ⟩ hr
    exact done _ a w hJ (fun i hi => all_listed hb hs hr (i + 1) i (by omega) hi)
  · refine ⟨by simp, fun k o ho hk => ?_, ?_⟩
    · have : (Array.replicate ops.size false).getD k false = false := by
        rcases Nat.lt_or_ge k ops.size with h | h
        · simp [Array.getD, h]
        · simp [Array.getD, Nat.not_lt.2 h]
      rw [this] at hk
      cases hk
    · have : (fun k => (Array.replicate ops.size false).getD k false) = fun _ => false := by
        funext k
        rcases Nat.lt_or_ge k ops.size with h | h
        · simp [Array.getD, h]
        · simp [Array.getD, Nat.not_lt.2 h]
      rw [this]
      exact h0
end
end Go.Proofs.YtgnfbhemkombaaaGreat
namespace Go.Proofs.YtgnfbhemkombaaaGreat
open Go.RowKit
set_option linter.unusedVariables false
set_option linter.unusedSimpArgs false
set_option maxHeartbeats 100000000 in
set_option maxRecDepth 100000 in
theorem guess1_any (t : Tr) (A : Option Addr) (c : Nat) (w : World) (ht : IsT w w.heap.size t A c) :
    Calls Tryz.prog 31 #[.int .i64 1, .agg #[.int .i64 t.k, .int .i64 t.i, .slice A t.ks.length c]] w (GuessP w (guessV 1 t)) := by
  obtain ⟨W0, hW0⟩ : ∃ W0, W0 = ((w.alloc (.cells #[.int .i64 t.k, .int .i64 t.i, .slice A t.ks.length c] 24)).alloc (.cells #[.slice none 0 0, .int .i64 0] 32)).alloc (.cells #[.slice none 0 0, .int .i64 0] 32) := ⟨_, rfl⟩
  have S0 := Lib.hid (show GB w W0 t A c 0 by rw [hW0]; exact GB.start w t A c)
  have HT := Lib.hid ht
  have HW := Lib.hid hW0
  clear ht hW0
  go_enter Tryz.func31, Tryz.ntmps31
  go_upto_region 4 with fail
  rw [← HW.out]
  have G0 := Lib.hid S0.out
  have BB : Trc W0 W0 [] := Trc.nil _
  have KID := Lib.hid (fun (zs : List Int) (hz : ∀ z ∈ zs, 0 ≤ z) (h8 : zs.length ≤ 8) (W : World) (L : List (Nat × Array Value)) (r n : Nat) (T : Trc W0 W L) (j : Nat) (r' : Nat) (cs : Array Value) (hj : L[j]? = some (r', cs)) (hr : r' = r) (hc : cs = (zs.map (Value.int .i64)).toArray) (hn : zs.length = n) =>
    (kid_any w w.heap.size t A c r n n zs W (G0.out.keep T.bel).bel (G0.out.keep T.bel).bel.size HT.out (T.path hj hr hc).1 (T.path hj hr hc).2 hn (by omega) hz : Calls Tryz.prog 71 #[.agg #[.int .i64 t.k, .int .i64 t.i, .slice A t.ks.length c], .slice (some ⟨r, 0, none⟩) n n] W (PartO w w.heap.size W (kidT t zs))))
  have KQ := Lib.hid (fun (zs : List Int) (hz : ∀ z ∈ zs, 0 ≤ z) (h8 : zs.length ≤ 8) => And.intro
    (fun (W : World) (L : List (Nat × Array Value)) (r n r' : Nat) (cs : Array Value) (T : Trc W0 W ((r', cs) :: L)) (hr : r' = r) (hc : cs = (zs.map (Value.int .i64)).toArray) (hn : zs.length = n) => KID.out zs hz h8 W _ r n T 0 r' cs rfl hr hc hn) (And.intro
    (fun (x0 : Nat × Array Value) (W : World) (L : List (Nat × Array Value)) (r n r' : Nat) (cs : Array Value) (T : Trc W0 W (x0 :: (r', cs) :: L)) (hr : r' = r) (hc : cs = (zs.map (Value.int .i64)).toArray) (hn : zs.length = n) => KID.out zs hz h8 W _ r n T 1 r' cs rfl hr hc hn) (And.intro
    (fun (x0 x1 : Nat × Array Value) (W : World) (L : List (Nat × Array Value)) (r n r' : Nat) (cs : Array Value) (T : Trc W0 W (x0 :: x1 :: (r', cs) :: L)) (hr : r' = r) (hc : cs = (zs.map (Value.int .i64)).toArray) (hn : zs.length = n) => KID.out zs hz h8 W _ r n T 2 r' cs rfl hr hc hn) (And.intro
    (fun (x0 x1 x2 : Nat × Array Value) (W : World) (L : List (Nat × Array Value)) (r n r' : Nat) (cs : Array Value) (T : Trc W0 W (x0 :: x1 :: x2 :: (r', cs) :: L)) (hr : r' = r) (hc : cs = (zs.map (Value.int .i64)).toArray) (hn : zs.length = n) => KID.out zs hz h8 W _ r n T 3 r' cs rfl hr hc hn) True.intro))))
  have K0 := Lib.hid (KQ.out [0] (by decide) (by decide))
  have K1 := Lib.hid (KQ.out [1, 0] (by decide) (by decide))
  have SS2 := Lib.hid (fun (W : World) (h : Below W0.heap.size W0 W) (v : Value) (o : Obj) => ((((G0.out.keep h).xb.set_other ⟨w.heap.size + 1 + 1, 0, none⟩ v (by show w.heap.size ≠ w.heap.size + 1 + 1; omega)).keep (alB _ o) (by have := (G0.out.keep h).xb.lt; simpa using this)).cells : ((W.setCell ⟨w.heap.size + 1 + 1, 0, none⟩ v).alloc o).cell? ⟨w.heap.size, 0, none⟩ = some (.int .i64 t.k) ∧ ((W.setCell ⟨w.heap.size + 1 + 1, 0, none⟩ v).alloc o).cell? ⟨w.heap.size, 1, none⟩ = some (.int .i64 t.i) ∧ ((W.setCell ⟨w.heap.size + 1 + 1, 0, none⟩ v).alloc o).cell? ⟨w.heap.size, 2, none⟩ = some (.slice A t.ks.length c)))
  have SS3 := Lib.hid (fun (W : World) (h : Below W0.heap.size W0 W) (v : Value) (o : Obj) => (((((G0.out.keep h).keep (alB W o)).xb.set_other ⟨w.heap.size + 1 + 1, 0, none⟩ v (by show w.heap.size ≠ w.heap.size + 1 + 1; omega)).cells : ((W.alloc o).setCell ⟨w.heap.size + 1 + 1, 0, none⟩ v).cell? ⟨w.heap.size, 0, none⟩ = some (.int .i64 t.k) ∧ ((W.alloc o).setCell ⟨w.heap.size + 1 + 1, 0, none⟩ v).cell? ⟨w.heap.size, 1, none⟩ = some (.int .i64 t.i) ∧ ((W.alloc o).setCell ⟨w.heap.size + 1 + 1, 0, none⟩ v).cell? ⟨w.heap.size, 2, none⟩ = some (.slice A t.ks.length c))))
  have SS := Lib.hid (fun (W : World) (h : Below W0.heap.size W0 W) => (G0.out.keep h).xb.cells)
  go_region_held3 (fun w' => w'.cell? ⟨w.heap.size, 0, none⟩ = some (.int .i64 t.k) ∧ w'.cell? ⟨w.heap.size, 1, none⟩ = some (.int .i64 t.i) ∧ w'.cell? ⟨w.heap.size, 2, none⟩ = some (.slice A t.ks.length c))
    (first | (with_reducible exact SS.out _ BB.bel) | (with_reducible exact SS.out _ BB.dr.bel) | (with_reducible exact SS.out _ (BB.al _).bel) | (with_reducible exact SS.out _ (BB.al _).dr.bel) | (with_reducible exact SS.out _ ((BB.al _).al _).bel) | (with_reducible exact SS.out _ ((BB.al _).al _).dr.bel) | (with_reducible exact SS.out _ (stepB BB.bel (below_alloc _ _))) | (with_reducible exact SS2.out _ BB.bel _ _) | (with_reducible exact SS3.out _ BB.bel _ _) | exact SS2.out _ BB.bel _ _ | exact SS3.out _ BB.bel _ _)
    (first
        | (go_at_call 71; (first | ((with_reducible refine (K0.out.1 _ _ _ _ _ _ BB ?_ ?_ ?_).mono ?_); (first | with_reducible rfl | (focus (simp [drew_sz]; done))); rfl; rfl; rintro e w6 ⟨hb6, A0, c0, rfl, t0⟩; replace BB := (BB).call hb6) | ((with_reducible refine (K0.out.2.1 _ _ _ _ _ _ _ BB ?_ ?_ ?_).mono ?_); (first | with_reducible rfl | (focus (simp [drew_sz]; done))); rfl; rfl; rintro e w6 ⟨hb6, A0, c0, rfl, t0⟩; replace BB := (BB).call hb6) | ((with_reducible refine (K0.out.1 _ _ _ _ _ _ (BB.dr) ?_ ?_ ?_).mono ?_); (first | with_reducible rfl | (focus (simp [drew_sz]; done))); rfl; rfl; rintro e w6 ⟨hb6, A0, c0, rfl, t0⟩; replace BB := ((BB.dr)).call hb6) | ((with_reducible refine (K0.out.2.1 _ _ _ _ _ _ _ (BB.dr) ?_ ?_ ?_).mono ?_); (first | with_reducible rfl | (focus (simp [drew_sz]; done))); rfl; rfl; rintro e w6 ⟨hb6, A0, c0, rfl, t0⟩; replace BB := ((BB.dr)).call hb6) | ((with_reducible refine (K0.out.1 _ _ _ _ _ _ (BB.al _) ?_ ?_ ?_).mono ?_); (first | with_reducible rfl | (focus (simp [drew_sz]; done))); rfl; rfl; rintro e w6 ⟨hb6, A0, c0, rfl, t0⟩; replace BB := ((BB.al _)).call hb6) | ((with_reducible refine (K0.out.2.1 _ _ _ _ _ _ _ (BB.al _) ?_ ?_ ?_).mono ?_); (first | with_reducible rfl | (focus (simp [drew_sz]; done))); rfl; rfl; rintro e w6 ⟨hb6, A0, c0, rfl, t0⟩; replace BB := ((BB.al _)).call hb6) | ((with_reducible refine (K0.out.1 _ _ _ _ _ _ ((BB.al _).dr) ?_ ?_ ?_).mono ?_); (first | with_reducible rfl | (focus (simp [drew_sz]; done))); rfl; rfl; rintro e w6 ⟨hb6, A0, c0, rfl, t0⟩; replace BB := (((BB.al _).dr)).call hb6) | ((with_reducible refine (K0.out.2.1 _ _ _ _ _ _ _ ((BB.al _).dr) ?_ ?_ ?_).mono ?_); (first | with_reducible rfl | (focus (simp [drew_sz]; done))); rfl; rfl; rintro e w6 ⟨hb6, A0, c0, rfl, t0⟩; replace BB := (((BB.al _).dr)).call hb6) | ((with_reducible refine (K0.out.1 _ _ _ _ _ _ ((BB.al _).al _) ?_ ?_ ?_).mono ?_); (first | with_reducible rfl | (focus (simp [drew_sz]; done))); rfl; rfl; rintro e w6 ⟨hb6, A0, c0, rfl, t0⟩; replace BB := (((BB.al _).al _)).call hb6) | ((with_reducible refine (K0.out.2.1 _ _ _ _ _ _ _ ((BB.al _).al _) ?_ ?_ ?_).mono ?_); (first | with_reducible rfl | (focus (simp [drew_sz]; done))); rfl; rfl; rintro e w6 ⟨hb6, A0, c0, rfl, t0⟩; replace BB := (((BB.al _).al _)).call hb6) | ((with_reducible refine (K0.out.1 _ _ _ _ _ _ (((BB.al _).al _).dr) ?_ ?_ ?_).mono ?_); (first | with_reducible rfl | (focus (simp [drew_sz]; done))); rfl; rfl; rintro e w6 ⟨hb6, A0, c0, rfl, t0⟩; replace BB := ((((BB.al _).al _).dr)).call hb6) | ((with_reducible refine (K0.out.2.1 _ _ _ _ _ _ _ (((BB.al _).al _).dr) ?_ ?_ ?_).mono ?_); (first | with_reducible rfl | (focus (simp [drew_sz]; done))); rfl; rfl; rintro e w6 ⟨hb6, A0, c0, rfl, t0⟩; replace BB := ((((BB.al _).al _).dr)).call hb6)); have T0 := Lib.hid t0; clear t0 hb6; have pbx := (G0.out.keep BB.bel).pb; obtain ⟨p0, p1⟩ := pbx.cells; have pf := pbx.frozen 0; have plt := pbx.lt; have rbx := (G0.out.keep BB.bel).rb; obtain ⟨r0, r1⟩ := rbx.cells; have rf0 := rbx.frozen 0; have rf1 := rbx.frozen 1; have rlt := rbx.lt; clear pbx rbx)
        | (go_at_call 71; (first | ((with_reducible refine (K1.out.1 _ _ _ _ _ _ BB ?_ ?_ ?_).mono ?_); (first | with_reducible rfl | (focus (simp [drew_sz]; done))); rfl; rfl; rintro e w6 ⟨hb6, A1, c1, rfl, t1⟩; replace BB := (BB).call hb6) | ((with_reducible refine (K1.out.2.1 _ _ _ _ _ _ _ BB ?_ ?_ ?_).mono ?_); (first | with_reducible rfl | (focus (simp [drew_sz]; done))); rfl; rfl; rintro e w6 ⟨hb6, A1, c1, rfl, t1⟩; replace BB := (BB).call hb6) | ((with_reducible refine (K1.out.1 _ _ _ _ _ _ (BB.al _) ?_ ?_ ?_).mono ?_); (first | with_reducible rfl | (focus (simp [drew_sz]; done))); rfl; rfl; rintro e w6 ⟨hb6, A1, c1, rfl, t1⟩; replace BB := ((BB.al _)).call hb6) | ((with_reducible refine (K1.out.2.1 _ _ _ _ _ _ _ (BB.al _) ?_ ?_ ?_).mono ?_); (first | with_reducible rfl | (focus (simp [drew_sz]; done))); rfl; rfl; rintro e w6 ⟨hb6, A1, c1, rfl, t1⟩; replace BB := ((BB.al _)).call hb6) | ((with_reducible refine (K1.out.1 _ _ _ _ _ _ ((BB.al _).al _) ?_ ?_ ?_).mono ?_); (first | with_reducible rfl | (focus (simp [drew_sz]; done))); rfl; rfl; rintro e w6 ⟨hb6, A1, c1, rfl, t1⟩; replace BB := (((BB.al _).al _)).call hb6) | ((with_reducible refine (K1.out.2.1 _ _ _ _ _ _ _ ((BB.al _).al _) ?_ ?_ ?_).mono ?_); (first | with_reducible rfl | (focus (simp [drew_sz]; done))); rfl; rfl; rintro e w6 ⟨hb6, A1, c1, rfl, t1⟩; replace BB := (((BB.al _).al _)).call hb6)); have T1 := Lib.hid t1; clear t1 hb6; have pbx := (G0.out.keep BB.bel).pb; obtain ⟨p0, p1⟩ := pbx.cells; have pf := pbx.frozen 0; have plt := pbx.lt; have rbx := (G0.out.keep BB.bel).rb; obtain ⟨r0, r1⟩ := rbx.cells; have rf0 := rbx.frozen 0; have rf1 := rbx.frozen 1; have rlt := rbx.lt; clear pbx rbx))
  all_goals go_wp2_with fail
  all_goals
    obtain ⟨e0, e1, e2⟩ : ((((w6.setCell ⟨w.heap.size + 1 + 1, 0, none⟩ (.slice (some ⟨w6.heap.size, 0, none⟩) 2 2)).setCell ⟨w.heap.size + 1, 0, none⟩ (.slice (some ⟨w6.heap.size, 0, none⟩) 2 2)).setCell ⟨w.heap.size + 1, 1, none⟩ (.int .i64 (0))).alloc (.cells #[.int .i64 (kidT t [0]).k, .int .i64 (kidT t [0]).i, .slice A0 (kidT t [0]).ks.length c0, .int .i64 (kidT t [1, 0]).k, .int .i64 (kidT t [1, 0]).i, .slice A1 (kidT t [1, 0]).ks.length c1] 24)).cell? ⟨w.heap.size + 1, 0, none⟩ = some (.slice (some ⟨w6.heap.size, 0, none⟩) 2 2) ∧ ((((w6.setCell ⟨w.heap.size + 1 + 1, 0, none⟩ (.slice (some ⟨w6.heap.size, 0, none⟩) 2 2)).setCell ⟨w.heap.size + 1, 0, none⟩ (.slice (some ⟨w6.heap.size, 0, none⟩) 2 2)).setCell ⟨w.heap.size + 1, 1, none⟩ (.int .i64 (0))).alloc (.cells #[.int .i64 (kidT t [0]).k, .int .i64 (kidT t [0]).i, .slice A0 (kidT t [0]).ks.length c0, .int .i64 (kidT t [1, 0]).k, .int .i64 (kidT t [1, 0]).i, .slice A1 (kidT t [1, 0]).ks.length c1] 24)).cell? ⟨w.heap.size + 1, 1, none⟩ = some (.int .i64 (0)) ∧ GuessP w ([kidT t [0], kidT t [1, 0]], 0) (.returned (.agg #[.slice (some ⟨w6.heap.size, 0, none⟩) 2 2, .int .i64 (0)])) ((((w6.setCell ⟨w.heap.size + 1 + 1, 0, none⟩ (.slice (some ⟨w6.heap.size, 0, none⟩) 2 2)).setCell ⟨w.heap.size + 1, 0, none⟩ (.slice (some ⟨w6.heap.size, 0, none⟩) 2 2)).setCell ⟨w.heap.size + 1, 1, none⟩ (.int .i64 (0))).alloc (.cells #[.int .i64 (kidT t [0]).k, .int .i64 (kidT t [0]).i, .slice A0 (kidT t [0]).ks.length c0, .int .i64 (kidT t [1, 0]).k, .int .i64 (kidT t [1, 0]).i, .slice A1 (kidT t [1, 0]).ks.length c1] 24)) :=
      gq_end (l := [kidT t [0], kidT t [1, 0]]) (cs := [(A0, c0), (A1, c1)]) (n := 2) (G0.out.keep BB.bel) rfl rfl (by unfold Cap; simp) (fun m hm => by
        match m, hm with
        | 0, _ => exact T0.out | 1, _ => exact T1.out)
    exact bodyPost_ret (v := .agg #[.slice (some ⟨w6.heap.size, 0, none⟩) 2 2, .int .i64 (0)]) (by simp [results, Tryz.results31, go_sem, e0, e1]) rfl e2
end Go.Proofs.YtgnfbhemkombaaaGreat
namespace Go.Proofs.YtgnfbhemkombaaaGreat
open Go.RowKit
set_option linter.unusedVariables false
set_option linter.unusedSimpArgs false
set_option maxHeartbeats 100000000 in
set_option maxRecDepth 100000 in
theorem guess2_any (t : Tr) (A : Option Addr) (c : Nat) (w : World) (ht : IsT w w.heap.size t A c) :
    Calls Tryz.prog 31 #[.int .i64 2, .agg #[.int .i64 t.k, .int .i64 t.i, .slice A t.ks.length c]] w (GuessP w (guessV 2 t)) := by
  obtain ⟨W0, hW0⟩ : ∃ W0, W0 = ((w.alloc (.cells #[.int .i64 t.k, .int .i64 t.i, .slice A t.ks.length c] 24)).alloc (.cells #[.slice none 0 0, .int .i64 0] 32)).alloc (.cells #[.slice none 0 0, .int .i64 0] 32) := ⟨_, rfl⟩
  have S0 := Lib.hid (show GB w W0 t A c 0 by rw [hW0]; exact GB.start w t A c)
  have HT := Lib.hid ht
  have HW := Lib.hid hW0
  clear ht hW0
  go_enter Tryz.func31, Tryz.ntmps31
  go_upto_region 6 with fail
  rw [← HW.out]
  have G0 := Lib.hid S0.out
  have BB : Trc W0 W0 [] := Trc.nil _
  have KID := Lib.hid (fun (zs : List Int) (hz : ∀ z ∈ zs, 0 ≤ z) (h8 : zs.length ≤ 8) (W : World) (L : List (Nat × Array Value)) (r n : Nat) (T : Trc W0 W L) (j : Nat) (r' : Nat) (cs : Array Value) (hj : L[j]? = some (r', cs)) (hr : r' = r) (hc : cs = (zs.map (Value.int .i64)).toArray) (hn : zs.length = n) =>
    (kid_any w w.heap.size t A c r n n zs W (G0.out.keep T.bel).bel (G0.out.keep T.bel).bel.size HT.out (T.path hj hr hc).1 (T.path hj hr hc).2 hn (by omega) hz : Calls Tryz.prog 71 #[.agg #[.int .i64 t.k, .int .i64 t.i, .slice A t.ks.length c], .slice (some ⟨r, 0, none⟩) n n] W (PartO w w.heap.size W (kidT t zs))))
  have KQ := Lib.hid (fun (zs : List Int) (hz : ∀ z ∈ zs, 0 ≤ z) (h8 : zs.length ≤ 8) => And.intro
    (fun (W : World) (L : List (Nat × Array Value)) (r n r' : Nat) (cs : Array Value) (T : Trc W0 W ((r', cs) :: L)) (hr : r' = r) (hc : cs = (zs.map (Value.int .i64)).toArray) (hn : zs.length = n) => KID.out zs hz h8 W _ r n T 0 r' cs rfl hr hc hn) (And.intro
    (fun (x0 : Nat × Array Value) (W : World) (L : List (Nat × Array Value)) (r n r' : Nat) (cs : Array Value) (T : Trc W0 W (x0 :: (r', cs) :: L)) (hr : r' = r) (hc : cs = (zs.map (Value.int .i64)).toArray) (hn : zs.length = n) => KID.out zs hz h8 W _ r n T 1 r' cs rfl hr hc hn) (And.intro
    (fun (x0 x1 : Nat × Array Value) (W : World) (L : List (Nat × Array Value)) (r n r' : Nat) (cs : Array Value) (T : Trc W0 W (x0 :: x1 :: (r', cs) :: L)) (hr : r' = r) (hc : cs = (zs.map (Value.int .i64)).toArray) (hn : zs.length = n) => KID.out zs hz h8 W _ r n T 2 r' cs rfl hr hc hn) (And.intro
    (fun (x0 x1 x2 : Nat × Array Value) (W : World) (L : List (Nat × Array Value)) (r n r' : Nat) (cs : Array Value) (T : Trc W0 W (x0 :: x1 :: x2 :: (r', cs) :: L)) (hr : r' = r) (hc : cs = (zs.map (Value.int .i64)).toArray) (hn : zs.length = n) => KID.out zs hz h8 W _ r n T 3 r' cs rfl hr hc hn) True.intro))))
  have K0 := Lib.hid (KQ.out [0, 0] (by decide) (by decide))
  have K1 := Lib.hid (KQ.out [0, 1, 0] (by decide) (by decide))
  have K2 := Lib.hid (KQ.out [0, 1, 1] (by decide) (by decide))
  have SS2 := Lib.hid (fun (W : World) (h : Below W0.heap.size W0 W) (v : Value) (o : Obj) => ((((G0.out.keep h).xb.set_other ⟨w.heap.size + 1 + 1, 0, none⟩ v (by show w.heap.size ≠ w.heap.size + 1 + 1; omega)).keep (alB _ o) (by have := (G0.out.keep h).xb.lt; simpa using this)).cells : ((W.setCell ⟨w.heap.size + 1 + 1, 0, none⟩ v).alloc o).cell? ⟨w.heap.size, 0, none⟩ = some (.int .i64 t.k) ∧ ((W.setCell ⟨w.heap.size + 1 + 1, 0, none⟩ v).alloc o).cell? ⟨w.heap.size, 1, none⟩ = some (.int .i64 t.i) ∧ ((W.setCell ⟨w.heap.size + 1 + 1, 0, none⟩ v).alloc o).cell? ⟨w.heap.size, 2, none⟩ = some (.slice A t.ks.length c)))
  have SS3 := Lib.hid (fun (W : World) (h : Below W0.heap.size W0 W) (v : Value) (o : Obj) => (((((G0.out.keep h).keep (alB W o)).xb.set_other ⟨w.heap.size + 1 + 1, 0, none⟩ v (by show w.heap.size ≠ w.heap.size + 1 + 1; omega)).cells : ((W.alloc o).setCell ⟨w.heap.size + 1 + 1, 0, none⟩ v).cell? ⟨w.heap.size, 0, none⟩ = some (.int .i64 t.k) ∧ ((W.alloc o).setCell ⟨w.heap.size + 1 + 1, 0, none⟩ v).cell? ⟨w.heap.size, 1, none⟩ = some (.int .i64 t.i) ∧ ((W.alloc o).setCell ⟨w.heap.size + 1 + 1, 0, none⟩ v).cell? ⟨w.heap.size, 2, none⟩ = some (.slice A t.ks.length c))))
  have SS := Lib.hid (fun (W : World) (h : Below W0.heap.size W0 W) => (G0.out.keep h).xb.cells)
  go_region_held3 (fun w' => w'.cell? ⟨w.heap.size, 0, none⟩ = some (.int .i64 t.k) ∧ w'.cell? ⟨w.heap.size, 1, none⟩ = some (.int .i64 t.i) ∧ w'.cell? ⟨w.heap.size, 2, none⟩ = some (.slice A t.ks.length c))
    (first | (with_reducible exact SS.out _ BB.bel) | (with_reducible exact SS.out _ BB.dr.bel) | (with_reducible exact SS.out _ (BB.al _).bel) | (with_reducible exact SS.out _ (BB.al _).dr.bel) | (with_reducible exact SS.out _ ((BB.al _).al _).bel) | (with_reducible exact SS.out _ ((BB.al _).al _).dr.bel) | (with_reducible exact SS.out _ (((BB.al _).al _).al _).bel) | (with_reducible exact SS.out _ (((BB.al _).al _).al _).dr.bel) | (with_reducible exact SS.out _ (stepB BB.bel (below_alloc _ _))) | (with_reducible exact SS2.out _ BB.bel _ _) | (with_reducible exact SS3.out _ BB.bel _ _) | exact SS2.out _ BB.bel _ _ | exact SS3.out _ BB.bel _ _)
    (first
        | (go_at_call 71; (first | ((with_reducible refine (K0.out.1 _ _ _ _ _ _ BB ?_ ?_ ?_).mono ?_); (first | with_reducible rfl | (focus (simp [drew_sz]; done))); rfl; rfl; rintro e w6 ⟨hb6, A0, c0, rfl, t0⟩; replace BB := (BB).call hb6) | ((with_reducible refine (K0.out.2.1 _ _ _ _ _ _ _ BB ?_ ?_ ?_).mono ?_); (first | with_reducible rfl | (focus (simp [drew_sz]; done))); rfl; rfl; rintro e w6 ⟨hb6, A0, c0, rfl, t0⟩; replace BB := (BB).call hb6) | ((with_reducible refine (K0.out.2.2.1 _ _ _ _ _ _ _ _ BB ?_ ?_ ?_).mono ?_); (first | with_reducible rfl | (focus (simp [drew_sz]; done))); rfl; rfl; rintro e w6 ⟨hb6, A0, c0, rfl, t0⟩; replace BB := (BB).call hb6) | ((with_reducible refine (K0.out.1 _ _ _ _ _ _ (BB.dr) ?_ ?_ ?_).mono ?_); (first | with_reducible rfl | (focus (simp [drew_sz]; done))); rfl; rfl; rintro e w6 ⟨hb6, A0, c0, rfl, t0⟩; replace BB := ((BB.dr)).call hb6) | ((with_reducible refine (K0.out.2.1 _ _ _ _ _ _ _ (BB.dr) ?_ ?_ ?_).mono ?_); (first | with_reducible rfl | (focus (simp [drew_sz]; done))); rfl; rfl; rintro e w6 ⟨hb6, A0, c0, rfl, t0⟩; replace BB := ((BB.dr)).call hb6) | ((with_reducible refine (K0.out.2.2.1 _ _ _ _ _ _ _ _ (BB.dr) ?_ ?_ ?_).mono ?_); (first | with_reducible rfl | (focus (simp [drew_sz]; done))); rfl; rfl; rintro e w6 ⟨hb6, A0, c0, rfl, t0⟩; replace BB := ((BB.dr)).call hb6) | ((with_reducible refine (K0.out.1 _ _ _ _ _ _ (BB.al _) ?_ ?_ ?_).mono ?_); (first | with_reducible rfl | (focus (simp [drew_sz]; done))); rfl; rfl; rintro e w6 ⟨hb6, A0, c0, rfl, t0⟩; replace BB := ((BB.al _)).call hb6) | ((with_reducible refine (K0.out.2.1 _ _ _ _ _ _ _ (BB.al _) ?_ ?_ ?_).mono ?_); (first | with_reducible rfl | (focus (simp [drew_sz]; done))); rfl; rfl; rintro e w6 ⟨hb6, A0, c0, rfl, t0⟩; replace BB := ((BB.al _)).call hb6) | ((with_reducible refine (K0.out.2.2.1 _ _ _ _ _ _ _ _ (BB.al _) ?_ ?_ ?_).mono ?_); (first | with_reducible rfl | (focus (simp [drew_sz]; done))); rfl; rfl; rintro e w6 ⟨hb6, A0, c0, rfl, t0⟩; replace BB := ((BB.al _)).call hb6) | ((with_reducible refine (K0.out.1 _ _ _ _ _ _ ((BB.al _).dr) ?_ ?_ ?_).mono ?_); (first | with_reducible rfl | (focus (simp [drew_sz]; done))); rfl; rfl; rintro e w6 ⟨hb6, A0, c0, rfl, t0⟩; replace BB := (((BB.al _).dr)).call hb6) | ((with_reducible refine (K0.out.2.1 _ _ _ _ _ _ _ ((BB.al _).dr) ?_ ?_ ?_).mono ?_); (first | with_reducible rfl | (focus (simp [drew_sz]; done))); rfl; rfl; rintro e w6 ⟨hb6, A0, c0, rfl, t0⟩; replace BB := (((BB.al _).dr)).call hb6) | ((with_reducible refine (K0.out.2.2.1 _ _ _ _ _ _ _ _ ((BB.al _).dr) ?_ ?_ ?_).mono ?_); (first | with_reducible rfl | (focus (simp [drew_sz]; done))); rfl; rfl; rintro e w6 ⟨hb6, A0, c0, rfl, t0⟩; replace BB := (((BB.al _).dr)).call hb6) | ((with_reducible refine (K0.out.1 _ _ _ _ _ _ ((BB.al _).al _) ?_ ?_ ?_).mono ?_); (first | with_reducible rfl | (focus (simp [drew_sz]; done))); rfl; rfl; rintro e w6 ⟨hb6, A0, c0, rfl, t0⟩; replace BB := (((BB.al _).al _)).call hb6) | ((with_reducible refine (K0.out.2.1 _ _ _ _ _ _ _ ((BB.al _).al _) ?_ ?_ ?_).mono ?_); (first | with_reducible rfl | (focus (simp [drew_sz]; done))); rfl; rfl; rintro e w6 ⟨hb6, A0, c0, rfl, t0⟩; replace BB := (((BB.al _).al _)).call hb6) | ((with_reducible refine (K0.out.2.2.1 _ _ _ _ _ _ _ _ ((BB.al _).al _) ?_ ?_ ?_).mono ?_); (first | with_reducible rfl | (focus (simp [drew_sz]; done))); rfl; rfl; rintro e w6 ⟨hb6, A0, c0, rfl, t0⟩; replace BB := (((BB.al _).al _)).call hb6) | ((with_reducible refine (K0.out.1 _ _ _ _ _ _ (((BB.al _).al _).dr) ?_ ?_ ?_).mono ?_); (first | with_reducible rfl | (focus (simp [drew_sz]; done))); rfl; rfl; rintro e w6 ⟨hb6, A0, c0, rfl, t0⟩; replace BB := ((((BB.al _).al _).dr)).call hb6) | ((with_reducible refine (K0.out.2.1 _ _ _ _ _ _ _ (((BB.al _).al _).dr) ?_ ?_ ?_).mono ?_); (first | with_reducible rfl | (focus (simp [drew_sz]; done))); rfl; rfl; rintro e w6 ⟨hb6, A0, c0, rfl, t0⟩; replace BB := ((((BB.al _).al _).dr)).call hb6) | ((with_reducible refine (K0.out.2.2.1 _ _ _ _ _ _ _ _ (((BB.al _).al _).dr) ?_ ?_ ?_).mono ?_); (first | with_reducible rfl | (focus (simp [drew_sz]; done))); rfl; rfl; rintro e w6 ⟨hb6, A0, c0, rfl, t0⟩; replace BB := ((((BB.al _).al _).dr)).call hb6) | ((with_reducible refine (K0.out.1 _ _ _ _ _ _ (((BB.al _).al _).al _) ?_ ?_ ?_).mono ?_); (first | with_reducible rfl | (focus (simp [drew_sz]; done))); rfl; rfl; rintro e w6 ⟨hb6, A0, c0, rfl, t0⟩; replace BB := ((((BB.al _).al _).al _)).call hb6) | ((with_reducible refine (K0.out.2.1 _ _ _ _ _ _ _ (((BB.al _).al _).al _) ?_ ?_ ?_).mono ?_); (first | with_reducible rfl | (focus (simp [drew_sz]; done))); rfl; rfl; rintro e w6 ⟨hb6, A0, c0, rfl, t0⟩; replace BB := ((((BB.al _).al _).al _)).call hb6) | ((with_reducible refine (K0.out.2.2.1 _ _ _ _ _ _ _ _ (((BB.al _).al _).al _) ?_ ?_ ?_).mono ?_); (first | with_reducible rfl | (focus (simp [drew_sz]; done))); rfl; rfl; rintro e w6 ⟨hb6, A0, c0, rfl, t0⟩; replace BB := ((((BB.al _).al _).al _)).call hb6) | ((with_reducible refine (K0.out.1 _ _ _ _ _ _ ((((BB.al _).al _).al _).dr) ?_ ?_ ?_).mono ?_); (first | with_reducible rfl | (focus (simp [drew_sz]; done))); rfl; rfl; rintro e w6 ⟨hb6, A0, c0, rfl, t0⟩; replace BB := (((((BB.al _).al _).al _).dr)).call hb6) | ((with_reducible refine (K0.out.2.1 _ _ _ _ _ _ _ ((((BB.al _).al _).al _).dr) ?_ ?_ ?_).mono ?_); (first | with_reducible rfl | (focus (simp [drew_sz]; done))); rfl; rfl; rintro e w6 ⟨hb6, A0, c0, rfl, t0⟩; replace BB := (((((BB.al _).al _).al _).dr)).call hb6) | ((with_reducible refine (K0.out.2.2.1 _ _ _ _ _ _ _ _ ((((BB.al _).al _).al _).dr) ?_ ?_ ?_).mono ?_); (first | with_reducible rfl | (focus (simp [drew_sz]; done))); rfl; rfl; rintro e w6 ⟨hb6, A0, c0, rfl, t0⟩; replace BB := (((((BB.al _).al _).al _).dr)).call hb6)); have T0 := Lib.hid t0; clear t0 hb6; have pbx := (G0.out.keep BB.bel).pb; obtain ⟨p0, p1⟩ := pbx.cells; have pf := pbx.frozen 0; have plt := pbx.lt; have rbx := (G0.out.keep BB.bel).rb; obtain ⟨r0, r1⟩ := rbx.cells; have rf0 := rbx.frozen 0; have rf1 := rbx.frozen 1; have rlt := rbx.lt; clear pbx rbx)
        | (go_at_call 71; (first | ((with_reducible refine (K1.out.1 _ _ _ _ _ _ BB ?_ ?_ ?_).mono ?_); (first | with_reducible rfl | (focus (simp [drew_sz]; done))); rfl; rfl; rintro e w6 ⟨hb6, A1, c1, rfl, t1⟩; replace BB := (BB).call hb6) | ((with_reducible refine (K1.out.2.1 _ _ _ _ _ _ _ BB ?_ ?_ ?_).mono ?_); (first | with_reducible rfl | (focus (simp [drew_sz]; done))); rfl; rfl; rintro e w6 ⟨hb6, A1, c1, rfl, t1⟩; replace BB := (BB).call hb6) | ((with_reducible refine (K1.out.2.2.1 _ _ _ _ _ _ _ _ BB ?_ ?_ ?_).mono ?_); (first | with_reducible rfl | (focus (simp [drew_sz]; done))); rfl; rfl; rintro e w6 ⟨hb6, A1, c1, rfl, t1⟩; replace BB := (BB).call hb6) | ((with_reducible refine (K1.out.1 _ _ _ _ _ _ (BB.al _) ?_ ?_ ?_).mono ?_); (first | with_reducible rfl | (focus (simp [drew_sz]; done))); rfl; rfl; rintro e w6 ⟨hb6, A1, c1, rfl, t1⟩; replace BB := ((BB.al _)).call hb6) | ((with_reducible refine (K1.out.2.1 _ _ _ _ _ _ _ (BB.al _) ?_ ?_ ?_).mono ?_); (first | with_reducible rfl | (focus (simp [drew_sz]; done))); rfl; rfl; rintro e w6 ⟨hb6, A1, c1, rfl, t1⟩; replace BB := ((BB.al _)).call hb6) | ((with_reducible refine (K1.out.2.2.1 _ _ _ _ _ _ _ _ (BB.al _) ?_ ?_ ?_).mono ?_); (first | with_reducible rfl | (focus (simp [drew_sz]; done))); rfl; rfl; rintro e w6 ⟨hb6, A1, c1, rfl, t1⟩; replace BB := ((BB.al _)).call hb6) | ((with_reducible refine (K1.out.1 _ _ _ _ _ _ ((BB.al _).al _) ?_ ?_ ?_).mono ?_); (first | with_reducible rfl | (focus (simp [drew_sz]; done))); rfl; rfl; rintro e w6 ⟨hb6, A1, c1, rfl, t1⟩; replace BB := (((BB.al _).al _)).call hb6) | ((with_reducible refine (K1.out.2.1 _ _ _ _ _ _ _ ((BB.al _).al _) ?_ ?_ ?_).mono ?_); (first | with_reducible rfl | (focus (simp [drew_sz]; done))); rfl; rfl; rintro e w6 ⟨hb6, A1, c1, rfl, t1⟩; replace BB := (((BB.al _).al _)).call hb6) | ((with_reducible refine (K1.out.2.2.1 _ _ _ _ _ _ _ _ ((BB.al _).al _) ?_ ?_ ?_).mono ?_); (first | with_reducible rfl | (focus (simp [drew_sz]; done))); rfl; rfl; rintro e w6 ⟨hb6, A1, c1, rfl, t1⟩; replace BB := (((BB.al _).al _)).call hb6) | ((with_reducible refine (K1.out.1 _ _ _ _ _ _ (((BB.al _).al _).al _) ?_ ?_ ?_).mono ?_); (first | with_reducible rfl | (focus (simp [drew_sz]; done))); rfl; rfl; rintro e w6 ⟨hb6, A1, c1, rfl, t1⟩; replace BB := ((((BB.al _).al _).al _)).call hb6) | ((with_reducible refine (K1.out.2.1 _ _ _ _ _ _ _ (((BB.al _).al _).al _) ?_ ?_ ?_).mono ?_); (first | with_reducible rfl | (focus (simp [drew_sz]; done))); rfl; rfl; rintro e w6 ⟨hb6, A1, c1, rfl, t1⟩; replace BB := ((((BB.al _).al _).al _)).call hb6) | ((with_reducible refine (K1.out.2.2.1 _ _ _ _ _ _ _ _ (((BB.al _).al _).al _) ?_ ?_ ?_).mono ?_); (first | with_reducible rfl | (focus (simp [drew_sz]; done))); rfl; rfl; rintro e w6 ⟨hb6, A1, c1, rfl, t1⟩; replace BB := ((((BB.al _).al _).al _)).call hb6)); have T1 := Lib.hid t1; clear t1 hb6; have pbx := (G0.out.keep BB.bel).pb; obtain ⟨p0, p1⟩ := pbx.cells; have pf := pbx.frozen 0; have plt := pbx.lt; have rbx := (G0.out.keep BB.bel).rb; obtain ⟨r0, r1⟩ := rbx.cells; have rf0 := rbx.frozen 0; have rf1 := rbx.frozen 1; have rlt := rbx.lt; clear pbx rbx)
        | (go_at_call 71; (first | ((with_reducible refine (K2.out.1 _ _ _ _ _ _ BB ?_ ?_ ?_).mono ?_); (first | with_reducible rfl | (focus (simp [drew_sz]; done))); rfl; rfl; rintro e w6 ⟨hb6, A2, c2, rfl, t2⟩; replace BB := (BB).call hb6) | ((with_reducible refine (K2.out.2.1 _ _ _ _ _ _ _ BB ?_ ?_ ?_).mono ?_); (first | with_reducible rfl | (focus (simp [drew_sz]; done))); rfl; rfl; rintro e w6 ⟨hb6, A2, c2, rfl, t2⟩; replace BB := (BB).call hb6) | ((with_reducible refine (K2.out.2.2.1 _ _ _ _ _ _ _ _ BB ?_ ?_ ?_).mono ?_); (first | with_reducible rfl | (focus (simp [drew_sz]; done))); rfl; rfl; rintro e w6 ⟨hb6, A2, c2, rfl, t2⟩; replace BB := (BB).call hb6) | ((with_reducible refine (K2.out.1 _ _ _ _ _ _ (BB.al _) ?_ ?_ ?_).mono ?_); (first | with_reducible rfl | (focus (simp [drew_sz]; done))); rfl; rfl; rintro e w6 ⟨hb6, A2, c2, rfl, t2⟩; replace BB := ((BB.al _)).call hb6) | ((with_reducible refine (K2.out.2.1 _ _ _ _ _ _ _ (BB.al _) ?_ ?_ ?_).mono ?_); (first | with_reducible rfl | (focus (simp [drew_sz]; done))); rfl; rfl; rintro e w6 ⟨hb6, A2, c2, rfl, t2⟩; replace BB := ((BB.al _)).call hb6) | ((with_reducible refine (K2.out.2.2.1 _ _ _ _ _ _ _ _ (BB.al _) ?_ ?_ ?_).mono ?_); (first | with_reducible rfl | (focus (simp [drew_sz]; done))); rfl; rfl; rintro e w6 ⟨hb6, A2, c2, rfl, t2⟩; replace BB := ((BB.al _)).call hb6) | ((with_reducible refine (K2.out.1 _ _ _ _ _ _ ((BB.al _).al _) ?_ ?_ ?_).mono ?_); (first | with_reducible rfl | (focus (simp [drew_sz]; done))); rfl; rfl; rintro e w6 ⟨hb6, A2, c2, rfl, t2⟩; replace BB := (((BB.al _).al _)).call hb6) | ((with_reducible refine (K2.out.2.1 _ _ _ _ _ _ _ ((BB.al _).al _) ?_ ?_ ?_).mono ?_); (first | with_reducible rfl | (focus (simp [drew_sz]; done))); rfl; rfl; rintro e w6 ⟨hb6, A2, c2, rfl, t2⟩; replace BB := (((BB.al _).al _)).call hb6) | ((with_reducible refine (K2.out.2.2.1 _ _ _ _ _ _ _ _ ((BB.al _).al _) ?_ ?_ ?_).mono ?_); (first | with_reducible rfl | (focus (simp [drew_sz]; done))); rfl; rfl; rintro e w6 ⟨hb6, A2, c2, rfl, t2⟩; replace BB := (((BB.al _).al _)).call hb6) | ((with_reducible refine (K2.out.1 _ _ _ _ _ _ (((BB.al _).al _).al _) ?_ ?_ ?_).mono ?_); (first | with_reducible rfl | (focus (simp [drew_sz]; done))); rfl; rfl; rintro e w6 ⟨hb6, A2, c2, rfl, t2⟩; replace BB := ((((BB.al _).al _).al _)).call hb6) | ((with_reducible refine (K2.out.2.1 _ _ _ _ _ _ _ (((BB.al _).al _).al _) ?_ ?_ ?_).mono ?_); (first | with_reducible rfl | (focus (simp [drew_sz]; done))); rfl; rfl; rintro e w6 ⟨hb6, A2, c2, rfl, t2⟩; replace BB := ((((BB.al _).al _).al _)).call hb6) | ((with_reducible refine (K2.out.2.2.1 _ _ _ _ _ _ _ _ (((BB.al _).al _).al _) ?_ ?_ ?_).mono ?_); (first | with_reducible rfl | (focus (simp [drew_sz]; done))); rfl; rfl; rintro e w6 ⟨hb6, A2, c2, rfl, t2⟩; replace BB := ((((BB.al _).al _).al _)).call hb6)); have T2 := Lib.hid t2; clear t2 hb6; have pbx := (G0.out.keep BB.bel).pb; obtain ⟨p0, p1⟩ := pbx.cells; have pf := pbx.frozen 0; have plt := pbx.lt; have rbx := (G0.out.keep BB.bel).rb; obtain ⟨r0, r1⟩ := rbx.cells; have rf0 := rbx.frozen 0; have rf1 := rbx.frozen 1; have rlt := rbx.lt; clear pbx rbx))
  all_goals go_wp2_with fail
  all_goals
    obtain ⟨e0, e1, e2⟩ : ((((w6.setCell ⟨w.heap.size + 1 + 1, 0, none⟩ (.slice (some ⟨w6.heap.size, 0, none⟩) 3 3)).setCell ⟨w.heap.size + 1, 0, none⟩ (.slice (some ⟨w6.heap.size, 0, none⟩) 3 3)).setCell ⟨w.heap.size + 1, 1, none⟩ (.int .i64 (0))).alloc (.cells #[.int .i64 (kidT t [0, 0]).k, .int .i64 (kidT t [0, 0]).i, .slice A0 (kidT t [0, 0]).ks.length c0, .int .i64 (kidT t [0, 1, 0]).k, .int .i64 (kidT t [0, 1, 0]).i, .slice A1 (kidT t [0, 1, 0]).ks.length c1, .int .i64 (kidT t [0, 1, 1]).k, .int .i64 (kidT t [0, 1, 1]).i, .slice A2 (kidT t [0, 1, 1]).ks.length c2] 24)).cell? ⟨w.heap.size + 1, 0, none⟩ = some (.slice (some ⟨w6.heap.size, 0, none⟩) 3 3) ∧ ((((w6.setCell ⟨w.heap.size + 1 + 1, 0, none⟩ (.slice (some ⟨w6.heap.size, 0, none⟩) 3 3)).setCell ⟨w.heap.size + 1, 0, none⟩ (.slice (some ⟨w6.heap.size, 0, none⟩) 3 3)).setCell ⟨w.heap.size + 1, 1, none⟩ (.int .i64 (0))).alloc (.cells #[.int .i64 (kidT t [0, 0]).k, .int .i64 (kidT t [0, 0]).i, .slice A0 (kidT t [0, 0]).ks.length c0, .int .i64 (kidT t [0, 1, 0]).k, .int .i64 (kidT t [0, 1, 0]).i, .slice A1 (kidT t [0, 1, 0]).ks.length c1, .int .i64 (kidT t [0, 1, 1]).k, .int .i64 (kidT t [0, 1, 1]).i, .slice A2 (kidT t [0, 1, 1]).ks.length c2] 24)).cell? ⟨w.heap.size + 1, 1, none⟩ = some (.int .i64 (0)) ∧ GuessP w ([kidT t [0, 0], kidT t [0, 1, 0], kidT t [0, 1, 1]], 0) (.returned (.agg #[.slice (some ⟨w6.heap.size, 0, none⟩) 3 3, .int .i64 (0)])) ((((w6.setCell ⟨w.heap.size + 1 + 1, 0, none⟩ (.slice (some ⟨w6.heap.size, 0, none⟩) 3 3)).setCell ⟨w.heap.size + 1, 0, none⟩ (.slice (some ⟨w6.heap.size, 0, none⟩) 3 3)).setCell ⟨w.heap.size + 1, 1, none⟩ (.int .i64 (0))).alloc (.cells #[.int .i64 (kidT t [0, 0]).k, .int .i64 (kidT t [0, 0]).i, .slice A0 (kidT t [0, 0]).ks.length c0, .int .i64 (kidT t [0, 1, 0]).k, .int .i64 (kidT t [0, 1, 0]).i, .slice A1 (kidT t [0, 1, 0]).ks.length c1, .int .i64 (kidT t [0, 1, 1]).k, .int .i64 (kidT t [0, 1, 1]).i, .slice A2 (kidT t [0, 1, 1]).ks.length c2] 24)) :=
      gq_end (l := [kidT t [0, 0], kidT t [0, 1, 0], kidT t [0, 1, 1]]) (cs := [(A0, c0), (A1, c1), (A2, c2)]) (n := 3) (G0.out.keep BB.bel) rfl rfl (by unfold Cap; simp) (fun m hm => by
        match m, hm with
        | 0, _ => exact T0.out | 1, _ => exact T1.out | 2, _ => exact T2.out)
    exact bodyPost_ret (v := .agg #[.slice (some ⟨w6.heap.size, 0, none⟩) 3 3, .int .i64 (0)]) (by simp [results, Tryz.results31, go_sem, e0, e1]) rfl e2
end Go.Proofs.YtgnfbhemkombaaaGreat
namespace Go.Proofs.YtgnfbhemkombaaaGreat
open Go.RowKit
set_option linter.unusedVariables false
set_option linter.unusedSimpArgs false
set_option maxHeartbeats 100000000 in
set_option maxRecDepth 100000 in
theorem guess3_any (t : Tr) (A : Option Addr) (c : Nat) (w : World) (ht : IsT w w.heap.size t A c) :
    Calls Tryz.prog 31 #[.int .i64 3, .agg #[.int .i64 t.k, .int .i64 t.i, .slice A t.ks.length c]] w (GuessP w (guessV 3 t)) := by
  obtain ⟨W0, hW0⟩ : ∃ W0, W0 = ((w.alloc (.cells #[.int .i64 t.k, .int .i64 t.i, .slice A t.ks.length c] 24)).alloc (.cells #[.slice none 0 0, .int .i64 0] 32)).alloc (.cells #[.slice none 0 0, .int .i64 0] 32) := ⟨_, rfl⟩
  have S0 := Lib.hid (show GB w W0 t A c 0 by rw [hW0]; exact GB.start w t A c)
  have HT := Lib.hid ht
  have HW := Lib.hid hW0
  clear ht hW0
  go_enter Tryz.func31, Tryz.ntmps31
  go_upto_region 8 with fail
  rw [← HW.out]
  have G0 := Lib.hid S0.out
  have BB : Trc W0 W0 [] := Trc.nil _
  have KID := Lib.hid (fun (zs : List Int) (hz : ∀ z ∈ zs, 0 ≤ z) (h8 : zs.length ≤ 8) (W : World) (L : List (Nat × Array Value)) (r n : Nat) (T : Trc W0 W L) (j : Nat) (r' : Nat) (cs : Array Value) (hj : L[j]? = some (r', cs)) (hr : r' = r) (hc : cs = (zs.map (Value.int .i64)).toArray) (hn : zs.length = n) =>
    (kid_any w w.heap.size t A c r n n zs W (G0.out.keep T.bel).bel (G0.out.keep T.bel).bel.size HT.out (T.path hj hr hc).1 (T.path hj hr hc).2 hn (by omega) hz : Calls Tryz.prog 71 #[.agg #[.int .i64 t.k, .int .i64 t.i, .slice A t.ks.length c], .slice (some ⟨r, 0, none⟩) n n] W (PartO w w.heap.size W (kidT t zs))))
  have KQ := Lib.hid (fun (zs : List Int) (hz : ∀ z ∈ zs, 0 ≤ z) (h8 : zs.length ≤ 8) => And.intro
    (fun (W : World) (L : List (Nat × Array Value)) (r n r' : Nat) (cs : Array Value) (T : Trc W0 W ((r', cs) :: L)) (hr : r' = r) (hc : cs = (zs.map (Value.int .i64)).toArray) (hn : zs.length = n) => KID.out zs hz h8 W _ r n T 0 r' cs rfl hr hc hn) (And.intro
    (fun (x0 : Nat × Array Value) (W : World) (L : List (Nat × Array Value)) (r n r' : Nat) (cs : Array Value) (T : Trc W0 W (x0 :: (r', cs) :: L)) (hr : r' = r) (hc : cs = (zs.map (Value.int .i64)).toArray) (hn : zs.length = n) => KID.out zs hz h8 W _ r n T 1 r' cs rfl hr hc hn) (And.intro
    (fun (x0 x1 : Nat × Array Value) (W : World) (L : List (Nat × Array Value)) (r n r' : Nat) (cs : Array Value) (T : Trc W0 W (x0 :: x1 :: (r', cs) :: L)) (hr : r' = r) (hc : cs = (zs.map (Value.int .i64)).toArray) (hn : zs.length = n) => KID.out zs hz h8 W _ r n T 2 r' cs rfl hr hc hn) (And.intro
    (fun (x0 x1 x2 : Nat × Array Value) (W : World) (L : List (Nat × Array Value)) (r n r' : Nat) (cs : Array Value) (T : Trc W0 W (x0 :: x1 :: x2 :: (r', cs) :: L)) (hr : r' = r) (hc : cs = (zs.map (Value.int .i64)).toArray) (hn : zs.length = n) => KID.out zs hz h8 W _ r n T 3 r' cs rfl hr hc hn) True.intro))))
  have K0 := Lib.hid (KQ.out [1, 1] (by decide) (by decide))
  have K1 := Lib.hid (KQ.out [1, 0] (by decide) (by decide))
  have SS2 := Lib.hid (fun (W : World) (h : Below W0.heap.size W0 W) (v : Value) (o : Obj) => ((((G0.out.keep h).xb.set_other ⟨w.heap.size + 1 + 1, 0, none⟩ v (by show w.heap.size ≠ w.heap.size + 1 + 1; omega)).keep (alB _ o) (by have := (G0.out.keep h).xb.lt; simpa using this)).cells : ((W.setCell ⟨w.heap.size + 1 + 1, 0, none⟩ v).alloc o).cell? ⟨w.heap.size, 0, none⟩ = some (.int .i64 t.k) ∧ ((W.setCell ⟨w.heap.size + 1 + 1, 0, none⟩ v).alloc o).cell? ⟨w.heap.size, 1, none⟩ = some (.int .i64 t.i) ∧ ((W.setCell ⟨w.heap.size + 1 + 1, 0, none⟩ v).alloc o).cell? ⟨w.heap.size, 2, none⟩ = some (.slice A t.ks.length c)))
  have SS3 := Lib.hid (fun (W : World) (h : Below W0.heap.size W0 W) (v : Value) (o : Obj) => (((((G0.out.keep h).keep (alB W o)).xb.set_other ⟨w.heap.size + 1 + 1, 0, none⟩ v (by show w.heap.size ≠ w.heap.size + 1 + 1; omega)).cells : ((W.alloc o).setCell ⟨w.heap.size + 1 + 1, 0, none⟩ v).cell? ⟨w.heap.size, 0, none⟩ = some (.int .i64 t.k) ∧ ((W.alloc o).setCell ⟨w.heap.size + 1 + 1, 0, none⟩ v).cell? ⟨w.heap.size, 1, none⟩ = some (.int .i64 t.i) ∧ ((W.alloc o).setCell ⟨w.heap.size + 1 + 1, 0, none⟩ v).cell? ⟨w.heap.size, 2, none⟩ = some (.slice A t.ks.length c))))
  have SS := Lib.hid (fun (W : World) (h : Below W0.heap.size W0 W) => (G0.out.keep h).xb.cells)
  go_region_held3 (fun w' => w'.cell? ⟨w.heap.size, 0, none⟩ = some (.int .i64 t.k) ∧ w'.cell? ⟨w.heap.size, 1, none⟩ = some (.int .i64 t.i) ∧ w'.cell? ⟨w.heap.size, 2, none⟩ = some (.slice A t.ks.length c))
    (first | (with_reducible exact SS.out _ BB.bel) | (with_reducible exact SS.out _ BB.dr.bel) | (with_reducible exact SS.out _ (BB.al _).bel) | (with_reducible exact SS.out _ (BB.al _).dr.bel) | (with_reducible exact SS.out _ ((BB.al _).al _).bel) | (with_reducible exact SS.out _ ((BB.al _).al _).dr.bel) | (with_reducible exact SS.out _ (stepB BB.bel (below_alloc _ _))) | (with_reducible exact SS2.out _ BB.bel _ _) | (with_reducible exact SS3.out _ BB.bel _ _) | exact SS2.out _ BB.bel _ _ | exact SS3.out _ BB.bel _ _)
    (first
        | (go_at_call 71; (first | ((with_reducible refine (K0.out.1 _ _ _ _ _ _ BB ?_ ?_ ?_).mono ?_); (first | with_reducible rfl | (focus (simp [drew_sz]; done))); rfl; rfl; rintro e w6 ⟨hb6, A0, c0, rfl, t0⟩; replace BB := (BB).call hb6) | ((with_reducible refine (K0.out.2.1 _ _ _ _ _ _ _ BB ?_ ?_ ?_).mono ?_); (first | with_reducible rfl | (focus (simp [drew_sz]; done))); rfl; rfl; rintro e w6 ⟨hb6, A0, c0, rfl, t0⟩; replace BB := (BB).call hb6) | ((with_reducible refine (K0.out.1 _ _ _ _ _ _ (BB.dr) ?_ ?_ ?_).mono ?_); (first | with_reducible rfl | (focus (simp [drew_sz]; done))); rfl; rfl; rintro e w6 ⟨hb6, A0, c0, rfl, t0⟩; replace BB := ((BB.dr)).call hb6) | ((with_reducible refine (K0.out.2.1 _ _ _ _ _ _ _ (BB.dr) ?_ ?_ ?_).mono ?_); (first | with_reducible rfl | (focus (simp [drew_sz]; done))); rfl; rfl; rintro e w6 ⟨hb6, A0, c0, rfl, t0⟩; replace BB := ((BB.dr)).call hb6) | ((with_reducible refine (K0.out.1 _ _ _ _ _ _ (BB.al _) ?_ ?_ ?_).mono ?_); (first | with_reducible rfl | (focus (simp [drew_sz]; done))); rfl; rfl; rintro e w6 ⟨hb6, A0, c0, rfl, t0⟩; replace BB := ((BB.al _)).call hb6) | ((with_reducible refine (K0.out.2.1 _ _ _ _ _ _ _ (BB.al _) ?_ ?_ ?_).mono ?_); (first | with_reducible rfl | (focus (simp [drew_sz]; done))); rfl; rfl; rintro e w6 ⟨hb6, A0, c0, rfl, t0⟩; replace BB := ((BB.al _)).call hb6) | ((with_reducible refine (K0.out.1 _ _ _ _ _ _ ((BB.al _).dr) ?_ ?_ ?_).mono ?_); (first | with_reducible rfl | (focus (simp [drew_sz]; done))); rfl; rfl; rintro e w6 ⟨hb6, A0, c0, rfl, t0⟩; replace BB := (((BB.al _).dr)).call hb6) | ((with_reducible refine (K0.out.2.1 _ _ _ _ _ _ _ ((BB.al _).dr) ?_ ?_ ?_).mono ?_); (first | with_reducible rfl | (focus (simp [drew_sz]; done))); rfl; rfl; rintro e w6 ⟨hb6, A0, c0, rfl, t0⟩; replace BB := (((BB.al _).dr)).call hb6) | ((with_reducible refine (K0.out.1 _ _ _ _ _ _ ((BB.al _).al _) ?_ ?_ ?_).mono ?_); (first | with_reducible rfl | (focus (simp [drew_sz]; done))); rfl; rfl; rintro e w6 ⟨hb6, A0, c0, rfl, t0⟩; replace BB := (((BB.al _).al _)).call hb6) | ((with_reducible refine (K0.out.2.1 _ _ _ _ _ _ _ ((BB.al _).al _) ?_ ?_ ?_).mono ?_); (first | with_reducible rfl | (focus (simp [drew_sz]; done))); rfl; rfl; rintro e w6 ⟨hb6, A0, c0, rfl, t0⟩; replace BB := (((BB.al _).al _)).call hb6) | ((with_reducible refine (K0.out.1 _ _ _ _ _ _ (((BB.al _).al _).dr) ?_ ?_ ?_).mono ?_); (first | with_reducible rfl | (focus (simp [drew_sz]; done))); rfl; rfl; rintro e w6 ⟨hb6, A0, c0, rfl, t0⟩; replace BB := ((((BB.al _).al _).dr)).call hb6) | ((with_reducible refine (K0.out.2.1 _ _ _ _ _ _ _ (((BB.al _).al _).dr) ?_ ?_ ?_).mono ?_); (first | with_reducible rfl | (focus (simp [drew_sz]; done))); rfl; rfl; rintro e w6 ⟨hb6, A0, c0, rfl, t0⟩; replace BB := ((((BB.al _).al _).dr)).call hb6)); have T0 := Lib.hid t0; clear t0 hb6; have pbx := (G0.out.keep BB.bel).pb; obtain ⟨p0, p1⟩ := pbx.cells; have pf := pbx.frozen 0; have plt := pbx.lt; have rbx := (G0.out.keep BB.bel).rb; obtain ⟨r0, r1⟩ := rbx.cells; have rf0 := rbx.frozen 0; have rf1 := rbx.frozen 1; have rlt := rbx.lt; clear pbx rbx)
        | (go_at_call 71; (first | ((with_reducible refine (K1.out.1 _ _ _ _ _ _ BB ?_ ?_ ?_).mono ?_); (first | with_reducible rfl | (focus (simp [drew_sz]; done))); rfl; rfl; rintro e w6 ⟨hb6, A1, c1, rfl, t1⟩; replace BB := (BB).call hb6) | ((with_reducible refine (K1.out.2.1 _ _ _ _ _ _ _ BB ?_ ?_ ?_).mono ?_); (first | with_reducible rfl | (focus (simp [drew_sz]; done))); rfl; rfl; rintro e w6 ⟨hb6, A1, c1, rfl, t1⟩; replace BB := (BB).call hb6) | ((with_reducible refine (K1.out.1 _ _ _ _ _ _ (BB.al _) ?_ ?_ ?_).mono ?_); (first | with_reducible rfl | (focus (simp [drew_sz]; done))); rfl; rfl; rintro e w6 ⟨hb6, A1, c1, rfl, t1⟩; replace BB := ((BB.al _)).call hb6) | ((with_reducible refine (K1.out.2.1 _ _ _ _ _ _ _ (BB.al _) ?_ ?_ ?_).mono ?_); (first | with_reducible rfl | (focus (simp [drew_sz]; done))); rfl; rfl; rintro e w6 ⟨hb6, A1, c1, rfl, t1⟩; replace BB := ((BB.al _)).call hb6) | ((with_reducible refine (K1.out.1 _ _ _ _ _ _ ((BB.al _).al _) ?_ ?_ ?_).mono ?_); (first | with_reducible rfl | (focus (simp [drew_sz]; done))); rfl; rfl; rintro e w6 ⟨hb6, A1, c1, rfl, t1⟩; replace BB := (((BB.al _).al _)).call hb6) | ((with_reducible refine (K1.out.2.1 _ _ _ _ _ _ _ ((BB.al _).al _) ?_ ?_ ?_).mono ?_); (first | with_reducible rfl | (focus (simp [drew_sz]; done))); rfl; rfl; rintro e w6 ⟨hb6, A1, c1, rfl, t1⟩; replace BB := (((BB.al _).al _)).call hb6)); have T1 := Lib.hid t1; clear t1 hb6; have pbx := (G0.out.keep BB.bel).pb; obtain ⟨p0, p1⟩ := pbx.cells; have pf := pbx.frozen 0; have plt := pbx.lt; have rbx := (G0.out.keep BB.bel).rb; obtain ⟨r0, r1⟩ := rbx.cells; have rf0 := rbx.frozen 0; have rf1 := rbx.frozen 1; have rlt := rbx.lt; clear pbx rbx))
  all_goals go_wp2_with fail
  all_goals
    obtain ⟨e0, e1, e2⟩ : ((((w6.setCell ⟨w.heap.size + 1 + 1, 0, none⟩ (.slice (some ⟨w6.heap.size, 0, none⟩) 2 2)).setCell ⟨w.heap.size + 1, 0, none⟩ (.slice (some ⟨w6.heap.size, 0, none⟩) 2 2)).setCell ⟨w.heap.size + 1, 1, none⟩ (.int .i64 (0))).alloc (.cells #[.int .i64 (kidT t [1, 1]).k, .int .i64 (kidT t [1, 1]).i, .slice A0 (kidT t [1, 1]).ks.length c0, .int .i64 (kidT t [1, 0]).k, .int .i64 (kidT t [1, 0]).i, .slice A1 (kidT t [1, 0]).ks.length c1] 24)).cell? ⟨w.heap.size + 1, 0, none⟩ = some (.slice (some ⟨w6.heap.size, 0, none⟩) 2 2) ∧ ((((w6.setCell ⟨w.heap.size + 1 + 1, 0, none⟩ (.slice (some ⟨w6.heap.size, 0, none⟩) 2 2)).setCell ⟨w.heap.size + 1, 0, none⟩ (.slice (some ⟨w6.heap.size, 0, none⟩) 2 2)).setCell ⟨w.heap.size + 1, 1, none⟩ (.int .i64 (0))).alloc (.cells #[.int .i64 (kidT t [1, 1]).k, .int .i64 (kidT t [1, 1]).i, .slice A0 (kidT t [1, 1]).ks.length c0, .int .i64 (kidT t [1, 0]).k, .int .i64 (kidT t [1, 0]).i, .slice A1 (kidT t [1, 0]).ks.length c1] 24)).cell? ⟨w.heap.size + 1, 1, none⟩ = some (.int .i64 (0)) ∧ GuessP w ([kidT t [1, 1], kidT t [1, 0]], 0) (.returned (.agg #[.slice (some ⟨w6.heap.size, 0, none⟩) 2 2, .int .i64 (0)])) ((((w6.setCell ⟨w.heap.size + 1 + 1, 0, none⟩ (.slice (some ⟨w6.heap.size, 0, none⟩) 2 2)).setCell ⟨w.heap.size + 1, 0, none⟩ (.slice (some ⟨w6.heap.size, 0, none⟩) 2 2)).setCell ⟨w.heap.size + 1, 1, none⟩ (.int .i64 (0))).alloc (.cells #[.int .i64 (kidT t [1, 1]).k, .int .i64 (kidT t [1, 1]).i, .slice A0 (kidT t [1, 1]).ks.length c0, .int .i64 (kidT t [1, 0]).k, .int .i64 (kidT t [1, 0]).i, .slice A1 (kidT t [1, 0]).ks.length c1] 24)) :=
      gq_end (l := [kidT t [1, 1], kidT t [1, 0]]) (cs := [(A0, c0), (A1, c1)]) (n := 2) (G0.out.keep BB.bel) rfl rfl (by unfold Cap; simp) (fun m hm => by
        match m, hm with
        | 0, _ => exact T0.out | 1, _ => exact T1.out)
    exact bodyPost_ret (v := .agg #[.slice (some ⟨w6.heap.size, 0, none⟩) 2 2, .int .i64 (0)]) (by simp [results, Tryz.results31, go_sem, e0, e1]) rfl e2
end Go.Proofs.YtgnfbhemkombaaaGreat
namespace Go.Proofs.YtgnfbhemkombaaaGreat
open Go.RowKit
set_option linter.unusedVariables false
set_option linter.unusedSimpArgs false
set_option maxHeartbeats 100000000 in
set_option maxRecDepth 100000 in
theorem guess5_any (t : Tr) (A : Option Addr) (c : Nat) (w : World) (ht : IsT w w.heap.size t A c) :
    Calls Tryz.prog 31 #[.int .i64 5, .agg #[.int .i64 t.k, .int .i64 t.i, .slice A t.ks.length c]] w (GuessP w (guessV 5 t)) := by
  obtain ⟨W0, hW0⟩ : ∃ W0, W0 = ((w.alloc (.cells #[.int .i64 t.k, .int .i64 t.i, .slice A t.ks.length c] 24)).alloc (.cells #[.slice none 0 0, .int .i64 0] 32)).alloc (.cells #[.slice none 0 0, .int .i64 0] 32) := ⟨_, rfl⟩
  have S0 := Lib.hid (show GB w W0 t A c 0 by rw [hW0]; exact GB.start w t A c)
  have HT := Lib.hid ht
  have HW := Lib.hid hW0
  clear ht hW0
  go_enter Tryz.func31, Tryz.ntmps31
  go_upto_region 17 with fail
  rw [← HW.out]
  obtain ⟨y0, y1, y2⟩ := S0.out.xb.cells
  have TR := Lib.hid ((Trc.nil W0).al #[.int .i64 0])
  have hfl : ∀ (x y z : Value) (W : World), (Instr.field 24 (.agg #[x, y, z]) 1).run Tryz.prog W = .ok y W := fun x y z W => by kernel_rfl
  have KI := Lib.hid (kid_any w w.heap.size t A c W0.heap.size 1 1 [0] (W0.alloc (.cells #[.int .i64 0] 3)) (S0.out.keep TR.out.bel).bel (S0.out.keep TR.out.bel).bel.size HT.out (TR.out.path (j := 0) (zs := [0]) rfl rfl rfl).1 (TR.out.path (j := 0) (zs := [0]) rfl rfl rfl).2 rfl (by omega) (by decide))
  go_upto_region 18 with (go_at_call 71; refine KI.out.mono ?_; rintro e w5 ⟨hb5, A9, c9, rfl, t9⟩; have G5 := (S0.out.keep TR.out.bel).keep hb5; have pf5 := G5.pb.frozen 1; obtain ⟨p50, p51⟩ := G5.pb.cells)
  have G6 : GB w (w5.setCell ⟨w.heap.size + 1 + 1, 1, none⟩ (.int .i64 (kidT t [0]).i)) t A c (kidT t [0]).i := ⟨G5.xb.set_other _ _ (by show w.heap.size ≠ w.heap.size + 1 + 1; omega), G5.rb.other _ _ (by show w.heap.size + 1 ≠ w.heap.size + 1 + 1; omega), G5.pb.set1 _, G5.bel.setCell (p := ⟨w.heap.size + 1 + 1, 1, none⟩) (by show w.heap.size ≤ w.heap.size + 1 + 1; omega) _⟩
  clear hfl S0 HW TR KI t9 hb5 G5 pf5 p50 p51 y0 y1 y2
  generalize w5.setCell ⟨w.heap.size + 1 + 1, 1, none⟩ (.int .i64 (kidT t [0]).i) = W1 at G6 ⊢
  have S0 := Lib.hid G6
  have G0 := Lib.hid S0.out
  have BB : Trc W1 W1 [] := Trc.nil _
  have KID := Lib.hid (fun (zs : List Int) (hz : ∀ z ∈ zs, 0 ≤ z) (h8 : zs.length ≤ 8) (W : World) (L : List (Nat × Array Value)) (r n : Nat) (T : Trc W1 W L) (j : Nat) (r' : Nat) (cs : Array Value) (hj : L[j]? = some (r', cs)) (hr : r' = r) (hc : cs = (zs.map (Value.int .i64)).toArray) (hn : zs.length = n) =>
    (kid_any w w.heap.size t A c r n n zs W (G0.out.keep T.bel).bel (G0.out.keep T.bel).bel.size HT.out (T.path hj hr hc).1 (T.path hj hr hc).2 hn (by omega) hz : Calls Tryz.prog 71 #[.agg #[.int .i64 t.k, .int .i64 t.i, .slice A t.ks.length c], .slice (some ⟨r, 0, none⟩) n n] W (PartO w w.heap.size W (kidT t zs))))
  have KQ := Lib.hid (fun (zs : List Int) (hz : ∀ z ∈ zs, 0 ≤ z) (h8 : zs.length ≤ 8) => And.intro
    (fun (W : World) (L : List (Nat × Array Value)) (r n r' : Nat) (cs : Array Value) (T : Trc W1 W ((r', cs) :: L)) (hr : r' = r) (hc : cs = (zs.map (Value.int .i64)).toArray) (hn : zs.length = n) => KID.out zs hz h8 W _ r n T 0 r' cs rfl hr hc hn) (And.intro
    (fun (x0 : Nat × Array Value) (W : World) (L : List (Nat × Array Value)) (r n r' : Nat) (cs : Array Value) (T : Trc W1 W (x0 :: (r', cs) :: L)) (hr : r' = r) (hc : cs = (zs.map (Value.int .i64)).toArray) (hn : zs.length = n) => KID.out zs hz h8 W _ r n T 1 r' cs rfl hr hc hn) (And.intro
    (fun (x0 x1 : Nat × Array Value) (W : World) (L : List (Nat × Array Value)) (r n r' : Nat) (cs : Array Value) (T : Trc W1 W (x0 :: x1 :: (r', cs) :: L)) (hr : r' = r) (hc : cs = (zs.map (Value.int .i64)).toArray) (hn : zs.length = n) => KID.out zs hz h8 W _ r n T 2 r' cs rfl hr hc hn) (And.intro
    (fun (x0 x1 x2 : Nat × Array Value) (W : World) (L : List (Nat × Array Value)) (r n r' : Nat) (cs : Array Value) (T : Trc W1 W (x0 :: x1 :: x2 :: (r', cs) :: L)) (hr : r' = r) (hc : cs = (zs.map (Value.int .i64)).toArray) (hn : zs.length = n) => KID.out zs hz h8 W _ r n T 3 r' cs rfl hr hc hn) True.intro))))
  have K0 := Lib.hid (KQ.out [0, 0, 0] (by decide) (by decide))
  have K1 := Lib.hid (KQ.out [0, 0, 1] (by decide) (by decide))
  have SS2 := Lib.hid (fun (W : World) (h : Below W1.heap.size W1 W) (v : Value) (o : Obj) => ((((G0.out.keep h).xb.set_other ⟨w.heap.size + 1 + 1, 0, none⟩ v (by show w.heap.size ≠ w.heap.size + 1 + 1; omega)).keep (alB _ o) (by have := (G0.out.keep h).xb.lt; simpa using this)).cells : ((W.setCell ⟨w.heap.size + 1 + 1, 0, none⟩ v).alloc o).cell? ⟨w.heap.size, 0, none⟩ = some (.int .i64 t.k) ∧ ((W.setCell ⟨w.heap.size + 1 + 1, 0, none⟩ v).alloc o).cell? ⟨w.heap.size, 1, none⟩ = some (.int .i64 t.i) ∧ ((W.setCell ⟨w.heap.size + 1 + 1, 0, none⟩ v).alloc o).cell? ⟨w.heap.size, 2, none⟩ = some (.slice A t.ks.length c)))
  have SS3 := Lib.hid (fun (W : World) (h : Below W1.heap.size W1 W) (v : Value) (o : Obj) => (((((G0.out.keep h).keep (alB W o)).xb.set_other ⟨w.heap.size + 1 + 1, 0, none⟩ v (by show w.heap.size ≠ w.heap.size + 1 + 1; omega)).cells : ((W.alloc o).setCell ⟨w.heap.size + 1 + 1, 0, none⟩ v).cell? ⟨w.heap.size, 0, none⟩ = some (.int .i64 t.k) ∧ ((W.alloc o).setCell ⟨w.heap.size + 1 + 1, 0, none⟩ v).cell? ⟨w.heap.size, 1, none⟩ = some (.int .i64 t.i) ∧ ((W.alloc o).setCell ⟨w.heap.size + 1 + 1, 0, none⟩ v).cell? ⟨w.heap.size, 2, none⟩ = some (.slice A t.ks.length c))))
  have SS := Lib.hid (fun (W : World) (h : Below W1.heap.size W1 W) => (G0.out.keep h).xb.cells)
  go_region_held3 (fun w' => w'.cell? ⟨w.heap.size, 0, none⟩ = some (.int .i64 t.k) ∧ w'.cell? ⟨w.heap.size, 1, none⟩ = some (.int .i64 t.i) ∧ w'.cell? ⟨w.heap.size, 2, none⟩ = some (.slice A t.ks.length c))
    (first | (with_reducible exact SS.out _ BB.bel) | (with_reducible exact SS.out _ BB.dr.bel) | (with_reducible exact SS.out _ (BB.al _).bel) | (with_reducible exact SS.out _ (BB.al _).dr.bel) | (with_reducible exact SS.out _ ((BB.al _).al _).bel) | (with_reducible exact SS.out _ ((BB.al _).al _).dr.bel) | (with_reducible exact SS.out _ (stepB BB.bel (below_alloc _ _))) | (with_reducible exact SS2.out _ BB.bel _ _) | (with_reducible exact SS3.out _ BB.bel _ _) | exact SS2.out _ BB.bel _ _ | exact SS3.out _ BB.bel _ _)
    (first
        | (go_at_call 71; (first | ((with_reducible refine (K0.out.1 _ _ _ _ _ _ BB ?_ ?_ ?_).mono ?_); (first | with_reducible rfl | (focus (simp [drew_sz]; done))); rfl; rfl; rintro e w6 ⟨hb6, A0, c0, rfl, t0⟩; replace BB := (BB).call hb6) | ((with_reducible refine (K0.out.2.1 _ _ _ _ _ _ _ BB ?_ ?_ ?_).mono ?_); (first | with_reducible rfl | (focus (simp [drew_sz]; done))); rfl; rfl; rintro e w6 ⟨hb6, A0, c0, rfl, t0⟩; replace BB := (BB).call hb6) | ((with_reducible refine (K0.out.1 _ _ _ _ _ _ (BB.dr) ?_ ?_ ?_).mono ?_); (first | with_reducible rfl | (focus (simp [drew_sz]; done))); rfl; rfl; rintro e w6 ⟨hb6, A0, c0, rfl, t0⟩; replace BB := ((BB.dr)).call hb6) | ((with_reducible refine (K0.out.2.1 _ _ _ _ _ _ _ (BB.dr) ?_ ?_ ?_).mono ?_); (first | with_reducible rfl | (focus (simp [drew_sz]; done))); rfl; rfl; rintro e w6 ⟨hb6, A0, c0, rfl, t0⟩; replace BB := ((BB.dr)).call hb6) | ((with_reducible refine (K0.out.1 _ _ _ _ _ _ (BB.al _) ?_ ?_ ?_).mono ?_); (first | with_reducible rfl | (focus (simp [drew_sz]; done))); rfl; rfl; rintro e w6 ⟨hb6, A0, c0, rfl, t0⟩; replace BB := ((BB.al _)).call hb6) | ((with_reducible refine (K0.out.2.1 _ _ _ _ _ _ _ (BB.al _) ?_ ?_ ?_).mono ?_); (first | with_reducible rfl | (focus (simp [drew_sz]; done))); rfl; rfl; rintro e w6 ⟨hb6, A0, c0, rfl, t0⟩; replace BB := ((BB.al _)).call hb6) | ((with_reducible refine (K0.out.1 _ _ _ _ _ _ ((BB.al _).dr) ?_ ?_ ?_).mono ?_); (first | with_reducible rfl | (focus (simp [drew_sz]; done))); rfl; rfl; rintro e w6 ⟨hb6, A0, c0, rfl, t0⟩; replace BB := (((BB.al _).dr)).call hb6) | ((with_reducible refine (K0.out.2.1 _ _ _ _ _ _ _ ((BB.al _).dr) ?_ ?_ ?_).mono ?_); (first | with_reducible rfl | (focus (simp [drew_sz]; done))); rfl; rfl; rintro e w6 ⟨hb6, A0, c0, rfl, t0⟩; replace BB := (((BB.al _).dr)).call hb6) | ((with_reducible refine (K0.out.1 _ _ _ _ _ _ ((BB.al _).al _) ?_ ?_ ?_).mono ?_); (first | with_reducible rfl | (focus (simp [drew_sz]; done))); rfl; rfl; rintro e w6 ⟨hb6, A0, c0, rfl, t0⟩; replace BB := (((BB.al _).al _)).call hb6) | ((with_reducible refine (K0.out.2.1 _ _ _ _ _ _ _ ((BB.al _).al _) ?_ ?_ ?_).mono ?_); (first | with_reducible rfl | (focus (simp [drew_sz]; done))); rfl; rfl; rintro e w6 ⟨hb6, A0, c0, rfl, t0⟩; replace BB := (((BB.al _).al _)).call hb6) | ((with_reducible refine (K0.out.1 _ _ _ _ _ _ (((BB.al _).al _).dr) ?_ ?_ ?_).mono ?_); (first | with_reducible rfl | (focus (simp [drew_sz]; done))); rfl; rfl; rintro e w6 ⟨hb6, A0, c0, rfl, t0⟩; replace BB := ((((BB.al _).al _).dr)).call hb6) | ((with_reducible refine (K0.out.2.1 _ _ _ _ _ _ _ (((BB.al _).al _).dr) ?_ ?_ ?_).mono ?_); (first | with_reducible rfl | (focus (simp [drew_sz]; done))); rfl; rfl; rintro e w6 ⟨hb6, A0, c0, rfl, t0⟩; replace BB := ((((BB.al _).al _).dr)).call hb6)); have T0 := Lib.hid t0; clear t0 hb6; have pbx := (G0.out.keep BB.bel).pb; obtain ⟨p0, p1⟩ := pbx.cells; have pf := pbx.frozen 0; have plt := pbx.lt; have rbx := (G0.out.keep BB.bel).rb; obtain ⟨r0, r1⟩ := rbx.cells; have rf0 := rbx.frozen 0; have rf1 := rbx.frozen 1; have rlt := rbx.lt; clear pbx rbx)
        | (go_at_call 71; (first | ((with_reducible refine (K1.out.1 _ _ _ _ _ _ BB ?_ ?_ ?_).mono ?_); (first | with_reducible rfl | (focus (simp [drew_sz]; done))); rfl; rfl; rintro e w6 ⟨hb6, A1, c1, rfl, t1⟩; replace BB := (BB).call hb6) | ((with_reducible refine (K1.out.2.1 _ _ _ _ _ _ _ BB ?_ ?_ ?_).mono ?_); (first | with_reducible rfl | (focus (simp [drew_sz]; done))); rfl; rfl; rintro e w6 ⟨hb6, A1, c1, rfl, t1⟩; replace BB := (BB).call hb6) | ((with_reducible refine (K1.out.1 _ _ _ _ _ _ (BB.al _) ?_ ?_ ?_).mono ?_); (first | with_reducible rfl | (focus (simp [drew_sz]; done))); rfl; rfl; rintro e w6 ⟨hb6, A1, c1, rfl, t1⟩; replace BB := ((BB.al _)).call hb6) | ((with_reducible refine (K1.out.2.1 _ _ _ _ _ _ _ (BB.al _) ?_ ?_ ?_).mono ?_); (first | with_reducible rfl | (focus (simp [drew_sz]; done))); rfl; rfl; rintro e w6 ⟨hb6, A1, c1, rfl, t1⟩; replace BB := ((BB.al _)).call hb6) | ((with_reducible refine (K1.out.1 _ _ _ _ _ _ ((BB.al _).al _) ?_ ?_ ?_).mono ?_); (first | with_reducible rfl | (focus (simp [drew_sz]; done))); rfl; rfl; rintro e w6 ⟨hb6, A1, c1, rfl, t1⟩; replace BB := (((BB.al _).al _)).call hb6) | ((with_reducible refine (K1.out.2.1 _ _ _ _ _ _ _ ((BB.al _).al _) ?_ ?_ ?_).mono ?_); (first | with_reducible rfl | (focus (simp [drew_sz]; done))); rfl; rfl; rintro e w6 ⟨hb6, A1, c1, rfl, t1⟩; replace BB := (((BB.al _).al _)).call hb6)); have T1 := Lib.hid t1; clear t1 hb6; have pbx := (G0.out.keep BB.bel).pb; obtain ⟨p0, p1⟩ := pbx.cells; have pf := pbx.frozen 0; have plt := pbx.lt; have rbx := (G0.out.keep BB.bel).rb; obtain ⟨r0, r1⟩ := rbx.cells; have rf0 := rbx.frozen 0; have rf1 := rbx.frozen 1; have rlt := rbx.lt; clear pbx rbx))
  all_goals go_wp2_with fail
  all_goals
    obtain ⟨e0, e1, e2⟩ : ((((w6.setCell ⟨w.heap.size + 1 + 1, 0, none⟩ (.slice (some ⟨w6.heap.size, 0, none⟩) 2 2)).setCell ⟨w.heap.size + 1, 0, none⟩ (.slice (some ⟨w6.heap.size, 0, none⟩) 2 2)).setCell ⟨w.heap.size + 1, 1, none⟩ (.int .i64 ((kidT t [0]).i))).alloc (.cells #[.int .i64 (kidT t [0, 0, 0]).k, .int .i64 (kidT t [0, 0, 0]).i, .slice A0 (kidT t [0, 0, 0]).ks.length c0, .int .i64 (kidT t [0, 0, 1]).k, .int .i64 (kidT t [0, 0, 1]).i, .slice A1 (kidT t [0, 0, 1]).ks.length c1] 24)).cell? ⟨w.heap.size + 1, 0, none⟩ = some (.slice (some ⟨w6.heap.size, 0, none⟩) 2 2) ∧ ((((w6.setCell ⟨w.heap.size + 1 + 1, 0, none⟩ (.slice (some ⟨w6.heap.size, 0, none⟩) 2 2)).setCell ⟨w.heap.size + 1, 0, none⟩ (.slice (some ⟨w6.heap.size, 0, none⟩) 2 2)).setCell ⟨w.heap.size + 1, 1, none⟩ (.int .i64 ((kidT t [0]).i))).alloc (.cells #[.int .i64 (kidT t [0, 0, 0]).k, .int .i64 (kidT t [0, 0, 0]).i, .slice A0 (kidT t [0, 0, 0]).ks.length c0, .int .i64 (kidT t [0, 0, 1]).k, .int .i64 (kidT t [0, 0, 1]).i, .slice A1 (kidT t [0, 0, 1]).ks.length c1] 24)).cell? ⟨w.heap.size + 1, 1, none⟩ = some (.int .i64 ((kidT t [0]).i)) ∧ GuessP w ([kidT t [0, 0, 0], kidT t [0, 0, 1]], (kidT t [0]).i) (.returned (.agg #[.slice (some ⟨w6.heap.size, 0, none⟩) 2 2, .int .i64 ((kidT t [0]).i)])) ((((w6.setCell ⟨w.heap.size + 1 + 1, 0, none⟩ (.slice (some ⟨w6.heap.size, 0, none⟩) 2 2)).setCell ⟨w.heap.size + 1, 0, none⟩ (.slice (some ⟨w6.heap.size, 0, none⟩) 2 2)).setCell ⟨w.heap.size + 1, 1, none⟩ (.int .i64 ((kidT t [0]).i))).alloc (.cells #[.int .i64 (kidT t [0, 0, 0]).k, .int .i64 (kidT t [0, 0, 0]).i, .slice A0 (kidT t [0, 0, 0]).ks.length c0, .int .i64 (kidT t [0, 0, 1]).k, .int .i64 (kidT t [0, 0, 1]).i, .slice A1 (kidT t [0, 0, 1]).ks.length c1] 24)) :=
      gq_end (l := [kidT t [0, 0, 0], kidT t [0, 0, 1]]) (cs := [(A0, c0), (A1, c1)]) (n := 2) (G0.out.keep BB.bel) rfl rfl (by unfold Cap; simp) (fun m hm => by
        match m, hm with
        | 0, _ => exact T0.out | 1, _ => exact T1.out)
    exact bodyPost_ret (v := .agg #[.slice (some ⟨w6.heap.size, 0, none⟩) 2 2, .int .i64 ((kidT t [0]).i)]) (by simp [results, Tryz.results31, go_sem, e0, e1]) rfl e2
end Go.Proofs.YtgnfbhemkombaaaGreat
namespace Go.Proofs.YtgnfbhemkombaaaGreat
open Go.RowKit
set_option linter.unusedVariables false
set_option linter.unusedSimpArgs false
set_option maxHeartbeats 8000000 in
set_option maxRecDepth 100000 in
theorem guess6_any (t : Tr) (A : Option Addr) (c : Nat) (w : World) (ht : IsT w w.heap.size t A c) :
    Calls Tryz.prog 31 #[.int .i64 6, .agg #[.int .i64 t.k, .int .i64 t.i, .slice A t.ks.length c]] w (GuessP w (guessV 6 t)) := by
  obtain ⟨W0, hW0⟩ : ∃ W0, W0 = ((w.alloc (.cells #[.int .i64 t.k, .int .i64 t.i, .slice A t.ks.length c] 24)).alloc (.cells #[.slice none 0 0, .int .i64 0] 32)).alloc (.cells #[.slice none 0 0, .int .i64 0] 32) := ⟨_, rfl⟩
  have S0 := Lib.hid (show GB w W0 t A c 0 by rw [hW0]; exact GB.start w t A c)
  have HT := Lib.hid ht
  have HW := Lib.hid hW0
  clear ht hW0
  go_enter Tryz.func31, Tryz.ntmps31
  go_upto_region 20 with fail
  rw [← HW.out]
  obtain ⟨y0, y1, y2⟩ := S0.out.xb.cells
  have TR := Lib.hid ((Trc.nil W0).al #[.int .i64 0])
  have KI := Lib.hid (kid_any w w.heap.size t A c W0.heap.size 1 1 [0] (W0.alloc (.cells #[.int .i64 0] 3)) (S0.out.keep TR.out.bel).bel (S0.out.keep TR.out.bel).bel.size HT.out (TR.out.path (j := 0) (zs := [0]) rfl rfl rfl).1 (TR.out.path (j := 0) (zs := [0]) rfl rfl rfl).2 rfl (by omega) (by decide))
  go_wp2_with (go_at_call 71; refine KI.out.mono ?_; rintro e w6 ⟨hb6, A0, c0, rfl, t0⟩; have T0 := Lib.hid t0; have G5 := Lib.hid ((S0.out.keep TR.out.bel).keep hb6); have pf := G5.out.pb.frozen 0; have plt := G5.out.pb.lt; have rf0 := G5.out.rb.frozen 0; have rf1 := G5.out.rb.frozen 1; have rlt := G5.out.rb.lt; obtain ⟨p0, p1⟩ := G5.out.pb.cells; obtain ⟨r0, r1⟩ := G5.out.rb.cells; clear hb6 t0 y0 y1 y2)
  obtain ⟨e0, e1, e2⟩ : ((((w6.setCell ⟨w.heap.size + 1 + 1, 0, none⟩ (.slice (some ⟨w6.heap.size, 0, none⟩) 1 1)).setCell ⟨w.heap.size + 1, 0, none⟩ (.slice (some ⟨w6.heap.size, 0, none⟩) 1 1)).setCell ⟨w.heap.size + 1, 1, none⟩ (.int .i64 (0))).alloc (.cells #[.int .i64 (kidT t [0]).k, .int .i64 (kidT t [0]).i, .slice A0 (kidT t [0]).ks.length c0] 24)).cell? ⟨w.heap.size + 1, 0, none⟩ = some (.slice (some ⟨w6.heap.size, 0, none⟩) 1 1) ∧ ((((w6.setCell ⟨w.heap.size + 1 + 1, 0, none⟩ (.slice (some ⟨w6.heap.size, 0, none⟩) 1 1)).setCell ⟨w.heap.size + 1, 0, none⟩ (.slice (some ⟨w6.heap.size, 0, none⟩) 1 1)).setCell ⟨w.heap.size + 1, 1, none⟩ (.int .i64 (0))).alloc (.cells #[.int .i64 (kidT t [0]).k, .int .i64 (kidT t [0]).i, .slice A0 (kidT t [0]).ks.length c0] 24)).cell? ⟨w.heap.size + 1, 1, none⟩ = some (.int .i64 (0)) ∧ GuessP w ([kidT t [0]], 0) (.returned (.agg #[.slice (some ⟨w6.heap.size, 0, none⟩) 1 1, .int .i64 (0)])) ((((w6.setCell ⟨w.heap.size + 1 + 1, 0, none⟩ (.slice (some ⟨w6.heap.size, 0, none⟩) 1 1)).setCell ⟨w.heap.size + 1, 0, none⟩ (.slice (some ⟨w6.heap.size, 0, none⟩) 1 1)).setCell ⟨w.heap.size + 1, 1, none⟩ (.int .i64 (0))).alloc (.cells #[.int .i64 (kidT t [0]).k, .int .i64 (kidT t [0]).i, .slice A0 (kidT t [0]).ks.length c0] 24)) :=
    gq_end (l := [kidT t [0]]) (cs := [(A0, c0)]) (n := 1) G5.out rfl rfl (by unfold Cap; simp) (fun m hm => by
      match m, hm with
      | 0, _ => exact T0.out)
  exact bodyPost_ret (v := .agg #[.slice (some ⟨w6.heap.size, 0, none⟩) 1 1, .int .i64 (0)]) (by simp [results, Tryz.results31, go_sem, e0, e1]) rfl e2
end Go.Proofs.YtgnfbhemkombaaaGreat
namespace Go.Proofs.YtgnfbhemkombaaaGreat
open Go.RowKit
set_option linter.unusedVariables false
set_option linter.unusedSimpArgs false
def put14 (a0 : Act) (x : Nat → Value) : Act := ⟨(a0.tmps.toList.take 97 ++ ([x 0, x 1, x 2, x 3, x 4, x 5, x 6, x 7, x 8, x 9, x 10, x 11, x 12, x 13] ++ a0.tmps.toList.drop 111)).toArray, a0.defers⟩
theorem tl14 (l : List Value) : l.toArray.toList = l := by simp
theorem self14 : ∀ (l : List Value), 14 ≤ l.length → ∃ x : Nat → Value, l = [x 0, x 1, x 2, x 3, x 4, x 5, x 6, x 7, x 8, x 9, x 10, x 11, x 12, x 13] ++ l.drop 14
  | y0 :: y1 :: y2 :: y3 :: y4 :: y5 :: y6 :: y7 :: y8 :: y9 :: y10 :: y11 :: y12 :: y13 :: r, _ => ⟨fun k => (y0 :: y1 :: y2 :: y3 :: y4 :: y5 :: y6 :: y7 :: y8 :: y9 :: y10 :: y11 :: y12 :: y13 :: r).getD k undef, rfl⟩
theorem put14_self (a0 : Act) (h : 111 ≤ a0.tmps.toList.length) : ∃ x, a0 = put14 a0 x := by
  obtain ⟨x, hx⟩ := self14 (a0.tmps.toList.drop 97) (by rw [List.length_drop]; omega)
  rw [List.drop_drop] at hx
  refine ⟨x, ?_⟩
  unfold put14
  obtain ⟨tm, df⟩ := a0
  have e : tm = (tm.toList.take 97 ++ ([x 0, x 1, x 2, x 3, x 4, x 5, x 6, x 7, x 8, x 9, x 10, x 11, x 12, x 13] ++ tm.toList.drop 111)).toArray := by
    rw [← show tm.toList.drop 97 = [x 0, x 1, x 2, x 3, x 4, x 5, x 6, x 7, x 8, x 9, x 10, x 11, x 12, x 13] ++ tm.toList.drop 111 from hx, List.take_append_drop]
  exact congrArg (fun z => (⟨z, df⟩ : Act)) e
/-- a row of numbers -/
def RowV (lo : Nat) (zs : List Int) (v : Value) (u : World) : Prop := ∃ r, v = .slice (some ⟨r, 0, none⟩) 2 2 ∧ lo ≤ r ∧ r < u.heap.size ∧ u.heap[r]? = some (.cells (zs.map (Value.int .i64)).toArray 3 (0, 0))
/-- a part -/
def KidV (w : World) (q : Tr) (v : Value) : Prop := ∃ A c, v = .agg #[.int .i64 q.k, .int .i64 q.i, .slice A q.ks.length c] ∧ IsT w w.heap.size q A c
/-- what the operation k has yielded -/
def F7 (w W0 : World) (t : Tr) (A : Option Addr) (c : Nat) (k : Nat) (v : Value) (u : World) : Prop :=
  ((k = 0 ∨ k = 3 ∨ k = 6 ∨ k = 9) → v = (.agg #[.int .i64 t.k, .int .i64 t.i, .slice A t.ks.length c])) ∧
  (k = 1 → RowV W0.heap.size [0, 0] v u) ∧ (k = 4 → RowV W0.heap.size [0, 1] v u) ∧ (k = 7 → RowV W0.heap.size [1, 0] v u) ∧ (k = 10 → RowV W0.heap.size [1, 1] v u) ∧
  (k = 2 → KidV w (kidT t [0, 0]) v) ∧ (k = 5 → KidV w (kidT t [0, 1]) v) ∧ (k = 8 → KidV w (kidT t [1, 0]) v) ∧ (k = 11 → KidV w (kidT t [1, 1]) v) ∧
  (k = 13 → v = .pointer (some ⟨w.heap.size + 2, 0, none⟩))
theorem RowV.keep {lo : Nat} {zs : List Int} {v : Value} {u u' : World} (h : RowV lo zs v u) (hb : Below u.heap.size u u') : RowV lo zs v u' := by
  obtain ⟨r, h1, h2, h3, h4⟩ := h
  exact ⟨r, h1, h2, Nat.lt_of_lt_of_le h3 hb.size, (hb.block r h3).trans h4⟩
theorem F7.keep {w W0 : World} {t : Tr} {A : Option Addr} {c k : Nat} {v : Value} {u u' : World} (h : F7 w W0 t A c k v u) (hb : Below u.heap.size u u') : F7 w W0 t A c k v u' := by
  obtain ⟨h0, h1, h4, h7, h10, hr⟩ := h
  exact ⟨h0, fun e => (h1 e).keep hb, fun e => (h4 e).keep hb, fun e => (h7 e).keep hb, fun e => (h10 e).keep hb, hr⟩
theorem F7.step {w W0 : World} {t : Tr} {A : Option Addr} {c i : Nat} {l : Nat → Bool} {x : Nat → Value} {v : Value} {u u' : World} (h : ∀ k, l k = true → F7 w W0 t A c k (x k) u) (hb : Below u.heap.size u u') (hv : F7 w W0 t A c i v u') :
    ∀ k, (if k = i then true else l k) = true → F7 w W0 t A c k (if k = i then v else x k) u' := by
  intro k hk
  by_cases e : k = i
  · subst e; rw [if_pos rfl]; exact hv
  · rw [if_neg e] at hk ⊢; exact (h k hk).keep hb
/-- the parts' row -/
def Row7 (w W0 : World) (t : Tr) (v : Value) (u : World) : Prop := ∃ g cs, v = .slice (some ⟨g, 0, none⟩) 4 4 ∧ W0.heap.size ≤ g ∧ g < u.heap.size ∧ u.heap[g]? = some (.cells (rowC [kidT t [0, 0], kidT t [0, 1], kidT t [1, 0], kidT t [1, 1]] cs).toArray 24 (0, 0)) ∧
  ∃ h : cs.length = 4, ∀ m (hm : m < 4), IsT w w.heap.size ([kidT t [0, 0], kidT t [0, 1], kidT t [1, 0], kidT t [1, 1]][m]'hm) (cs[m]'(by omega)).1 (cs[m]'(by omega)).2
/-- the row stands in the list -/
def End7 (w : World) (t : Tr) (u : World) : Prop := ∃ g cs, BoxP u (w.heap.size + 2) (some ⟨g, 0, none⟩) 4 4 0 ∧ BoxP u (w.heap.size + 1) none 0 0 0 ∧ Below w.heap.size w u ∧ w.heap.size + 3 ≤ g ∧ g < u.heap.size ∧ u.heap[g]? = some (.cells (rowC [kidT t [0, 0], kidT t [0, 1], kidT t [1, 0], kidT t [1, 1]] cs).toArray 24 (0, 0)) ∧
  ∃ h : cs.length = 4, ∀ m (hm : m < 4), IsT w w.heap.size ([kidT t [0, 0], kidT t [0, 1], kidT t [1, 0], kidT t [1, 1]][m]'hm) (cs[m]'(by omega)).1 (cs[m]'(by omega)).2
/-- what holds while the region runs -/
def J7 (w W0 : World) (t : Tr) (A : Option Addr) (c : Nat) (a0 : Act) (l : Nat → Bool) (a : Act) (u : World) : Prop :=
  ∃ x, a = put14 a0 x ∧
    ((l 12 = false ∧ l 14 = false ∧ Below W0.heap.size W0 u ∧ ∀ k, l k = true → F7 w W0 t A c k (x k) u) ∨
     (l 12 = true ∧ l 14 = false ∧ (∀ k, k < 12 → l k = true) ∧ Below W0.heap.size W0 u ∧ Row7 w W0 t (x 12) u ∧ (l 13 = true → x 13 = .pointer (some ⟨w.heap.size + 2, 0, none⟩))) ∨
     (l 14 = true ∧ (∀ k, k < 14 → l k = true) ∧ End7 w t u))
/-- a step before the row is built -/
theorem J7.early {w W0 : World} {t : Tr} {A : Option Addr} {c i : Nat} {a0 : Act} {l : Nat → Bool} {x : Nat → Value} {v : Value} {u u' : World} {a : Act} (hi : i < 12) (h12 : l 12 = false) (h14 : l 14 = false) (hbel : Below W0.heap.size W0 u) (hF : ∀ k, l k = true → F7 w W0 t A c k (x k) u)
    (hb : Below u.heap.size u u') (hv : F7 w W0 t A c i v u') (ha : a = put14 a0 (fun k => if k = i then v else x k)) : J7 w W0 t A c a0 (fun k => if k = i then true else l k) a u' :=
  ⟨_, ha, .inl ⟨by show (if 12 = i then true else l 12) = false; rw [if_neg (by omega)]; exact h12, by show (if 14 = i then true else l 14) = false; rw [if_neg (by omega)]; exact h14, bl_trans hbel hb, F7.step hF hb hv⟩⟩
theorem J7.start {w W0 : World} {t : Tr} {A : Option Addr} {c : Nat} {a0 : Act} {u : World} (h : 111 ≤ a0.tmps.toList.length) (hb : Below W0.heap.size W0 u) : J7 w W0 t A c a0 (fun _ => false) a0 u := by
  obtain ⟨x, hx⟩ := put14_self a0 h
  exact ⟨x, hx, .inl ⟨rfl, rfl, hb, fun k hk => by cases hk⟩⟩
theorem end7_guess {w u : World} {t : Tr} {g : Nat} {cs : List (Option Addr × Nat)} (hb : Below w.heap.size w u) (hg : w.heap.size + 3 ≤ g) (hr : u.heap[g]? = some (.cells (rowC [kidT t [0, 0], kidT t [0, 1], kidT t [1, 0], kidT t [1, 1]] cs).toArray 24 (0, 0)))
    (hl : cs.length = 4) (ht : ∀ m (hm : m < 4), IsT w w.heap.size ([kidT t [0, 0], kidT t [0, 1], kidT t [1, 0], kidT t [1, 1]][m]'hm) (cs[m]'(by omega)).1 (cs[m]'(by omega)).2) (p q : Value) :
    GuessP w ([kidT t [0, 0], kidT t [0, 1], kidT t [1, 0], kidT t [1, 1]], 0) (.returned (.agg #[.slice (some ⟨g, 0, none⟩) 4 4, .int .i64 0])) ((u.setCell ⟨w.heap.size + 1, 0, none⟩ p).setCell ⟨w.heap.size + 1, 1, none⟩ q) := by
  have bl : Below w.heap.size w ((u.setCell ⟨w.heap.size + 1, 0, none⟩ p).setCell ⟨w.heap.size + 1, 1, none⟩ q) := (hb.setCell (p := ⟨w.heap.size + 1, 0, none⟩) (Nat.le_succ _) _).setCell (p := ⟨w.heap.size + 1, 1, none⟩) (Nat.le_succ _) _
  refine ⟨bl, some ⟨g, 0, none⟩, 4, rfl, ?_⟩
  refine row_fr (l := [kidT t [0, 0], kidT t [0, 1], kidT t [1, 0], kidT t [1, 1]]) hl (fun k hk => by rcases hk with hk | hk | hk <;> omega) (fun hk => by rcases hk with hk | hk | hk <;> omega) bl ?_ (by unfold Cap; simp) (fun m hm => ht m hm)
  have ne : g ≠ w.heap.size + 1 := by omega
  rw [heap_setCell_other _ _ _ _ ne, heap_setCell_other _ _ _ _ ne]
  exact hr
set_option maxHeartbeats 100000000 in
set_option maxRecDepth 100000 in
theorem guess7_any (t : Tr) (A : Option Addr) (c : Nat) (w : World) (ht : IsT w w.heap.size t A c) :
    Calls Tryz.prog 31 #[.int .i64 7, .agg #[.int .i64 t.k, .int .i64 t.i, .slice A t.ks.length c]] w (GuessP w (guessV 7 t)) := by
  obtain ⟨W0, hW0⟩ : ∃ W0, W0 = ((w.alloc (.cells #[.int .i64 t.k, .int .i64 t.i, .slice A t.ks.length c] 24)).alloc (.cells #[.slice none 0 0, .int .i64 0] 32)).alloc (.cells #[.slice none 0 0, .int .i64 0] 32) := ⟨_, rfl⟩
  have S0 := Lib.hid (show GB w W0 t A c 0 by rw [hW0]; exact GB.start w t A c)
  have HT := Lib.hid ht
  have HW := Lib.hid hW0
  clear ht hW0
  go_enter Tryz.func31, Tryz.ntmps31
  go_upto_region 22 with fail
  rw [← HW.out]
  have G0 := Lib.hid S0.out
  have HZ := Lib.hid (show W0.heap.size = w.heap.size + 3 by rw [HW.out]; simp)
  have KID := Lib.hid (fun (zs : List Int) (hz : ∀ z ∈ zs, 0 ≤ z) (hn : zs.length = 2) (u : World) (r : Nat) (hbel : Below W0.heap.size W0 u) (h3 : r < u.heap.size) (h4 : u.heap[r]? = some (.cells (zs.map (Value.int .i64)).toArray 3 (0, 0))) =>
    (kid_any w w.heap.size t A c r 2 2 zs u (G0.out.keep hbel).bel (G0.out.keep hbel).bel.size HT.out h3 (fun i hi => by unfold World.cell?; rw [h4]; simp [hi]) hn (by omega) hz : Calls Tryz.prog 71 #[.agg #[.int .i64 t.k, .int .i64 t.i, .slice A t.ks.length c], .slice (some ⟨r, 0, none⟩) 2 2] u (PartO w w.heap.size u (kidT t zs))))
  refine wp_region_inv (by kernel_rfl) (by kernel_rfl) (J7 w W0 t A c) ?_ ?_ ?_
  · exact J7.start (by simp) (Below.refl _ W0).drew
  · intro l a u i o ho hli hd hc hJ
    obtain ⟨x, rfl, hP⟩ := hJ
    have hi15 : i < 15 := (Array.getElem?_eq_some_iff.1 ho).1
    have hi : i = 0 ∨ i = 1 ∨ i = 2 ∨ i = 3 ∨ i = 4 ∨ i = 5 ∨ i = 6 ∨ i = 7 ∨ i = 8 ∨ i = 9 ∨ i = 10 ∨ i = 11 ∨ i = 12 ∨ i = 13 ∨ i = 14 := by omega
    rcases hi with rfl | rfl | rfl | rfl | rfl | rfl | rfl | rfl | rfl | rfl | rfl | rfl | rfl | rfl | rfl
    · cases ho
      obtain ⟨h12, h14, hbel, hF⟩ : l 12 = false ∧ l 14 = false ∧ Below W0.heap.size W0 u ∧ ∀ k, l k = true → F7 w W0 t A c k (x k) u := by
        rcases hP with h | h | h
        · exact h
        · have := h.2.2.1 0 (by omega); rw [hli] at this; cases this
        · have := h.2.1 0 (by omega); rw [hli] at this; cases this
      clear hP
      obtain ⟨x0, x1, x2⟩ := (G0.out.keep hbel).xb.cells
      simp only [put14, tl14, List.take_succ_cons, List.take_zero, List.drop_succ_cons, List.drop_zero, List.cons_append, List.nil_append]
      go_wp2_with fail
      exact ⟨fun _ => J7.early (i := 0) (v := (.agg #[.int .i64 t.k, .int .i64 t.i, .slice A t.ks.length c])) (by omega) h12 h14 hbel hF (Below.refl _ _) ⟨fun _ => rfl, fun h => by omega, fun h => by omega, fun h => by omega, fun h => by omega, fun h => by omega, fun h => by omega, fun h => by omega, fun h => by omega, fun h => by omega⟩ rfl, fun h => absurd rfl h⟩
    · cases ho
      obtain ⟨h12, h14, hbel, hF⟩ : l 12 = false ∧ l 14 = false ∧ Below W0.heap.size W0 u ∧ ∀ k, l k = true → F7 w W0 t A c k (x k) u := by
        rcases hP with h | h | h
        · exact h
        · have := h.2.2.1 1 (by omega); rw [hli] at this; cases this
        · have := h.2.1 1 (by omega); rw [hli] at this; cases this
      clear hP
      simp only [put14, tl14, List.take_succ_cons, List.take_zero, List.drop_succ_cons, List.drop_zero, List.cons_append, List.nil_append]
      go_wp2_with fail
      exact ⟨fun _ => J7.early (i := 1) (v := .slice (some ⟨u.heap.size, 0, none⟩) 2 2) (by omega) h12 h14 hbel hF (alB u _) ⟨fun h => by omega, fun _ => ⟨u.heap.size, rfl, hbel.size, by simp, new_at u _⟩, fun h => by omega, fun h => by omega, fun h => by omega, fun h => by omega, fun h => by omega, fun h => by omega, fun h => by omega, fun h => by omega⟩ rfl, fun h => absurd rfl h⟩
    · cases ho
      obtain ⟨h12, h14, hbel, hF⟩ : l 12 = false ∧ l 14 = false ∧ Below W0.heap.size W0 u ∧ ∀ k, l k = true → F7 w W0 t A c k (x k) u := by
        rcases hP with h | h | h
        · exact h
        · have := h.2.2.1 2 (by omega); rw [hli] at this; cases this
        · have := h.2.1 2 (by omega); rw [hli] at this; cases this
      clear hP
      have E0 := Lib.hid ((hF 0 (hd { on := 0, ground := .data } (by simp) rfl)).1 (by omega))
      have E1 := Lib.hid ((hF 1 (hd { on := 1, ground := .data } (by simp) rfl)).2.1 rfl)
      have HF := Lib.hid (And.intro hbel hF)
      have KC := Lib.hid (show Calls Tryz.prog 71 #[x 0, x 1] u (PartO w w.heap.size u (kidT t [0, 0])) from by
        obtain ⟨r, er, hr1, hr2, hr3⟩ := E1.out
        rw [E0.out, er]
        exact KID.out [0, 0] (by decide) rfl u r hbel hr2 hr3)
      clear hd hc hbel hF
      simp only [put14, tl14, List.take_succ_cons, List.take_zero, List.drop_succ_cons, List.drop_zero, List.cons_append, List.nil_append]
      go_wp2_with fail
      refine KC.out.mono ?_
      rintro e u' ⟨hb', A1, c1, rfl, ht1⟩
      go_wp2_with fail
      have hv : ∀ v : Value, v = .agg #[.int .i64 (kidT t [0, 0]).k, .int .i64 (kidT t [0, 0]).i, .slice A1 (kidT t [0, 0]).ks.length c1] → F7 w W0 t A c 2 v u' := fun v hv => ⟨fun h => by omega, fun h => by omega, fun h => by omega, fun h => by omega, fun h => by omega, fun _ => ⟨A1, c1, hv, ht1⟩, fun h => by omega, fun h => by omega, fun h => by omega, fun h => by omega⟩
      obtain ⟨v, hv0⟩ : ∃ v : Value, v = .agg #[.int .i64 (kidT t [0, 0]).k, .int .i64 (kidT t [0, 0]).i, .slice A1 (kidT t [0, 0]).ks.length c1] := ⟨_, rfl⟩
      have hv := hv v hv0
      rw [← hv0]
      clear hv0
      refine ⟨fun _ => ?_, fun h => absurd rfl h⟩
      refine J7.early (i := 2) (v := v) (by omega) h12 h14 HF.out.1 HF.out.2 hb' hv ?_
      rfl
    · cases ho
      obtain ⟨h12, h14, hbel, hF⟩ : l 12 = false ∧ l 14 = false ∧ Below W0.heap.size W0 u ∧ ∀ k, l k = true → F7 w W0 t A c k (x k) u := by
        rcases hP with h | h | h
        · exact h
        · have := h.2.2.1 3 (by omega); rw [hli] at this; cases this
        · have := h.2.1 3 (by omega); rw [hli] at this; cases this
      clear hP
      obtain ⟨x0, x1, x2⟩ := (G0.out.keep hbel).xb.cells
      simp only [put14, tl14, List.take_succ_cons, List.take_zero, List.drop_succ_cons, List.drop_zero, List.cons_append, List.nil_append]
      go_wp2_with fail
      exact ⟨fun _ => J7.early (i := 3) (v := (.agg #[.int .i64 t.k, .int .i64 t.i, .slice A t.ks.length c])) (by omega) h12 h14 hbel hF (Below.refl _ _) ⟨fun _ => rfl, fun h => by omega, fun h => by omega, fun h => by omega, fun h => by omega, fun h => by omega, fun h => by omega, fun h => by omega, fun h => by omega, fun h => by omega⟩ rfl, fun h => absurd rfl h⟩
    · cases ho
      obtain ⟨h12, h14, hbel, hF⟩ : l 12 = false ∧ l 14 = false ∧ Below W0.heap.size W0 u ∧ ∀ k, l k = true → F7 w W0 t A c k (x k) u := by
        rcases hP with h | h | h
        · exact h
        · have := h.2.2.1 4 (by omega); rw [hli] at this; cases this
        · have := h.2.1 4 (by omega); rw [hli] at this; cases this
      clear hP
      simp only [put14, tl14, List.take_succ_cons, List.take_zero, List.drop_succ_cons, List.drop_zero, List.cons_append, List.nil_append]
      go_wp2_with fail
      exact ⟨fun _ => J7.early (i := 4) (v := .slice (some ⟨u.heap.size, 0, none⟩) 2 2) (by omega) h12 h14 hbel hF (alB u _) ⟨fun h => by omega, fun h => by omega, fun _ => ⟨u.heap.size, rfl, hbel.size, by simp, new_at u _⟩, fun h => by omega, fun h => by omega, fun h => by omega, fun h => by omega, fun h => by omega, fun h => by omega, fun h => by omega⟩ rfl, fun h => absurd rfl h⟩
    · cases ho
      obtain ⟨h12, h14, hbel, hF⟩ : l 12 = false ∧ l 14 = false ∧ Below W0.heap.size W0 u ∧ ∀ k, l k = true → F7 w W0 t A c k (x k) u := by
        rcases hP with h | h | h
        · exact h
        · have := h.2.2.1 5 (by omega); rw [hli] at this; cases this
        · have := h.2.1 5 (by omega); rw [hli] at this; cases this
      clear hP
      have E0 := Lib.hid ((hF 3 (hd { on := 3, ground := .data } (by simp) rfl)).1 (by omega))
      have E1 := Lib.hid ((hF 4 (hd { on := 4, ground := .data } (by simp) rfl)).2.2.1 rfl)
      have HF := Lib.hid (And.intro hbel hF)
      have KC := Lib.hid (show Calls Tryz.prog 71 #[x 3, x 4] u (PartO w w.heap.size u (kidT t [0, 1])) from by
        obtain ⟨r, er, hr1, hr2, hr3⟩ := E1.out
        rw [E0.out, er]
        exact KID.out [0, 1] (by decide) rfl u r hbel hr2 hr3)
      clear hd hc hbel hF
      simp only [put14, tl14, List.take_succ_cons, List.take_zero, List.drop_succ_cons, List.drop_zero, List.cons_append, List.nil_append]
      go_wp2_with fail
      refine KC.out.mono ?_
      rintro e u' ⟨hb', A1, c1, rfl, ht1⟩
      go_wp2_with fail
      have hv : ∀ v : Value, v = .agg #[.int .i64 (kidT t [0, 1]).k, .int .i64 (kidT t [0, 1]).i, .slice A1 (kidT t [0, 1]).ks.length c1] → F7 w W0 t A c 5 v u' := fun v hv => ⟨fun h => by omega, fun h => by omega, fun h => by omega, fun h => by omega, fun h => by omega, fun h => by omega, fun _ => ⟨A1, c1, hv, ht1⟩, fun h => by omega, fun h => by omega, fun h => by omega⟩
      obtain ⟨v, hv0⟩ : ∃ v : Value, v = .agg #[.int .i64 (kidT t [0, 1]).k, .int .i64 (kidT t [0, 1]).i, .slice A1 (kidT t [0, 1]).ks.length c1] := ⟨_, rfl⟩
      have hv := hv v hv0
      rw [← hv0]
      clear hv0
      refine ⟨fun _ => ?_, fun h => absurd rfl h⟩
      refine J7.early (i := 5) (v := v) (by omega) h12 h14 HF.out.1 HF.out.2 hb' hv ?_
      rfl
    · cases ho
      obtain ⟨h12, h14, hbel, hF⟩ : l 12 = false ∧ l 14 = false ∧ Below W0.heap.size W0 u ∧ ∀ k, l k = true → F7 w W0 t A c k (x k) u := by
        rcases hP with h | h | h
        · exact h
        · have := h.2.2.1 6 (by omega); rw [hli] at this; cases this
        · have := h.2.1 6 (by omega); rw [hli] at this; cases this
      clear hP
      obtain ⟨x0, x1, x2⟩ := (G0.out.keep hbel).xb.cells
      simp only [put14, tl14, List.take_succ_cons, List.take_zero, List.drop_succ_cons, List.drop_zero, List.cons_append, List.nil_append]
      go_wp2_with fail
      exact ⟨fun _ => J7.early (i := 6) (v := (.agg #[.int .i64 t.k, .int .i64 t.i, .slice A t.ks.length c])) (by omega) h12 h14 hbel hF (Below.refl _ _) ⟨fun _ => rfl, fun h => by omega, fun h => by omega, fun h => by omega, fun h => by omega, fun h => by omega, fun h => by omega, fun h => by omega, fun h => by omega, fun h => by omega⟩ rfl, fun h => absurd rfl h⟩
    · cases ho
      obtain ⟨h12, h14, hbel, hF⟩ : l 12 = false ∧ l 14 = false ∧ Below W0.heap.size W0 u ∧ ∀ k, l k = true → F7 w W0 t A c k (x k) u := by
        rcases hP with h | h | h
        · exact h
        · have := h.2.2.1 7 (by omega); rw [hli] at this; cases this
        · have := h.2.1 7 (by omega); rw [hli] at this; cases this
      clear hP
      simp only [put14, tl14, List.take_succ_cons, List.take_zero, List.drop_succ_cons, List.drop_zero, List.cons_append, List.nil_append]
      go_wp2_with fail
      exact ⟨fun _ => J7.early (i := 7) (v := .slice (some ⟨u.heap.size, 0, none⟩) 2 2) (by omega) h12 h14 hbel hF (alB u _) ⟨fun h => by omega, fun h => by omega, fun h => by omega, fun _ => ⟨u.heap.size, rfl, hbel.size, by simp, new_at u _⟩, fun h => by omega, fun h => by omega, fun h => by omega, fun h => by omega, fun h => by omega, fun h => by omega⟩ rfl, fun h => absurd rfl h⟩
    · cases ho
      obtain ⟨h12, h14, hbel, hF⟩ : l 12 = false ∧ l 14 = false ∧ Below W0.heap.size W0 u ∧ ∀ k, l k = true → F7 w W0 t A c k (x k) u := by
        rcases hP with h | h | h
        · exact h
        · have := h.2.2.1 8 (by omega); rw [hli] at this; cases this
        · have := h.2.1 8 (by omega); rw [hli] at this; cases this
      clear hP
      have E0 := Lib.hid ((hF 6 (hd { on := 6, ground := .data } (by simp) rfl)).1 (by omega))
      have E1 := Lib.hid ((hF 7 (hd { on := 7, ground := .data } (by simp) rfl)).2.2.2.1 rfl)
      have HF := Lib.hid (And.intro hbel hF)
      have KC := Lib.hid (show Calls Tryz.prog 71 #[x 6, x 7] u (PartO w w.heap.size u (kidT t [1, 0])) from by
        obtain ⟨r, er, hr1, hr2, hr3⟩ := E1.out
        rw [E0.out, er]
        exact KID.out [1, 0] (by decide) rfl u r hbel hr2 hr3)
      clear hd hc hbel hF
      simp only [put14, tl14, List.take_succ_cons, List.take_zero, List.drop_succ_cons, List.drop_zero, List.cons_append, List.nil_append]
      go_wp2_with fail
      refine KC.out.mono ?_
      rintro e u' ⟨hb', A1, c1, rfl, ht1⟩
      go_wp2_with fail
      have hv : ∀ v : Value, v = .agg #[.int .i64 (kidT t [1, 0]).k, .int .i64 (kidT t [1, 0]).i, .slice A1 (kidT t [1, 0]).ks.length c1] → F7 w W0 t A c 8 v u' := fun v hv => ⟨fun h => by omega, fun h => by omega, fun h => by omega, fun h => by omega, fun h => by omega, fun h => by omega, fun h => by omega, fun _ => ⟨A1, c1, hv, ht1⟩, fun h => by omega, fun h => by omega⟩
      obtain ⟨v, hv0⟩ : ∃ v : Value, v = .agg #[.int .i64 (kidT t [1, 0]).k, .int .i64 (kidT t [1, 0]).i, .slice A1 (kidT t [1, 0]).ks.length c1] := ⟨_, rfl⟩
      have hv := hv v hv0
      rw [← hv0]
      clear hv0
      refine ⟨fun _ => ?_, fun h => absurd rfl h⟩
      refine J7.early (i := 8) (v := v) (by omega) h12 h14 HF.out.1 HF.out.2 hb' hv ?_
      rfl
    · cases ho
      obtain ⟨h12, h14, hbel, hF⟩ : l 12 = false ∧ l 14 = false ∧ Below W0.heap.size W0 u ∧ ∀ k, l k = true → F7 w W0 t A c k (x k) u := by
        rcases hP with h | h | h
        · exact h
        · have := h.2.2.1 9 (by omega); rw [hli] at this; cases this
        · have := h.2.1 9 (by omega); rw [hli] at this; cases this
      clear hP
      obtain ⟨x0, x1, x2⟩ := (G0.out.keep hbel).xb.cells
      simp only [put14, tl14, List.take_succ_cons, List.take_zero, List.drop_succ_cons, List.drop_zero, List.cons_append, List.nil_append]
      go_wp2_with fail
      exact ⟨fun _ => J7.early (i := 9) (v := (.agg #[.int .i64 t.k, .int .i64 t.i, .slice A t.ks.length c])) (by omega) h12 h14 hbel hF (Below.refl _ _) ⟨fun _ => rfl, fun h => by omega, fun h => by omega, fun h => by omega, fun h => by omega, fun h => by omega, fun h => by omega, fun h => by omega, fun h => by omega, fun h => by omega⟩ rfl, fun h => absurd rfl h⟩
    · cases ho
      obtain ⟨h12, h14, hbel, hF⟩ : l 12 = false ∧ l 14 = false ∧ Below W0.heap.size W0 u ∧ ∀ k, l k = true → F7 w W0 t A c k (x k) u := by
        rcases hP with h | h | h
        · exact h
        · have := h.2.2.1 10 (by omega); rw [hli] at this; cases this
        · have := h.2.1 10 (by omega); rw [hli] at this; cases this
      clear hP
      simp only [put14, tl14, List.take_succ_cons, List.take_zero, List.drop_succ_cons, List.drop_zero, List.cons_append, List.nil_append]
      go_wp2_with fail
      exact ⟨fun _ => J7.early (i := 10) (v := .slice (some ⟨u.heap.size, 0, none⟩) 2 2) (by omega) h12 h14 hbel hF (alB u _) ⟨fun h => by omega, fun h => by omega, fun h => by omega, fun h => by omega, fun _ => ⟨u.heap.size, rfl, hbel.size, by simp, new_at u _⟩, fun h => by omega, fun h => by omega, fun h => by omega, fun h => by omega, fun h => by omega⟩ rfl, fun h => absurd rfl h⟩
    · cases ho
      obtain ⟨h12, h14, hbel, hF⟩ : l 12 = false ∧ l 14 = false ∧ Below W0.heap.size W0 u ∧ ∀ k, l k = true → F7 w W0 t A c k (x k) u := by
        rcases hP with h | h | h
        · exact h
        · have := h.2.2.1 11 (by omega); rw [hli] at this; cases this
        · have := h.2.1 11 (by omega); rw [hli] at this; cases this
      clear hP
      have E0 := Lib.hid ((hF 9 (hd { on := 9, ground := .data } (by simp) rfl)).1 (by omega))
      have E1 := Lib.hid ((hF 10 (hd { on := 10, ground := .data } (by simp) rfl)).2.2.2.2.1 rfl)
      have HF := Lib.hid (And.intro hbel hF)
      have KC := Lib.hid (show Calls Tryz.prog 71 #[x 9, x 10] u (PartO w w.heap.size u (kidT t [1, 1])) from by
        obtain ⟨r, er, hr1, hr2, hr3⟩ := E1.out
        rw [E0.out, er]
        exact KID.out [1, 1] (by decide) rfl u r hbel hr2 hr3)
      clear hd hc hbel hF
      simp only [put14, tl14, List.take_succ_cons, List.take_zero, List.drop_succ_cons, List.drop_zero, List.cons_append, List.nil_append]
      go_wp2_with fail
      refine KC.out.mono ?_
      rintro e u' ⟨hb', A1, c1, rfl, ht1⟩
      go_wp2_with fail
      have hv : ∀ v : Value, v = .agg #[.int .i64 (kidT t [1, 1]).k, .int .i64 (kidT t [1, 1]).i, .slice A1 (kidT t [1, 1]).ks.length c1] → F7 w W0 t A c 11 v u' := fun v hv => ⟨fun h => by omega, fun h => by omega, fun h => by omega, fun h => by omega, fun h => by omega, fun h => by omega, fun h => by omega, fun h => by omega, fun _ => ⟨A1, c1, hv, ht1⟩, fun h => by omega⟩
      obtain ⟨v, hv0⟩ : ∃ v : Value, v = .agg #[.int .i64 (kidT t [1, 1]).k, .int .i64 (kidT t [1, 1]).i, .slice A1 (kidT t [1, 1]).ks.length c1] := ⟨_, rfl⟩
      have hv := hv v hv0
      rw [← hv0]
      clear hv0
      refine ⟨fun _ => ?_, fun h => absurd rfl h⟩
      refine J7.early (i := 11) (v := v) (by omega) h12 h14 HF.out.1 HF.out.2 hb' hv ?_
      rfl
    · cases ho
      obtain ⟨h12, h14, hbel, hF⟩ : l 12 = false ∧ l 14 = false ∧ Below W0.heap.size W0 u ∧ ∀ k, l k = true → F7 w W0 t A c k (x k) u := by
        rcases hP with h | h | h
        · exact h
        · have := h.1; rw [hli] at this; cases this
        · have := h.2.1 12 (by omega); rw [hli] at this; cases this
      clear hP
      have L2 := hd { on := 2, ground := .data } (by simp) rfl
      have L0 := hc 2 _ rfl L2 { on := 0, ground := .data } (by simp) rfl
      have L1 := hc 2 _ rfl L2 { on := 1, ground := .data } (by simp) rfl
      have L5 := hd { on := 5, ground := .data } (by simp) rfl
      have L3 := hc 5 _ rfl L5 { on := 3, ground := .data } (by simp) rfl
      have L4 := hc 5 _ rfl L5 { on := 4, ground := .data } (by simp) rfl
      have L8 := hd { on := 8, ground := .data } (by simp) rfl
      have L6 := hc 8 _ rfl L8 { on := 6, ground := .data } (by simp) rfl
      have L7 := hc 8 _ rfl L8 { on := 7, ground := .data } (by simp) rfl
      have L11 := hd { on := 11, ground := .data } (by simp) rfl
      have L9 := hc 11 _ rfl L11 { on := 9, ground := .data } (by simp) rfl
      have L10 := hc 11 _ rfl L11 { on := 10, ground := .data } (by simp) rfl
      have all12 : ∀ k, k < 12 → l k = true := fun k hk => by
        have : k = 0 ∨ k = 1 ∨ k = 2 ∨ k = 3 ∨ k = 4 ∨ k = 5 ∨ k = 6 ∨ k = 7 ∨ k = 8 ∨ k = 9 ∨ k = 10 ∨ k = 11 := by omega
        rcases this with rfl | rfl | rfl | rfl | rfl | rfl | rfl | rfl | rfl | rfl | rfl | rfl
        · exact L0
        · exact L1
        · exact L2
        · exact L3
        · exact L4
        · exact L5
        · exact L6
        · exact L7
        · exact L8
        · exact L9
        · exact L10
        · exact L11
      obtain ⟨A0, c0, e0, ht0⟩ := (hF 2 L2).2.2.2.2.2.1 rfl
      obtain ⟨A1, c1, e1, ht1⟩ := (hF 5 L5).2.2.2.2.2.2.1 rfl
      obtain ⟨A2, c2, e2, ht2⟩ := (hF 8 L8).2.2.2.2.2.2.2.1 rfl
      obtain ⟨A3, c3, e3, ht3⟩ := (hF 11 L11).2.2.2.2.2.2.2.2.1 rfl
      have P13 : l 13 = true → x 13 = .pointer (some ⟨w.heap.size + 2, 0, none⟩) := fun h => (hF 13 h).2.2.2.2.2.2.2.2.2 rfl
      clear hF hd hc L0 L1 L2 L3 L4 L5 L6 L7 L8 L9 L10 L11
      simp only [put14, tl14, List.take_succ_cons, List.take_zero, List.drop_succ_cons, List.drop_zero, List.cons_append, List.nil_append]
      rw [e0, e1, e2, e3]
      go_wp2_with fail
      refine ⟨fun _ => ⟨fun k => if k = 12 then .slice (some ⟨u.heap.size, 0, none⟩) 4 4 else if k = 2 then .agg #[.int .i64 (kidT t [0, 0]).k, .int .i64 (kidT t [0, 0]).i, .slice A0 (kidT t [0, 0]).ks.length c0] else if k = 5 then .agg #[.int .i64 (kidT t [0, 1]).k, .int .i64 (kidT t [0, 1]).i, .slice A1 (kidT t [0, 1]).ks.length c1] else if k = 8 then .agg #[.int .i64 (kidT t [1, 0]).k, .int .i64 (kidT t [1, 0]).i, .slice A2 (kidT t [1, 0]).ks.length c2] else if k = 11 then .agg #[.int .i64 (kidT t [1, 1]).k, .int .i64 (kidT t [1, 1]).i, .slice A3 (kidT t [1, 1]).ks.length c3] else x k, rfl, .inr (.inl ⟨rfl, h14, fun k hk => by show (if k = 12 then true else l k) = true; rw [if_neg (by omega)]; exact all12 k hk, bl_trans hbel (alB u _), ?_, P13⟩)⟩, fun h => absurd rfl h⟩
      exact ⟨u.heap.size, [(A0, c0), (A1, c1), (A2, c2), (A3, c3)], rfl, hbel.size, by simp, new_at u _, rfl, fun m hm => by
        match m, hm with
        | 0, _ => exact ht0 | 1, _ => exact ht1 | 2, _ => exact ht2 | 3, _ => exact ht3⟩
    · cases ho
      have h14 : l 14 = false ∧ ((l 12 = false ∧ Below W0.heap.size W0 u ∧ ∀ k, l k = true → F7 w W0 t A c k (x k) u) ∨ (l 12 = true ∧ (∀ k, k < 12 → l k = true) ∧ Below W0.heap.size W0 u ∧ Row7 w W0 t (x 12) u)) := by
        rcases hP with h | h | h
        · exact ⟨h.2.1, .inl ⟨h.1, h.2.2⟩⟩
        · exact ⟨h.2.1, .inr ⟨h.1, h.2.2.1, h.2.2.2.1, h.2.2.2.2.1⟩⟩
        · have := h.2.1 13 (by omega); rw [hli] at this; cases this
      clear hP
      simp only [put14, tl14, List.take_succ_cons, List.take_zero, List.drop_succ_cons, List.drop_zero, List.cons_append, List.nil_append]
      go_wp2_with fail
      refine ⟨fun _ => ⟨fun k => if k = 13 then .pointer (some ⟨w.heap.size + 2, 0, none⟩) else x k, rfl, ?_⟩, fun h => absurd rfl h⟩
      rcases h14 with ⟨h14, ⟨h12, hbel, hF⟩ | ⟨h12, hall, hbel, hrow⟩⟩
      · exact .inl ⟨h12, h14, hbel, F7.step hF (Below.refl _ _) ⟨fun h => by omega, fun h => by omega, fun h => by omega, fun h => by omega, fun h => by omega, fun h => by omega, fun h => by omega, fun h => by omega, fun h => by omega, fun _ => rfl⟩⟩
      · exact .inr (.inl ⟨h12, h14, fun k hk => by show (if k = 13 then true else l k) = true; rw [if_neg (by omega)]; exact hall k hk, hbel, hrow, fun _ => rfl⟩)
    · cases ho
      have L12 := hd { on := 12, ground := .data } (by simp) rfl
      have L13 := hd { on := 13, ground := .data } (by simp) rfl
      obtain ⟨h12, h14, hall, hbel, hrow, hp13⟩ : l 12 = true ∧ l 14 = false ∧ (∀ k, k < 12 → l k = true) ∧ Below W0.heap.size W0 u ∧ Row7 w W0 t (x 12) u ∧ (l 13 = true → x 13 = .pointer (some ⟨w.heap.size + 2, 0, none⟩)) := by
        rcases hP with h | h | h
        · have := h.1; rw [L12] at this; cases this
        · exact h
        · have := h.1; rw [hli] at this; cases this
      clear hP hd hc
      obtain ⟨g, cs, e12, hg, hgl, hr, hcs, ht'⟩ := hrow
      have e13 := hp13 L13
      have G5 := Lib.hid (G0.out.keep hbel)
      obtain ⟨p0, p1⟩ := G5.out.pb.cells
      have pf := G5.out.pb.frozen 0
      simp only [put14, tl14, List.take_succ_cons, List.take_zero, List.drop_succ_cons, List.drop_zero, List.cons_append, List.nil_append]
      rw [e12, e13]
      go_wp2_with fail
      refine ⟨fun _ => ⟨fun k => if k = 12 then .slice (some ⟨g, 0, none⟩) 4 4 else if k = 13 then .pointer (some ⟨w.heap.size + 2, 0, none⟩) else x k, rfl, .inr (.inr ⟨rfl, fun k hk => ?_, g, cs, ?_, ?_, ?_, ?_, ?_, ?_, hcs, ht'⟩)⟩, fun h => absurd rfl h⟩
      · have hk14 : ¬ k = 14 := by omega
        simp only [hk14, decide_false, Bool.false_or, if_false]
        by_cases h : k < 12
        · exact hall k h
        · by_cases h2 : k = 12
          · subst h2; exact L12
          · obtain rfl : k = 13 := by omega
            exact L13
      · exact G5.out.pb.set0 _ _ _
      · exact G5.out.rb.other _ _ (by show w.heap.size + 1 ≠ w.heap.size + 2; omega)
      · exact G5.out.bel.setCell (p := ⟨w.heap.size + 2, 0, none⟩) (by show w.heap.size ≤ w.heap.size + 2; omega) _
      · have := HZ.out; omega
      · simpa using hgl
      · rw [heap_setCell_other _ _ _ _ (by show g ≠ w.heap.size + 2; have := HZ.out; omega)]; exact hr
  · intro l a u hJ hall
    obtain ⟨x, rfl, hP⟩ := hJ
    have hE : End7 w t u := by
      rcases hP with h | h | h
      · have := hall 12 (by decide); rw [h.1] at this; cases this
      · have := hall 14 (by decide); rw [h.2.1] at this; cases this
      · exact h.2.2
    clear hP hall
    obtain ⟨g, cs, hpb, hrb, hbel, hg, hgl, hrow, hcs, ht⟩ := hE
    have E := Lib.hid (end7_guess hbel hg hrow hcs ht)
    obtain ⟨p0, p1⟩ := hpb.cells
    have f0 := hrb.frozen 0
    have f1 := hrb.frozen 1
    obtain ⟨r0, r1⟩ := hrb.cells
    obtain ⟨z0, z1⟩ := ((hrb.set0 (some ⟨g, 0, none⟩) 4 4).set1 0).cells
    clear hrow ht hbel
    simp only [put14, tl14, List.take_succ_cons, List.take_zero, List.drop_succ_cons, List.drop_zero, List.cons_append, List.nil_append]
    go_wp2_with fail
    exact bodyPost_ret (v := .agg #[.slice (some ⟨g, 0, none⟩) 4 4, .int .i64 0]) (by simp [results, Tryz.results31, go_sem, z0, z1]) rfl (E.out _ _)
end Go.Proofs.YtgnfbhemkombaaaGreat
namespace Go.Proofs.YtgnfbhemkombaaaGreat
open Go.RowKit
set_option linter.unusedVariables false
set_option linter.unusedSimpArgs false
/-- an answer: a tree that lies in w0, or none -/
def StandO (w0 : World) (B0 : Nat) (w : World) (o : Option Tr) (e : Ending) (w' : World) : Prop :=
  Below w.heap.size w w' ∧ match o with
    | none => e = .returned (.tuple #[.agg #[.int .i64 0, .int .i64 0, .slice none 0 0], .bool false])
    | some u => ∃ A c, e = .returned (.tuple #[.agg #[.int .i64 u.k, .int .i64 u.i, .slice A u.ks.length c], .bool true]) ∧ IsT w0 B0 u A c
theorem standDL_at {x : Int} {l r : List Tr} {m : Nat} (h1 : m < l.length) (h2 : m < r.length) : standDL x (l.drop m) (r.drop m) = if hasN (freeT l[m]) x = true then standD x l[m] r[m] else standDL x (l.drop (m + 1)) (r.drop (m + 1)) := by
  rw [List.drop_eq_getElem_cons h1, List.drop_eq_getElem_cons h2, standDL_cons]
set_option maxHeartbeats 8000000 in
set_option maxRecDepth 100000 in
theorem rstands_any (x : Int) (w0 : World) (B0 : Nat) : ∀ (N : Nat) (a b : Tr) (A B : Option Addr) (ca cb : Nat) (w : World), a.sz ≤ N → Below B0 w0 w → B0 ≤ w.heap.size → IsT w0 B0 a A ca → IsT w0 B0 b B cb →
    Calls Tryz.prog 72 #[.agg #[.int .i64 a.k, .int .i64 a.i, .slice A a.ks.length ca], .agg #[.int .i64 b.k, .int .i64 b.i, .slice B b.ks.length cb], .int .i64 x] w (StandO w0 B0 w (standD x a b)) := by
  intro N
  induction N with
  | zero => intro a b A B ca cb w h; have := sz_pos a; omega
  | succ N ih =>
    intro a b A B ca cb w hN hbw hB0 ha hb
    have IH := Lib.hid ih
    have S0 := Lib.hid (S3.start w a b A B ca cb)
    have E := Lib.hid (standD_eq x a b)
    have HA := Lib.hid ha
    have HB := Lib.hid hb
    have HW := Lib.hid hbw
    have hl := ha.len
    have hlb := hb.len
    have tz := sz_eq a
    clear ih ha hb hbw
    obtain ⟨a0, a1, a2⟩ := S0.out.xa.cells
    go_enter Tryz.func72, Tryz.ntmps72
    have RT := Lib.hid (fun (W : World) (h : S3 w W a b A B ca cb) => (IsT.keep (HW.out.trans (h.bel.mono hB0)) (Nat.le_trans hB0 h.bel.size) a HA.out : IsT W W.heap.size a A ca))
    go_wp2_with fail
    refine (risfree_any x a A ca _ (by exact RT.out _ S0.out)).mono ?_
    rintro e w1 ⟨rfl, hb1⟩
    have SX := Lib.hid (S0.out.keep hb1)
    obtain ⟨a0, a1, a2⟩ := SX.out.xa.cells
    obtain ⟨b0, b1, b2⟩ := SX.out.xb.cells
    obtain ⟨r0, r1, r2⟩ := SX.out.r.cells
    have f0 := SX.out.r.frozen 0
    have f1 := SX.out.r.frozen 1
    have f2 := SX.out.r.frozen 2
    clear hb1 S0
    cases hf : hasN (freeT a) x with
    | false =>
      have R := Lib.hid (show standD x a b = none by rw [E.out, if_pos (.inl hf)])
      go_wp2_with fail
      obtain ⟨z0, z1, z2⟩ := (SX.out.r.setall (.int .i64 0) (.int .i64 0) (.slice none 0 0)).cells
      refine bodyPost_ret (v := .tuple #[.agg #[.int .i64 0, .int .i64 0, .slice none 0 0], .bool false]) (by simp [results, Tryz.results72, go_sem, z0, z1, z2]) rfl ?_
      rw [R.out]
      exact ⟨below_set3 SX.out.bel _ _ _ (by omega), rfl⟩
    | true =>
      have HF := Lib.hid hf
      clear hf
      by_cases hk : a.k = 1
      · have R := Lib.hid (show standD x a b = some b by rw [E.out, if_neg (fun h => by rcases h with h | h; rw [HF.out] at h; cases h; exact h.1 hk), if_pos hk])
        go_wp2_with fail
        obtain ⟨z0, z1, z2⟩ := (SX.out.r.setall (.int .i64 b.k) (.int .i64 b.i) (.slice B b.ks.length cb)).cells
        refine bodyPost_ret (v := .tuple #[.agg #[.int .i64 b.k, .int .i64 b.i, .slice B b.ks.length cb], .bool true]) (by simp [results, Tryz.results72, go_sem, z0, z1, z2]) rfl ?_
        rw [R.out]
        exact ⟨below_set3 SX.out.bel _ _ _ (by omega), B, cb, rfl, HB.out⟩
      · have hkn : (a.k != 1) = true := by simpa using hk
        have hke : (a.k == 1) = false := by simpa using hk
        by_cases hlen : a.ks.length = b.ks.length
        · have hln : ((a.ks.length : Int) != (b.ks.length : Int)) = false := by rw [hlen]; simp
          have E2 := Lib.hid (show standD x a b = standDL x a.ks b.ks by rw [E.out, if_neg (fun h => by rcases h with h | h; rw [HF.out] at h; cases h; exact h.2 hlen), if_neg hk])
          have HL := Lib.hid hlen
          clear hlen hk
          go_wp2_with fail
          clear a0 a1 a2 b0 b1 b2 r0 r1 r2 f0 f1 f2
          go_loopw [8, 35] (fun _ i wr => ∃ m : Nat, m ≤ a.ks.length ∧ i = .int .i64 (m : Int) ∧ standD x a b = standDL x (a.ks.drop m) (b.ks.drop m) ∧ S3 w wr a b A B ca cb) (fun _ i _ => a.ks.length - (intOf i).toNat)
          case atStart => exact ⟨0, Nat.zero_le _, rfl, E2.out, SX.out⟩
          case round =>
            obtain ⟨m, hm, rfl, hst, hS⟩ := hrel
            have HST := Lib.hid hst
            have S4 := Lib.hid hS
            clear hst hS SX
            by_cases hlt : m < a.ks.length
            · have hlb' : m < b.ks.length := by rw [← HL.out]; exact hlt
              have ST0 := Lib.hid (HST.out.trans (standDL_at hlt hlb'))
              have kz := kid_sz a m hlt
              obtain ⟨ga, oa, Aa, ka, rfl, hga, p0, p1, p2, hka⟩ := HA.out.kid m hlt
              obtain ⟨gb, ob, Ab, kb, rfl, hgb, q0, q1, q2, hkb⟩ := HB.out.kid m hlb'
              obtain ⟨qa, hqa⟩ : ∃ qa, qa = a.ks[m] := ⟨_, rfl⟩
              obtain ⟨qb, hqb⟩ : ∃ qb, qb = b.ks[m] := ⟨_, rfl⟩
              rw [← hqa] at p0 p1 p2 hka ST0 kz
              rw [← hqb] at q0 q1 q2 hkb ST0
              have hbr : Below B0 w0 wr := HW.out.trans (S4.out.bel.mono hB0)
              have d0 := (hbr.cell hga).trans p0
              have d1 := (hbr.cell hga).trans p1
              have d2 := (hbr.cell hga).trans p2
              have KT := Lib.hid (hka.keep hbr (Nat.le_trans hB0 S4.out.bel.size))
              have CA0 := Lib.hid (fun (W : World) (h : Below wr.heap.size wr W) => (IH.out qa qb Aa Ab ka kb W (by omega) (HW.out.trans ((stepB S4.out.bel h).mono hB0)) (Nat.le_trans hB0 (stepB S4.out.bel h).size) hka hkb))
              have x2 := S4.out.xa.cells.2.2
              have y2 := S4.out.xb.cells.2.2
              have SS0 := Lib.hid (fun (W : World) (h : Below wr.heap.size wr W) => (by
                have hb : Below B0 w0 W := HW.out.trans ((stepB S4.out.bel h).mono hB0)
                exact ⟨⟨(h.cell (block_lt_of_cell x2)).trans x2, (h.cell (block_lt_of_cell y2)).trans y2⟩, ⟨(hb.cell hga).trans p0, (hb.cell hga).trans p1, (hb.cell hga).trans p2⟩, (hb.cell hgb).trans q0, (hb.cell hgb).trans q1, (hb.cell hgb).trans q2⟩ : (W.cell? ⟨w.heap.size, 2, none⟩ = some (.slice (some ⟨ga, oa, none⟩) a.ks.length ca) ∧ W.cell? ⟨w.heap.size + 1, 2, none⟩ = some (.slice (some ⟨gb, ob, none⟩) b.ks.length cb)) ∧ ((W.cell? ⟨ga, oa + m * 3, none⟩ = some (.int .i64 qa.k) ∧ W.cell? ⟨ga, oa + m * 3 + 1, none⟩ = some (.int .i64 qa.i) ∧ W.cell? ⟨ga, oa + m * 3 + 2, none⟩ = some (.slice Aa qa.ks.length ka)) ∧ (W.cell? ⟨gb, ob + m * 3, none⟩ = some (.int .i64 qb.k) ∧ W.cell? ⟨gb, ob + m * 3 + 1, none⟩ = some (.int .i64 qb.i) ∧ W.cell? ⟨gb, ob + m * 3 + 2, none⟩ = some (.slice Ab qb.ks.length kb)))))
              have SR0 := Lib.hid (fun (W : World) (h : Below wr.heap.size wr W) (v0 v1 v2 : Value) => (by
                have hb : Below B0 w0 (((W.setCell ⟨w.heap.size + 1 + 1, 0, none⟩ v0).setCell ⟨w.heap.size + 1 + 1, 1, none⟩ v1).setCell ⟨w.heap.size + 1 + 1, 2, none⟩ v2) := ((((HW.out.trans ((stepB S4.out.bel h).mono hB0)).setCell (p := ⟨w.heap.size + 1 + 1, 0, none⟩) (by show B0 ≤ w.heap.size + 1 + 1; omega) v0).setCell (p := ⟨w.heap.size + 1 + 1, 1, none⟩) (by show B0 ≤ w.heap.size + 1 + 1; omega) v1).setCell (p := ⟨w.heap.size + 1 + 1, 2, none⟩) (by show B0 ≤ w.heap.size + 1 + 1; omega) v2)
                have hx := ((((S4.out.keep h).xa.set_other ⟨w.heap.size + 1 + 1, 0, none⟩ v0 (by show w.heap.size ≠ w.heap.size + 1 + 1; omega)).set_other ⟨w.heap.size + 1 + 1, 1, none⟩ v1 (by show w.heap.size ≠ w.heap.size + 1 + 1; omega)).set_other ⟨w.heap.size + 1 + 1, 2, none⟩ v2 (by show w.heap.size ≠ w.heap.size + 1 + 1; omega)).cells.2.2
                have hy := ((((S4.out.keep h).xb.set_other ⟨w.heap.size + 1 + 1, 0, none⟩ v0 (by show w.heap.size + 1 ≠ w.heap.size + 1 + 1; omega)).set_other ⟨w.heap.size + 1 + 1, 1, none⟩ v1 (by show w.heap.size + 1 ≠ w.heap.size + 1 + 1; omega)).set_other ⟨w.heap.size + 1 + 1, 2, none⟩ v2 (by show w.heap.size + 1 ≠ w.heap.size + 1 + 1; omega)).cells.2.2
                exact ⟨⟨hx, hy⟩, ⟨(hb.cell hga).trans p0, (hb.cell hga).trans p1, (hb.cell hga).trans p2⟩, (hb.cell hgb).trans q0, (hb.cell hgb).trans q1, (hb.cell hgb).trans q2⟩ : ((((W.setCell ⟨w.heap.size + 1 + 1, 0, none⟩ v0).setCell ⟨w.heap.size + 1 + 1, 1, none⟩ v1).setCell ⟨w.heap.size + 1 + 1, 2, none⟩ v2).cell? ⟨w.heap.size, 2, none⟩ = some (.slice (some ⟨ga, oa, none⟩) a.ks.length ca) ∧ (((W.setCell ⟨w.heap.size + 1 + 1, 0, none⟩ v0).setCell ⟨w.heap.size + 1 + 1, 1, none⟩ v1).setCell ⟨w.heap.size + 1 + 1, 2, none⟩ v2).cell? ⟨w.heap.size + 1, 2, none⟩ = some (.slice (some ⟨gb, ob, none⟩) b.ks.length cb)) ∧ (((((W.setCell ⟨w.heap.size + 1 + 1, 0, none⟩ v0).setCell ⟨w.heap.size + 1 + 1, 1, none⟩ v1).setCell ⟨w.heap.size + 1 + 1, 2, none⟩ v2).cell? ⟨ga, oa + m * 3, none⟩ = some (.int .i64 qa.k) ∧ (((W.setCell ⟨w.heap.size + 1 + 1, 0, none⟩ v0).setCell ⟨w.heap.size + 1 + 1, 1, none⟩ v1).setCell ⟨w.heap.size + 1 + 1, 2, none⟩ v2).cell? ⟨ga, oa + m * 3 + 1, none⟩ = some (.int .i64 qa.i) ∧ (((W.setCell ⟨w.heap.size + 1 + 1, 0, none⟩ v0).setCell ⟨w.heap.size + 1 + 1, 1, none⟩ v1).setCell ⟨w.heap.size + 1 + 1, 2, none⟩ v2).cell? ⟨ga, oa + m * 3 + 2, none⟩ = some (.slice Aa qa.ks.length ka)) ∧ ((((W.setCell ⟨w.heap.size + 1 + 1, 0, none⟩ v0).setCell ⟨w.heap.size + 1 + 1, 1, none⟩ v1).setCell ⟨w.heap.size + 1 + 1, 2, none⟩ v2).cell? ⟨gb, ob + m * 3, none⟩ = some (.int .i64 qb.k) ∧ (((W.setCell ⟨w.heap.size + 1 + 1, 0, none⟩ v0).setCell ⟨w.heap.size + 1 + 1, 1, none⟩ v1).setCell ⟨w.heap.size + 1 + 1, 2, none⟩ v2).cell? ⟨gb, ob + m * 3 + 1, none⟩ = some (.int .i64 qb.i) ∧ (((W.setCell ⟨w.heap.size + 1 + 1, 0, none⟩ v0).setCell ⟨w.heap.size + 1 + 1, 1, none⟩ v1).setCell ⟨w.heap.size + 1 + 1, 2, none⟩ v2).cell? ⟨gb, ob + m * 3 + 2, none⟩ = some (.slice Ab qb.ks.length kb)))))
              have hm1 : (m : Int) < (a.ks.length : Int) := by omega
              have hm2 : (m : Int) < (b.ks.length : Int) := by omega
              clear hqa hqb p0 p1 p2 hka q0 q1 q2 hkb y2 hbr
              go_wp2_with fail
              refine (risfree_any x qa Aa ka _ (by exact KT.out)).mono ?_
              rintro e w2 ⟨rfl, hb2⟩
              have S5 := Lib.hid (S4.out.keep hb2)
              have HB2 := Lib.hid hb2
              clear hb2 d0 d1 d2 x2
              cases hfq : hasN (freeT qa) x with
              | false =>
                rw [hfq, if_neg (by simp)] at ST0
                clear hfq
                go_wp2_with fail
                go_roundw
                case rel => exact ⟨m + 1, by omega, by go_num, ST0.out, S5.out⟩
                case measure => simp [intOf]; omega
              | true =>
                rw [hfq, if_pos rfl] at ST0
                clear hfq
                have CA := Lib.hid (fun (W : World) (h : Below w2.heap.size w2 W) => CA0.out W (stepB HB2.out h))
                have SS := Lib.hid (fun (W : World) (h : Below w2.heap.size w2 W) => SS0.out W (stepB HB2.out h))
                have SR := Lib.hid (fun (W : World) (h : Below w2.heap.size w2 W) (v0 v1 v2 : Value) => SR0.out W (stepB HB2.out h) v0 v1 v2)
                clear SS0 SR0 CA0 S4
                have S4 := Lib.hid S5.out
                go_wp2_with fail
                cases hs : standD x qa qb with
                | none =>
                  rw [hs] at ST0 CA
                  have R := Lib.hid ST0.out
                  clear ST0
                  have BB : Below w2.heap.size w2 w2.drew := (Below.refl _ _).drew
                  go_region_held3 (fun w' => (w'.cell? ⟨w.heap.size, 2, none⟩ = some (.slice (some ⟨ga, oa, none⟩) a.ks.length ca) ∧ w'.cell? ⟨w.heap.size + 1, 2, none⟩ = some (.slice (some ⟨gb, ob, none⟩) b.ks.length cb)) ∧ ((w'.cell? ⟨ga, oa + m * 3, none⟩ = some (.int .i64 qa.k) ∧ w'.cell? ⟨ga, oa + m * 3 + 1, none⟩ = some (.int .i64 qa.i) ∧ w'.cell? ⟨ga, oa + m * 3 + 2, none⟩ = some (.slice Aa qa.ks.length ka)) ∧ (w'.cell? ⟨gb, ob + m * 3, none⟩ = some (.int .i64 qb.k) ∧ w'.cell? ⟨gb, ob + m * 3 + 1, none⟩ = some (.int .i64 qb.i) ∧ w'.cell? ⟨gb, ob + m * 3 + 2, none⟩ = some (.slice Ab qb.ks.length kb))))
                    (first | (with_reducible exact SS.out _ BB) | (with_reducible exact SR.out _ BB _ _ _) | exact SR.out _ BB _ _ _)
                    (first
                      | (go_at_call 72; ((with_reducible refine (CA.out _ BB).mono ?_); rintro e w6 ⟨hb6, rfl⟩; replace BB := stepB BB hb6; have r6 := S4.out.keep BB; obtain ⟨rr0, rr1, rr2⟩ := r6.r.cells; have rf0 := r6.r.frozen 0; have rf1 := r6.r.frozen 1; have rf2 := r6.r.frozen 2; clear hb6)))
                  all_goals go_wp2_with fail
                  all_goals
                    have SX := Lib.hid r6
                    have BF := below_set3 SX.out.bel (.int .i64 0) (.int .i64 0) (.slice none 0 0) (show w.heap.size ≤ w.heap.size + 2 by omega)
                    obtain ⟨z0, z1, z2⟩ := (SX.out.r.setall (.int .i64 0) (.int .i64 0) (.slice none 0 0)).cells
                    refine bodyPost_ret (v := .tuple #[.agg #[.int .i64 0, .int .i64 0, .slice none 0 0], .bool false]) (by simp [results, Tryz.results72, go_sem, z0, z1, z2]) rfl ?_
                    rw [R.out]
                    exact ⟨BF, rfl⟩
                | some u =>
                  rw [hs] at ST0 CA
                  have R := Lib.hid ST0.out
                  clear ST0
                  have BB : Below w2.heap.size w2 w2.drew := (Below.refl _ _).drew
                  go_region_held3 (fun w' => (w'.cell? ⟨w.heap.size, 2, none⟩ = some (.slice (some ⟨ga, oa, none⟩) a.ks.length ca) ∧ w'.cell? ⟨w.heap.size + 1, 2, none⟩ = some (.slice (some ⟨gb, ob, none⟩) b.ks.length cb)) ∧ ((w'.cell? ⟨ga, oa + m * 3, none⟩ = some (.int .i64 qa.k) ∧ w'.cell? ⟨ga, oa + m * 3 + 1, none⟩ = some (.int .i64 qa.i) ∧ w'.cell? ⟨ga, oa + m * 3 + 2, none⟩ = some (.slice Aa qa.ks.length ka)) ∧ (w'.cell? ⟨gb, ob + m * 3, none⟩ = some (.int .i64 qb.k) ∧ w'.cell? ⟨gb, ob + m * 3 + 1, none⟩ = some (.int .i64 qb.i) ∧ w'.cell? ⟨gb, ob + m * 3 + 2, none⟩ = some (.slice Ab qb.ks.length kb))))
                    (first | (with_reducible exact SS.out _ BB) | (with_reducible exact SR.out _ BB _ _ _) | exact SR.out _ BB _ _ _)
                    (first
                      | (go_at_call 72; ((with_reducible refine (CA.out _ BB).mono ?_); rintro e w6 ⟨hb6, A2, c2, rfl, g3⟩; have G := Lib.hid g3; clear g3; replace BB := stepB BB hb6; have r6 := S4.out.keep BB; obtain ⟨rr0, rr1, rr2⟩ := r6.r.cells; have rf0 := r6.r.frozen 0; have rf1 := r6.r.frozen 1; have rf2 := r6.r.frozen 2; clear hb6)))
                  all_goals go_wp2_with fail
                  all_goals
                    have SX := Lib.hid r6
                    have BF := below_set3 SX.out.bel (.int .i64 u.k) (.int .i64 u.i) (.slice A2 u.ks.length c2) (show w.heap.size ≤ w.heap.size + 2 by omega)
                    obtain ⟨z0, z1, z2⟩ := (SX.out.r.setall (.int .i64 u.k) (.int .i64 u.i) (.slice A2 u.ks.length c2)).cells
                    refine bodyPost_ret (v := .tuple #[.agg #[.int .i64 u.k, .int .i64 u.i, .slice A2 u.ks.length c2], .bool true]) (by simp [results, Tryz.results72, go_sem, z0, z1, z2]) rfl ?_
                    rw [R.out]
                    exact ⟨BF, A2, c2, rfl, G.out⟩
            · obtain rfl : m = a.ks.length := by omega
              have R := Lib.hid (show standD x a b = none by rw [HST.out, List.drop_length, standDL_nil])
              have SX := Lib.hid S4.out
              obtain ⟨r0, r1, r2⟩ := SX.out.r.cells
              have f0 := SX.out.r.frozen 0
              have f1 := SX.out.r.frozen 1
              have f2 := SX.out.r.frozen 2
              go_wp2_with fail
              obtain ⟨z0, z1, z2⟩ := (SX.out.r.setall (.int .i64 0) (.int .i64 0) (.slice none 0 0)).cells
              refine bodyPost_ret (v := .tuple #[.agg #[.int .i64 0, .int .i64 0, .slice none 0 0], .bool false]) (by simp [results, Tryz.results72, go_sem, z0, z1, z2]) rfl ?_
              rw [R.out]
              exact ⟨below_set3 SX.out.bel _ _ _ (by omega), rfl⟩
        · have hln : ((a.ks.length : Int) != (b.ks.length : Int)) = true := by rw [bne_iff_ne]; omega
          have R := Lib.hid (show standD x a b = none by rw [E.out, if_pos (.inr ⟨hk, hlen⟩)])
          clear hlen hk
          go_wp2_with fail
          obtain ⟨z0, z1, z2⟩ := (SX.out.r.setall (.int .i64 0) (.int .i64 0) (.slice none 0 0)).cells
          refine bodyPost_ret (v := .tuple #[.agg #[.int .i64 0, .int .i64 0, .slice none 0 0], .bool false]) (by simp [results, Tryz.results72, go_sem, z0, z1, z2]) rfl ?_
          rw [R.out]
          exact ⟨below_set3 SX.out.bel _ _ _ (by omega), rfl⟩
end Go.Proofs.YtgnfbhemkombaaaGreat
namespace Go.Proofs.YtgnfbhemkombaaaGreat
open Go.RowKit
set_option linter.unusedVariables false
set_option linter.unusedSimpArgs false
theorem Trc.alO {w0 W : World} {L : List (Nat × Array Value)} (h : Trc w0 W L) (o : Obj) : Trc w0 (W.alloc o) L := by
  refine ⟨bl_trans h.bel (alB _ _), fun q hq => ?_⟩
  obtain ⟨h1, h2⟩ := h.mem q hq
  exact ⟨by simp; omega, (Below.heap_alloc _ _ _ h1).trans h2⟩
theorem boxD2 {W W' : World} {x y z : Value} {o : Obj} (h : Below ((W.alloc (.cells #[x, y, z] 24)).alloc o).drew.heap.size ((W.alloc (.cells #[x, y, z] 24)).alloc o).drew W') : Box3 W' W.heap.size x y z := by
  have h1 : Box3 ((W.alloc (.cells #[x, y, z] 24)).alloc o) W.heap.size x y z := (Box3.new W x y z).keep (alB _ o) (by simp)
  exact Box3.keep (w := ((W.alloc (.cells #[x, y, z] 24)).alloc o).drew) h1 h (by show W.heap.size < ((W.alloc _).alloc _).heap.size; simp; omega)
/-- the boxes of guess for schema 4, behind the search -/
structure GF (w wc : World) (t a : Tr) (A : Option Addr) (c : Nat) (x : Int) (n1 nt : Nat) (Aa : Option Addr) (ca : Nat) (u0 u1 u2 : Value) : Prop where
  gb : GB w wc t A c x
  xa : Box3 wc n1 (.int .i64 a.k) (.int .i64 a.i) (.slice Aa a.ks.length ca)
  xt : Box3 wc nt u0 u1 u2
  ne : n1 ≠ nt
  h1 : w.heap.size + 3 ≤ n1
  ht : w.heap.size + 3 ≤ nt
set_option maxHeartbeats 20000000 in
set_option maxRecDepth 100000 in
theorem guess4_any (t : Tr) (A : Option Addr) (c : Nat) (w : World) (ht : IsT w w.heap.size t A c) :
    Calls Tryz.prog 31 #[.int .i64 4, .agg #[.int .i64 t.k, .int .i64 t.i, .slice A t.ks.length c]] w (GuessP w (guessV 4 t)) := by
  obtain ⟨W0, hW0⟩ : ∃ W0, W0 = ((w.alloc (.cells #[.int .i64 t.k, .int .i64 t.i, .slice A t.ks.length c] 24)).alloc (.cells #[.slice none 0 0, .int .i64 0] 32)).alloc (.cells #[.slice none 0 0, .int .i64 0] 32) := ⟨_, rfl⟩
  have S0 := Lib.hid (show GB w W0 t A c 0 by rw [hW0]; exact GB.start w t A c)
  have HT := Lib.hid ht
  have HW := Lib.hid hW0
  clear ht hW0
  go_enter Tryz.func31, Tryz.ntmps31
  go_upto_region 10 with fail
  rw [← HW.out]
  obtain ⟨y0, y1, y2⟩ := S0.out.xb.cells
  have TR := Lib.hid ((Trc.nil W0).al #[.int .i64 0])
  have hfl : ∀ (x y z : Value) (W : World), (Instr.field 24 (.agg #[x, y, z]) 1).run Tryz.prog W = .ok y W := fun x y z W => by kernel_rfl
  have KI := Lib.hid (kid_any w w.heap.size t A c W0.heap.size 1 1 [0] (W0.alloc (.cells #[.int .i64 0] 3)) (S0.out.keep TR.out.bel).bel (S0.out.keep TR.out.bel).bel.size HT.out (TR.out.path (j := 0) (zs := [0]) rfl rfl rfl).1 (TR.out.path (j := 0) (zs := [0]) rfl rfl rfl).2 rfl (by omega) (by decide))
  go_upto_region 11 with (go_at_call 71; refine KI.out.mono ?_; rintro e w5 ⟨hb5, A9, c9, rfl, t9⟩; have G5 := (S0.out.keep TR.out.bel).keep hb5; have pf5 := G5.pb.frozen 1; obtain ⟨p50, p51⟩ := G5.pb.cells)
  have G6 : GB w (w5.setCell ⟨w.heap.size + 1 + 1, 1, none⟩ (.int .i64 (kidT t [0]).i)) t A c (kidT t [0]).i := ⟨G5.xb.set_other _ _ (by show w.heap.size ≠ w.heap.size + 1 + 1; omega), G5.rb.other _ _ (by show w.heap.size + 1 ≠ w.heap.size + 1 + 1; omega), G5.pb.set1 _, G5.bel.setCell (p := ⟨w.heap.size + 1 + 1, 1, none⟩) (by show w.heap.size ≤ w.heap.size + 1 + 1; omega) _⟩
  clear hfl S0 HW TR KI t9 hb5 G5 pf5 p50 p51 y0 y1 y2
  generalize w5.setCell ⟨w.heap.size + 1 + 1, 1, none⟩ (.int .i64 (kidT t [0]).i) = W1 at G6 ⊢
  have S1 := Lib.hid G6
  clear G6
  obtain ⟨y0, y1, y2⟩ := S1.out.xb.cells
  have TR := Lib.hid ((Trc.nil W1).al #[.int .i64 0, .int .i64 0])
  have KI := Lib.hid (kid_any w w.heap.size t A c W1.heap.size 2 2 [0, 0] (W1.alloc (.cells #[.int .i64 0, .int .i64 0] 3)) (S1.out.keep TR.out.bel).bel (S1.out.keep TR.out.bel).bel.size HT.out (TR.out.path (j := 0) (zs := [0, 0]) rfl rfl rfl).1 (TR.out.path (j := 0) (zs := [0, 0]) rfl rfl rfl).2 rfl (by omega) (by decide))
  go_upto_region 12 with (go_at_call 71; refine KI.out.mono ?_; rintro e W2 ⟨hb5, A0, c0, rfl, t9⟩; have G5 := (S1.out.keep TR.out.bel).keep hb5)
  have TA := Lib.hid t9
  have G3 := Lib.hid (G5.keep (alB W2 (.cells #[.int .i64 (kidT t [0, 0]).k, .int .i64 (kidT t [0, 0]).i, .slice A0 (kidT t [0, 0]).ks.length c0] 24)))
  have X3 := Lib.hid (Box3.new W2 (.int .i64 (kidT t [0, 0]).k) (.int .i64 (kidT t [0, 0]).i) (.slice A0 (kidT t [0, 0]).ks.length c0))
  have HN1 := Lib.hid (show w.heap.size + 3 ≤ W2.heap.size from by have := G5.pb.lt; omega)
  clear S1 TR KI t9 hb5 G5 y0 y1 y2
  generalize W2.alloc (.cells #[.int .i64 (kidT t [0, 0]).k, .int .i64 (kidT t [0, 0]).i, .slice A0 (kidT t [0, 0]).ks.length c0] 24) = W3 at G3 X3 ⊢
  have KID := Lib.hid (fun (zs : List Int) (hz : ∀ z ∈ zs, 0 ≤ z) (h8 : zs.length ≤ 8) (W : World) (L : List (Nat × Array Value)) (r n r' : Nat) (cs : Array Value) (T : Trc W3 W ((r', cs) :: L)) (hr : r' = r) (hc : cs = (zs.map (Value.int .i64)).toArray) (hn : zs.length = n) =>
    (kid_any w w.heap.size t A c r n n zs W (G3.out.keep T.bel).bel (G3.out.keep T.bel).bel.size HT.out (T.path (j := 0) rfl hr hc).1 (T.path (j := 0) rfl hr hc).2 hn (by omega) hz : Calls Tryz.prog 71 #[.agg #[.int .i64 t.k, .int .i64 t.i, .slice A t.ks.length c], .slice (some ⟨r, 0, none⟩) n n] W (PartO w w.heap.size W (kidT t zs))))
  have K1 := Lib.hid (KID.out [1] (by decide) (by decide))
  have SS := Lib.hid (fun (W : World) (h : Below W3.heap.size W3 W) => And.intro (X3.out.keep h X3.out.lt).cells (And.intro (G3.out.keep h).xb.cells (G3.out.keep h).pb.cells.2))
  have STD := Lib.hid (fun (W : World) (h : Below W3.heap.size W3 W) (A1 : Option Addr) (c1 : Nat) (h1 : IsT w w.heap.size (kidT t [1]) A1 c1) =>
    rstands_any (kidT t [0]).i w w.heap.size (kidT t [0, 0]).sz (kidT t [0, 0]) (kidT t [1]) A0 A1 c0 c1 W (Nat.le_refl _) (G3.out.keep h).bel (G3.out.keep h).bel.size TA.out h1)
  have GV := Lib.hid (show guessV 4 t = ([kidT t [0, 0], (standD (kidT t [0]).i (kidT t [0, 0]) (kidT t [1])).getD (varT (kidT t [0]).i)], (kidT t [0]).i) from rfl)
  cases hs : standD (kidT t [0]).i (kidT t [0, 0]) (kidT t [1]) with
  | none =>
    rw [hs] at STD GV
    have R := Lib.hid (show guessV 4 t = ([kidT t [0, 0], varT (kidT t [0]).i], (kidT t [0]).i) from GV.out)
    clear GV
    go_cut [7, 8] (fun v f wc => ∃ nt, v = .pointer (some ⟨nt, 0, none⟩) ∧ f = .bool false ∧ GF w wc t (kidT t [0, 0]) A c (kidT t [0]).i W2.heap.size nt A0 c0 (.int .i64 0) (.int .i64 0) (.slice none 0 0))
    case first =>
      have BB : Trc W3 W3 [] := Trc.nil _
      go_region_held3 (fun w' => (w'.cell? ⟨W2.heap.size, 0, none⟩ = some (.int .i64 (kidT t [0, 0]).k) ∧ w'.cell? ⟨W2.heap.size, 1, none⟩ = some (.int .i64 (kidT t [0, 0]).i) ∧ w'.cell? ⟨W2.heap.size, 2, none⟩ = some (.slice A0 (kidT t [0, 0]).ks.length c0)) ∧ ((w'.cell? ⟨w.heap.size, 0, none⟩ = some (.int .i64 t.k) ∧ w'.cell? ⟨w.heap.size, 1, none⟩ = some (.int .i64 t.i) ∧ w'.cell? ⟨w.heap.size, 2, none⟩ = some (.slice A t.ks.length c)) ∧ w'.cell? ⟨w.heap.size + 2, 1, none⟩ = some (.int .i64 (kidT t [0]).i)))
        (first | (with_reducible exact SS.out _ BB.bel) | (with_reducible exact SS.out _ BB.dr.bel) | (with_reducible exact SS.out _ (BB.al _).bel) | (with_reducible exact SS.out _ (BB.al _).dr.bel) | (with_reducible exact SS.out _ (BB.alO _).bel) | (with_reducible exact SS.out _ (BB.alO _).dr.bel) | (with_reducible exact SS.out _ ((BB.alO _).al _).bel) | (with_reducible exact SS.out _ ((BB.alO _).al _).dr.bel) | (with_reducible exact SS.out _ ((BB.al _).alO _).bel) | (with_reducible exact SS.out _ ((BB.al _).alO _).dr.bel) | (with_reducible exact SS.out _ (below_set3 BB.bel _ _ _ hnb)) | exact SS.out _ (below_set3 BB.bel _ _ _ hnb))
        (first
          | (go_at_call 71; (first | ((with_reducible refine (K1.out _ _ _ _ _ _ ((BB.al _).dr) ?_ ?_ ?_).mono ?_); (first | with_reducible rfl | (focus (simp [drew_sz]; done))); rfl; rfl; rintro e w6 ⟨hb6, A1, c1, rfl, t1⟩; replace BB := (((BB.al _).dr)).call hb6) | ((with_reducible refine (K1.out _ _ _ _ _ _ (((BB.alO _).al _).dr) ?_ ?_ ?_).mono ?_); (first | with_reducible rfl | (focus (simp [drew_sz]; done))); rfl; rfl; rintro e w6 ⟨hb6, A1, c1, rfl, t1⟩; have NB := boxD2 hb6; have hnb : W3.heap.size ≤ W3.heap.size := Nat.le_refl _; replace BB := ((((BB.alO _).al _).dr)).call hb6) | ((with_reducible refine (K1.out _ _ _ _ _ _ (((BB.al _).alO _).dr) ?_ ?_ ?_).mono ?_); (first | with_reducible rfl | (focus (simp [drew_sz]; done))); rfl; rfl; rintro e w6 ⟨hb6, A1, c1, rfl, t1⟩; have NB := boxD hb6; simp only [World.size_alloc] at NB; have hnb : W3.heap.size ≤ W3.heap.size + 1 := Nat.le_succ _; replace BB := ((((BB.al _).alO _).dr)).call hb6)); have T1 := Lib.hid t1; have hs6 := BB.bel.size; clear t1 hb6)
          | (go_at_call 72; (first | ((with_reducible refine (STD.out _ (BB).bel A1 c1 T1.out).mono ?_); rintro e w7 ⟨hb7, rfl⟩; (try replace NB := NB.keep hb7 NB.lt); replace BB := (BB).call hb7) | ((with_reducible refine (STD.out _ ((BB.alO _)).bel A1 c1 T1.out).mono ?_); rintro e w7 ⟨hb7, rfl⟩; have NB := boxA hb7; have hnb : W3.heap.size ≤ w6.heap.size := hs6; replace BB := ((BB.alO _)).call hb7)); (try (obtain ⟨z0, z1, z2⟩ := NB.cells; have zf0 := NB.frozen 0; have zf1 := NB.frozen 1; have zf2 := NB.frozen 2)); have hs7 := BB.bel.size; clear hb7))
      all_goals go_wp2_with fail
      all_goals go_meet
      all_goals first
        | exact ⟨_, rfl, rfl, ⟨G3.out.keep (stepB BB.bel (below_alloc _ _)), X3.out.keep (stepB BB.bel (below_alloc _ _)) X3.out.lt, Box3.new _ _ _ _, by have := X3.out.lt; omega, HN1.out, by have := HN1.out; have := X3.out.lt; omega⟩⟩
        | exact ⟨_, rfl, rfl, ⟨G3.out.keep (below_set3 BB.bel _ _ _ hnb), X3.out.keep (below_set3 BB.bel _ _ _ hnb) X3.out.lt, NB.setall _ _ _, by have := X3.out.lt; omega, HN1.out, by have := HN1.out; have := X3.out.lt; omega⟩⟩
    case rest =>
      obtain ⟨nt, rfl, rfl, hG⟩ := hcut
      have gf0 := hG.xt.frozen 0
      have gf1 := hG.xt.frozen 1
      have gf2 := hG.xt.frozen 2
      obtain ⟨t0, t1, t2⟩ := hG.xt.cells
      obtain ⟨p0, p1⟩ := hG.gb.pb.cells
      have hne := hG.ne
      have hn1 := hG.h1
      have hnt := hG.ht
      have hlt := hG.xt.lt
      have WS : ∀ k, k ≠ nt → ((((wc.setCell ⟨nt, 0, none⟩ (.int .i64 1)).setCell ⟨nt, 1, none⟩ (.int .i64 (kidT t [0]).i)).setCell ⟨nt, 2, none⟩ (.slice none 0 0))).heap[k]? = wc.heap[k]? := fun k hk => by
        rw [heap_setCell_other _ _ _ _ hk, heap_setCell_other _ _ _ _ hk, heap_setCell_other _ _ _ _ hk]
      have H2 := Lib.hid (show GF w ((((wc.setCell ⟨nt, 0, none⟩ (.int .i64 1)).setCell ⟨nt, 1, none⟩ (.int .i64 (kidT t [0]).i)).setCell ⟨nt, 2, none⟩ (.slice none 0 0))) t (kidT t [0, 0]) A c (kidT t [0]).i W2.heap.size nt A0 c0 (.int .i64 1) (.int .i64 (kidT t [0]).i) (.slice none 0 0) from
        ⟨⟨(WS _ (by omega)).trans hG.gb.xb, (WS _ (by omega)).trans hG.gb.rb, (WS _ (by omega)).trans hG.gb.pb, below_set3 hG.gb.bel _ _ _ (by omega)⟩, (WS _ hne).trans hG.xa, hG.xt.setall _ _ _, hne, hn1, hnt⟩)
      clear hG WS
      go_upto_region 15 with fail
      clear gf0 gf1 gf2 t0 t1 t2 p0 p1
      generalize (((wc.setCell ⟨nt, 0, none⟩ (.int .i64 1)).setCell ⟨nt, 1, none⟩ (.int .i64 (kidT t [0]).i)).setCell ⟨nt, 2, none⟩ (.slice none 0 0)) = W4 at H2 ⊢
      obtain ⟨a0, a1, a2⟩ := H2.out.xa.cells
      obtain ⟨t0, t1, t2⟩ := H2.out.xt.cells
      obtain ⟨p0, p1⟩ := H2.out.gb.pb.cells
      have pf := H2.out.gb.pb.frozen 0
      have plt := H2.out.gb.pb.lt
      obtain ⟨r0, r1⟩ := H2.out.gb.rb.cells
      have rf0 := H2.out.gb.rb.frozen 0
      have rf1 := H2.out.gb.rb.frozen 1
      have rlt := H2.out.gb.rb.lt
      go_wp2_with fail
      obtain ⟨e0, e1, e2⟩ : ((((W4.setCell ⟨w.heap.size + 1 + 1, 0, none⟩ (.slice (some ⟨W4.heap.size, 0, none⟩) 2 2)).setCell ⟨w.heap.size + 1, 0, none⟩ (.slice (some ⟨W4.heap.size, 0, none⟩) 2 2)).setCell ⟨w.heap.size + 1, 1, none⟩ (.int .i64 ((kidT t [0]).i))).alloc (.cells #[.int .i64 (kidT t [0, 0]).k, .int .i64 (kidT t [0, 0]).i, .slice A0 (kidT t [0, 0]).ks.length c0, .int .i64 1, .int .i64 (kidT t [0]).i, .slice none 0 0] 24)).cell? ⟨w.heap.size + 1, 0, none⟩ = some (.slice (some ⟨W4.heap.size, 0, none⟩) 2 2) ∧ ((((W4.setCell ⟨w.heap.size + 1 + 1, 0, none⟩ (.slice (some ⟨W4.heap.size, 0, none⟩) 2 2)).setCell ⟨w.heap.size + 1, 0, none⟩ (.slice (some ⟨W4.heap.size, 0, none⟩) 2 2)).setCell ⟨w.heap.size + 1, 1, none⟩ (.int .i64 ((kidT t [0]).i))).alloc (.cells #[.int .i64 (kidT t [0, 0]).k, .int .i64 (kidT t [0, 0]).i, .slice A0 (kidT t [0, 0]).ks.length c0, .int .i64 1, .int .i64 (kidT t [0]).i, .slice none 0 0] 24)).cell? ⟨w.heap.size + 1, 1, none⟩ = some (.int .i64 ((kidT t [0]).i)) ∧ GuessP w ([kidT t [0, 0], varT (kidT t [0]).i], (kidT t [0]).i) (.returned (.agg #[.slice (some ⟨W4.heap.size, 0, none⟩) 2 2, .int .i64 ((kidT t [0]).i)])) ((((W4.setCell ⟨w.heap.size + 1 + 1, 0, none⟩ (.slice (some ⟨W4.heap.size, 0, none⟩) 2 2)).setCell ⟨w.heap.size + 1, 0, none⟩ (.slice (some ⟨W4.heap.size, 0, none⟩) 2 2)).setCell ⟨w.heap.size + 1, 1, none⟩ (.int .i64 ((kidT t [0]).i))).alloc (.cells #[.int .i64 (kidT t [0, 0]).k, .int .i64 (kidT t [0, 0]).i, .slice A0 (kidT t [0, 0]).ks.length c0, .int .i64 1, .int .i64 (kidT t [0]).i, .slice none 0 0] 24)) :=
        gq_end (l := [kidT t [0, 0], varT (kidT t [0]).i]) (cs := [(A0, c0), (none, 0)]) (n := 2) H2.out.gb rfl rfl (by unfold Cap; simp) (fun m hm => by
          match m, hm with
          | 0, _ => exact TA.out
          | 1, _ => exact isT_var _ _ _)
      rw [R.out]
      exact bodyPost_ret (v := .agg #[.slice (some ⟨W4.heap.size, 0, none⟩) 2 2, .int .i64 ((kidT t [0]).i)]) (by simp [results, Tryz.results31, go_sem, e0, e1]) rfl e2
  | some u =>
    rw [hs] at STD GV
    have R := Lib.hid (show guessV 4 t = ([kidT t [0, 0], u], (kidT t [0]).i) from GV.out)
    clear GV
    go_cut [7, 8] (fun v f wc => ∃ nt A2 c2, v = .pointer (some ⟨nt, 0, none⟩) ∧ f = .bool true ∧ GF w wc t (kidT t [0, 0]) A c (kidT t [0]).i W2.heap.size nt A0 c0 (.int .i64 u.k) (.int .i64 u.i) (.slice A2 u.ks.length c2) ∧ IsT w w.heap.size u A2 c2)
    case first =>
      have BB : Trc W3 W3 [] := Trc.nil _
      go_region_held3 (fun w' => (w'.cell? ⟨W2.heap.size, 0, none⟩ = some (.int .i64 (kidT t [0, 0]).k) ∧ w'.cell? ⟨W2.heap.size, 1, none⟩ = some (.int .i64 (kidT t [0, 0]).i) ∧ w'.cell? ⟨W2.heap.size, 2, none⟩ = some (.slice A0 (kidT t [0, 0]).ks.length c0)) ∧ ((w'.cell? ⟨w.heap.size, 0, none⟩ = some (.int .i64 t.k) ∧ w'.cell? ⟨w.heap.size, 1, none⟩ = some (.int .i64 t.i) ∧ w'.cell? ⟨w.heap.size, 2, none⟩ = some (.slice A t.ks.length c)) ∧ w'.cell? ⟨w.heap.size + 2, 1, none⟩ = some (.int .i64 (kidT t [0]).i)))
        (first | (with_reducible exact SS.out _ BB.bel) | (with_reducible exact SS.out _ BB.dr.bel) | (with_reducible exact SS.out _ (BB.al _).bel) | (with_reducible exact SS.out _ (BB.al _).dr.bel) | (with_reducible exact SS.out _ (BB.alO _).bel) | (with_reducible exact SS.out _ (BB.alO _).dr.bel) | (with_reducible exact SS.out _ ((BB.alO _).al _).bel) | (with_reducible exact SS.out _ ((BB.alO _).al _).dr.bel) | (with_reducible exact SS.out _ ((BB.al _).alO _).bel) | (with_reducible exact SS.out _ ((BB.al _).alO _).dr.bel) | (with_reducible exact SS.out _ (below_set3 BB.bel _ _ _ hnb)) | exact SS.out _ (below_set3 BB.bel _ _ _ hnb))
        (first
          | (go_at_call 71; (first | ((with_reducible refine (K1.out _ _ _ _ _ _ ((BB.al _).dr) ?_ ?_ ?_).mono ?_); (first | with_reducible rfl | (focus (simp [drew_sz]; done))); rfl; rfl; rintro e w6 ⟨hb6, A1, c1, rfl, t1⟩; replace BB := (((BB.al _).dr)).call hb6) | ((with_reducible refine (K1.out _ _ _ _ _ _ (((BB.alO _).al _).dr) ?_ ?_ ?_).mono ?_); (first | with_reducible rfl | (focus (simp [drew_sz]; done))); rfl; rfl; rintro e w6 ⟨hb6, A1, c1, rfl, t1⟩; have NB := boxD2 hb6; have hnb : W3.heap.size ≤ W3.heap.size := Nat.le_refl _; replace BB := ((((BB.alO _).al _).dr)).call hb6) | ((with_reducible refine (K1.out _ _ _ _ _ _ (((BB.al _).alO _).dr) ?_ ?_ ?_).mono ?_); (first | with_reducible rfl | (focus (simp [drew_sz]; done))); rfl; rfl; rintro e w6 ⟨hb6, A1, c1, rfl, t1⟩; have NB := boxD hb6; simp only [World.size_alloc] at NB; have hnb : W3.heap.size ≤ W3.heap.size + 1 := Nat.le_succ _; replace BB := ((((BB.al _).alO _).dr)).call hb6)); have T1 := Lib.hid t1; have hs6 := BB.bel.size; clear t1 hb6)
          | (go_at_call 72; (first | ((with_reducible refine (STD.out _ (BB).bel A1 c1 T1.out).mono ?_); rintro e w7 ⟨hb7, A2, c2, rfl, g3⟩; have G := Lib.hid g3; clear g3; (try replace NB := NB.keep hb7 NB.lt); replace BB := (BB).call hb7) | ((with_reducible refine (STD.out _ ((BB.alO _)).bel A1 c1 T1.out).mono ?_); rintro e w7 ⟨hb7, A2, c2, rfl, g3⟩; have G := Lib.hid g3; clear g3; have NB := boxA hb7; have hnb : W3.heap.size ≤ w6.heap.size := hs6; replace BB := ((BB.alO _)).call hb7)); (try (obtain ⟨z0, z1, z2⟩ := NB.cells; have zf0 := NB.frozen 0; have zf1 := NB.frozen 1; have zf2 := NB.frozen 2)); have hs7 := BB.bel.size; clear hb7))
      all_goals go_wp2_with fail
      all_goals go_meet
      all_goals first
        | exact ⟨_, A2, c2, rfl, rfl, ⟨G3.out.keep (stepB BB.bel (below_alloc _ _)), X3.out.keep (stepB BB.bel (below_alloc _ _)) X3.out.lt, Box3.new _ _ _ _, by have := X3.out.lt; omega, HN1.out, by have := HN1.out; have := X3.out.lt; omega⟩, G.out⟩
        | exact ⟨_, A2, c2, rfl, rfl, ⟨G3.out.keep (below_set3 BB.bel _ _ _ hnb), X3.out.keep (below_set3 BB.bel _ _ _ hnb) X3.out.lt, NB.setall _ _ _, by have := X3.out.lt; omega, HN1.out, by have := HN1.out; have := X3.out.lt; omega⟩, G.out⟩
    case rest =>
      obtain ⟨nt, A2, c2, rfl, rfl, hG, g3⟩ := hcut
      have H2 := Lib.hid hG
      have G2 := Lib.hid g3
      clear hG g3
      go_upto_region 15 with fail
      obtain ⟨W4, rfl⟩ : ∃ W4, W4 = wc := ⟨_, rfl⟩
      obtain ⟨a0, a1, a2⟩ := H2.out.xa.cells
      obtain ⟨t0, t1, t2⟩ := H2.out.xt.cells
      obtain ⟨p0, p1⟩ := H2.out.gb.pb.cells
      have pf := H2.out.gb.pb.frozen 0
      have plt := H2.out.gb.pb.lt
      obtain ⟨r0, r1⟩ := H2.out.gb.rb.cells
      have rf0 := H2.out.gb.rb.frozen 0
      have rf1 := H2.out.gb.rb.frozen 1
      have rlt := H2.out.gb.rb.lt
      go_wp2_with fail
      obtain ⟨e0, e1, e2⟩ : ((((W4.setCell ⟨w.heap.size + 1 + 1, 0, none⟩ (.slice (some ⟨W4.heap.size, 0, none⟩) 2 2)).setCell ⟨w.heap.size + 1, 0, none⟩ (.slice (some ⟨W4.heap.size, 0, none⟩) 2 2)).setCell ⟨w.heap.size + 1, 1, none⟩ (.int .i64 ((kidT t [0]).i))).alloc (.cells #[.int .i64 (kidT t [0, 0]).k, .int .i64 (kidT t [0, 0]).i, .slice A0 (kidT t [0, 0]).ks.length c0, .int .i64 u.k, .int .i64 u.i, .slice A2 u.ks.length c2] 24)).cell? ⟨w.heap.size + 1, 0, none⟩ = some (.slice (some ⟨W4.heap.size, 0, none⟩) 2 2) ∧ ((((W4.setCell ⟨w.heap.size + 1 + 1, 0, none⟩ (.slice (some ⟨W4.heap.size, 0, none⟩) 2 2)).setCell ⟨w.heap.size + 1, 0, none⟩ (.slice (some ⟨W4.heap.size, 0, none⟩) 2 2)).setCell ⟨w.heap.size + 1, 1, none⟩ (.int .i64 ((kidT t [0]).i))).alloc (.cells #[.int .i64 (kidT t [0, 0]).k, .int .i64 (kidT t [0, 0]).i, .slice A0 (kidT t [0, 0]).ks.length c0, .int .i64 u.k, .int .i64 u.i, .slice A2 u.ks.length c2] 24)).cell? ⟨w.heap.size + 1, 1, none⟩ = some (.int .i64 ((kidT t [0]).i)) ∧ GuessP w ([kidT t [0, 0], u], (kidT t [0]).i) (.returned (.agg #[.slice (some ⟨W4.heap.size, 0, none⟩) 2 2, .int .i64 ((kidT t [0]).i)])) ((((W4.setCell ⟨w.heap.size + 1 + 1, 0, none⟩ (.slice (some ⟨W4.heap.size, 0, none⟩) 2 2)).setCell ⟨w.heap.size + 1, 0, none⟩ (.slice (some ⟨W4.heap.size, 0, none⟩) 2 2)).setCell ⟨w.heap.size + 1, 1, none⟩ (.int .i64 ((kidT t [0]).i))).alloc (.cells #[.int .i64 (kidT t [0, 0]).k, .int .i64 (kidT t [0, 0]).i, .slice A0 (kidT t [0, 0]).ks.length c0, .int .i64 u.k, .int .i64 u.i, .slice A2 u.ks.length c2] 24)) :=
        gq_end (l := [kidT t [0, 0], u]) (cs := [(A0, c0), (A2, c2)]) (n := 2) H2.out.gb rfl rfl (by unfold Cap; simp) (fun m hm => by
          match m, hm with
          | 0, _ => exact TA.out
          | 1, _ => exact G2.out)
      rw [R.out]
      exact bodyPost_ret (v := .agg #[.slice (some ⟨W4.heap.size, 0, none⟩) 2 2, .int .i64 ((kidT t [0]).i)]) (by simp [results, Tryz.results31, go_sem, e0, e1]) rfl e2
end Go.Proofs.YtgnfbhemkombaaaGreat
