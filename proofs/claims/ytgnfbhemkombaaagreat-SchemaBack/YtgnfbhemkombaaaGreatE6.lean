/- The document's Copy. -/
import Derived.Test.YtgnfbhemkombaaaGreatE3
import Derived.Test.YtgnfbhemkombaaaGreatE5
namespace Go.Proofs.YtgnfbhemkombaaaGreat
open Go.RowKit
theorem infoE : (Tryz.prog.info? 24).map (fun i => (i.zero, i.size, i.bytes)) = some (some (.agg #[.int .i64 0, .int .i64 0, .slice none 0 0]), 3, 40) := by kernel_rfl
/-- block b is a box of three cells -/
def Box3 (w : World) (b : Nat) (x y z : Value) : Prop := w.heap[b]? = some (.cells #[x, y, z] 24 (0, 0))
theorem Box3.cells {w : World} {b : Nat} {x y z : Value} (h : Box3 w b x y z) : w.cell? ⟨b, 0, none⟩ = some x ∧ w.cell? ⟨b, 1, none⟩ = some y ∧ w.cell? ⟨b, 2, none⟩ = some z := by
  unfold Box3 at h
  simp [World.cell?, h]
theorem Box3.frozen {w : World} {b : Nat} {x y z : Value} (h : Box3 w b x y z) (o : Nat) : w.frozen? ⟨b, o, none⟩ = false := by
  unfold Box3 at h
  simp [World.frozen?, h]
theorem Box3.lt {w : World} {b : Nat} {x y z : Value} (h : Box3 w b x y z) : b < w.heap.size := (Array.getElem?_eq_some_iff.1 h).1
theorem Box3.keep {w w' : World} {b B : Nat} {x y z : Value} (h : Box3 w b x y z) (hb : Below B w w') (hB : b < B) : Box3 w' b x y z := (hb.block b hB).trans h
theorem Box3.grown {w w' : World} {b : Nat} {row : Option Nat} {x y z : Value} (h : Box3 w b x y z) (hg : w.grownBy w' row) (hne : some b ≠ row) : Box3 w' b x y z := (hg.block b h.lt hne).trans h
theorem Box3.new (w : World) (x y z : Value) : Box3 (w.alloc (.cells #[x, y, z] 24)) w.heap.size x y z := by
  show (w.heap.push _)[w.heap.size]? = _
  simp
theorem heap_setCell_other (w : World) (p : Addr) (v : Value) (b : Nat) (h : b ≠ p.block) : (w.setCell p v).heap[b]? = w.heap[b]? := by
  unfold World.setCell
  rw [Array.getElem?_modify, if_neg (fun e => h e.symm)]
theorem Box3.set_other {w : World} {b : Nat} {x y z : Value} (h : Box3 w b x y z) (p : Addr) (v : Value) (hne : b ≠ p.block) : Box3 (w.setCell p v) b x y z := (heap_setCell_other w p v b hne).trans h
theorem Box3.set2 {w : World} {b : Nat} {x y z : Value} (h : Box3 w b x y z) (v : Value) : Box3 (w.setCell ⟨b, 2, none⟩ v) b x y v := by
  unfold Box3 at *
  unfold World.setCell
  simp [Array.getElem?_modify, h]
theorem grown_setCell {w : World} (p : Addr) (v : Value) : w.grownBy (w.setCell p v) (some p.block) :=
  ⟨rfl, rfl, rfl, by simp, fun k _ hk => heap_setCell_other w p v k (fun e => hk (by rw [e]))⟩
/-- how far a list of kids has been laid: m of them, behind the slice (A1, c1), which box b holds -/
structure Laid (w wr : World) (S b : Nat) (x y : Value) (ks : List Tr) (m : Nat) (A1 : Option Addr) (c1 : Nat) (cs : List (Option Addr × Nat)) : Prop where
  below : Below S w wr
  len : cs.length = m
  box : Box3 wr b x y (.slice A1 m c1)
  lb : b < S + 3
  own : wr.ownsRow (S + 3) 24 3 (.slice A1 m c1) m (rowC (ks.take m) cs)
  kids : OwnL wr (Value.slice A1 m c1).ownBlock (S + 3) wr.heap.size (ks.take m) cs
theorem Laid.step {w wr w1 w4 : World} {S b : Nat} {x y : Value} {ks : List Tr} {m : Nat} {A1 : Option Addr} {c1 : Nat} {cs : List (Option Addr × Nat)} (h : Laid w wr S b x y ks m A1 c1 cs) (hm : m < ks.length) {o1 o2 o3 : Obj}
    (hS : S ≤ b) (hw1 : Below (wr.heap.size + 1) (wr.alloc o1) w1) {A2 : Option Addr} {c2 : Nat} (hq : OwnT w1 (wr.heap.size + 1) w1.heap.size ks[m] A2 c2) {g cap : Nat}
    (hown : w4.ownsRow (S + 3) 24 3 (.slice (some ⟨g, 0, none⟩) (m + 1) cap) (m + 1) (rowC (ks.take m) cs ++ [.int .i64 ks[m].k, .int .i64 ks[m].i, .slice A2 ks[m].ks.length c2])) (hg : ((w1.alloc o2).alloc o3).grownBy w4 (Value.slice A1 m c1).ownBlock)
    (hat : (Value.slice A1 m c1).ownBlock = some g ∨ g = w1.heap.size + 2) :
    Laid w (w4.setCell ⟨b, 2, none⟩ (.slice (some ⟨g, 0, none⟩) (m + 1) cap)) S b x y ks (m + 1) (some ⟨g, 0, none⟩) cap (cs ++ [(A2, c2)]) := by
  have hlt := h.own.lt
  have hsz1 := hw1.size
  have hsz4 := hg.size
  have hbl := h.box.lt
  have hSle : S ≤ wr.heap.size := by omega
  simp at hsz1 hsz4
  have hg3 : S + 3 ≤ g := (hown.lt g rfl).1
  have hne : ∀ k, (Value.slice A1 m c1).ownBlock = some k → S + 3 ≤ k ∧ k < wr.heap.size := hlt
  have lb := h.lb
  -- every old block but the row's own is as it was
  have old : ∀ k, k < w1.heap.size → (Value.slice A1 m c1).ownBlock ≠ some k → k ≠ b → (w4.setCell ⟨b, 2, none⟩ (.slice (some ⟨g, 0, none⟩) (m + 1) cap)).heap[k]? = w1.heap[k]? := by
    intro k hk h1 h2
    rw [heap_setCell_other _ _ _ _ h2, hg.block k (by simp; omega) (fun e => h1 e.symm), Below.heap_alloc _ _ _ (by simp; omega), Below.heap_alloc _ _ _ hk]
  have old0 : ∀ k, k < wr.heap.size → w1.heap[k]? = wr.heap[k]? := fun k hk => by rw [hw1.block k (by omega), Below.heap_alloc _ _ _ hk]
  refine ⟨?_, by simp [h.len], ?_, h.lb, ?_, ?_⟩
  · refine ⟨?_, ?_, ?_, ?_, ?_⟩
    · exact (show w4.os = _ from hg.os).trans ((show _ = _ from hw1.os).trans h.below.os)
    · exact (show w4.tape = _ from hg.tape).trans ((show _ = _ from hw1.tape).trans h.below.tape)
    · exact (show w4.output = _ from hg.output).trans ((show _ = _ from hw1.output).trans h.below.output)
    · have := h.below.size; simp; omega
    · intro k hk
      rw [old k (by omega) (fun e => by have := hne k e; omega) (by omega), old0 k (by omega), h.below.block k hk]
  · have b1 : Box3 w1 b x y (.slice A1 m c1) := (old0 b hbl).trans h.box
    have b2 : Box3 w4 b x y (.slice A1 m c1) := by
      refine (hg.block b (by simp; omega) (fun e => ?_)).trans ?_
      · have := hne b e.symm; omega
      · rw [Below.heap_alloc _ _ _ (by simp; omega), Below.heap_alloc _ _ _ (by omega)]; exact b1
    exact b2.set2 _
  · rw [List.take_succ_eq_append_getElem hm, rowC_snoc _ _ _ _ _ (by rw [h.len]; simp; omega)]
    exact ownsRow_same (hi := w4.heap.size) hown (fun k k1 k2 => heap_setCell_other _ _ _ _ (by show k ≠ b; omega)) (fun k e => (hown.lt k e).2)
  · rw [List.take_succ_eq_append_getElem hm]
    have k1 : OwnL (w4.setCell ⟨b, 2, none⟩ (.slice (some ⟨g, 0, none⟩) (m + 1) cap)) (Value.slice (some ⟨g, 0, none⟩) (m + 1) cap).ownBlock (S + 3) wr.heap.size (ks.take m) cs := by
      refine OwnL.same _ _ (fun k k1 k2 k3 => ?_) (fun l1 h1 hl hh ha => ?_) h.kids
      · rw [old k (by omega) k3 (by omega), old0 k k2]
      · intro g' e
        obtain rfl : g = g' := by simpa [Value.ownBlock] using e
        rcases hat with e | e
        · exact ha g e
        · omega
    have k2 : OwnT (w4.setCell ⟨b, 2, none⟩ (.slice (some ⟨g, 0, none⟩) (m + 1) cap)) (wr.heap.size + 1) w1.heap.size ks[m] A2 c2 :=
      OwnT.same _ (fun k k1 k2 => old k k2 (fun e => by have := hne k e; omega) (by omega)) hq
    refine (OwnL.snoc (by rw [h.len]; simp; omega) (k1.widen (Nat.le_succ _)) hsz1 ?_ k2).widen (by simp; omega)
    intro g' e
    obtain rfl : g = g' := by simpa [Value.ownBlock] using e
    rcases hat with e | e
    · have := hne g e; omega
    · omega
/-- all are laid: the tree is one's own -/
theorem Laid.done {w wr : World} {S b : Nat} {x y : Value} {t : Tr} {A1 : Option Addr} {c1 : Nat} {cs : List (Option Addr × Nat)} (h : Laid w wr S b x y t.ks t.ks.length A1 c1 cs) : OwnT wr (S + 3) wr.heap.size t A1 c1 := by
  have h1 := h.own
  have h2 := h.kids
  rw [List.take_length] at h1 h2
  exact ownT_eq.2 ⟨cs, h.len, h1, fun g e => (h1.lt g e).2, h2⟩
theorem news3 (w : World) (o : Obj) (x y z : Value) (t : TypeId) (j : Nat) (u : Value) (h : [x, y, z][j]? = some u) : ((w.alloc o).alloc (.cells #[x, y, z] t)).cell? ((⟨w.heap.size + 1, 0, none⟩ : Addr).add j) = some u := by
  have e : ((w.alloc o).alloc (.cells #[x, y, z] t)).heap[w.heap.size + 1]? = some (.cells #[x, y, z] t (0, 0)) := by
    show ((w.heap.push o).push _)[w.heap.size + 1]? = _
    rw [Array.getElem?_push]
    simp
  have e2 : (⟨w.heap.size + 1, 0, none⟩ : Addr).add j = ⟨w.heap.size + 1, j, none⟩ := by unfold Addr.add; split <;> simp_all
  rw [e2]
  unfold World.cell?
  rw [e]
  simpa using h
theorem same_set3 {lo hi : Nat} (w : World) (b : Nat) (x y z : Value) (h : b < lo) : SameIn lo hi w (((w.setCell ⟨b, 0, none⟩ x).setCell ⟨b, 1, none⟩ y).setCell ⟨b, 2, none⟩ z) := fun k k1 _ => by
  rw [heap_setCell_other _ _ _ _ (by show k ≠ b; omega), heap_setCell_other _ _ _ _ (by show k ≠ b; omega), heap_setCell_other _ _ _ _ (by show k ≠ b; omega)]
theorem below_set3 {B : Nat} {w w' : World} {b : Nat} (h : Below B w w') (x y z : Value) (hb : B ≤ b) : Below B w (((w'.setCell ⟨b, 0, none⟩ x).setCell ⟨b, 1, none⟩ y).setCell ⟨b, 2, none⟩ z) :=
  ((h.setCell (p := ⟨b, 0, none⟩) hb _).setCell (p := ⟨b, 1, none⟩) hb _).setCell (p := ⟨b, 2, none⟩) hb _
set_option maxHeartbeats 2000000 in
theorem copy_any : ∀ (N : Nat) (t : Tr) (A : Option Addr) (c : Nat) (w : World), t.sz ≤ N → IsT w w.heap.size t A c →
    Calls Tryz.prog 61 #[.agg #[.int .i64 t.k, .int .i64 t.i, .slice A t.ks.length c]] w fun e w' => ∃ A' c', e = .returned (.agg #[.int .i64 t.k, .int .i64 t.i, .slice A' t.ks.length c']) ∧ OwnT w' w.heap.size w'.heap.size t A' c' ∧ Below w.heap.size w w' := by
  intro N
  induction N with
  | zero => intro t A c w h; have := sz_pos t; omega
  | succ N ih =>
    intro t A c w hN ht
    have IH := Lib.hid ih
    have HT := Lib.hid ht
    have hl := ht.len
    clear ih ht
    obtain ⟨i0, hi, hz0, hz1, hz2⟩ := info_parts infoE
    have HI := Lib.hid (And.intro hi (And.intro hz0 (And.intro hz1 hz2)))
    clear hi hz0 hz1 hz2
    obtain ⟨S, hS⟩ : ∃ S, S = w.heap.size := ⟨_, rfl⟩
    go_enter Tryz.func61, Tryz.ntmps61
    go_wp2_with fail
    go_loopw [15] (fun i wr => ∃ m : Nat, m ≤ t.ks.length ∧ i = .int .i64 m ∧ Box3 wr (w.heap.size + 1) (.int .i64 0) (.int .i64 0) (.slice none 0 0) ∧ ∃ A1 c1 cs, Laid w wr w.heap.size (w.heap.size + 2) (.int .i64 t.k) (.int .i64 t.i) t.ks m A1 c1 cs) (fun i _ => t.ks.length - (intOf i).toNat)
    case atStart =>
      have e2 := Box3.new ((w.alloc (.cells #[.int .i64 t.k, .int .i64 t.i, .slice A t.ks.length c] 24)).alloc (.cells #[.int .i64 0, .int .i64 0, .slice none 0 0] 24)) (.int .i64 t.k) (.int .i64 t.i) (.slice none 0 0)
      have e1 := Box3.new (w.alloc (.cells #[.int .i64 t.k, .int .i64 t.i, .slice A t.ks.length c] 24)) (.int .i64 0) (.int .i64 0) (.slice none 0 0)
      simp only [World.size_alloc] at e1 e2
      refine ⟨0, Nat.zero_le _, rfl, e1.keep ((Below.refl (w.heap.size + 2) _).alloc (by simp) _) (by omega), none, 0, [], ?_⟩
      exact ⟨(((Below.refl _ w).alloc (Nat.le_refl _) _).alloc (by simp) _).alloc (by simp; omega) _, rfl, e2, by omega, by simpa [rowC] using World.ownsRow_nil _ _ _ _, by simp [OwnL]⟩
    case round =>
      obtain ⟨m, hm', rfl, hb1, A1, c1, cs, hL⟩ := hrel
      have HB1 := Lib.hid hb1
      have HL := Lib.hid hL
      clear hb1 hL
      by_cases hlt : m < t.ks.length
      · obtain ⟨b, o, A', c', rfl, hlt', p0, p1, p2, hk⟩ := HT.out.kid m hlt
        have kz := kid_sz t m hlt
        have hbr := HL.out.below
        have STEP := Lib.hid (fun w1 w4 o1 o2 o3 => @Laid.step _ _ w1 w4 _ _ _ _ _ _ _ _ _ HL.out hlt o1 o2 o3 (by omega))
        obtain ⟨q, hq⟩ : ∃ q, q = t.ks[m] := ⟨_, rfl⟩
        rw [← hq] at p0 p1 p2 hk kz STEP
        clear hq
        have d0 := (hbr.cell hlt').trans p0
        have d1 := (hbr.cell hlt').trans p1
        have d2 := (hbr.cell hlt').trans p2
        have ha : Below wr.heap.size wr (wr.alloc (.cells #[.int .i64 q.k, .int .i64 q.i, .slice A' q.ks.length c'] 24)) := (Below.refl _ _).alloc (Nat.le_refl _) _
        have HK := Lib.hid ((hk.keep hbr hbr.size).keep ha ha.size)
        clear p0 p1 p2 hk
        go_wp2_with fail
        refine (IH.out q A' c' _ (by omega) (by exact HK.out)).mono ?_
        rintro e w1 ⟨A2, c2, rfl, ho, hb2⟩
        have hsz1 := hb2.size
        simp at hsz1 hb2 ho
        have bx : Box3 w1 (w.heap.size + 2) (.int .i64 t.k) (.int .i64 t.i) (.slice A1 m c1) := (HL.out.box.keep ha HL.out.box.lt).keep hb2 (by have := HL.out.box.lt; omega)
        have bx2 : ∀ o, (w1.alloc o).cell? ⟨w.heap.size + 1 + 1, 2, none⟩ = some (.slice A1 m c1) := fun o => (((Below.refl w1.heap.size w1).alloc (Nat.le_refl _) o).cell bx.lt).trans bx.cells.2.2
        have own1 := Lib.hid (ownsRow_same (hi := wr.heap.size) HL.out.own (fun k k1 k2 => (hb2.block k (by omega)).trans (Below.heap_alloc _ _ _ k2)) (fun g e => (HL.out.own.lt g e).2))
        have OWN := Lib.hid (fun o o' => (own1.out.alloc o).alloc o')
        have BX := Lib.hid bx
        have HO := Lib.hid ho
        have HB2 := Lib.hid hb2
        have HB1' := Lib.hid ((HB1.out.keep ha HB1.out.lt).keep hb2 (by have := HB1.out.lt; omega))
        have OB := Lib.hid (fun g e => (HL.out.own.lt g e))
        have hbig : w.heap.size + 2 < w1.heap.size := by have := HL.out.box.lt; omega
        clear bx ho hb2 own1
        go_wp2_with (at_builtin; refine wpList_append_lies _ (by rfl) _ _ _ (by rfl) (w.heap.size + 3) 24 i0 _ 3 40 Tryz.underlying22 HI.out.1 HI.out.2.1 HI.out.2.2.1 HI.out.2.2.2 (by rfl) (by omega) (.slice A1 m c1) m (rowC (t.ks.take m) cs) (by rfl) (by exact OWN.out _ _) ⟨w1.heap.size + 1, 0, none⟩ 1 1 [.int .i64 q.k, .int .i64 q.i, .slice A2 q.ks.length c2] (by rfl) (by rfl) (by exact news3 _ _ _ _ _ _) (by simp [Value.oneCell']) (by omega) (by unfold maxLen; omega) (by omega) (by simp; omega) (w1.heap.size + 2) (by simp) ?_; intro g cap w4 hown4 hgrow hat hlt4; have bx4 := Lib.hid (Box3.grown (w := (w1.alloc (.cells #[.int .i64 q.k, .int .i64 q.i, .slice A2 q.ks.length c2] 24)).alloc (.cells #[.int .i64 q.k, .int .i64 q.i, .slice A2 q.ks.length c2] 24)) ((BX.out.keep ((Below.refl (w.heap.size + 3) w1).alloc (by omega) _) (by omega)).keep ((Below.refl (w.heap.size + 3) _).alloc (by simp; omega) _) (by omega)) hgrow (fun e => by have := OB.out _ e.symm; omega)); have c4 : w4.cell? ⟨w.heap.size + 1 + 1, 2, none⟩ = some (.slice A1 m c1) := bx4.out.cells.2.2; have f4 : w4.frozen? ⟨w.heap.size + 1 + 1, 2, none⟩ = false := bx4.out.frozen 2; have HO4 := Lib.hid hown4; have HG4 := Lib.hid hgrow; have HAT := Lib.hid hat; clear hown4 hgrow hat)
        have NL := Lib.hid (STEP.out w1 w4 _ _ _ HB2.out HO.out HO4.out HG4.out HAT.out)
        have rb := Lib.hid (Box3.grown (w := (w1.alloc (.cells #[.int .i64 q.k, .int .i64 q.i, .slice A2 q.ks.length c2] 24)).alloc (.cells #[.int .i64 q.k, .int .i64 q.i, .slice A2 q.ks.length c2] 24)) ((HB1'.out.keep ((Below.refl (w.heap.size + 3) w1).alloc (by omega) _) (by omega)).keep ((Below.refl (w.heap.size + 3) _).alloc (by simp; omega) _) (by omega)) HG4.out (fun e => by have := OB.out _ e.symm; omega))
        go_roundw
        case rel => exact ⟨m + 1, by omega, by go_num, rb.out.set_other _ _ (by show w.heap.size + 1 ≠ w.heap.size + 2; omega), _, _, _, NL.out⟩
        case measure => simp [intOf]; omega
      · obtain rfl : m = t.ks.length := by omega
        have bx := HL.out.box
        have x0 : wr.cell? ⟨w.heap.size + 1 + 1, 0, none⟩ = some (.int .i64 t.k) := bx.cells.1
        have x1 : wr.cell? ⟨w.heap.size + 1 + 1, 1, none⟩ = some (.int .i64 t.i) := bx.cells.2.1
        have x2 : wr.cell? ⟨w.heap.size + 1 + 1, 2, none⟩ = some (.slice A1 t.ks.length c1) := bx.cells.2.2
        have y0 := HB1.out.cells.1
        have y1 := HB1.out.cells.2.1
        have y2 := HB1.out.cells.2.2
        have f0 := HB1.out.frozen 0
        have f1 := HB1.out.frozen 1
        have f2 := HB1.out.frozen 2
        clear bx
        go_wp2_with fail
        refine bodyPost_ret (v := .agg #[.int .i64 t.k, .int .i64 t.i, .slice A1 t.ks.length c1]) (by simp [results, Tryz.results61, go_sem, y0, y1, y2]) rfl ⟨A1, c1, rfl, ?_, ?_⟩
        · have hs : SameIn (w.heap.size + 3) wr.heap.size wr (((wr.setCell ⟨w.heap.size + 1, 0, none⟩ (.int .i64 t.k)).setCell ⟨w.heap.size + 1, 1, none⟩ (.int .i64 t.i)).setCell ⟨w.heap.size + 1, 2, none⟩ (.slice A1 t.ks.length c1)) := same_set3 _ _ _ _ _ (by omega)
          have := (HL.out.done.same _ hs).lower (lo' := w.heap.size) (by omega)
          simpa using this
        · exact below_set3 HL.out.below _ _ _ (by omega)
end Go.Proofs.YtgnfbhemkombaaaGreat
