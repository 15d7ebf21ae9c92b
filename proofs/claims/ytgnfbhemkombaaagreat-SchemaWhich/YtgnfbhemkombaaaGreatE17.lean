/- clone of package expr. -/
import Derived.Test.YtgnfbhemkombaaaGreatE16
import Derived.Deep.RegionHeld3
namespace Go.Proofs.YtgnfbhemkombaaaGreat
open Go.RowKit
def NewT (w : World) (t : Tr) (e : Ending) (w' : World) : Prop :=
  ∃ A' c', e = .returned (.agg #[.int .i64 t.k, .int .i64 t.i, .slice A' t.ks.length c']) ∧ OwnT w' w.heap.size w'.heap.size t A' c' ∧ Below w.heap.size w w'
theorem below_grown {w w' : World} (h : w.grownBy w' none) : Below w.heap.size w w' := (Below.refl _ _).grown h (Nat.le_refl _) (fun k e => by cases e)
theorem three_boxes (w : World) (x y z x' y' z' x'' y'' z'' : Value) :
    Box3 (((w.alloc (.cells #[x, y, z] 24)).alloc (.cells #[x', y', z'] 24)).alloc (.cells #[x'', y'', z''] 24)) w.heap.size x y z ∧
    Box3 (((w.alloc (.cells #[x, y, z] 24)).alloc (.cells #[x', y', z'] 24)).alloc (.cells #[x'', y'', z''] 24)) (w.heap.size + 1) x' y' z' ∧
    Box3 (((w.alloc (.cells #[x, y, z] 24)).alloc (.cells #[x', y', z'] 24)).alloc (.cells #[x'', y'', z''] 24)) (w.heap.size + 2) x'' y'' z'' ∧
    Below w.heap.size w (((w.alloc (.cells #[x, y, z] 24)).alloc (.cells #[x', y', z'] 24)).alloc (.cells #[x'', y'', z''] 24)) := by
  refine ⟨?_, ?_, ?_, (((Below.refl _ w).alloc (Nat.le_refl _) _).alloc (by simp) _).alloc (by simp; omega) _⟩
  · show (((w.heap.push _).push _).push _)[w.heap.size]? = _
    rw [Array.getElem?_push, if_neg (by simp; omega), Array.getElem?_push, if_neg (by simp), Array.getElem?_push, if_pos rfl]
  · show (((w.heap.push _).push _).push _)[w.heap.size + 1]? = _
    rw [Array.getElem?_push, if_neg (by simp), Array.getElem?_push, if_pos (by simp)]
  · show (((w.heap.push _).push _).push _)[w.heap.size + 2]? = _
    rw [Array.getElem?_push, if_pos (by simp)]
/-- what a round of a loop that fills a row holds: the box of the new node, the box of the kid, the row -/
structure Ck (wr W : World) (lo g b : Nat) (x y : Value) (q : Tr) (A : Option Addr) (c : Nat) (ks : List Tr) (n m : Nat) (cs : List (Option Addr × Nat)) : Prop where
  box : Box3 W b x y (.slice (some ⟨g, 0, none⟩) n n)
  kid : Box3 W wr.heap.size (.int .i64 q.k) (.int .i64 q.i) (.slice A q.ks.length c)
  fill : Fill W lo g n ks m cs
  isT : IsT W W.heap.size q A c
  below : Below wr.heap.size wr W
theorem Ck.keep {wr W W' : World} {lo g b : Nat} {x y : Value} {q : Tr} {A : Option Addr} {c : Nat} {ks : List Tr} {n m : Nat} {cs : List (Option Addr × Nat)} (h : Ck wr W lo g b x y q A c ks n m cs) (hb : Below W.heap.size W W') : Ck wr W' lo g b x y q A c ks n m cs :=
  ⟨h.box.keep hb h.box.lt, h.kid.keep hb h.kid.lt, h.fill.keep hb, h.isT.keep hb hb.size, h.below.trans (hb.mono h.below.size)⟩
theorem Ck.drew {wr W : World} {lo g b : Nat} {x y : Value} {q : Tr} {A : Option Addr} {c : Nat} {ks : List Tr} {n m : Nat} {cs : List (Option Addr × Nat)} (h : Ck wr W lo g b x y q A c ks n m cs) : Ck wr W.drew lo g b x y q A c ks n m cs :=
  h.keep ((Below.refl _ _).drew)
set_option maxRecDepth 100000 in
set_option maxHeartbeats 2000000 in
theorem clone_any : ∀ (N : Nat) (t : Tr) (A : Option Addr) (c : Nat) (w : World), t.sz ≤ N → IsT w w.heap.size t A c →
    Calls Tryz.prog 69 #[.agg #[.int .i64 t.k, .int .i64 t.i, .slice A t.ks.length c]] w (NewT w t) := by
  intro N
  induction N with
  | zero => intro t A c w h; have := sz_pos t; omega
  | succ N ih =>
    intro t A c w hN ht
    have IH := Lib.hid ih
    have HT := Lib.hid ht
    have hl := ht.len
    clear ih ht
    obtain ⟨i0, hi, hz0, hz1, hz2⟩ := info_parts infoE
    by_cases h0 : t.ks.length = 0
    · have hks : t.ks = [] := List.eq_nil_of_length_eq_zero h0
      have h0' : ¬ (0 : Int) < (t.ks.length : Int) := by omega
      have S0 := Lib.hid (three_boxes w (.int .i64 t.k) (.int .i64 t.i) (.slice A 0 c) (.int .i64 0) (.int .i64 0) (.slice none 0 0) (.int .i64 t.k) (.int .i64 t.i) (.slice none 0 0))
      have HK := Lib.hid hks
      clear hks
      go_enter Tryz.func69, Tryz.ntmps69
      go_wp2_with fail
      go_loopw [23] (fun i wr => i = .int .i64 0 ∧ Box3 wr (w.heap.size + 1) (.int .i64 0) (.int .i64 0) (.slice none 0 0) ∧ Box3 wr (w.heap.size + 2) (.int .i64 t.k) (.int .i64 t.i) (.slice none 0 0) ∧ Below w.heap.size w wr) (fun _ _ => 0)
      case atStart => exact ⟨rfl, S0.out.2.1, S0.out.2.2.1, S0.out.2.2.2⟩
      case round =>
        obtain ⟨rfl, hb1, hb2, hbr⟩ := hrel
        obtain ⟨x0, x1, x2⟩ := hb2.cells
        obtain ⟨y0, y1, y2⟩ := hb1.cells
        have f0 := hb1.frozen 0
        have f1 := hb1.frozen 1
        have f2 := hb1.frozen 2
        have HB1 := Lib.hid hb1
        clear hb1 hb2
        go_wp2_with fail
        refine bodyPost_ret (v := .agg #[.int .i64 t.k, .int .i64 t.i, .slice none 0 0]) (by simp [results, Tryz.results69, go_sem, y0, y1, y2]) rfl ⟨none, 0, by rw [h0], ?_, ?_⟩
        · exact ownT_leaf _ _ _ (by have := hbr.size; simp; omega) t HK.out
        · exact below_set3 hbr _ _ _ (by omega)
    · have h0' : (0 : Int) < (t.ks.length : Int) := by omega
      obtain ⟨e0, e1, e2, hB0⟩ := three_boxes w (.int .i64 t.k) (.int .i64 t.i) (.slice A t.ks.length c) (.int .i64 0) (.int .i64 0) (.slice none 0 0) (.int .i64 t.k) (.int .i64 t.i) (.slice none 0 0)
      go_enter Tryz.func69, Tryz.ntmps69
      go_wp2_with (at_make; refine wpList_make_full _ rfl _ _ 22 rfl (w.heap.size + 3) 24 i0 _ 3 Tryz.underlying22 hi hz0 hz1 _ _ _ _ t.ks.length rfl rfl rfl rfl ?b2 ?b3 ?b4 ?_)
      case b2 => rw [hz2]; omega
      case b3 => unfold maxLen; omega
      case b4 => simp
      intro w3 own3 grow3
      have b3 := below_grown grow3
      simp only [World.size_alloc] at b3
      have hs3 := b3.size
      have F0 : Fill w3 (w.heap.size + 3) (w.heap.size + 3) t.ks.length t.ks 0 [] := Fill.start own3
      have x0 := e0.keep b3 (by omega)
      have x1 := e1.keep b3 (by omega)
      have x2 := e2.keep b3 (by omega)
      have hB3 : Below w.heap.size w w3 := hB0.trans (b3.mono (by omega))
      have y1 := (x2.cells).2.2
      have y2 := x2.frozen 2
      have z2 := x0.cells.2.2
      have G0 : Fill (w3.setCell ⟨w.heap.size + 2, 2, none⟩ (.slice (some ⟨w.heap.size + 3, 0, none⟩) t.ks.length t.ks.length)) (w.heap.size + 3) (w.heap.size + 3) t.ks.length t.ks 0 [] := by
        have o := ownsRow_same (hi := w3.heap.size) (w' := w3.setCell ⟨w.heap.size + 2, 2, none⟩ (.slice (some ⟨w.heap.size + 3, 0, none⟩) t.ks.length t.ks.length)) F0.own (fun k k1 _ => heap_setCell_other _ _ _ _ (by show k ≠ w.heap.size + 2; omega)) (fun k e => (F0.own.lt k e).2)
        have : w.heap.size + 3 < w3.heap.size := (F0.own.lt (w.heap.size + 3) rfl).2
        exact ⟨rfl, o, by simp [OwnL]; omega⟩
      have S0 := Lib.hid (And.intro (x1.set_other ⟨w.heap.size + 2, 2, none⟩ (.slice (some ⟨w.heap.size + 3, 0, none⟩) t.ks.length t.ks.length) (by show w.heap.size + 1 ≠ w.heap.size + 2; omega)) (And.intro (x2.set2 (.slice (some ⟨w.heap.size + 3, 0, none⟩) t.ks.length t.ks.length)) (And.intro G0 (hB3.setCell (p := ⟨w.heap.size + 2, 2, none⟩) (show w.heap.size ≤ w.heap.size + 2 by omega) (.slice (some ⟨w.heap.size + 3, 0, none⟩) t.ks.length t.ks.length)))))
      clear own3 grow3 b3 F0 x0 x1 x2 hB3 e0 e1 e2 G0 hB0
      go_wp2_with fail
      go_loopw [23] (fun i wr => ∃ (m : Nat) (cs : List (Option Addr × Nat)), m ≤ t.ks.length ∧ i = .int .i64 m ∧ Box3 wr (w.heap.size + 1) (.int .i64 0) (.int .i64 0) (.slice none 0 0) ∧ Box3 wr (w.heap.size + 2) (.int .i64 t.k) (.int .i64 t.i) (.slice (some ⟨w.heap.size + 3, 0, none⟩) t.ks.length t.ks.length) ∧ Fill wr (w.heap.size + 3) (w.heap.size + 3) t.ks.length t.ks m cs ∧ Below w.heap.size w wr) (fun i _ => t.ks.length - (intOf i).toNat)
      case atStart => exact ⟨0, [], Nat.zero_le _, rfl, S0.out.1, S0.out.2.1, S0.out.2.2.1, S0.out.2.2.2⟩
      case round =>
        obtain ⟨m, cs, hm', rfl, hb1, hb2, hF, hbr⟩ := hrel
        have HB1 := Lib.hid hb1
        have HB2 := Lib.hid hb2
        have HF := Lib.hid hF
        clear hb1 hb2 hF y1 y2 z2 S0
        by_cases hlt : m < t.ks.length
        · obtain ⟨b, o, A', c', rfl, hlt', p0, p1, p2, hk⟩ := HT.out.kid m hlt
          have kz := kid_sz t m hlt
          have STEP := Lib.hid (fun (w1 : World) => @Fill.step wr w1 _ _ _ _ _ _ HF.out hlt rfl)
          obtain ⟨q, hq⟩ : ∃ q, q = t.ks[m] := ⟨_, rfl⟩
          rw [← hq] at p0 p1 p2 hk kz STEP
          clear hq
          have d0 := (hbr.cell hlt').trans p0
          have d1 := (hbr.cell hlt').trans p1
          have d2 := (hbr.cell hlt').trans p2
          have ha : Below wr.heap.size wr (wr.alloc (.cells #[.int .i64 q.k, .int .i64 q.i, .slice A' q.ks.length c'] 24)) := (Below.refl _ _).alloc (Nat.le_refl _) _
          have T' : Ck wr (wr.alloc (.cells #[.int .i64 q.k, .int .i64 q.i, .slice A' q.ks.length c'] 24)).drew (w.heap.size + 3) (w.heap.size + 3) (w.heap.size + 2) (.int .i64 t.k) (.int .i64 t.i) q A' c' t.ks t.ks.length m cs :=
            (show Ck wr (wr.alloc (.cells #[.int .i64 q.k, .int .i64 q.i, .slice A' q.ks.length c'] 24)) (w.heap.size + 3) (w.heap.size + 3) (w.heap.size + 2) (.int .i64 t.k) (.int .i64 t.i) q A' c' t.ks t.ks.length m cs from ⟨HB2.out.keep ha HB2.out.lt, Box3.new _ _ _ _, HF.out.keep ha, (hk.keep hbr hbr.size).keep ha ha.size, ha⟩).drew
          clear p0 p1 p2 hk
          have hnn : (m : Int) < (t.ks.length : Int) := by omega
          go_wp2_with fail
          have hgl : w.heap.size + 3 < wr.heap.size := (HF.out.own.lt (w.heap.size + 3) rfl).2
          go_region_held3 (fun w' => w'.cell? ⟨w.heap.size + 2, 2, none⟩ = some (.slice (some ⟨w.heap.size + 3, 0, none⟩) t.ks.length t.ks.length) ∧ (w'.cell? ⟨wr.heap.size, 0, none⟩ = some (.int .i64 q.k) ∧ w'.cell? ⟨wr.heap.size, 1, none⟩ = some (.int .i64 q.i) ∧ w'.cell? ⟨wr.heap.size, 2, none⟩ = some (.slice A' q.ks.length c')))
            (first | exact ⟨T'.box.cells.2.2, T'.kid.cells⟩ | exact ⟨(((T'.box.set_other _ _ (by show w.heap.size + 2 ≠ w.heap.size + 3; omega)).set_other _ _ (by show w.heap.size + 2 ≠ w.heap.size + 3; omega)).set_other _ _ (by show w.heap.size + 2 ≠ w.heap.size + 3; omega)).cells.2.2, (((T'.kid.set_other _ _ (by show wr.heap.size ≠ w.heap.size + 3; omega)).set_other _ _ (by show wr.heap.size ≠ w.heap.size + 3; omega)).set_other _ _ (by show wr.heap.size ≠ w.heap.size + 3; omega)).cells⟩)
            (first
              | (go_at_call 69; refine (IH.out q A' c' _ (by omega) (by exact T'.isT)).mono ?_; rintro e w1 ⟨A2, c2, rfl, ho, hb2⟩; have HO := Lib.hid ho; have HBX := Lib.hid (T'.below.trans (hb2.mono T'.below.size)); have HLO := Lib.hid T'.below.size; replace T' := T'.keep hb2; clear hb2 ho; obtain ⟨r0, r1, r2⟩ := T'.fill.cells (by omega) rfl; have s0 := T'.fill.frozen (m * 3); have s1 := T'.fill.frozen (m * 3 + 1); have s2 := T'.fill.frozen (m * 3 + 2)))
          have NF := Lib.hid (STEP.out w1 HBX.out HLO.out HO.out)
          have NB1 := Lib.hid ((((HB1.out.keep HBX.out HB1.out.lt).set_other ⟨w.heap.size + 3, m * 3, none⟩ (.int .i64 q.k) (by show w.heap.size + 1 ≠ w.heap.size + 3; omega)).set_other ⟨w.heap.size + 3, m * 3 + 1, none⟩ (.int .i64 q.i) (by show w.heap.size + 1 ≠ w.heap.size + 3; omega)).set_other ⟨w.heap.size + 3, m * 3 + 2, none⟩ (.slice A2 q.ks.length c2) (by show w.heap.size + 1 ≠ w.heap.size + 3; omega))
          have NB2 := Lib.hid ((((HB2.out.keep HBX.out HB2.out.lt).set_other ⟨w.heap.size + 3, m * 3, none⟩ (.int .i64 q.k) (by show w.heap.size + 2 ≠ w.heap.size + 3; omega)).set_other ⟨w.heap.size + 3, m * 3 + 1, none⟩ (.int .i64 q.i) (by show w.heap.size + 2 ≠ w.heap.size + 3; omega)).set_other ⟨w.heap.size + 3, m * 3 + 2, none⟩ (.slice A2 q.ks.length c2) (by show w.heap.size + 2 ≠ w.heap.size + 3; omega))
          have NBB := Lib.hid ((((hbr.trans (HBX.out.mono hbr.size)).setCell (p := ⟨w.heap.size + 3, m * 3, none⟩) (show w.heap.size ≤ w.heap.size + 3 by omega) (.int .i64 q.k)).setCell (p := ⟨w.heap.size + 3, m * 3 + 1, none⟩) (show w.heap.size ≤ w.heap.size + 3 by omega) (.int .i64 q.i)).setCell (p := ⟨w.heap.size + 3, m * 3 + 2, none⟩) (show w.heap.size ≤ w.heap.size + 3 by omega) (.slice A2 q.ks.length c2))
          clear T' r0 r1 r2 s0 s1 s2 d0 d1 d2 ha
          go_wp2_with fail
          go_roundw
          case rel => exact ⟨m + 1, _, by omega, by go_num, NB1.out, NB2.out, NF.out, NBB.out⟩
          case measure => simp [intOf]; omega
        · obtain rfl : m = t.ks.length := by omega
          have DONE := Lib.hid (HF.out.done rfl)
          obtain ⟨x0, x1, x2⟩ := HB2.out.cells
          obtain ⟨y0, y1, y2⟩ := HB1.out.cells
          have f0 := HB1.out.frozen 0
          have f1 := HB1.out.frozen 1
          have f2 := HB1.out.frozen 2
          go_wp2_with fail
          refine bodyPost_ret (v := .agg #[.int .i64 t.k, .int .i64 t.i, .slice (some ⟨w.heap.size + 3, 0, none⟩) t.ks.length t.ks.length]) (by simp [results, Tryz.results69, go_sem, y0, y1, y2]) rfl ⟨_, _, rfl, ?_, ?_⟩
          · have hs : SameIn (w.heap.size + 3) wr.heap.size wr (((wr.setCell ⟨w.heap.size + 1, 0, none⟩ (.int .i64 t.k)).setCell ⟨w.heap.size + 1, 1, none⟩ (.int .i64 t.i)).setCell ⟨w.heap.size + 1, 2, none⟩ (.slice (some ⟨w.heap.size + 3, 0, none⟩) t.ks.length t.ks.length)) := same_set3 _ _ _ _ _ (by omega)
            have := (DONE.out.same _ hs).lower (lo' := w.heap.size) (by omega)
            simpa using this
          · exact below_set3 hbr _ _ _ (by omega)
end Go.Proofs.YtgnfbhemkombaaaGreat
