/- The document's Parts. -/
import Derived.Test.YtjdhmfpkhijkeaaI19
import Derived.Test.YtjdhmfpkhijkeaaE6
import Derived.Deep.WholeRow
import Derived.Deep.AppendLies
namespace Go.Proofs.Ytjdhmfpkhijkeaa
open Go.RowKit
set_option linter.unusedVariables false
set_option linter.unusedSimpArgs false
/-- a list of expressions in a row of one's own, their trees where they lay -/
structure IsEs (w0 : World) (B : Nat) (wr : World) (lo : Nat) (ts : List Tr) (A : Option Addr) (c : Nat) (cs : List (Option Addr × Nat)) : Prop where
  len : cs.length = ts.length
  own : wr.ownsRow lo 24 3 (.slice A ts.length c) ts.length (rowC ts cs)
  tree : ∀ m (h : m < ts.length), IsT w0 B ts[m] (cs[m]'(by omega)).1 (cs[m]'(by omega)).2
theorem IsEs.keep {w0 : World} {B : Nat} {wr wx : World} {lo : Nat} {ts : List Tr} {A : Option Addr} {c : Nat} {cs : List (Option Addr × Nat)} (h : IsEs w0 B wr lo ts A c cs) (hb : Below wr.heap.size wr wx) : IsEs w0 B wx lo ts A c cs :=
  ⟨h.len, ownsRow_same (hi := wr.heap.size) h.own (fun k _ k2 => hb.block k k2) (fun g e => (h.own.lt g e).2), h.tree⟩
theorem rowC_app : ∀ (l : List Tr) (cs : List (Option Addr × Nat)) (r : List Tr) (ds : List (Option Addr × Nat)), cs.length = l.length → rowC (l ++ r) (cs ++ ds) = rowC l cs ++ rowC r ds
  | [], [], r, ds, _ => by simp [rowC]
  | t :: l, (A, c) :: cs, r, ds, h => by simp only [List.cons_append, rowC]; rw [rowC_app l cs r ds (by simpa using h)]
theorem rowC_one : ∀ (l : List Tr) (cs : List (Option Addr × Nat)), ∀ u ∈ rowC l cs, u.oneCell' = true
  | [], _, u, h => by simp [rowC] at h
  | t :: l, [], u, h => by simp [rowC] at h
  | t :: l, (A, c) :: cs, u, h => by
    simp only [rowC, List.mem_cons] at h
    rcases h with rfl | rfl | rfl | h
    · rfl
    · rfl
    · rfl
    · exact rowC_one l cs u h
theorem parts_sz : ∀ (t : Tr), (partsT t).length = t.sz := by
  intro t
  induction t using Tr.ind with
  | h t ih =>
    have hk : ∀ (ks : List Tr), (∀ q ∈ ks, q ∈ t.ks) → (partsL ks).length = szL ks := by
      intro ks
      induction ks with
      | nil => intro _; rfl
      | cons q r ihr => intro h; simp only [partsL, List.length_append, szL]; rw [ih q (h q (by simp)), ihr (fun x hx => h x (by simp [hx]))]
    rw [partsT_eq, sz_eq, List.length_cons, hk t.ks (fun _ h => h)]
    omega
theorem partsL_snoc (l : List Tr) (q : Tr) : partsL (l ++ [q]) = partsL l ++ partsT q := by
  induction l with
  | nil => simp [partsL]
  | cons t r ih => simp only [List.cons_append, partsL, ih, List.append_assoc]
theorem partsL_len (l : List Tr) : (partsL l).length = szL l := by
  induction l with
  | nil => rfl
  | cons t r ih => simp only [partsL, List.length_append, szL, ih, parts_sz]
set_option maxHeartbeats 2000000 in
theorem rparts_any (w0 : World) (B : Nat) : ∀ (N : Nat) (t : Tr) (At : Option Addr) (ct : Nat) (w : World), t.sz ≤ N → t.sz ≤ 1000 → IsT w0 B t At ct → Below B w0 w → B ≤ w.heap.size →
    Calls Try.prog 81 #[.agg #[.int .i64 t.k, .int .i64 t.i, .slice At t.ks.length ct]] w fun e w' => ∃ A' c' cs, e = .returned (.slice A' (partsT t).length c') ∧ IsEs w0 B w' w.heap.size (partsT t) A' c' cs ∧ Below w.heap.size w w' := by
  intro N
  induction N with
  | zero => intro t At ct w h; have := sz_pos t; omega
  | succ N ih =>
    intro t At ct w hN hsz ht hB0 hBs
    have IH := Lib.hid ih
    have HT := Lib.hid ht
    have HB0 := Lib.hid hB0
    have hl := ht.len
    obtain ⟨i0, hi, hz0, hz1, hz2⟩ := info_parts infoE
    have HI := Lib.hid (And.intro hi (And.intro hz0 (And.intro hz1 hz2)))
    have B0 : Below w.heap.size w ((w.alloc (.cells #[.int .i64 t.k, .int .i64 t.i, .slice At t.ks.length ct] 24)).alloc (.cells #[.int .i64 t.k, .int .i64 t.i, .slice At t.ks.length ct] 24)) := ((Below.refl _ _).alloc (Nat.le_refl _) _).alloc (by simp) _
    have E0 := Lib.hid (show IsEs w0 B ((w.alloc (.cells #[.int .i64 t.k, .int .i64 t.i, .slice At t.ks.length ct] 24)).alloc (.cells #[.int .i64 t.k, .int .i64 t.i, .slice At t.ks.length ct] 24)) (w.heap.size + 1) [t] (some ⟨w.heap.size + 1, 0, none⟩) 1 [(At, ct)] from by
      have h1 := heap_alloc_last (w.alloc (.cells #[.int .i64 t.k, .int .i64 t.i, .slice At t.ks.length ct] 24)) (.cells #[.int .i64 t.k, .int .i64 t.i, .slice At t.ks.length ct] 24)
      rw [World.size_alloc] at h1
      refine ⟨rfl, ⟨rfl, .inr ⟨w.heap.size + 1, 1, _, rfl, Nat.le_refl _, h1, Nat.le_refl _, by unfold maxLen; omega, rfl, rfl⟩⟩, fun m hm => ?_⟩
      obtain rfl : m = 0 := by simpa using hm
      exact ht)
    have BX0 := Lib.hid (show Box3 ((w.alloc (.cells #[.int .i64 t.k, .int .i64 t.i, .slice At t.ks.length ct] 24)).alloc (.cells #[.int .i64 t.k, .int .i64 t.i, .slice At t.ks.length ct] 24)) w.heap.size (.int .i64 t.k) (.int .i64 t.i) (.slice At t.ks.length ct) from (Box3.new w _ _ _).keep ((Below.refl (w.heap.size + 1) _).alloc (by simp) _) (by omega))
    have BB := Lib.hid B0
    obtain ⟨y0, y1, y2⟩ := BX0.out.cells
    clear ih ht hi hz0 hz1 hz2 B0 hB0
    go_enter Try.func81, Try.ntmps81
    go_wp2_with fail
    go_loopw [3, 12] (fun l x wx => ∃ (m : Nat) (ts : List Tr) (A1 : Option Addr) (c1 : Nat) (cs : List (Option Addr × Nat)), m ≤ t.ks.length ∧ x = .int .i64 (m : Int) ∧ ts = t :: partsL (t.ks.take m) ∧ l = .slice A1 ts.length c1 ∧ IsEs w0 B wx (w.heap.size + 1) ts A1 c1 cs ∧ Below w.heap.size w wx) (fun _ x _ => t.ks.length - (intOf x).toNat)
    case atStart => exact ⟨0, [t], _, _, _, Nat.zero_le _, rfl, by simp [partsL], rfl, E0.out, BB.out⟩
    case round =>
      obtain ⟨m, ts, A1, c1, cs, hm, rfl, hts, rfl, hE, hbw⟩ := hrel
      have EE := Lib.hid hE
      have TS := Lib.hid hts
      have BW := Lib.hid hbw
      have htl : ts.length ≤ 1000 := by rw [hts, List.length_cons, partsL_len]; have := szL_take_le t.ks m; have := sz_eq t; omega
      clear hE hts y0 y1 y2
      by_cases hlt : m < t.ks.length
      · obtain ⟨b, o, Aq, cq, rfl, hltb, p0, p1, p2, hkT⟩ := HT.out.kid m hlt
        have kz := kid_sz t m hlt
        have NX := Lib.hid (show t :: partsL (t.ks.take (m + 1)) = ts ++ partsT t.ks[m] by rw [TS.out, List.take_succ_eq_append_getElem hlt, partsL_snoc]; rfl)
        have hl2 : (ts ++ partsT t.ks[m]).length ≤ 1000 := by rw [← NX.out, List.length_cons, partsL_len]; have := szL_take_le t.ks (m + 1); have := sz_eq t; omega
        obtain ⟨q, hq⟩ : ∃ q, q = t.ks[m] := ⟨_, rfl⟩
        rw [← hq] at p0 p1 p2 hkT kz NX hl2
        have hw0 : Below B w0 wr := HB0.out.trans (hbw.mono hBs)
        have d0 := (hw0.cell hltb).trans p0
        have d1 := (hw0.cell hltb).trans p1
        have d2 := (hw0.cell hltb).trans p2
        have hbq : Below wr.heap.size wr (wr.alloc (.cells #[.int .i64 q.k, .int .i64 q.i, .slice Aq q.ks.length cq] 24)) := (Below.refl _ _).alloc (Nat.le_refl _) _
        have KW := Lib.hid hkT
        have hzw := hbw.size
        have BQ := Lib.hid hbq
        have HQ0 := Lib.hid (hw0.trans (hbq.mono (by omega)))
        obtain ⟨k0, k1, k2⟩ := (Box3.new wr (.int .i64 q.k) (.int .i64 q.i) (.slice Aq q.ks.length cq)).cells
        clear p0 p1 p2 hkT hbq hbw hq hw0
        go_wp2_with fail
        refine (IH.out q Aq cq _ (by omega) (by omega) KW.out (by exact HQ0.out) (by simp; omega)).mono ?_
        rintro x w5 ⟨A5, c5, ds, rfl, h5, hb5⟩
        have hz5 := hb5.size
        simp only [World.size_alloc] at hz5
        have B5 := Lib.hid (BQ.out.trans (hb5.mono (by simp)))
        have E5 := Lib.hid (EE.out.keep B5.out)
        have N5 := Lib.hid h5
        have PZ : (partsT q).length = q.sz := parts_sz q
        have hqp := sz_pos q
        obtain ⟨g5, cap5, hv5, hg5, hg6⟩ := h5.own.form (by omega)
        cases hv5
        have NEWS := Lib.hid (show ∀ j u, (rowC (partsT q) ds)[j]? = some u → w5.cell? ((⟨g5, 0, none⟩ : Addr).add j) = some u from fun j u hu => by
          have e2 : (⟨g5, 0, none⟩ : Addr).add j = ⟨g5, j, none⟩ := by unfold Addr.add; split <;> simp_all
          have hj : j < (partsT q).length * 3 := by
            have := (List.getElem?_eq_some_iff.1 hu).1
            rw [rowC_len _ _ h5.len] at this
            exact this
          rw [e2, h5.own.cellAt j hj]
          exact hu)
        have RL := Lib.hid (show (rowC (partsT q) ds).length = (partsT q).length * 3 from rowC_len _ _ h5.len)
        obtain ⟨pq, hpq⟩ : ∃ pq, pq = partsT q := ⟨_, rfl⟩
        rw [← hpq] at NEWS RL N5 PZ NX hl2 ⊢
        have hl3 : ts.length + pq.length ≤ 1000 := by rw [← List.length_append]; exact hl2
        have hpl : 1 ≤ pq.length := by omega
        clear h5 hb5 hpq k0 k1 k2 d0 d1 d2 PZ hqp
        go_wp2_with (at_builtin; refine wpList_append_lies _ (by rfl) _ _ _ (by rfl) (w.heap.size + 1) 24 i0 _ 3 40 Try.underlying22 HI.out.1 HI.out.2.1 HI.out.2.2.1 HI.out.2.2.2 (by rfl) (by omega) (.slice A1 ts.length c1) ts.length (rowC ts cs) (by rfl) (by exact E5.out.own) ⟨g5, 0, none⟩ pq.length _ (rowC pq ds) (by rfl) (by exact RL.out) (by exact NEWS.out) (by exact rowC_one _ _) (by omega) (by unfold maxLen; omega) (by omega) (by omega) w5.heap.size (by rfl) ?_; intro g4 cap4 w6 hown6 hgrow6 hat6 hlt6; have HO := Lib.hid hown6; have HG := Lib.hid hgrow6; clear hown6 hgrow6)
        have EN := Lib.hid (show IsEs w0 B w6 (w.heap.size + 1) (ts ++ pq) (some ⟨g4, 0, none⟩) cap4 (cs ++ ds) from ⟨by simp [EE.out.len, N5.out.len], by rw [rowC_app _ _ _ _ EE.out.len, List.length_append]; exact HO.out, fun j hj => by
          have h1 := EE.out.len
          rcases Nat.lt_or_ge j ts.length with h2 | h2
          · have := EE.out.tree j h2
            simpa [List.getElem_append_left h2, List.getElem_append_left (show j < cs.length by omega)] using this
          · have h3 : j - ts.length < pq.length := by simp at hj; omega
            have := N5.out.tree (j - ts.length) h3
            simpa [List.getElem_append_right h2, List.getElem_append_right (show cs.length ≤ j by omega), h1] using this⟩)
        have BN := Lib.hid (show Below w.heap.size w w6 from (BW.out.trans (B5.out.mono BW.out.size)).grown HG.out (by omega) (fun k e => by have := (E5.out.own.lt k e).1; omega))
        have LEN := Lib.hid (show (ts ++ pq).length = ts.length + pq.length from List.length_append)
        go_wp2_with fail
        go_roundw
        case rel => exact ⟨m + 1, ts ++ pq, _, _, _, by omega, by go_num, NX.out.symm, by rw [LEN.out], EN.out, BN.out⟩
        case measure => simp [intOf]; omega
      · obtain rfl : m = t.ks.length := by omega
        have N := Lib.hid (show ts = partsT t by rw [TS.out, List.take_length, partsT_eq])
        rw [N.out] at EE
        have ES := Lib.hid (show IsEs w0 B wr w.heap.size (partsT t) A1 c1 cs from ⟨EE.out.len, by
          obtain ⟨h1, h2⟩ := EE.out.own
          refine ⟨h1, h2.imp id ?_⟩
          rintro ⟨g, cap, cur, e1, e2, e3⟩
          exact ⟨g, cap, cur, e1, by omega, e3⟩, EE.out.tree⟩)
        clear hbw
        go_wp2_with fail
        go_ret
        exact ⟨A1, c1, cs, by rw [N.out]; rfl, ES.out, BW.out⟩
end Go.Proofs.Ytjdhmfpkhijkeaa
