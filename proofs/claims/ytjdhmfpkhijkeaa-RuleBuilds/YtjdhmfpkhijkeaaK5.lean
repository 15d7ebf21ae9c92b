/- extentOf of package rule: how large a plain form would be. -/
import Derived.Test.YtjdhmfpkhijkeaaK4
namespace Go.Proofs.Ytjdhmfpkhijkeaa
open Go.RowKit
set_option linter.unusedVariables false
set_option linter.unusedSimpArgs false
theorem plainL_get (l : List Tr) (m : Nat) (h : m < l.length) : (plainL l)[m]'(by rw [plainL_len]; exact h) = plainT l[m] := by
  simp only [plainL_map, List.getElem_map]
theorem szL_plain (ks : List Tr) (m : Nat) (h : m < ks.length) : szL (plainL (ks.take (m + 1))) = szL (plainL (ks.take m)) + (plainT ks[m]).sz := by
  rw [plainL_take ks m h, szL_append]; simp [szL]
theorem dpL_plain (ks : List Tr) (m : Nat) (h : m < ks.length) : dpL (plainL (ks.take (m + 1))) = max (dpL (plainL (ks.take m))) (plainT ks[m]).dp := by
  rw [plainL_take ks m h, dpL_append]; simp [dpL]
theorem szL_plain_le (ks : List Tr) (m : Nat) : szL (plainL (ks.take m)) ≤ szL (plainL ks) := by
  have : plainL (ks.take m) = (plainL ks).take m := by rw [plainL_map, plainL_map, List.map_take]
  rw [this]; exact szL_take_le _ _
theorem unfT_kids {t : Tr} (h : t.shp = true) : ∀ q ∈ (unfT t).ks, q.shp = true := vok_kids (unfT_shp h)
/-- the boxes of extentOf in a later world: what was found so far, what comes out, the tree -/
structure XE (w W : World) (u : Tr) (A : Option Addr) (c : Nat) (s d : Nat) : Prop where
  whole : BoxE W (w.heap.size + 2) (.int .i64 (s : Nat)) (.int .i64 (d : Nat))
  res : BoxE W (w.heap.size + 1) (.int .i64 0) (.int .i64 0)
  tree : FrT (fun k => w.heap.size ≤ k ∧ k < w.heap.size + 3) W u A c
  bel : Below w.heap.size w W
theorem XE.keep {w W W' : World} {u : Tr} {A : Option Addr} {c s d : Nat} (h : XE w W u A c s d) (hb : Below W.heap.size W W') : XE w W' u A c s d :=
  ⟨h.whole.keep hb h.whole.lt, h.res.keep hb h.res.lt, h.tree.keep hb, h.bel.trans (hb.mono h.bel.size)⟩
theorem XE.set {w W : World} {u : Tr} {A : Option Addr} {c s d : Nat} (h : XE w W u A c s d) (s' d' : Nat) : XE w ((W.setCell ⟨w.heap.size + 2, 0, none⟩ (.int .i64 (s' : Nat))).setCell ⟨w.heap.size + 2, 1, none⟩ (.int .i64 (d' : Nat))) u A c s' d' :=
  ⟨h.whole.set _ _, (h.res.set_other _ _ (by show w.heap.size + 1 ≠ w.heap.size + 2; omega)).set_other _ _ (by show w.heap.size + 1 ≠ w.heap.size + 2; omega),
    h.tree.move (fun k hk hn => by
      have hne : k ≠ w.heap.size + 2 := fun e => hn (by omega)
      rw [heap_setCell_other _ _ _ _ hne, heap_setCell_other _ _ _ _ hne]) (by simp),
    (h.bel.setCell (p := ⟨w.heap.size + 2, 0, none⟩) (show w.heap.size ≤ w.heap.size + 2 by omega) _).setCell (p := ⟨w.heap.size + 2, 1, none⟩) (show w.heap.size ≤ w.heap.size + 2 by omega) _⟩
set_option maxHeartbeats 4000000 in
set_option maxRecDepth 100000 in
theorem extentOf_any : ∀ (N : Nat) (t : Tr) (A : Option Addr) (c : Nat) (w : World), (plainT t).sz ≤ N → t.shp = true → (plainT t).sz ≤ 100000 → IsT w w.heap.size t A c →
    Calls Try.prog 66 #[.agg #[.int .i64 t.k, .int .i64 t.i, .slice A t.ks.length c]] w fun e w' => e = .returned (.agg #[.int .i64 ((plainT t).sz : Nat), .int .i64 ((plainT t).dp : Nat)]) ∧ Below w.heap.size w w' := by
  intro N
  induction N with
  | zero => intro t A c w h; have := sz_pos (plainT t); omega
  | succ N ih =>
    intro t A c w hN hs hlim ht
    have hfl : ∀ (x y z : Value) (W : World), (Instr.field 24 (.agg #[x, y, z]) 2).run Try.prog W = .ok z W := fun x y z W => by kernel_rfl
    have IH := Lib.hid ih
    have HS := Lib.hid (unfT_kids hs)
    have KZ := Lib.hid (fun q => @plain_kid t q)
    have SE := Lib.hid (plain_sz_eq t)
    have DE := Lib.hid (plain_dp_eq t)
    have DL := dp_le_sz (plainT t)
    have CU := Lib.hid (fun (B : Nat) (w0 : World) (hB : B ≤ w0.heap.size) (h : IsT w0 B t A c) => cunf_any t A c B w0 hB h hs)
    obtain ⟨W1, hW1⟩ : ∃ W1, W1 = w.alloc (.cells #[.int .i64 t.k, .int .i64 t.i, .slice A t.ks.length c] 24) := ⟨_, rfl⟩
    obtain ⟨W2, hW2⟩ : ∃ W2, W2 = W1.alloc (.cells #[.int .i64 0, .int .i64 0] 68) := ⟨_, rfl⟩
    obtain ⟨W3, hW3⟩ : ∃ W3, W3 = W2.alloc (.cells #[.int .i64 1, .int .i64 1] 68) := ⟨_, rfl⟩
    have z1 : W1.heap.size = w.heap.size + 1 := by rw [hW1]; simp
    have z2 : W2.heap.size = w.heap.size + 2 := by rw [hW2]; simp; omega
    have z3 : W3.heap.size = w.heap.size + 3 := by rw [hW3]; simp; omega
    have b1 : Below w.heap.size w W1 := by rw [hW1]; exact alB w _
    have b2 : Below W1.heap.size W1 W2 := by rw [hW2]; exact alB W1 _
    have b3 : Below W2.heap.size W2 W3 := by rw [hW3]; exact alB W2 _
    have n1 : Box3 W1 w.heap.size (.int .i64 t.k) (.int .i64 t.i) (.slice A t.ks.length c) := by rw [hW1]; exact Box3.new w _ _ _
    have n2 : BoxE W2 W1.heap.size (.int .i64 0) (.int .i64 0) := by rw [hW2]; exact BoxE.new W1 _ _
    have n3 : BoxE W3 W2.heap.size (.int .i64 1) (.int .i64 1) := by rw [hW3]; exact BoxE.new W2 _ _
    rw [z1] at n2
    rw [z2] at n3
    have B3 := Lib.hid (show Below w.heap.size w W3 from b1.trans ((b2.trans (b3.mono (by omega))).mono (by omega)))
    have PB := Lib.hid (show Box3 W3 w.heap.size (.int .i64 t.k) (.int .i64 t.i) (.slice A t.ks.length c) from (n1.keep b2 n1.lt).keep b3 (by omega))
    have RB := Lib.hid (n2.keep b3 n2.lt)
    have WB := Lib.hid n3
    have T3 := Lib.hid (ht.keep (B' := w.heap.size) B3.out (Nat.le_refl _))
    obtain ⟨p0, p1, p2⟩ := PB.out.cells
    have HW3 := Lib.hid (show W3 = ((w.alloc (.cells #[.int .i64 t.k, .int .i64 t.i, .slice A t.ks.length c] 24)).alloc (.cells #[.int .i64 0, .int .i64 0] 68)).alloc (.cells #[.int .i64 1, .int .i64 1] 68) by rw [hW3, hW2, hW1])
    have P := Lib.hid (And.intro p0 (And.intro p1 p2))
    rw [HW3.out] at p0 p1 p2
    clear ih ht hW1 hW2 hW3 b1 b2 b3 n1 n2 n3 z1 z2 hs
    go_enter Try.func66, Try.ntmps66
    go_wp2_with fail
    rw [← HW3.out]
    refine (CU.out w.heap.size W3 (by omega) T3.out).mono ?_
    rintro e w4 ⟨A1, c1, rfl, hf, hb4⟩
    have E0 := Lib.hid (show XE w w4 (unfT t) A1 c1 1 1 from ⟨WB.out.keep hb4 WB.out.lt, RB.out.keep hb4 RB.out.lt, hf.less (fun k hk => by omega), B3.out.trans (hb4.mono B3.out.size)⟩)
    obtain ⟨u, hu⟩ : ∃ u, u = unfT t := ⟨_, rfl⟩
    rw [← hu] at E0 HS KZ SE DE ⊢
    have hl := E0.out.tree.isT.len
    clear hf hb4 p0 p1 p2 P PB RB WB B3 T3 HW3 CU hu
    go_wp2_with fail
    go_loopw [12] (fun i wr => ∃ m : Nat, m ≤ u.ks.length ∧ i = .int .i64 m ∧ XE w wr u A1 c1 (1 + szL (plainL (u.ks.take m))) (1 + dpL (plainL (u.ks.take m)))) (fun i _ => u.ks.length - (intOf i).toNat)
    case atStart => exact ⟨0, Nat.zero_le _, rfl, by simpa [plainL, szL, dpL] using E0.out⟩
    case round =>
      obtain ⟨m, hm', rfl, hE⟩ := hrel
      have E := Lib.hid hE
      clear hE E0
      by_cases hlt : m < u.ks.length
      · obtain ⟨b, o, A', c', rfl, hlt', d0, d1, d2, hk⟩ := E.out.tree.isT.kid m hlt
        have kz := KZ.out _ (List.getElem_mem hlt)
        have ks := HS.out _ (List.getElem_mem hlt)
        have S1 := Lib.hid (szL_plain u.ks m hlt)
        have D1 := Lib.hid (dpL_plain u.ks m hlt)
        have L1 := szL_plain_le u.ks (m + 1)
        have dq := dp_le_sz (plainT u.ks[m])
        have dm := dpL_le_szL (plainL (u.ks.take m))
        obtain ⟨q, hq⟩ : ∃ q, q = u.ks[m] := ⟨_, rfl⟩
        rw [← hq] at d0 d1 d2 hk kz ks S1 D1 dq
        clear hq
        obtain ⟨s, hs⟩ : ∃ s, s = szL (plainL (u.ks.take m)) := ⟨_, rfl⟩
        obtain ⟨d, hd⟩ : ∃ d, d = dpL (plainL (u.ks.take m)) := ⟨_, rfl⟩
        rw [← hs] at E S1 dm
        rw [← hd] at E D1 dm
        obtain ⟨sq, hsq⟩ : ∃ sq, sq = (plainT q).sz := ⟨_, rfl⟩
        obtain ⟨dd, hdd⟩ : ∃ dd, dd = (plainT q).dp := ⟨_, rfl⟩
        have s1 := S1.out
        have se := SE.out
        have HK := Lib.hid ((hk.keep (alB wr (.cells #[.int .i64 q.k, .int .i64 q.i, .slice A' q.ks.length c'] 24)) (alB wr (.cells #[.int .i64 q.k, .int .i64 q.i, .slice A' q.ks.length c'] 24)).size))
        have E1 := Lib.hid (E.out.keep (alB wr (.cells #[.int .i64 q.k, .int .i64 q.i, .slice A' q.ks.length c'] 24)))
        clear hk hs hd
        go_wp2_with fail
        refine (IH.out q A' c' _ (by omega) ks (by omega) (by exact HK.out)).mono ?_
        rintro e w5 ⟨rfl, hb5⟩
        rw [← hsq, ← hdd]
        have E5 := Lib.hid ((E1.out.keep hb5).keep (alB w5 (.cells #[.int .i64 (sq : Nat), .int .i64 (dd : Nat)] 68)))
        obtain ⟨x0, x1⟩ := E5.out.whole.cells
        have f0 := E5.out.whole.frozen 0
        have f1 := E5.out.whole.frozen 1
        rw [← hsq] at s1 kz dq
        rw [← hdd] at dq
        have D2 := Lib.hid (show dpL (plainL (u.ks.take (m + 1))) = max d dd by rw [D1.out, hdd])
        clear hb5 d0 d1 d2 HK hsq hdd
        go_wp2_with fail
        go_roundw
        case rel =>
          refine ⟨m + 1, by omega, by go_num, ?_⟩
          rw [s1, D2.out]
          have := E5.out.set (1 + (s + sq)) (1 + max d dd)
          have e1 : ((1 + (s + sq) : Nat) : Int) = ((1 + s : Nat) : Int) + (sq : Int) := by omega
          have e2 : ((1 + max d dd : Nat) : Int) = if d < dd then 1 + (dd : Int) else 1 + (d : Int) := by split <;> omega
          rw [e1, e2, show w.heap.size + 2 = w.heap.size + 1 + 1 from rfl] at this
          simpa using this
        case measure => simp [intOf]; omega
      · obtain rfl : m = u.ks.length := by omega
        rw [List.take_length] at E
        have F1 := Lib.hid (show 1 + szL (plainL u.ks) = (plainT t).sz from SE.out.symm)
        have F2 := Lib.hid (show 1 + dpL (plainL u.ks) = (plainT t).dp from DE.out.symm)
        rw [F1.out, F2.out] at E
        obtain ⟨x0, x1⟩ := E.out.whole.cells
        obtain ⟨y0, y1⟩ := E.out.res.cells
        have f0 := E.out.res.frozen 0
        have f1 := E.out.res.frozen 1
        obtain ⟨q0, q1⟩ := (E.out.res.set (.int .i64 ((plainT t).sz : Nat)) (.int .i64 ((plainT t).dp : Nat))).cells
        go_wp2_with fail
        exact bodyPost_ret (v := .agg #[.int .i64 ((plainT t).sz : Nat), .int .i64 ((plainT t).dp : Nat)]) (by simp [results, Try.results66, go_sem, q0, q1]) rfl ⟨rfl, (E.out.bel.setCell (p := ⟨w.heap.size + 1, 0, none⟩) (show w.heap.size ≤ w.heap.size + 1 by omega) _).setCell (p := ⟨w.heap.size + 1, 1, none⟩) (show w.heap.size ≤ w.heap.size + 1 by omega) _⟩
end Go.Proofs.Ytjdhmfpkhijkeaa
