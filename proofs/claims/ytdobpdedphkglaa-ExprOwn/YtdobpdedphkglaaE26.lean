/- The document's At. -/
import Derived.Test.YtdobpdedphkglaaE25
namespace Go.Proofs.Ytdobpdedphkglaa
open Go.RowKit
set_option maxRecDepth 100000 in
set_option maxHeartbeats 2000000 in
theorem rat_any (t : Tr) (A : Option Addr) (c : Nat) (A1 : Option Addr) (n cap : Nat) (zs : List Int) (w : World) (ht : IsT w w.heap.size t A c) (hz : zs.length = n) (hn : n ≤ maxLen) (hr : Rd .i64 w w.heap.size A1 zs) :
    Calls Try.prog 11 #[.agg #[.int .i64 t.k, .int .i64 t.i, .slice A t.ks.length c], .slice A1 n cap] w (AnsPost w (atN t zs)) := by
  obtain ⟨e0, e1, hb0⟩ := two_boxes0 w (.int .i64 t.k) (.int .i64 t.i) (.slice A t.ks.length c) (.int .i64 0) (.int .i64 0) (.slice none 0 0)
  have HT0 := Lib.hid ht
  have HT := Lib.hid (ht.keep hb0 hb0.size)
  have HR := Lib.hid hr
  have HZ := Lib.hid hz
  have E0 := Lib.hid e0
  have E1 := Lib.hid e1
  have HB0 := Lib.hid hb0
  have hn' : n ≤ 9223372036854775807 := by unfold maxLen at hn; omega
  clear ht hr e0 e1 hb0 hz
  go_enter Try.func11, Try.ntmps11
  go_wp2_with fail
  refine (rright_any t A c _ (by exact HT.out)).mono ?_
  rintro e w1 ⟨rfl, hb1⟩
  have X0 := Lib.hid (E0.out.keep hb1 E0.out.lt)
  have X1 := Lib.hid (E1.out.keep hb1 E1.out.lt)
  obtain ⟨x0, x1, x2⟩ := X0.out.cells
  have hbr : Below w.heap.size w w1 := HB0.out.trans (hb1.mono HB0.out.size)
  have HT1 := Lib.hid (HT.out.keep hb1 hb1.size)
  obtain ⟨r, hrr⟩ : ∃ r, r = rightN t := ⟨_, rfl⟩
  have RR := Lib.hid hrr
  rw [← hrr]
  clear hb1 hrr
  by_cases h0 : r = 0
  · have R0 := Lib.hid (show rightN t = 0 by rw [← RR.out]; exact h0)
    subst h0
    have AT := Lib.hid (show atN t zs = match partAt t zs with | none => (zeroT, 24) | some q => (q, 0) by unfold atN; rw [if_pos R0.out]; cases partAt t zs <;> rfl)
    have HBR := Lib.hid hbr
    clear hbr
    go_wp2_with fail
    go_loopw [16] (fun i wr => ∃ (k : Nat) (q : Tr) (A' : Option Addr) (c' : Nat), k ≤ n ∧ i = .int .i64 (k : Int) ∧ partAt t zs = partAt q (zs.drop k) ∧ IsT w w.heap.size q A' c' ∧ Box3 wr w.heap.size (.int .i64 q.k) (.int .i64 q.i) (.slice A' q.ks.length c') ∧ Box3 wr (w.heap.size + 1) (.int .i64 0) (.int .i64 0) (.slice none 0 0) ∧ Below w.heap.size w wr) (fun i _ => n - (intOf i).toNat)
    case atStart => exact ⟨0, t, A, c, Nat.zero_le _, rfl, rfl, HT0.out, X0.out, X1.out, HBR.out⟩
    case round =>
      obtain ⟨k, q, A', c', hk, rfl, hP, hq, hb1, hb2, hbr⟩ := hrel
      have HP := Lib.hid hP
      have HQ := Lib.hid hq
      have HB1 := Lib.hid hb1
      have HB2 := Lib.hid hb2
      have hl := hq.len
      clear x0 x1 x2
      obtain ⟨x0, x1, x2⟩ := hb1.cells
      have g0 := hb1.frozen 0
      have g1 := hb1.frozen 1
      have g2 := hb1.frozen 2
      obtain ⟨y0, y1, y2⟩ := hb2.cells
      have f0 := hb2.frozen 0
      have f1 := hb2.frozen 1
      have f2 := hb2.frozen 2
      clear hP hq hb1 hb2
      by_cases hlt : k < n
      · obtain ⟨ad, z, rfl, had, hc0, hd⟩ := HR.out.int k (by rw [HZ.out]; exact hlt)
        have hc1 := (hbr.cell (p := ad.add k) (by rw [add_block]; exact had)).trans hc0
        have HD := Lib.hid hd
        clear hc0 hd
        by_cases hz0 : z < 0
        · have F := Lib.hid (show atN t zs = (zeroT, 24) by rw [AT.out, HP.out, HD.out, partAt_out _ _ _ (by omega)])
          go_wp2_with fail
          exact bodyPost_ret (v := .tuple #[.agg #[.int .i64 0, .int .i64 0, .slice none 0 0], .int .i64 24]) (by simp [results, Try.results11, go_sem, y0, y1, y2]) rfl (ans_zero F.out hbr (by omega))
        · obtain ⟨m, rfl⟩ := Int.eq_ofNat_of_zero_le (show 0 ≤ z by omega)
          by_cases hm : m < q.ks.length
          · obtain ⟨b, o, A2, c2, rfl, hltb, p0, p1, p2, hkid⟩ := HQ.out.kid m hm
            have NP := Lib.hid (show partAt t zs = partAt q.ks[m] (zs.drop (k + 1)) by rw [HP.out, HD.out, partAt_in q (m : Int) _ (by omega) (by simpa using hm)]; rfl)
            obtain ⟨q', hq'⟩ : ∃ q', q' = q.ks[m] := ⟨_, rfl⟩
            rw [← hq'] at p0 p1 p2 hkid NP
            clear hq'
            have d0 := (hbr.cell hltb).trans p0
            have d1 := (hbr.cell hltb).trans p1
            have d2 := (hbr.cell hltb).trans p2
            have hm' : ¬ (q.ks.length : Int) ≤ (m : Int) := by omega
            have hm2 : (m : Int) < (q.ks.length : Int) := by omega
            have HKK := Lib.hid hkid
            have NB1 := Lib.hid (HB1.out.set3 (.int .i64 q'.k) (.int .i64 q'.i) (.slice A2 q'.ks.length c2))
            have NB2 := Lib.hid (HB2.out.set3_other (b' := w.heap.size) (by omega) (.int .i64 q'.k) (.int .i64 q'.i) (.slice A2 q'.ks.length c2))
            have NBR := Lib.hid (below_set3 hbr (.int .i64 q'.k) (.int .i64 q'.i) (.slice A2 q'.ks.length c2) (Nat.le_refl _))
            clear p0 p1 p2 hkid
            go_wp2_with fail
            go_roundw
            case rel => exact ⟨k + 1, q', A2, c2, by omega, by go_num, NP.out, HKK.out, NB1.out, NB2.out, NBR.out⟩
            case measure => simp [intOf]; omega
          · have F := Lib.hid (show atN t zs = (zeroT, 24) by rw [AT.out, HP.out, HD.out, partAt_out _ _ _ (by simp; omega)])
            have hm' : (q.ks.length : Int) ≤ (m : Int) := by omega
            go_wp2_with fail
            exact bodyPost_ret (v := .tuple #[.agg #[.int .i64 0, .int .i64 0, .slice none 0 0], .int .i64 24]) (by simp [results, Try.results11, go_sem, y0, y1, y2]) rfl (ans_zero F.out hbr (by omega))
      · obtain rfl : k = n := by omega
        have F := Lib.hid (show atN t zs = (q, 0) by rw [AT.out, HP.out, List.drop_eq_nil_of_le (by rw [HZ.out]; exact Nat.le_refl _), partAt_nil])
        have hsw := HB2.out.lt
        go_wp2_with fail
        refine (copy_any q.sz q A' c' _ (Nat.le_refl _) (by exact HQ.out.keep hbr hbr.size)).mono ?_
        rintro e w4 ⟨A3, c3, rfl, ho, hb4⟩
        have X4 := Lib.hid (HB2.out.keep hb4 HB2.out.lt)
        clear y0 y1 y2 f0 f1 f2
        obtain ⟨y0, y1, y2⟩ := X4.out.cells
        have f0 := X4.out.frozen 0
        have f1 := X4.out.frozen 1
        have f2 := X4.out.frozen 2
        have BR4 := Lib.hid (hbr.trans (hb4.mono hbr.size))
        have HO := Lib.hid ho
        clear ho hb4
        go_wp2_with fail
        exact bodyPost_ret (v := .tuple #[.agg #[.int .i64 q.k, .int .i64 q.i, .slice A3 q.ks.length c3], .int .i64 0]) (by simp [results, Try.results11, go_sem, y0, y1, y2]) rfl (ans_tree F.out BR4.out HO.out (by omega) hsw)
  · have D := Lib.hid (show atN t zs = (zeroT, r) by unfold atN; rw [if_neg (by rw [← RR.out]; exact h0), RR.out])
    have h1 : ((r : Int) != 0) = true := by rw [bne_iff_ne]; omega
    go_wp2_with fail
    refine (rright_any t A c _ (by exact HT1.out)).mono ?_
    rintro e w2 ⟨rfl, hb2⟩
    rw [← RR.out]
    have X2 := Lib.hid (X1.out.keep hb2 X1.out.lt)
    obtain ⟨y0, y1, y2⟩ := X2.out.cells
    have f0 := X2.out.frozen 0
    have f1 := X2.out.frozen 1
    have f2 := X2.out.frozen 2
    have BR := Lib.hid (hbr.trans (hb2.mono hbr.size))
    clear hb2
    go_wp2_with fail
    exact bodyPost_ret (v := .tuple #[.agg #[.int .i64 0, .int .i64 0, .slice none 0 0], .int .i64 (r : Int)]) (by simp [results, Try.results11, go_sem, y0, y1, y2]) rfl (ans_zero D.out BR.out (by omega))
end Go.Proofs.Ytdobpdedphkglaa
