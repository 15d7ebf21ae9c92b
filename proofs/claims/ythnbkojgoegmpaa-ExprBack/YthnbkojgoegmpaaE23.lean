/- Decode of package expr, and the document's, walked. -/
import Derived.Test.YthnbkojgoegmpaaE22
namespace Go.Proofs.Ythnbkojgoegmpaa
open Go.RowKit
set_option maxRecDepth 100000 in
set_option maxHeartbeats 4000000 in
theorem decode_any (A : Option Addr) (n cap : Nat) (bs : List Nat) (w : World) (hl : bs.length = n) (hb : Bytes bs) (hR : Rd .u8 w w.heap.size A (bcast bs)) (hn : n ≤ maxLen) (hc : n ≤ cap) :
    Calls Try.prog 30 #[.slice A n cap] w (DecPost w bs) := by
  have e0 := Box3.new w (.int .i64 0) (.int .i64 0) (.slice none 0 0)
  have hb1 : Below w.heap.size w (w.alloc (.cells #[.int .i64 0, .int .i64 0, .slice none 0 0] 24)) := (Below.refl _ _).alloc (Nat.le_refl _) _
  have RH := Lib.hid (readHeads_any A n cap bs (w.alloc (.cells #[.int .i64 0, .int .i64 0, .slice none 0 0] 24)) hl hb ((hR.keep hb1 (Nat.le_refl _)).keep (Below.refl _ _) hb1.size) hn hc)
  have E0 := Lib.hid e0
  have HB1 := Lib.hid hb1
  have L := Lib.hid hl
  clear e0 hb1 hR hl
  go_enter Try.func30, Try.ntmps30
  go_wp2_with fail
  refine RH.out.mono ?_
  rintro e w1 ⟨hb2, hpost⟩
  have hs1 := hb2.size
  simp only [World.size_alloc] at hs1
  have X1 := Lib.hid (E0.out.keep hb2 E0.out.lt)
  obtain ⟨y0, y1, y2⟩ := X1.out.cells
  have f0 := X1.out.frozen 0
  have f1 := X1.out.frozen 1
  have f2 := X1.out.frozen 2
  have hbr : Below w.heap.size w w1 := HB1.out.trans (hb2.mono HB1.out.size)
  clear hb2
  cases hrd : rdH bs 1000 1 0 with
  | error f =>
    rw [hrd] at hpost
    obtain ⟨hf, rfl⟩ := hpost
    have D := Lib.hid (show DecR bs zeroT f by unfold DecR; rw [hrd]; exact ⟨rfl, rfl⟩)
    have hf1 : ((f : Int) != 0) = true := by rw [bne_iff_ne]; omega
    clear hrd
    go_wp2_with fail
    exact bodyPost_ret (v := .tuple #[.agg #[.int .i64 0, .int .i64 0, .slice none 0 0], .int .i64 (f : Int)]) (by simp [results, Try.results30, go_sem, y0, y1, y2]) rfl (dec_zero D.out hbr)
  | ok res =>
    obtain ⟨hs, q⟩ := res
    rw [hrd] at hpost
    obtain ⟨v, rfl, ho⟩ := hpost
    obtain ⟨t0, hh, hH, hsz, hqn, henc⟩ := rdH_one hb hrd
    rw [L.out] at hqn
    have D := Lib.hid (show ∀ t f, ((q < bs.length ∧ t = zeroT ∧ f = 23) ∨ (q = bs.length ∧ ∃ t0 : Tr, t0.hds = hs ∧ t0.heads ∧ ((rightN t0 ≠ 0 ∧ t = zeroT ∧ f = rightN t0) ∨ (rightN t0 = 0 ∧ t = t0 ∧ f = 0)))) → DecR bs t f by intro t f h; unfold DecR; rw [hrd]; exact h)
    have hln : 0 < hs.length := by rw [← hh, hds_len]; exact sz_pos t0
    obtain ⟨g, cp, rfl, hHR, hcp, hcm⟩ := hdR_own ho hln
    have HHR := Lib.hid hHR
    have HH := Lib.hid hh
    have HHd := Lib.hid hH
    clear hrd ho hHR hh hH henc
    by_cases hq : q < n
    · have hq' : (q : Int) < (n : Int) := by omega
      have D2 := Lib.hid (D.out zeroT 23 (.inl ⟨by rw [L.out]; exact hq, rfl, rfl⟩))
      go_wp2_with fail
      exact bodyPost_ret (v := .tuple #[.agg #[.int .i64 0, .int .i64 0, .slice none 0 0], .int .i64 23]) (by simp [results, Try.results30, go_sem, y0, y1, y2]) rfl (dec_zero D2.out hbr)
    · have hq' : ¬ (q : Int) < (n : Int) := by omega
      have hqe : q = bs.length := by rw [L.out]; omega
      have D3 := Lib.hid (fun t f h => D.out t f (.inr ⟨hqe, t0, HH.out, HHd.out, h⟩))
      clear hqe
      go_wp2_with fail
      refine (build_any 1000 t0 [] (some ⟨g, 0, none⟩) hs.length cp w1.heap.size w1 hsz (by rw [List.append_nil, HH.out]) hcp hcm HHd.out (Nat.le_refl _) (by rw [List.append_nil, HH.out]; exact HHR.out)).mono ?_
      rintro e w2 ⟨A3, c3, A4, cap4, rfl, ho, _, _, _, hb3⟩
      have hs2 := hb3.size
      have FT := Lib.hid (heads_fit t0 HHd.out)
      have hb4 : Below w2.heap.size w2 (w2.alloc (.cells #[.int .i64 t0.k, .int .i64 t0.i, .slice A3 t0.ks.length c3] 24)) := (Below.refl _ _).alloc (Nat.le_refl _) _
      have IT := Lib.hid ((ho.isT _ (Nat.le_refl _) FT.out).keep hb4 hb4.size)
      have HO := Lib.hid ho
      have HB3 := Lib.hid hb3
      have HB4 := Lib.hid hb4
      have KB := Lib.hid (Box3.new w2 (.int .i64 t0.k) (.int .i64 t0.i) (.slice A3 t0.ks.length c3))
      clear ho hb3 hb4 y0 y1 y2 f0 f1 f2
      go_wp2_with fail
      refine (right_any t0 A3 c3 _ (by exact IT.out)).mono ?_
      rintro e w3 ⟨rfl, hb5⟩
      have X3 := Lib.hid (((X1.out.keep HB3.out X1.out.lt).keep HB4.out (by have := X1.out.lt; omega)).keep hb5 (by have := X1.out.lt; simp; omega))
      have K3 := Lib.hid (KB.out.keep hb5 (by simp))
      obtain ⟨y0, y1, y2⟩ := X3.out.cells
      have f0 := X3.out.frozen 0
      have f1 := X3.out.frozen 1
      have f2 := X3.out.frozen 2
      obtain ⟨x0, x1, x2⟩ := K3.out.cells
      have hbr3 : Below w.heap.size w w3 := ((hbr.trans (HB3.out.mono hbr.size)).trans (HB4.out.mono (by have := hbr.size; omega))).trans (hb5.mono (by have := hbr.size; simp; omega))
      have O3 := Lib.hid ((OwnT.same (w' := w3) _ (fun k _ k2 => (hb5.block k (by simp; omega)).trans (HB4.out.block k k2)) HO.out).widen (hi' := w3.heap.size) (by have := hb5.size; simp at this; omega))
      obtain ⟨rt, hrt⟩ : ∃ rt, rt = rightN t0 := ⟨_, rfl⟩
      rw [← hrt]
      by_cases h0 : rt = 0
      · subst h0
        have D4 := Lib.hid (D3.out t0 0 (.inr ⟨hrt.symm, rfl, rfl⟩))
        clear hrt hb5
        go_wp2_with fail
        exact bodyPost_ret (v := .tuple #[.agg #[.int .i64 t0.k, .int .i64 t0.i, .slice A3 t0.ks.length c3], .int .i64 0]) (by simp [results, Try.results30, go_sem, y0, y1, y2]) rfl (dec_tree D4.out hbr3 O3.out (by omega))
      · have D4 := Lib.hid (D3.out zeroT rt (.inl ⟨by rw [← hrt]; exact h0, rfl, hrt⟩))
        have h1 : ((rt : Int) != 0) = true := by rw [bne_iff_ne]; omega
        clear hrt hb5
        go_wp2_with fail
        exact bodyPost_ret (v := .tuple #[.agg #[.int .i64 0, .int .i64 0, .slice none 0 0], .int .i64 (rt : Int)]) (by simp [results, Try.results30, go_sem, y0, y1, y2]) rfl (dec_zero D4.out hbr3)
set_option maxRecDepth 100000 in
set_option maxHeartbeats 4000000 in
theorem rdecode_any (A : Option Addr) (n cap : Nat) (bs : List Nat) (w : World) (hl : bs.length = n) (hb : Bytes bs) (hR : Rd .u8 w w.heap.size A (bcast bs)) (hn : n ≤ maxLen) (hc : n ≤ cap) :
    Calls Try.prog 31 #[.slice A n cap] w (DecPost w bs) := by
  have e0 := Box3.new w (.int .i64 0) (.int .i64 0) (.slice none 0 0)
  have hb1 : Below w.heap.size w (w.alloc (.cells #[.int .i64 0, .int .i64 0, .slice none 0 0] 24)) := (Below.refl _ _).alloc (Nat.le_refl _) _
  have RH := Lib.hid (read_any A n cap bs w.heap.size hl hb hn hc 1000 1000 0 0 (w.alloc (.cells #[.int .i64 0, .int .i64 0, .slice none 0 0] 24)) (Nat.le_refl _) rfl (Nat.zero_le _) hb1.size (hR.keep hb1 (Nat.le_refl _)))
  have E0 := Lib.hid e0
  have HB1 := Lib.hid hb1
  have L := Lib.hid hl
  clear e0 hb1 hR hl
  go_enter Try.func31, Try.ntmps31
  go_wp2_with fail
  refine RH.out.mono ?_
  rintro e w1 ⟨hb2, hpost⟩
  have hs1 := hb2.size
  simp only [World.size_alloc] at hs1
  have X1 := Lib.hid (E0.out.keep hb2 E0.out.lt)
  have hbr : Below w.heap.size w w1 := HB1.out.trans (hb2.mono HB1.out.size)
  have HBA := Lib.hid (fun o => (Below.refl w1.heap.size w1).alloc (Nat.le_refl _) o)
  have XA := Lib.hid (fun o => X1.out.keep (HBA.out o) X1.out.lt)
  have y0 := fun o => (XA.out o).cells.1
  have y1 := fun o => (XA.out o).cells.2.1
  have y2 := fun o => (XA.out o).cells.2.2
  have f0 := fun o => (XA.out o).frozen 0
  have f1 := fun o => (XA.out o).frozen 1
  have f2 := fun o => (XA.out o).frozen 2
  have BRA := Lib.hid (fun o => hbr.alloc hbr.size o)
  clear hb2
  cases hrd : rdH bs 1000 1 0 with
  | error f =>
    rw [hrd] at hpost
    obtain ⟨hf, a2, m2, rfl⟩ := hpost
    have D := Lib.hid (show DecR bs zeroT f by unfold DecR; rw [hrd]; exact ⟨rfl, rfl⟩)
    have hf1 : ((f : Int) != 0) = true := by rw [bne_iff_ne]; omega
    clear hrd
    go_wp2_with fail
    exact bodyPost_ret (v := .tuple #[.agg #[.int .i64 0, .int .i64 0, .slice none 0 0], .int .i64 (f : Int)]) (by simp [results, Try.results31, go_sem, y0, y1, y2]) rfl (dec_zero D.out (BRA.out _))
  | ok res =>
    obtain ⟨hs, q⟩ := res
    rw [hrd] at hpost
    obtain ⟨t0, A3, c3, hh, ho, rfl⟩ := hpost
    obtain ⟨t1, hh1, hH1, hsz, hqn, henc⟩ := rdH_one hb hrd
    obtain rfl : t1 = t0 := hds_inj _ _ (hh1.trans hh.symm)
    rw [L.out] at hqn
    have D := Lib.hid (show ∀ t f, ((q < bs.length ∧ t = zeroT ∧ f = 23) ∨ (q = bs.length ∧ ∃ t0 : Tr, t0.hds = hs ∧ t0.heads ∧ ((rightN t0 ≠ 0 ∧ t = zeroT ∧ f = rightN t0) ∨ (rightN t0 = 0 ∧ t = t0 ∧ f = 0)))) → DecR bs t f by intro t f h; unfold DecR; rw [hrd]; exact h)
    have HH := Lib.hid hh
    have HHd := Lib.hid hH1
    have FT := Lib.hid (heads_fit t1 HHd.out)
    have HO := Lib.hid ho
    clear hrd ho hh hH1 henc hh1
    by_cases hq : q < n
    · have hq' : (q : Int) < (n : Int) := by omega
      have D2 := Lib.hid (D.out zeroT 23 (.inl ⟨by rw [L.out]; exact hq, rfl, rfl⟩))
      go_wp2_with fail
      exact bodyPost_ret (v := .tuple #[.agg #[.int .i64 0, .int .i64 0, .slice none 0 0], .int .i64 23]) (by simp [results, Try.results31, go_sem, y0, y1, y2]) rfl (dec_zero D2.out (BRA.out _))
    · have hq' : ¬ (q : Int) < (n : Int) := by omega
      have hqe : q = bs.length := by rw [L.out]; omega
      have D3 := Lib.hid (fun t f h => D.out t f (.inr ⟨hqe, t1, HH.out, HHd.out, h⟩))
      have IT := Lib.hid (fun o => (HO.out.isT _ (Nat.le_refl _) FT.out).keep (HBA.out o) (HBA.out o).size)
      have KB := Lib.hid (Box3.new w1 (.int .i64 t1.k) (.int .i64 t1.i) (.slice A3 t1.ks.length c3))
      clear hqe y0 y1 y2 f0 f1 f2
      go_wp2_with fail
      refine (rright_any t1 A3 c3 _ (by exact IT.out _)).mono ?_
      rintro e w3 ⟨rfl, hb5⟩
      have X3 := Lib.hid ((XA.out _).keep hb5 (XA.out _).lt)
      have K3 := Lib.hid (KB.out.keep hb5 (by simp))
      obtain ⟨y0, y1, y2⟩ := X3.out.cells
      have f0 := X3.out.frozen 0
      have f1 := X3.out.frozen 1
      have f2 := X3.out.frozen 2
      obtain ⟨x0, x1, x2⟩ := K3.out.cells
      have hbr3 : Below w.heap.size w w3 := (BRA.out _).trans (hb5.mono (BRA.out _).size)
      have O3 := Lib.hid ((OwnT.same (w' := w3) _ (fun k _ k2 => (hb5.block k (by simp; omega)).trans ((HBA.out _).block k k2)) HO.out).widen (hi' := w3.heap.size) (by have := hb5.size; simp at this; omega))
      have IT3 := Lib.hid ((IT.out _).keep hb5 hb5.size)
      obtain ⟨rt, hrt⟩ : ∃ rt, rt = rightN t1 := ⟨_, rfl⟩
      rw [← hrt]
      by_cases h0 : rt = 0
      · subst h0
        have D4 := Lib.hid (D3.out t1 0 (.inr ⟨hrt.symm, rfl, rfl⟩))
        clear hrt hb5
        go_wp2_with fail
        exact bodyPost_ret (v := .tuple #[.agg #[.int .i64 t1.k, .int .i64 t1.i, .slice A3 t1.ks.length c3], .int .i64 0]) (by simp [results, Try.results31, go_sem, y0, y1, y2]) rfl (dec_tree D4.out hbr3 O3.out (by simp))
      · have D4 := Lib.hid (D3.out zeroT rt (.inl ⟨by rw [← hrt]; exact h0, rfl, hrt⟩))
        have h1 : ((rt : Int) != 0) = true := by rw [bne_iff_ne]; omega
        have HRT := Lib.hid hrt
        clear hrt hb5 y0 y1 y2 f0 f1 f2
        go_wp2_with fail
        refine (rright_any t1 A3 c3 _ (by exact IT3.out)).mono ?_
        rintro e w4 ⟨rfl, hb6⟩
        have X4 := Lib.hid (X3.out.keep hb6 X3.out.lt)
        obtain ⟨y0, y1, y2⟩ := X4.out.cells
        have f0 := X4.out.frozen 0
        have f1 := X4.out.frozen 1
        have f2 := X4.out.frozen 2
        have hbr4 : Below w.heap.size w w4 := hbr3.trans (hb6.mono hbr3.size)
        rw [← HRT.out]
        clear hb6
        go_wp2_with fail
        exact bodyPost_ret (v := .tuple #[.agg #[.int .i64 0, .int .i64 0, .slice none 0 0], .int .i64 (rt : Int)]) (by simp [results, Try.results31, go_sem, y0, y1, y2]) rfl (dec_zero D4.out hbr4)
end Go.Proofs.Ythnbkojgoegmpaa
