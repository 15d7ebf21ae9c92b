/- The law InternFull, walked. -/
import Derived.Test.YtfdggmmibgbfnaaI22
import Derived.BigQuiet
import Derived.Test.YtfdggmmibgbfnaaE3
namespace Go.Proofs.Ytfdggmmibgbfnaa
open Go.RowKit
set_option linter.unusedVariables false
set_option linter.unusedSimpArgs false
/-- a row of two expressions, made of two boxes -/
theorem row1_isT {W : World} {a : Tr} {A : Option Addr} {c : Nat} (ha : IsT W W.heap.size a A c) : IsT (W.alloc (.cells #[.int .i64 a.k, .int .i64 a.i, .slice A a.ks.length c] 24)) (W.alloc (.cells #[.int .i64 a.k, .int .i64 a.i, .slice A a.ks.length c] 24)).heap.size (.node 0 0 [a]) (some ⟨W.heap.size, 0, none⟩) 1 := by
  have hb := below_al W (.cells #[.int .i64 a.k, .int .i64 a.i, .slice A a.ks.length c] 24)
  have h1 := heap_alloc_last W (.cells #[.int .i64 a.k, .int .i64 a.i, .slice A a.ks.length c] 24)
  refine IsT.mk (Nat.le_refl _) (by show Cap 1; unfold Cap; omega) (fun m hm => ?_)
  have hm' : m < 1 := hm
  obtain rfl : m = 0 := by omega
  exact ⟨W.heap.size, 0, A, c, rfl, by simp, by rw [cell_of_row _ _ _ _ _ _ h1]; rfl, by rw [cell_of_row _ _ _ _ _ _ h1]; rfl, by rw [cell_of_row _ _ _ _ _ _ h1]; rfl, ha.keep hb hb.size⟩
theorem row2_isT {W : World} {a b : Tr} {A A' : Option Addr} {c c' : Nat} (ha : IsT W W.heap.size a A c) (hb' : IsT W W.heap.size b A' c') : IsT (W.alloc (.cells #[.int .i64 a.k, .int .i64 a.i, .slice A a.ks.length c, .int .i64 b.k, .int .i64 b.i, .slice A' b.ks.length c'] 24)) (W.alloc (.cells #[.int .i64 a.k, .int .i64 a.i, .slice A a.ks.length c, .int .i64 b.k, .int .i64 b.i, .slice A' b.ks.length c'] 24)).heap.size (.node 0 0 [a, b]) (some ⟨W.heap.size, 0, none⟩) 2 := by
  have hb := below_al W (.cells #[.int .i64 a.k, .int .i64 a.i, .slice A a.ks.length c, .int .i64 b.k, .int .i64 b.i, .slice A' b.ks.length c'] 24)
  have h1 := heap_alloc_last W (.cells #[.int .i64 a.k, .int .i64 a.i, .slice A a.ks.length c, .int .i64 b.k, .int .i64 b.i, .slice A' b.ks.length c'] 24)
  refine IsT.mk (Nat.le_refl _) (by show Cap 2; unfold Cap; omega) (fun m hm => ?_)
  have hm' : m < 2 := hm
  obtain rfl | rfl : m = 0 ∨ m = 1 := by omega
  · exact ⟨W.heap.size, 0, A, c, rfl, by simp, by rw [cell_of_row _ _ _ _ _ _ h1]; rfl, by rw [cell_of_row _ _ _ _ _ _ h1]; rfl, by rw [cell_of_row _ _ _ _ _ _ h1]; rfl, ha.keep hb hb.size⟩
  · exact ⟨W.heap.size, 0, A', c', rfl, by simp, by rw [cell_of_row _ _ _ _ _ _ h1]; rfl, by rw [cell_of_row _ _ _ _ _ _ h1]; rfl, by rw [cell_of_row _ _ _ _ _ _ h1]; rfl, hb'.keep hb hb.size⟩
set_option maxHeartbeats 8000000 in
set_option maxRecDepth 100000 in
theorem full_law (room : Int) (a b : Tr) (A A' : Option Addr) (c c' : Nat) (w : World) (ha : IsT w w.heap.size a A c) (hb : IsT w w.heap.size b A' c') :
    Calls Try.prog 11 #[.int .i64 room, .agg #[.int .i64 a.k, .int .i64 a.i, .slice A a.ks.length c], .agg #[.int .i64 b.k, .int .i64 b.i, .slice A' b.ks.length c']] w fun e w' => e = .returned (.bool true) ∧ Below w.heap.size w w' := by
  have T0 := Lib.hid (two_start ha hb)
  have hz0 : ((w.alloc (.cells #[.int .i64 a.k, .int .i64 a.i, .slice A a.ks.length c] 24)).alloc (.cells #[.int .i64 b.k, .int .i64 b.i, .slice A' b.ks.length c'] 24)).heap.size = w.heap.size + 2 := by simp
  clear ha hb
  by_cases h0 : room < 0
  · have b0 := T0.out.below
    replace b0 := Lib.hid b0
    go_enter Try.func11, Try.ntmps11
    go_wp2_with fail
    go_ret
    exact ⟨rfl, b0.out⟩
  · by_cases h1 : 200 < room
    · have b0 := Lib.hid T0.out.below
      go_enter Try.func11, Try.ntmps11
      go_wp2_with fail
      go_ret
      exact ⟨rfl, b0.out⟩
    · obtain ⟨r, rfl⟩ : ∃ r : Nat, room = (r : Int) := ⟨room.toNat, by omega⟩
      have hr200 : r ≤ 200 := by omega
      have b0 := T0.out.b0
      have b1 := T0.out.b1
      have b2 := T0.out.b2
      go_enter Try.func11, Try.ntmps11
      go_wp2_with fail
      refine (rright_any a A c _ (by exact T0.out.ta)).mono ?_
      rintro e w2 ⟨rfl, hb2⟩
      have T2 := Lib.hid (T0.out.keep hb2)
      have L2 := Lib.hid (show Below (w.heap.size + 2) ((w.alloc (.cells #[.int .i64 a.k, .int .i64 a.i, .slice A a.ks.length c] 24)).alloc (.cells #[.int .i64 b.k, .int .i64 b.i, .slice A' b.ks.length c'] 24)) w2 by rw [hz0] at hb2; exact hb2)
      clear hb2 b0 b1 b2
      by_cases hra : rightN a = 0
      · have ra : ((rightN a : Int) != 0) = false := by simp [hra]
        have RA := Lib.hid hra
        have d0 := T2.out.d0
        have d1 := T2.out.d1
        have d2 := T2.out.d2
        clear hra
        go_wp2_with fail
        refine (rright_any b A' c' _ (by exact T2.out.tb)).mono ?_
        rintro e w3 ⟨rfl, hb3⟩
        have T3 := Lib.hid (T2.out.keep hb3)
        clear hb3 d0 d1 d2
        by_cases hrb : rightN b = 0
        · have rb : ((rightN b : Int) != 0) = false := by simp [hrb]
          have RB := Lib.hid hrb
          clear hrb
          have FM := Lib.hid (full_math (room := r) RA.out RB.out)
          have SZA := Lib.hid (right_shp' RA.out).2.1
          have SZB := Lib.hid (right_shp' RB.out).2.1
          have TAa := Lib.hid T3.out.ta
          have TBb := Lib.hid T3.out.tb
          have BT := Lib.hid (fun wX (h : Below w3.heap.size w3 wX) => T3.out.keep h)
          clear T0 T2 L2
          go_wp2_with fail
          refine (new_any r (by omega) w3).mono ?_
          rintro e w4 ⟨rfl, hT4, hb4⟩
          have Tb4 := Lib.hid hT4
          have X4 := Lib.hid hb4
          have hz4 := hb4.size
          obtain ⟨y0, y1, y2⟩ := And.intro (BT.out _ hb4).b0 (And.intro (BT.out _ hb4).b1 (BT.out _ hb4).b2)
          have PUTA := Lib.hid (put_right (tl := w3.heap.size) (Nat.le_refl _) hz4 hT4 a A c (IsT.keep hb4 (Nat.le_refl _) a TAa.out) RA.out)
          obtain ⟨La, hLa⟩ : ∃ La, La = putL r a [] := ⟨_, rfl⟩
          obtain ⟨na, hna⟩ : ∃ na, na = addN r a [] := ⟨_, rfl⟩
          rw [← hLa, ← hna] at PUTA FM
          have HNA := Lib.hid hna
          clear hT4 hb4 hLa hna
          go_wp2_with fail
          refine PUTA.out.mono ?_
          rintro e w5 ⟨rfl, A5, c5, hA5⟩
          have Tb5 := Lib.hid hA5.tab
          have X5 := Lib.hid (X4.out.trans hA5.bel)
          have hz5 := hA5.kp.size
          clear hA5 PUTA y0 y1 y2
          go_wp2_with fail
          refine (len_any Tb5.out).mono ?_
          rintro e w9 ⟨rfl, rfl⟩
          obtain ⟨y0, y1, y2⟩ := And.intro (BT.out _ X5.out).d0 (And.intro (BT.out _ X5.out).d1 (BT.out _ X5.out).d2)
          have PUTB := Lib.hid (put_right (tl := w3.heap.size) (Nat.le_refl _) (by omega) Tb5.out b A' c' (IsT.keep X5.out (Nat.le_refl _) b TBb.out) RB.out)
          obtain ⟨Lb, hLb⟩ : ∃ Lb, Lb = putL r b La := ⟨_, rfl⟩
          obtain ⟨nb, hnb⟩ : ∃ nb, nb = addN r b La := ⟨_, rfl⟩
          rw [← hLb, ← hnb] at PUTB FM
          have LBN := Lib.hid (show nb = 0 → Lb = La from fun e => by rw [hLb]; unfold putL; rw [← hnb, if_pos e])
          clear hLb hnb
          go_wp2_with fail
          refine PUTB.out.mono ?_
          rintro e w6 ⟨rfl, A6, c6, hA6⟩
          have Tb6 := Lib.hid hA6.tab
          have X6 := Lib.hid (X5.out.trans hA6.bel)
          have hz6 := hA6.kp.size
          clear hA6 PUTB y0 y1 y2
          have TW6 := Lib.hid (BT.out _ X6.out)
          obtain ⟨y0, y1, y2⟩ := And.intro TW6.out.b0 (And.intro TW6.out.b1 TW6.out.b2)
          go_wp2_with fail
          refine (distinct_any [a] _ 1 _ (by simp) (by simpa using SZA.out) (by exact row1_isT TW6.out.ta)).mono ?_
          rintro e w7 ⟨rfl, hb7⟩
          have Y7 := Lib.hid (show Below w6.heap.size w6 w7 from (below_al w6 _).trans (hb7.mono (by simp)))
          have X7 := Lib.hid (X6.out.trans (Y7.out.mono (by omega)))
          have Tb7 := Lib.hid (Tb6.out.keep Y7.out)
          have hz7 := Y7.out.size
          have TW7 := Lib.hid (BT.out _ X7.out)
          clear hb7 y0 y1 y2
          obtain ⟨y0, y1, y2⟩ := And.intro TW7.out.b0 (And.intro TW7.out.b1 TW7.out.b2)
          obtain ⟨z0, z1, z2⟩ := And.intro TW7.out.d0 (And.intro TW7.out.d1 TW7.out.d2)
          go_wp2_with fail
          refine (distinct_any [a, b] _ 2 _ (by simp) (by intro t ht; simp at ht; rcases ht with rfl | rfl; exact SZA.out; exact SZB.out) (by exact row2_isT TW7.out.ta TW7.out.tb)).mono ?_
          rintro e w8 ⟨rfl, hb8⟩
          have Y8 := Lib.hid (show Below w7.heap.size w7 w8 from (below_al w7 _).trans (hb8.mono (by simp)))
          have X8 := Lib.hid (X7.out.trans (Y8.out.mono (by omega)))
          have Tb8 := Lib.hid (Tb7.out.keep Y8.out)
          have hz8 := Y8.out.size
          have TW8 := Lib.hid (BT.out _ X8.out)
          clear hb8 y0 y1 y2 z0 z1 z2
          obtain ⟨da, hda⟩ : ∃ da, da = (distL [a]).length := ⟨_, rfl⟩
          obtain ⟨dab, hdab⟩ : ∃ dab, dab = (distL [a, b]).length := ⟨_, rfl⟩
          obtain ⟨db, hdb⟩ : ∃ db, db = (distL [b]).length := ⟨_, rfl⟩
          rw [← hda, ← hdab, ← hdb] at FM
          rw [← hda, ← hdab]
          have HDB := Lib.hid hdb
          clear hda hdab hdb
          have EA := Lib.hid (show (na = 0 ∧ errP na = 60 ∧ ¬ da ≤ r) ∨ (na ≠ 0 ∧ errP na = 0 ∧ da ≤ r) from by
            by_cases h : na = 0
            · exact .inl ⟨h, by unfold errP; rw [if_pos h], FM.out.1.1 h⟩
            · exact .inr ⟨h, by unfold errP; rw [if_neg h], Classical.byContradiction fun e => h (FM.out.1.2 e)⟩)
          go_upto_if 60 with fail
          go_cut [14] (fun v wc => v = .int .i64 ((if na = 0 then db else dab : Nat) : Int) ∧ Below w8.heap.size w8 wc)
          case first =>
            rcases EA.out with ⟨e1, e2, e3⟩ | ⟨e1, e2, e3⟩
            · have ne : (errP na != 0) = true := by rw [e2]; rfl
              have E1 := Lib.hid e1
              obtain ⟨z0, z1, z2⟩ := And.intro TW8.out.d0 (And.intro TW8.out.d1 TW8.out.d2)
              clear e1 e2 e3
              go_wp2_with fail
              refine (distinct_any [b] _ 1 _ (by simp) (by simpa using SZB.out) (by exact row1_isT TW8.out.tb)).mono ?_
              rintro e w10 ⟨rfl, hb10⟩
              rw [← HDB.out]
              have Y10 := Lib.hid (show Below w8.heap.size w8 w10 from (below_al w8 _).trans (hb10.mono (by simp)))
              clear hb10 z0 z1 z2
              go_wp2_with fail
              go_meet
              exact ⟨by rw [if_pos E1.out], Y10.out⟩
            · have ne : (errP na != 0) = false := by rw [e2]; rfl
              have E1 := Lib.hid e1
              clear e1 e2 e3
              go_wp2_with fail
              go_meet
              exact ⟨by rw [if_neg E1.out], Below.refl _ _⟩
          case rest =>
            obtain ⟨rfl, hbc⟩ := hcut
            obtain ⟨both, hboth⟩ : ∃ both, both = (if na = 0 then db else dab) := ⟨_, rfl⟩
            rw [← hboth] at FM ⊢
            have EB := Lib.hid (show (nb = 0 ∧ errP nb = 60 ∧ ¬ both ≤ r) ∨ (nb ≠ 0 ∧ errP nb = 0 ∧ both ≤ r) from by
              by_cases h : nb = 0
              · exact .inl ⟨h, by unfold errP; rw [if_pos h], FM.out.2.1.1 h⟩
              · exact .inr ⟨h, by unfold errP; rw [if_neg h], Classical.byContradiction fun e => h (FM.out.2.1.2 e)⟩)
            have XC := Lib.hid (X8.out.trans (hbc.mono (by omega)))
            have TbC := Lib.hid (Tb8.out.keep hbc)
            have TWC := Lib.hid (BT.out _ XC.out)
            have BWC := Lib.hid TWC.out.below
            have hzc := hbc.size
            clear hbc hboth
            rcases EB.out with ⟨f1, f2, f3⟩ | ⟨f1, f2, f3⟩
            · have hLL := LBN.out f1
              subst hLL
              have g1 : ¬ ((both : Int) ≤ (r : Int)) := by omega
              have g2 : decide ((both : Int) ≤ (r : Int)) = false := by simpa using g1
              obtain ⟨z0, z1, z2⟩ := And.intro TWC.out.d0 (And.intro TWC.out.d1 TWC.out.d2)
              rw [f2]
              clear f1 f2 f3
              rcases EA.out with ⟨e1, e2, e3⟩ | ⟨e1, e2, e3⟩
              · have k1 : ¬ ((da : Int) ≤ (r : Int)) := by omega
                have k2 : decide ((da : Int) ≤ (r : Int)) = false := by simpa using k1
                rw [e2]
                clear e1 e2 e3
                go_wp2_with fail
                refine (len_any TbC.out).mono ?_
                rintro e w11 ⟨rfl, rfl⟩
                go_wp2_with fail
                refine (rparts_any w11 w11.heap.size b.sz b A' c' _ (Nat.le_refl _) SZB.out TWC.out.tb (Below.refl _ _) (Nat.le_refl _)).mono ?_
                rintro e w12 ⟨A12, c12, ds, rfl, h12, hb12⟩
                have hz12 := hb12.size
                have X12 := Lib.hid (XC.out.trans (hb12.mono (by omega)))
                have Tb12 := Lib.hid (TbC.out.keep hb12)
                have PZ := parts_sz b
                have P12 := Lib.hid (h12.isT hb12 hz12 (by have := SZB.out; omega))
                have pcap := (show (partsT b).length ≤ c12 ∧ (partsT b).length * 40 ≤ 140737488351232 from P12.out.len)
                have BW12 := Lib.hid (BWC.out.trans (hb12.mono BWC.out.size))
                obtain ⟨pb, hpb⟩ : ∃ pb, pb = partsT b := ⟨_, rfl⟩
                rw [← hpb] at P12 pcap ⊢
                clear h12 hb12 PZ hpb z0 z1 z2
                go_wp2_with fail
                go_loopw [107] (fun x wx => ∃ j : Nat, j ≤ pb.length ∧ x = .int .i64 (j : Int) ∧ Below w12.heap.size w12 wx) (fun x _ => pb.length - (intOf x).toNat)
                case atStart => exact ⟨0, Nat.zero_le _, rfl, Below.refl _ _⟩
                case round =>
                  obtain ⟨j, hj, rfl, hbj⟩ := hrel
                  have BJ := Lib.hid hbj
                  by_cases hlj : j < pb.length
                  · obtain ⟨bb, oo, Aq, cq, hA2, hltb, p0, p1, p2, hkT⟩ := (show KidAt w12 w12.heap.size A12 j pb[j] from P12.out.kid j hlj)
                    obtain ⟨q, hq⟩ : ∃ q, q = pb[j] := ⟨_, rfl⟩
                    rw [← hq] at p0 p1 p2 hkT
                    subst hA2
                    have d0 := (hbj.cell hltb).trans p0
                    have d1 := (hbj.cell hltb).trans p1
                    have d2 := (hbj.cell hltb).trans p2
                    have hzj := hbj.size
                    have hbq := below_al wr (.cells #[.int .i64 q.k, .int .i64 q.i, .slice Aq q.ks.length cq] 24)
                    have KT := Lib.hid ((hkT.keep hbj hbj.size).keep hbq hbq.size)
                    have TQ := Lib.hid ((Tb12.out.keep hbj).keep hbq)
                    have XQ := Lib.hid ((X12.out.trans (hbj.mono (by omega))).trans (hbq.mono (by omega)))
                    have YQ := Lib.hid (hbj.trans (hbq.mono hzj))
                    have KB := Lib.hid (Box3.new wr (.int .i64 q.k) (.int .i64 q.i) (.slice Aq q.ks.length cq))
                    obtain ⟨k0, k1, k2⟩ := KB.out.cells
                    clear p0 p1 p2 hkT hbq hbj hq
                    go_wp2_with fail
                    refine (ifind_any TQ.out q Aq cq (by exact KT.out)).mono ?_
                    rintro e w14 ⟨rfl, hb14⟩
                    have hz14 := hb14.size
                    simp only [World.size_alloc] at hz14
                    have KT14 := Lib.hid (KT.out.keep hb14 hb14.size)
                    have XW := Lib.hid (XQ.out.trans (hb14.mono (by simp; omega)))
                    have YW := Lib.hid (YQ.out.trans (hb14.mono (by simp; omega)))
                    have KB14 := Lib.hid (KB.out.keep hb14 (by simp))
                    have FLE : findN Lb q ≤ Lb.length := by unfold findN; split; exact num_le _ _; omega
                    have FMM := Lib.hid (show findN Lb q ≠ 0 → num (partsT a) q ≠ 0 from fun h => by
                      unfold findN at h
                      split at h
                      · exact num_mem.2 (FM.out.2.2.2.1 q (num_mem.1 h))
                      · exact absurd rfl h)
                    obtain ⟨n, hn⟩ : ∃ n, n = findN Lb q := ⟨_, rfl⟩
                    rw [← hn] at FLE FMM ⊢
                    have s1 : ¬ ((n : Int) < 0) := by omega
                    have s2 : ¬ ((Lb.length : Int) < (n : Int)) := by omega
                    have SS := Lib.hid (fun W (h : Below w14.heap.size w14 W) => And.intro (show W.cell? ⟨w.heap.size, 0, none⟩ = some (.int .i64 a.k) ∧ W.cell? ⟨w.heap.size, 1, none⟩ = some (.int .i64 a.i) ∧ W.cell? ⟨w.heap.size, 2, none⟩ = some (.slice A a.ks.length c) from have hh := BT.out _ (XW.out.trans (h.mono (by omega))); ⟨hh.b0, hh.b1, hh.b2⟩) (KB14.out.keep h (by omega)).cells)
                    have TK : Below w14.heap.size w14 w14.drew := (Below.refl _ _).drew
                    have hzd : w12.heap.size ≤ w14.heap.size := by omega
                    clear hb14 k0 k1 k2 d0 d1 d2 hn
                    have s1d : decide ((n : Int) < 0) = false := by simp
                    have s2n : ¬ (Lb.length < n) := by omega
                    have s2d : decide ((Lb.length : Int) < (n : Int)) = false := by simpa using s2n
                    have s2e : decide (Lb.length < n) = false := by simpa using s2n
                    by_cases hn0 : n = 0
                    · subst hn0
                      have s3 : ¬ (0 < ((0 : Nat) : Int)) := by omega
                      go_wp2_with fail
                      go_quiet (fail)
                      have YF := Lib.hid (YW.out.trans (TK.mono (by omega)))
                      go_wp2_with fail
                      go_roundw
                      case rel => exact ⟨j + 1, by omega, by go_num, YW.out.trans ⟨rfl, rfl, rfl, Nat.le_refl _, fun _ _ => rfl⟩⟩
                      case measure => simp [intOf]; omega
                    · have s3 : (0 < (n : Int)) := by omega
                      have s3n : 0 < n := by omega
                      have s3d : decide (0 < (n : Int)) = true := by simpa using s3n
                      have s3e : decide (0 < n) = true := by simpa using s3n
                      have PN : ¬ ((num (partsT a) q : Int) = 0) := by have := FMM.out hn0; omega
                      have PN2 : ((num (partsT a) q : Int) == 0) = false := by simpa using PN
                      replace hn0 := Lib.hid hn0
                      go_wp2_with fail
                      go_region_held3 (fun w' => (w'.cell? ⟨w.heap.size, 0, none⟩ = some (.int .i64 a.k) ∧ w'.cell? ⟨w.heap.size, 1, none⟩ = some (.int .i64 a.i) ∧ w'.cell? ⟨w.heap.size, 2, none⟩ = some (.slice A a.ks.length c)) ∧ (w'.cell? ⟨wr.heap.size, 0, none⟩ = some (.int .i64 q.k) ∧ w'.cell? ⟨wr.heap.size, 1, none⟩ = some (.int .i64 q.i) ∧ w'.cell? ⟨wr.heap.size, 2, none⟩ = some (.slice Aq q.ks.length cq)))
                        (exact SS.out _ TK)
                        (first
                          | (go_at_call 41; refine (rparts_any _ _ a.sz a A c _ (Nat.le_refl _) SZA.out (by exact (BT.out _ (XW.out.trans (TK.mono (by omega)))).ta) (Below.refl _ _) (Nat.le_refl _)).mono ?_; rintro e w15 ⟨A15, c15, es, rfl, h15, hb15⟩; have PA := Lib.hid (h15.isT hb15 hb15.size (by have := parts_sz a; have := SZA.out; omega)); replace TK := TK.trans (hb15.mono TK.size); clear h15 hb15)
                          | (go_at_call 42; refine (rfind6_any (partsT a) 0 0 A15 c15 q Aq cq _ (by exact PA.out) (by exact KT14.out.keep TK TK.size)).mono ?_; rintro e w16 ⟨rfl, hb16⟩; replace TK := TK.trans (hb16.mono TK.size); clear hb16))
                      have YF := Lib.hid (YW.out.trans (TK.mono (by omega)))
                      go_wp2_with fail
                      go_roundw
                      case rel => exact ⟨j + 1, by omega, by go_num, YF.out⟩
                      case measure => simp [intOf]; omega
                  · obtain rfl : j = pb.length := by omega
                    have BF := Lib.hid (BW12.out.trans (BJ.out.mono BW12.out.size))
                    clear hbj
                    go_wp2_with fail
                    go_ret
                    exact ⟨rfl, BF.out⟩
              · have k1 : ((da : Int) ≤ (r : Int)) := by omega
                have k2 : decide ((da : Int) ≤ (r : Int)) = true := by simpa using k1
                rw [e2]
                clear e1 e2 e3
                go_wp2_with fail
                refine (len_any TbC.out).mono ?_
                rintro e w11 ⟨rfl, rfl⟩
                go_wp2_with fail
                refine (rparts_any w11 w11.heap.size b.sz b A' c' _ (Nat.le_refl _) SZB.out TWC.out.tb (Below.refl _ _) (Nat.le_refl _)).mono ?_
                rintro e w12 ⟨A12, c12, ds, rfl, h12, hb12⟩
                have hz12 := hb12.size
                have X12 := Lib.hid (XC.out.trans (hb12.mono (by omega)))
                have Tb12 := Lib.hid (TbC.out.keep hb12)
                have PZ := parts_sz b
                have P12 := Lib.hid (h12.isT hb12 hz12 (by have := SZB.out; omega))
                have pcap := (show (partsT b).length ≤ c12 ∧ (partsT b).length * 40 ≤ 140737488351232 from P12.out.len)
                have BW12 := Lib.hid (BWC.out.trans (hb12.mono BWC.out.size))
                obtain ⟨pb, hpb⟩ : ∃ pb, pb = partsT b := ⟨_, rfl⟩
                rw [← hpb] at P12 pcap ⊢
                clear h12 hb12 PZ hpb z0 z1 z2
                go_wp2_with fail
                go_loopw [107] (fun x wx => ∃ j : Nat, j ≤ pb.length ∧ x = .int .i64 (j : Int) ∧ Below w12.heap.size w12 wx) (fun x _ => pb.length - (intOf x).toNat)
                case atStart => exact ⟨0, Nat.zero_le _, rfl, Below.refl _ _⟩
                case round =>
                  obtain ⟨j, hj, rfl, hbj⟩ := hrel
                  have BJ := Lib.hid hbj
                  by_cases hlj : j < pb.length
                  · obtain ⟨bb, oo, Aq, cq, hA2, hltb, p0, p1, p2, hkT⟩ := (show KidAt w12 w12.heap.size A12 j pb[j] from P12.out.kid j hlj)
                    obtain ⟨q, hq⟩ : ∃ q, q = pb[j] := ⟨_, rfl⟩
                    rw [← hq] at p0 p1 p2 hkT
                    subst hA2
                    have d0 := (hbj.cell hltb).trans p0
                    have d1 := (hbj.cell hltb).trans p1
                    have d2 := (hbj.cell hltb).trans p2
                    have hzj := hbj.size
                    have hbq := below_al wr (.cells #[.int .i64 q.k, .int .i64 q.i, .slice Aq q.ks.length cq] 24)
                    have KT := Lib.hid ((hkT.keep hbj hbj.size).keep hbq hbq.size)
                    have TQ := Lib.hid ((Tb12.out.keep hbj).keep hbq)
                    have XQ := Lib.hid ((X12.out.trans (hbj.mono (by omega))).trans (hbq.mono (by omega)))
                    have YQ := Lib.hid (hbj.trans (hbq.mono hzj))
                    have KB := Lib.hid (Box3.new wr (.int .i64 q.k) (.int .i64 q.i) (.slice Aq q.ks.length cq))
                    obtain ⟨k0, k1, k2⟩ := KB.out.cells
                    clear p0 p1 p2 hkT hbq hbj hq
                    go_wp2_with fail
                    refine (ifind_any TQ.out q Aq cq (by exact KT.out)).mono ?_
                    rintro e w14 ⟨rfl, hb14⟩
                    have hz14 := hb14.size
                    simp only [World.size_alloc] at hz14
                    have KT14 := Lib.hid (KT.out.keep hb14 hb14.size)
                    have XW := Lib.hid (XQ.out.trans (hb14.mono (by simp; omega)))
                    have YW := Lib.hid (YQ.out.trans (hb14.mono (by simp; omega)))
                    have KB14 := Lib.hid (KB.out.keep hb14 (by simp))
                    have FLE : findN Lb q ≤ Lb.length := by unfold findN; split; exact num_le _ _; omega
                    have FMM := Lib.hid (show findN Lb q ≠ 0 → num (partsT a) q ≠ 0 from fun h => by
                      unfold findN at h
                      split at h
                      · exact num_mem.2 (FM.out.2.2.2.1 q (num_mem.1 h))
                      · exact absurd rfl h)
                    obtain ⟨n, hn⟩ : ∃ n, n = findN Lb q := ⟨_, rfl⟩
                    rw [← hn] at FLE FMM ⊢
                    have s1 : ¬ ((n : Int) < 0) := by omega
                    have s2 : ¬ ((Lb.length : Int) < (n : Int)) := by omega
                    have SS := Lib.hid (fun W (h : Below w14.heap.size w14 W) => And.intro (show W.cell? ⟨w.heap.size, 0, none⟩ = some (.int .i64 a.k) ∧ W.cell? ⟨w.heap.size, 1, none⟩ = some (.int .i64 a.i) ∧ W.cell? ⟨w.heap.size, 2, none⟩ = some (.slice A a.ks.length c) from have hh := BT.out _ (XW.out.trans (h.mono (by omega))); ⟨hh.b0, hh.b1, hh.b2⟩) (KB14.out.keep h (by omega)).cells)
                    have TK : Below w14.heap.size w14 w14.drew := (Below.refl _ _).drew
                    have hzd : w12.heap.size ≤ w14.heap.size := by omega
                    clear hb14 k0 k1 k2 d0 d1 d2 hn
                    have s1d : decide ((n : Int) < 0) = false := by simp
                    have s2n : ¬ (Lb.length < n) := by omega
                    have s2d : decide ((Lb.length : Int) < (n : Int)) = false := by simpa using s2n
                    have s2e : decide (Lb.length < n) = false := by simpa using s2n
                    by_cases hn0 : n = 0
                    · subst hn0
                      have s3 : ¬ (0 < ((0 : Nat) : Int)) := by omega
                      go_wp2_with fail
                      go_quiet (fail)
                      have YF := Lib.hid (YW.out.trans (TK.mono (by omega)))
                      go_wp2_with fail
                      go_roundw
                      case rel => exact ⟨j + 1, by omega, by go_num, YW.out.trans ⟨rfl, rfl, rfl, Nat.le_refl _, fun _ _ => rfl⟩⟩
                      case measure => simp [intOf]; omega
                    · have s3 : (0 < (n : Int)) := by omega
                      have s3n : 0 < n := by omega
                      have s3d : decide (0 < (n : Int)) = true := by simpa using s3n
                      have s3e : decide (0 < n) = true := by simpa using s3n
                      have PN : ¬ ((num (partsT a) q : Int) = 0) := by have := FMM.out hn0; omega
                      have PN2 : ((num (partsT a) q : Int) == 0) = false := by simpa using PN
                      replace hn0 := Lib.hid hn0
                      go_wp2_with fail
                      go_region_held3 (fun w' => (w'.cell? ⟨w.heap.size, 0, none⟩ = some (.int .i64 a.k) ∧ w'.cell? ⟨w.heap.size, 1, none⟩ = some (.int .i64 a.i) ∧ w'.cell? ⟨w.heap.size, 2, none⟩ = some (.slice A a.ks.length c)) ∧ (w'.cell? ⟨wr.heap.size, 0, none⟩ = some (.int .i64 q.k) ∧ w'.cell? ⟨wr.heap.size, 1, none⟩ = some (.int .i64 q.i) ∧ w'.cell? ⟨wr.heap.size, 2, none⟩ = some (.slice Aq q.ks.length cq)))
                        (exact SS.out _ TK)
                        (first
                          | (go_at_call 41; refine (rparts_any _ _ a.sz a A c _ (Nat.le_refl _) SZA.out (by exact (BT.out _ (XW.out.trans (TK.mono (by omega)))).ta) (Below.refl _ _) (Nat.le_refl _)).mono ?_; rintro e w15 ⟨A15, c15, es, rfl, h15, hb15⟩; have PA := Lib.hid (h15.isT hb15 hb15.size (by have := parts_sz a; have := SZA.out; omega)); replace TK := TK.trans (hb15.mono TK.size); clear h15 hb15)
                          | (go_at_call 42; refine (rfind6_any (partsT a) 0 0 A15 c15 q Aq cq _ (by exact PA.out) (by exact KT14.out.keep TK TK.size)).mono ?_; rintro e w16 ⟨rfl, hb16⟩; replace TK := TK.trans (hb16.mono TK.size); clear hb16))
                      have YF := Lib.hid (YW.out.trans (TK.mono (by omega)))
                      go_wp2_with fail
                      go_roundw
                      case rel => exact ⟨j + 1, by omega, by go_num, YF.out⟩
                      case measure => simp [intOf]; omega
                  · obtain rfl : j = pb.length := by omega
                    have BF := Lib.hid (BW12.out.trans (BJ.out.mono BW12.out.size))
                    clear hbj
                    go_wp2_with fail
                    go_ret
                    exact ⟨rfl, BF.out⟩
            · have LBL := Lib.hid (FM.out.2.2.1 f1)
              have g1 : ((both : Int) ≤ (r : Int)) := by omega
              have g2 : decide ((both : Int) ≤ (r : Int)) = true := by simpa using g1
              rw [f2]
              clear f1 f2 f3
              rcases EA.out with ⟨e1, e2, e3⟩ | ⟨e1, e2, e3⟩
              · have k1 : ¬ ((da : Int) ≤ (r : Int)) := by omega
                have k2 : decide ((da : Int) ≤ (r : Int)) = false := by simpa using k1
                rw [e2]
                clear e1 e2 e3
                go_wp2_with fail
                refine (len_any TbC.out).mono ?_
                rintro e w11 ⟨rfl, rfl⟩
                rw [LBL.out]
                go_wp2_with fail
                go_ret
                exact ⟨by first | rfl | simp, BWC.out⟩
              · have k1 : ((da : Int) ≤ (r : Int)) := by omega
                have k2 : decide ((da : Int) ≤ (r : Int)) = true := by simpa using k1
                rw [e2]
                clear e1 e2 e3
                go_wp2_with fail
                refine (len_any TbC.out).mono ?_
                rintro e w11 ⟨rfl, rfl⟩
                rw [LBL.out]
                go_wp2_with fail
                go_ret
                exact ⟨by first | rfl | simp, BWC.out⟩
        · have rb : ((rightN b : Int) != 0) = true := by rw [bne_iff_ne]; omega
          clear hrb
          go_wp2_with fail
          go_ret
          exact ⟨rfl, T3.out.below⟩
      · have ra : ((rightN a : Int) != 0) = true := by rw [bne_iff_ne]; omega
        clear hra
        go_wp2_with fail
        go_ret
        exact ⟨rfl, T2.out.below⟩
end Go.Proofs.Ytfdggmmibgbfnaa
