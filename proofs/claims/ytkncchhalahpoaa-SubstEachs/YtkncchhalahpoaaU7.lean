/- The document's Each; the law SubstEachs, walked. -/
import Derived.Test.YtkncchhalahpoaaU2
import Derived.Test.YtkncchhalahpoaaU5
import Derived.Test.YtkncchhalahpoaaU6
namespace Go.Proofs.Ytkncchhalahpoaa
open Go.RowKit
set_option linter.unusedVariables false
set_option linter.unusedSimpArgs false
set_option maxHeartbeats 4000000 in
set_option maxRecDepth 100000 in
theorem reach_any (a : Tr) (A : Option Addr) (c : Nat) (l : List (Int × Tr)) (Al : Option Addr) (cl : Nat) (w : World) (ha : IsT w w.heap.size a A c) (hp : IsP w w.heap.size l Al cl) :
    Calls Try.prog 21 #[.agg #[.int .i64 a.k, .int .i64 a.i, .slice A a.ks.length c], .slice Al l.length cl] w (AnsI w (eachR a l)) := by
  obtain ⟨e0, e1, hb0⟩ := two_boxes0 w (.int .i64 a.k) (.int .i64 a.i) (.slice A a.ks.length c) (.int .i64 0) (.int .i64 0) (.slice none 0 0)
  have E0 := Lib.hid e0
  have E1 := Lib.hid e1
  have HB0 := Lib.hid hb0
  have P0 := Lib.hid (hp.up hb0)
  have T0 := Lib.hid (ha.keep hb0 hb0.size)
  have hcap := hp.cap
  have hle := hp.le
  obtain ⟨y0, y1, y2⟩ := e0.cells
  clear e0 e1 hb0 hp ha
  go_enter Try.func21, Try.ntmps21
  go_wp2_with fail
  refine (raskedEach_any a A c l Al cl _ (by exact T0.out) (by exact P0.out)).mono ?_
  rintro e w1 ⟨rfl, hb1⟩
  have X0 := Lib.hid (E0.out.keep hb1 E0.out.lt)
  have X1 := Lib.hid (E1.out.keep hb1 E1.out.lt)
  have W1 := Lib.hid (HB0.out.trans (hb1.mono HB0.out.size))
  have P1 := Lib.hid (P0.out.up hb1)
  have T1 := Lib.hid (T0.out.keep hb1 hb1.size)
  have hs1 : w.heap.size + 1 < w1.heap.size := X1.out.lt
  clear y0 y1 y2 hb1 E0 E1 HB0 P0 T0
  by_cases h0 : faultE a l = 0
  · obtain ⟨q1, q2, q3, q4⟩ := faultE_zero h0
    have HR := Lib.hid q2
    have HL := Lib.hid q3
    have HT := Lib.hid q4
    have HX := Lib.hid (argE_mem q1)
    have F0 := Lib.hid h0
    have h1 : ((faultE a l : Int) != 0) = false := by simp [h0]
    clear h0 q1 q2 q3 q4
    go_wp2_with fail
    have K1 := Lib.hid (EK.mk X0.out X1.out T1.out P1.out W1.out)
    go_loopw [20] (fun i wr => ∃ m : Nat, m ≤ l.length ∧ i = .int .i64 m ∧ capE a l = capE a (l.drop m) ∧ EK w wr a A c l Al cl) (fun i _ => l.length - (intOf i).toNat)
    case atStart => exact ⟨0, Nat.zero_le _, rfl, by rw [List.drop_zero], K1.out⟩
    case round =>
      obtain ⟨m, hm', rfl, hA, hK⟩ := hrel
      have AE := Lib.hid hA
      have KR := Lib.hid hK
      clear hA hK X0 X1 W1 P1 T1 K1
      by_cases hlt : m < l.length
      · have CD := Lib.hid (AE.out.trans (capE_drop hlt))
        have FF := Lib.hid (ffB_ok (HX.out _ (List.getElem_mem hlt)).1 (HX.out _ (List.getElem_mem hlt)).2 (HL.out _ (List.getElem_mem hlt)) HR.out (HT.out _ (List.getElem_mem hlt)))
        obtain ⟨b, o, A', c', rfl, hltb, p0, p1, p2, p3, ht⟩ := KR.out.pairs.at_ m hlt
        obtain ⟨p, hp⟩ : ∃ p, p = l[m] := ⟨_, rfl⟩
        rw [← hp] at p0 p1 p2 p3 ht CD FF
        have ha := below_alloc wr (.cells #[.int .i64 p.1, .int .i64 p.2.k, .int .i64 p.2.i, .slice A' p.2.ks.length c'] 47)
        have K2 := Lib.hid (KR.out.keep ha)
        have TT := Lib.hid (ht.keep ha ha.size)
        obtain ⟨q0, q1, q2, q3⟩ := box4_new wr (.int .i64 p.1) (.int .i64 p.2.k) (.int .i64 p.2.i) (.slice A' p.2.ks.length c') 47
        obtain ⟨y0, y1, y2⟩ := K2.out.ab.cells
        clear hp ht ha AE
        go_wp2_with fail
        refine (rfreefor_any p.2 a p.1 A' A c' c _ (by exact TT.out) (by exact K2.out.tree)).mono ?_
        rintro e w2 ⟨rfl, hb2⟩
        rw [FF.out.1, FF.out.2]
        have K3 := Lib.hid (K2.out.keep hb2)
        clear hb2 y0 y1 y2 q0 q1 q2 q3
        cases hd : decide (catT (varsT p.2) p.1 a = 0) with
        | true =>
          rw [hd, Bool.true_and] at CD
          go_wp2_with fail
          go_roundw
          case rel => exact ⟨m + 1, by omega, by go_num, CD.out, K3.out⟩
          case measure => simp [intOf]; omega
        | false =>
          rw [hd, Bool.false_and] at CD
          have F := Lib.hid (eachR_cap F0.out CD.out)
          obtain ⟨z0, z1, z2⟩ := K3.out.rb.cells
          have f0 := K3.out.rb.frozen 0
          have f1 := K3.out.rb.frozen 1
          have f2 := K3.out.rb.frozen 2
          go_wp2_with fail
          refine bodyPost_ret (v := .tuple #[.agg #[.int .i64 0, .int .i64 0, .slice none 0 0], .int .i64 50]) (by simp [results, Try.results21, go_sem, z0, z1, z2]) rfl ?_
          rw [F.out]
          exact ansI_zero (f := 50) (below_set3 K3.out.below _ _ _ (by omega))
      · obtain rfl : m = l.length := by omega
        have CT := Lib.hid (show capE a l = true by rw [AE.out, List.drop_length]; rfl)
        have F := Lib.hid (eachR_ok F0.out CT.out)
        obtain ⟨y0, y1, y2⟩ := KR.out.ab.cells
        have hlt2 := KR.out.rb.lt
        obtain ⟨S, hS⟩ : ∃ S, S = putE l a 0 := ⟨_, rfl⟩
        have WI := Lib.hid (withinEach_any a.sz a A c l Al cl 1000 wr (Nat.le_refl _) (right_shp' HR.out).2.1 (right_shp' HR.out).1 (fun p hp => (right_shp' (HL.out p hp)).2.1) (Nat.le_refl _) KR.out.tree KR.out.pairs)
        have SF := Lib.hid (show S.fit by rw [hS]; exact shp_fit _ (putE_shp (fun p hp => ⟨HT.out p hp, (right_shp' (HL.out p hp)).1⟩) a 0 (right_shp' HR.out).1))
        rw [← hS] at WI F
        clear hS
        go_wp2_with fail
        refine WI.out.mono ?_
        rintro e w3 ⟨hb3, hres⟩
        have K3 := Lib.hid (KR.out.keep hb3)
        clear hb3 y0 y1 y2
        by_cases hfit : S.sz ≤ 1000
        · rw [if_pos hfit] at hres
          obtain ⟨A2, c2, rfl, ho⟩ := hres
          have HO := Lib.hid ho
          have IS := Lib.hid (ho.isT _ (Nat.le_refl _) SF.out)
          clear ho hfit
          go_wp2_with fail
          refine (limited_got S A2 c2 _ (by exact IS.out)).mono ?_
          rintro e w4 ⟨hb4, rfl⟩
          have K4 := Lib.hid (K3.out.keep hb4)
          have HO4 := Lib.hid (OwnT.same _ (SameIn.of_below hb4 (Nat.le_refl _)) HO.out)
          have hz4 := hb4.size
          clear hb4
          obtain ⟨z0, z1, z2⟩ := K4.out.rb.cells
          have f0 := K4.out.rb.frozen 0
          have f1 := K4.out.rb.frozen 1
          have f2 := K4.out.rb.frozen 2
          by_cases hr : rightN S = 0
          · have LV := Lib.hid (show limV S A2 c2 = .agg #[.int .i64 S.k, .int .i64 S.i, .slice A2 S.ks.length c2] by unfold limV; rw [if_pos hr])
            have LR := Lib.hid (show limR S = (S, 0) by unfold limR; rw [if_pos hr])
            rw [LV.out, hr]
            clear hr
            go_wp2_with fail
            refine bodyPost_ret (v := .tuple #[.agg #[.int .i64 S.k, .int .i64 S.i, .slice A2 S.ks.length c2], .int .i64 0]) (by simp [results, Try.results21, go_sem, z0, z1, z2]) rfl ?_
            rw [F.out, LR.out]
            have hs : SameIn wr.heap.size w3.heap.size w4 (((w4.setCell ⟨w.heap.size + 1, 0, none⟩ (.int .i64 S.k)).setCell ⟨w.heap.size + 1, 1, none⟩ (.int .i64 S.i)).setCell ⟨w.heap.size + 1, 2, none⟩ (.slice A2 S.ks.length c2)) := same_set3 _ _ _ _ _ (by omega)
            exact ⟨below_set3 K4.out.below _ _ _ (by omega), A2, c2, (OwnT.same _ hs HO4.out).isT _ (by simpa using hz4) SF.out, rfl⟩
          · have LV := Lib.hid (show limV S A2 c2 = .agg #[.int .i64 0, .int .i64 0, .slice none 0 0] by unfold limV; rw [if_neg hr])
            have LR := Lib.hid (show limR S = (zeroT, rightN S) by unfold limR; rw [if_neg hr])
            rw [LV.out]
            clear hr
            go_wp2_with fail
            refine bodyPost_ret (v := .tuple #[.agg #[.int .i64 0, .int .i64 0, .slice none 0 0], .int .i64 (rightN S : Int)]) (by simp [results, Try.results21, go_sem, z0, z1, z2]) rfl ?_
            rw [F.out, LR.out]
            exact ansI_zero (below_set3 K4.out.below _ _ _ (by omega))
        · rw [if_neg hfit] at hres
          obtain rfl := hres
          have LR := Lib.hid (show limR S = (zeroT, 20) by
            have : rightN S = 20 := by unfold rightN; rw [if_pos (by omega)]
            unfold limR
            rw [this]
            rfl)
          clear hfit
          go_wp2_with fail
          refine (limited_no _).mono ?_
          rintro e w4 ⟨hb4, rfl⟩
          have K4 := Lib.hid (K3.out.keep hb4)
          clear hb4
          obtain ⟨z0, z1, z2⟩ := K4.out.rb.cells
          have f0 := K4.out.rb.frozen 0
          have f1 := K4.out.rb.frozen 1
          have f2 := K4.out.rb.frozen 2
          go_wp2_with fail
          refine bodyPost_ret (v := .tuple #[.agg #[.int .i64 0, .int .i64 0, .slice none 0 0], .int .i64 20]) (by simp [results, Try.results21, go_sem, z0, z1, z2]) rfl ?_
          rw [F.out, LR.out]
          exact ansI_zero (f := 20) (below_set3 K4.out.below _ _ _ (by omega))
  · have F := Lib.hid (eachR_fault h0)
    have h1 : ((faultE a l : Int) != 0) = true := by rw [bne_iff_ne]; omega
    obtain ⟨z0, z1, z2⟩ := X1.out.cells
    have f0 := X1.out.frozen 0
    have f1 := X1.out.frozen 1
    have f2 := X1.out.frozen 2
    clear h0
    go_wp2_with fail
    refine bodyPost_ret (v := .tuple #[.agg #[.int .i64 0, .int .i64 0, .slice none 0 0], .int .i64 (faultE a l : Int)]) (by simp [results, Try.results21, go_sem, z0, z1, z2]) rfl ?_
    rw [F.out]
    exact ansI_zero (below_set3 W1.out _ _ _ (by omega))
set_option maxHeartbeats 4000000 in
set_option maxRecDepth 100000 in
theorem eachs_law (a : Tr) (l : List (Int × Tr)) (A Al : Option Addr) (c cl : Nat) (w : World) (ha : IsT w w.heap.size a A c) (hl : IsP w w.heap.size l Al cl) :
    Calls Try.prog 5 #[.agg #[.int .i64 a.k, .int .i64 a.i, .slice A a.ks.length c], .slice Al l.length cl] w fun e w' => e = .returned (.bool true) ∧ Below w.heap.size w w' := by
  have E0 := Lib.hid (env1 ha)
  have P0 := Lib.hid (hl.up (below_alloc w (.cells #[.int .i64 a.k, .int .i64 a.i, .slice A a.ks.length c] 24)))
  obtain ⟨a0, a1, a2⟩ := E0.out.cells w.heap.size a A c (by simp)
  clear ha hl
  go_enter Try.func5, Try.ntmps5
  go_wp2_with fail
  refine (each_any a A c l Al cl _ (by exact E0.out.tree w.heap.size a A c (by simp)) (by exact P0.out)).mono ?_
  rintro e w1 ⟨hb1, A1, c1, ho1, rfl⟩
  have E1 := Lib.hid ((E0.out.keep hb1).push (AnsPost.is ho1 (eachR_fit _ _)))
  have P1 := Lib.hid ((P0.out.up hb1).up (below_alloc w1 (.cells #[.int .i64 (eachR a l).1.k, .int .i64 (eachR a l).1.i, .slice A1 (eachR a l).1.ks.length c1] 24)))
  clear hb1 ho1 a0 a1 a2 E0 P0
  obtain ⟨a0, a1, a2⟩ := E1.out.cells w.heap.size a A c (by simp)
  go_wp2_with fail
  refine (reach_any a A c l Al cl _ (by exact E1.out.tree w.heap.size a A c (by simp)) (by exact P1.out)).mono ?_
  rintro e w2 ⟨hb2, A2, c2, i2, rfl⟩
  have E2 := Lib.hid ((E1.out.keep hb2).push i2)
  clear hb2 i2 a0 a1 a2 E1 P1
  obtain ⟨a0, a1, a2⟩ := E2.out.cells w1.heap.size (eachR a l).1 A1 c1 (by simp)
  obtain ⟨n0, n1, n2⟩ := E2.out.cells w2.heap.size (eachR a l).1 A2 c2 (by simp)
  go_wp2_with fail
  refine (like_any _ _ A1 A2 c1 c2 _ (by exact E2.out.tree w1.heap.size (eachR a l).1 A1 c1 (by simp)) (by exact E2.out.tree w2.heap.size (eachR a l).1 A2 c2 (by simp))).mono ?_
  rintro e w3 ⟨rfl, hb3⟩
  rw [like_refl]
  have E3 := Lib.hid (E2.out.keep hb3)
  clear hb3
  go_wp2_with fail
  go_ret
  exact ⟨rfl, E3.out.below⟩
end Go.Proofs.Ytkncchhalahpoaa
