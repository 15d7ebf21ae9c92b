/- replace, faultOf of package subst. -/
import Derived.Test.YtmmdhlemkcddmaaS2
import Derived.Test.YtmmdhlemkcddmaaS3
import Derived.Test.YtmmdhlemkcddmaaF8
namespace Go.Proofs.Ytmmdhlemkcddmaa
open Go.RowKit
set_option linter.unusedVariables false
set_option linter.unusedSimpArgs false
/-- what may be is answered, else why not -/
def limR (t : Tr) : Tr × Nat := if rightN t = 0 then (t, 0) else (zeroT, rightN t)
theorem measN_right {l : List (Int × Tr)} {a : Tr} (hl : ∀ p ∈ l, rightN p.2 = 0) (ht : ∀ p ∈ l, termB p.2.k = true) (ha : rightN a = 0) : measN l a = rightN (putE l a 0) := by
  unfold measN
  rw [putE_right (fun p hp => ⟨ht p hp, (right_shp' (hl p hp)).1⟩) (right_shp' ha).1]
set_option maxHeartbeats 4000000 in
set_option maxRecDepth 100000 in
theorem repl_any (a : Tr) (A : Option Addr) (c : Nat) (l : List (Int × Tr)) (Al : Option Addr) (cl : Nat) (hl : ∀ p ∈ l, rightN p.2 = 0) (ht : ∀ p ∈ l, termB p.2.k = true) (har : rightN a = 0) (w : World) (ha : IsT w w.heap.size a A c) (hp : IsP w w.heap.size l Al cl) :
    Calls Try.prog 62 #[.agg #[.int .i64 a.k, .int .i64 a.i, .slice A a.ks.length c], .slice Al l.length cl] w (AnsPost w (limR (putE l a 0))) := by
  obtain ⟨e0, e1, hb0⟩ := two_boxes0 w (.int .i64 a.k) (.int .i64 a.i) (.slice A a.ks.length c) (.int .i64 0) (.int .i64 0) (.slice none 0 0)
  have E0 := Lib.hid e0
  have E1 := Lib.hid e1
  have HB0 := Lib.hid hb0
  have P0 := Lib.hid (hp.up hb0)
  have T0 := Lib.hid (ha.keep hb0 hb0.size)
  have M := Lib.hid (measN_right hl ht har)
  have HL := Lib.hid hl
  have HR := Lib.hid har
  obtain ⟨y0, y1, y2⟩ := e0.cells
  clear e0 e1 hb0 hp ha hl ht har
  go_enter Try.func62, Try.ntmps62
  go_wp2_with fail
  refine (measure_any a A c l Al cl HL.out HR.out _ (by exact T0.out) (by exact P0.out)).mono ?_
  rintro e w1 ⟨rfl, hb1⟩
  have X0 := Lib.hid (E0.out.keep hb1 E0.out.lt)
  have X1 := Lib.hid (E1.out.keep hb1 E1.out.lt)
  have W1 := Lib.hid (HB0.out.trans (hb1.mono HB0.out.size))
  have P1 := Lib.hid (P0.out.up hb1)
  have T1 := Lib.hid (T0.out.keep hb1 hb1.size)
  have hs1 : w.heap.size + 1 < w1.heap.size := X1.out.lt
  clear y0 y1 y2 hb1 E0 E1 HB0 P0 T0
  obtain ⟨y0, y1, y2⟩ := X0.out.cells
  by_cases h0 : measN l a = 0
  · have F := Lib.hid (show limR (putE l a 0) = (putE l a 0, 0) by unfold limR; rw [if_pos (by rw [← M.out]; exact h0)])
    have h1 : ((measN l a : Int) != 0) = false := by simp [h0]
    clear h0
    go_wp2_with fail
    refine (replaced_any l Al cl HL.out a.sz a A c 0 _ (Nat.le_refl _) zero_U (by exact T1.out) (by exact P1.out)).mono ?_
    rintro e w2 ⟨A2, c2, rfl, ho, hb2⟩
    have R2 := Lib.hid (X1.out.keep hb2 X1.out.lt)
    have W2 := Lib.hid (W1.out.trans (hb2.mono W1.out.size))
    have HO := Lib.hid ho
    obtain ⟨z0, z1, z2⟩ := R2.out.cells
    have f0 := R2.out.frozen 0
    have f1 := R2.out.frozen 1
    have f2 := R2.out.frozen 2
    clear hb2 ho y0 y1 y2
    obtain ⟨u, hu⟩ : ∃ u, u = putE l a 0 := ⟨_, rfl⟩
    have HU := Lib.hid hu.symm
    rw [← hu] at F HO ⊢
    clear hu
    go_wp2_with fail
    refine bodyPost_ret (v := .tuple #[.agg #[.int .i64 u.k, .int .i64 u.i, .slice A2 u.ks.length c2], .int .i64 0]) (by simp [results, Try.results62, go_sem, z0, z1, z2]) rfl ?_
    rw [HU.out]
    exact ans_tree F.out W2.out HO.out (by omega) (by omega)
  · have F := Lib.hid (show limR (putE l a 0) = (zeroT, measN l a) by unfold limR; rw [if_neg (by rw [← M.out]; exact h0), M.out])
    have h1 : ((measN l a : Int) != 0) = true := by rw [bne_iff_ne]; omega
    obtain ⟨z0, z1, z2⟩ := X1.out.cells
    have f0 := X1.out.frozen 0
    have f1 := X1.out.frozen 1
    have f2 := X1.out.frozen 2
    clear h0
    go_wp2_with fail
    refine bodyPost_ret (v := .tuple #[.agg #[.int .i64 0, .int .i64 0, .slice none 0 0], .int .i64 (measN l a : Int)]) (by simp [results, Try.results62, go_sem, z0, z1, z2]) rfl ?_
    exact ans_zero F.out W1.out (by omega)
set_option maxHeartbeats 4000000 in
set_option maxRecDepth 100000 in
theorem faultOf_any (a : Tr) (A : Option Addr) (c : Nat) (l : List (Int × Tr)) (Al : Option Addr) (cl : Nat) (w : World) (ha : IsT w w.heap.size a A c) (hp : IsP w w.heap.size l Al cl) :
    Calls Try.prog 60 #[.agg #[.int .i64 a.k, .int .i64 a.i, .slice A a.ks.length c], .slice Al l.length cl] w fun e w' => e = .returned (.int .i64 ((faultE a l : Nat) : Int)) ∧ Below w.heap.size w w' := by
  have T0 := Lib.hid (One.new ha)
  obtain ⟨y0, y1, y2⟩ := And.intro T0.out.b0 (And.intro T0.out.b1 T0.out.b2)
  have HP := Lib.hid hp
  have hcap := hp.cap
  have hle := hp.le
  clear ha hp
  go_enter Try.func60, Try.ntmps60
  go_wp2_with fail
  go_loopw [5, 16] (fun v i wr => ∃ m vs : Nat, m ≤ l.length ∧ i = .int .i64 m ∧ v = .int .u64 (vs : Int) ∧ U64 vs ∧ argE l 0 = argE (l.drop m) vs ∧ One w wr a A c) (fun _ i _ => l.length - (intOf i).toNat)
  case atStart => exact ⟨0, 0, Nat.zero_le _, rfl, rfl, zero_U, by rw [List.drop_zero], T0.out⟩
  case round =>
    obtain ⟨m, vs, hm', rfl, rfl, hU, hA, hO⟩ := hrel
    have HU := Lib.hid hU
    have AE := Lib.hid hA
    have OO := Lib.hid hO
    have PR := Lib.hid (HP.out.up hO.below)
    clear hU hA hO y0 y1 y2
    by_cases hlt : m < l.length
    · obtain ⟨b, o, A', c', rfl, hltb, p0, p1, p2, p3, ht⟩ := PR.out.at_ m hlt
      have DR := Lib.hid (List.drop_eq_getElem_cons hlt)
      obtain ⟨p, hp⟩ : ∃ p, p = l[m] := ⟨_, rfl⟩
      rw [← hp] at p0 p1 p2 p3 DR
      rw [DR.out] at AE
      have ha := below_alloc wr (.cells #[.int .i64 p.1, .int .i64 p.2.k, .int .i64 p.2.i, .slice A' p.2.ks.length c'] 70)
      have O1 := Lib.hid (OO.out.keep ha)
      obtain ⟨q0, q1, q2, q3⟩ := box4_new wr (.int .i64 p.1) (.int .i64 p.2.k) (.int .i64 p.2.i) (.slice A' p.2.ks.length c') 70
      clear hp ht
      by_cases h0 : p.1 < 0
      · have F := Lib.hid (show faultE a l = 1 by unfold faultE; rw [if_pos (by rw [AE.out]; simp [argE, show ¬ 0 ≤ p.1 by omega])])
        go_wp2_with fail
        go_ret
        exact ⟨by rw [F.out]; rfl, O1.out.below⟩
      · by_cases h1 : 63 < p.1
        · have F := Lib.hid (show faultE a l = 1 by unfold faultE; rw [if_pos (by rw [AE.out]; simp [argE, show ¬ p.1 ≤ 63 by omega])])
          go_wp2_with fail
          go_ret
          exact ⟨by rw [F.out]; rfl, O1.out.below⟩
        · cases hh : hasN vs p.1 with
          | true =>
            have F := Lib.hid (show faultE a l = 1 by unfold faultE; rw [if_pos (by rw [AE.out]; simp [argE, hh])])
            go_wp2_with fail
            refine (has_any vs p.1 _ HU.out).mono ?_
            rintro e w9 ⟨rfl, hw9⟩
            rw [← hw9, hh]
            clear hw9
            go_wp2_with fail
            go_ret
            exact ⟨by rw [F.out]; rfl, O1.out.below⟩
          | false =>
            have F := Lib.hid (show argE l 0 = argE (l.drop (m + 1)) (withN vs p.1) by rw [AE.out]; simp [argE, hh, show 0 ≤ p.1 by omega, show p.1 ≤ 63 by omega])
            go_wp2_with fail
            refine (has_any vs p.1 _ HU.out).mono ?_
            rintro e w9 ⟨rfl, hw9⟩
            rw [← hw9, hh]
            clear hw9
            go_wp2_with fail
            refine (with_any vs p.1 _ HU.out).mono ?_
            rintro e w9 ⟨rfl, hw9⟩
            rw [← hw9]
            clear hw9
            go_wp2_with fail
            go_roundw
            case rel => exact ⟨m + 1, withN vs p.1, by omega, by go_num, rfl, withU _ HU.out, F.out, O1.out⟩
            case measure => simp [intOf]; omega
    · obtain rfl : m = l.length := by omega
      have AT := Lib.hid (show argE l 0 = true by rw [AE.out, List.drop_length]; rfl)
      obtain ⟨y0, y1, y2⟩ := And.intro OO.out.b0 (And.intro OO.out.b1 OO.out.b2)
      have F0 := Lib.hid (show faultE a l = if rightN a ≠ 0 then rightN a else if rightL l ≠ 0 then rightL l else if termL l = false then 40 else 0 by unfold faultE; rw [if_neg (by rw [AT.out]; simp)])
      clear AE PR
      go_wp2_with fail
      refine (right_any a A c _ (by exact OO.out.tree)).mono ?_
      rintro e w1 ⟨rfl, hb1⟩
      have O1 := Lib.hid (OO.out.keep hb1)
      clear hb1 y0 y1 y2
      by_cases hr : rightN a = 0
      · have h0 : ((rightN a : Int) != 0) = false := by simp [hr]
        rw [if_neg (by simp [hr])] at F0
        clear hr
        go_wp2_with fail
        go_loopw [46] (fun i wr => ∃ m : Nat, m ≤ l.length ∧ i = .int .i64 m ∧ rightL l = rightL (l.drop m) ∧ One w wr a A c) (fun i _ => l.length - (intOf i).toNat)
        case atStart => exact ⟨0, Nat.zero_le _, rfl, by rw [List.drop_zero], O1.out⟩
        case round =>
          obtain ⟨m, hm', rfl, hA, hO⟩ := hrel
          have AE := Lib.hid hA
          have OO := Lib.hid hO
          have PR := Lib.hid (HP.out.up hO.below)
          clear hA hO O1
          by_cases hlt : m < l.length
          · obtain ⟨b, o, A', c', rfl, hltb, p0, p1, p2, p3, ht⟩ := PR.out.at_ m hlt
            have DR := Lib.hid (List.drop_eq_getElem_cons hlt)
            obtain ⟨p, hp⟩ : ∃ p, p = l[m] := ⟨_, rfl⟩
            rw [← hp] at p0 p1 p2 p3 DR ht
            rw [DR.out] at AE
            have ha := below_alloc wr (.cells #[.int .i64 p.1, .int .i64 p.2.k, .int .i64 p.2.i, .slice A' p.2.ks.length c'] 70)
            have O1 := Lib.hid (OO.out.keep ha)
            have TT := Lib.hid (ht.keep ha ha.size)
            obtain ⟨q0, q1, q2, q3⟩ := box4_new wr (.int .i64 p.1) (.int .i64 p.2.k) (.int .i64 p.2.i) (.slice A' p.2.ks.length c') 70
            clear hp ht
            go_wp2_with fail
            refine (right_any p.2 A' c' _ (by exact TT.out)).mono ?_
            rintro e w2 ⟨rfl, hb2⟩
            have O2 := Lib.hid (O1.out.keep hb2)
            clear hb2
            by_cases hr : rightN p.2 = 0
            · have h2 : ((rightN p.2 : Int) != 0) = false := by simp [hr]
              have F := Lib.hid (show rightL l = rightL (l.drop (m + 1)) by rw [AE.out]; simp [rightL, hr])
              clear hr
              go_wp2_with fail
              go_roundw
              case rel => exact ⟨m + 1, by omega, by go_num, F.out, O2.out⟩
              case measure => simp [intOf]; omega
            · have h2 : ((rightN p.2 : Int) != 0) = true := by rw [bne_iff_ne]; omega
              have F := Lib.hid (show faultE a l = rightN p.2 by rw [F0.out, AE.out]; simp [rightL, hr])
              clear hr
              go_wp2_with fail
              go_ret
              exact ⟨by rw [F.out]; rfl, O2.out.below⟩
          · obtain rfl : m = l.length := by omega
            have RL := Lib.hid (show rightL l = 0 by rw [AE.out, List.drop_length]; rfl)
            rw [RL.out] at F0
            simp only [ne_eq, not_true_eq_false, if_false] at F0
            have RA := Lib.hid (rightL_all RL.out)
            clear AE PR
            go_wp2_with fail
            go_loopw [59] (fun i wr => ∃ m : Nat, m ≤ l.length ∧ i = .int .i64 m ∧ termL l = termL (l.drop m) ∧ One w wr a A c) (fun i _ => l.length - (intOf i).toNat)
            case atStart => exact ⟨0, Nat.zero_le _, rfl, by rw [List.drop_zero], OO.out⟩
            case round =>
              obtain ⟨m, hm', rfl, hA, hO⟩ := hrel
              have AE := Lib.hid hA
              have PR := Lib.hid (HP.out.up hO.below)
              have O3 := Lib.hid hO
              clear hA hO OO
              by_cases hlt : m < l.length
              · obtain ⟨b, o, A', c', rfl, hltb, p0, p1, p2, p3, ht⟩ := PR.out.at_ m hlt
                have DR := Lib.hid (List.drop_eq_getElem_cons hlt)
                have RP := Lib.hid (RA.out l[m] (List.getElem_mem hlt))
                obtain ⟨p, hp⟩ : ∃ p, p = l[m] := ⟨_, rfl⟩
                rw [← hp] at p0 p1 p2 p3 DR ht RP
                rw [DR.out] at AE
                have ha := below_alloc wr (.cells #[.int .i64 p.1, .int .i64 p.2.k, .int .i64 p.2.i, .slice A' p.2.ks.length c'] 70)
                have O1 := Lib.hid (O3.out.keep ha)
                have TT := Lib.hid (ht.keep ha ha.size)
                obtain ⟨q0, q1, q2, q3⟩ := box4_new wr (.int .i64 p.1) (.int .i64 p.2.k) (.int .i64 p.2.i) (.slice A' p.2.ks.length c') 70
                clear hp ht
                go_wp2_with fail
                refine (isTerm_any p.2 A' c' _ (by exact TT.out)).mono ?_
                rintro e w2 ⟨rfl, hb2⟩
                rw [isTB_term RP.out]
                have O2 := Lib.hid (O1.out.keep hb2)
                clear hb2
                cases hr : termB p.2.k with
                | true =>
                  have F := Lib.hid (show termL l = termL (l.drop (m + 1)) by rw [AE.out]; simp [termL, hr])
                  go_wp2_with fail
                  go_roundw
                  case rel => exact ⟨m + 1, by omega, by go_num, F.out, O2.out⟩
                  case measure => simp [intOf]; omega
                | false =>
                  have F := Lib.hid (show faultE a l = 40 by rw [F0.out, if_pos (by rw [AE.out]; simp [termL, hr])])
                  go_wp2_with fail
                  go_ret
                  exact ⟨by rw [F.out]; rfl, O2.out.below⟩
              · obtain rfl : m = l.length := by omega
                have F := Lib.hid (show faultE a l = 0 by rw [F0.out, if_neg (by rw [AE.out, List.drop_length]; simp [termL])])
                go_wp2_with fail
                go_ret
                exact ⟨by rw [F.out]; rfl, O3.out.below⟩
      · have h0 : ((rightN a : Int) != 0) = true := by rw [bne_iff_ne]; omega
        rw [if_pos hr] at F0
        clear hr
        go_wp2_with fail
        go_ret
        exact ⟨by rw [F0.out]; rfl, O1.out.below⟩
end Go.Proofs.Ytmmdhlemkcddmaa
