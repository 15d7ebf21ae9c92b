/- askedEach of the document's layer 5. -/
import Derived.Test.YtkncchhalahpoaaS4
import Derived.Test.YtkncchhalahpoaaS5
import Derived.Deep.RegionHeld3
namespace Go.Proofs.Ytkncchhalahpoaa
open Go.RowKit
set_option linter.unusedVariables false
set_option linter.unusedSimpArgs false
/-- the numbers of some pairs -/
def vsOf (l : List (Int × Tr)) : Nat := l.foldl (fun s p => withN s p.1) 0
theorem vsOf_take (l : List (Int × Tr)) (m : Nat) (h : m < l.length) : vsOf (l.take (m + 1)) = withN (vsOf (l.take m)) l[m].1 := by
  unfold vsOf
  rw [List.take_succ_eq_append_getElem h, List.foldl_append]
  rfl
theorem vsOf_has (l : List (Int × Tr)) (x : Int) : ∀ m, m ≤ l.length → (hasN (vsOf (l.take m)) x = true ↔ (0 ≤ x ∧ x ≤ 63) ∧ ∃ j, ∃ h : j < l.length, j < m ∧ l[j].1 = x) := by
  intro m
  induction m with
  | zero => intro _; rw [List.take_zero]; unfold vsOf; simp [hasN_zero]
  | succ m ih =>
    intro hm
    rw [vsOf_take l m (by omega), hasN_withN, Bool.or_eq_true, ih (by omega), Bool.and_eq_true, decide_eq_true_eq, decide_eq_true_eq]
    constructor
    · rintro (⟨h1, j, hj, h2, h3⟩ | ⟨h1, h2⟩)
      · exact ⟨h1, j, hj, by omega, h3⟩
      · exact ⟨h2, m, by omega, by omega, h1⟩
    · rintro ⟨h1, j, hj, h2, h3⟩
      rcases Nat.lt_or_ge j m with h | h
      · exact .inl ⟨h1, j, hj, h, h3⟩
      · obtain rfl : j = m := by omega
        exact .inr ⟨h3, h1⟩
set_option maxHeartbeats 4000000 in
set_option maxRecDepth 100000 in
theorem raskedEach_any (a : Tr) (A : Option Addr) (c : Nat) (l : List (Int × Tr)) (Al : Option Addr) (cl : Nat) (w : World) (ha : IsT w w.heap.size a A c) (hp : IsP w w.heap.size l Al cl) :
    Calls Try.prog 49 #[.agg #[.int .i64 a.k, .int .i64 a.i, .slice A a.ks.length c], .slice Al l.length cl] w fun e w' => e = .returned (.int .i64 ((faultE a l : Nat) : Int)) ∧ Below w.heap.size w w' := by
  have T0 := Lib.hid (One.new ha)
  obtain ⟨y0, y1, y2⟩ := And.intro T0.out.b0 (And.intro T0.out.b1 T0.out.b2)
  have HP := Lib.hid hp
  have hcap := hp.cap
  have hle := hp.le
  clear ha hp
  go_enter Try.func49, Try.ntmps49
  go_wp2_with fail
  go_loopw [14] (fun i wr => ∃ m : Nat, m ≤ l.length ∧ i = .int .i64 m ∧ argE l 0 = argE (l.drop m) (vsOf (l.take m)) ∧ One w wr a A c) (fun i _ => l.length - (intOf i).toNat)
  case atStart => exact ⟨0, Nat.zero_le _, rfl, by rw [List.drop_zero]; rfl, T0.out⟩
  case round =>
    obtain ⟨m, hm', rfl, hA, hO⟩ := hrel
    have AE := Lib.hid hA
    have OO := Lib.hid hO
    have PR := Lib.hid (HP.out.up hO.below)
    clear hA hO y0 y1 y2
    by_cases hlt : m < l.length
    · obtain ⟨b, o, A', c', rfl, hltb, p0, p1, p2, p3, ht⟩ := PR.out.at_ m hlt
      have DR := Lib.hid (List.drop_eq_getElem_cons hlt)
      have VH := Lib.hid (vsOf_has l l[m].1 m hm')
      have VT := Lib.hid (vsOf_take l m hlt)
      obtain ⟨p, hp⟩ : ∃ p, p = l[m] := ⟨_, rfl⟩
      rw [← hp] at p0 p1 p2 p3 DR VH VT
      rw [DR.out] at AE
      have ha := below_alloc wr (.cells #[.int .i64 p.1, .int .i64 p.2.k, .int .i64 p.2.i, .slice A' p.2.ks.length c'] 47)
      have O1 := Lib.hid (OO.out.keep ha)
      have PW := Lib.hid (PR.out.up ha)
      have PB := Lib.hid (box4_new wr (.int .i64 p.1) (.int .i64 p.2.k) (.int .i64 p.2.i) (.slice A' p.2.ks.length c') 47)
      obtain ⟨q0, q1, q2, q3⟩ := PB.out
      clear hp ht ha
      by_cases h0 : p.1 < 0
      · have F := Lib.hid (show faultE a l = 1 by unfold faultE; rw [if_pos (by rw [AE.out]; simp [argE, show ¬ 0 ≤ p.1 by omega])])
        go_wp2_with fail
        go_ret
        exact ⟨by rw [F.out]; rfl, O1.out.below⟩
      · by_cases h1 : 63 < p.1
        · have F := Lib.hid (show faultE a l = 1 by unfold faultE; rw [if_pos (by rw [AE.out]; simp [argE, show ¬ p.1 ≤ 63 by omega])])
          go_wp2_with fail
          go_ret
          exact ⟨by rw [F.out]; rfl, O1.out.below⟩
        · go_wp2_with fail
          clear p0 p1 p2 p3
          obtain ⟨wo, hwo⟩ : ∃ wo, wo = wr.heap.size := ⟨_, rfl⟩
          have hpb : (wr.alloc (.cells #[.int .i64 p.1, .int .i64 p.2.k, .int .i64 p.2.i, .slice A' p.2.ks.length c'] 47)).cell? ⟨wo, 0, none⟩ = some (.int .i64 p.1) := by rw [hwo]; exact q0
          rw [← hwo]
          have PBX := Lib.hid hpb
          clear hpb hwo q0 q1 q2 q3
          go_loopw [7] (fun jv wx => ∃ j : Nat, j ≤ m ∧ jv = .int .i64 (j : Int) ∧ (∀ j' (h' : j' < l.length), j' < j → l[j'].1 ≠ p.1) ∧ One w wx a A c ∧ IsP wx wx.heap.size l (some ⟨b, o, none⟩) cl ∧ wx.cell? ⟨wo, 0, none⟩ = some (.int .i64 p.1)) (fun jv _ => m - (intOf jv).toNat)
          case atStart => exact ⟨0, Nat.zero_le _, rfl, fun j' _ h => by omega, O1.out, PW.out, PBX.out⟩
          case round =>
            obtain ⟨j, hj, rfl, hno, hO, hP, hpb⟩ := hrel
            have HN := Lib.hid hno
            have O4 := Lib.hid (hO.keep ((Below.refl _ _).drew))
            have P4 := Lib.hid (hP.up ((Below.refl _ _).drew))
            have OB := Lib.hid hO
            have hpd : wr.drew.cell? ⟨wo, 0, none⟩ = some (.int .i64 p.1) := hpb
            clear hno O1 PW PBX hO hP
            by_cases hjl : j < m
            · have hjl' : (j : Int) < (m : Int) := by omega
              obtain ⟨b2, o2, A2, c2, e2, hltb2, p0, p1, p2, p3, ht⟩ := P4.out.at_ j (by omega)
              cases e2
              have NXT := Lib.hid (show l[j].1 ≠ p.1 → ∀ j' (h' : j' < l.length), j' < j + 1 → l[j'].1 ≠ p.1 from fun hne j' h' hm => by
                rcases Nat.lt_or_ge j' j with h | h
                · exact HN.out j' h' h
                · obtain rfl : j' = j := by omega
                  exact hne)
              have YES := Lib.hid (show l[j].1 = p.1 → hasN (vsOf (l.take m)) p.1 = true from fun he => VH.out.2 ⟨⟨by omega, by omega⟩, j, by omega, hjl, he⟩)
              have hjn : (j : Int) < (l.length : Int) := by omega
              have hj0 : (0 : Int) ≤ (j : Int) := by omega
              obtain ⟨r, hr⟩ : ∃ r, r = l[j] := ⟨_, rfl⟩
              rw [← hr] at p0 p1 p2 p3 NXT YES
              clear hr ht p1 p2 p3
              go_wp2_with fail
              go_region_held3 (fun w' => w'.cell? ⟨b, o + j * 4, none⟩ = some (.int .i64 r.1) ∧ w'.cell? ⟨wo, 0, none⟩ = some (.int .i64 p.1)) (exact ⟨p0, hpd⟩) (fail)
              by_cases he : r.1 = p.1
              · have he' : (r.1 == p.1) = true := by simp [he]
                have F := Lib.hid (show faultE a l = 1 by unfold faultE; rw [if_pos (by rw [AE.out]; simp [argE, YES.out he])])
                clear he
                go_wp2_with fail
                go_ret
                exact ⟨by rw [F.out]; rfl, O4.out.below⟩
              · have he' : (r.1 == p.1) = false := by simpa using he
                have Y := Lib.hid (NXT.out he)
                clear he
                go_wp2_with fail
                go_roundw
                case rel => exact ⟨j + 1, by omega, by go_num, Y.out, O4.out, P4.out, hpd⟩
                case measure => simp [intOf]; omega
            · have hjl' : ¬ (j : Int) < (m : Int) := by omega
              obtain rfl : j = m := by omega
              have F := Lib.hid (show argE l 0 = argE (l.drop (j + 1)) (vsOf (l.take (j + 1))) by
                have hh : hasN (vsOf (l.take j)) p.1 = false := by
                  cases hx : hasN (vsOf (l.take j)) p.1 with
                  | false => rfl
                  | true =>
                    obtain ⟨_, j', h', hj', he⟩ := VH.out.1 hx
                    exact absurd he (HN.out j' h' hj')
                rw [AE.out, VT.out]
                simp [argE, hh, show 0 ≤ p.1 by omega, show p.1 ≤ 63 by omega])
              go_wp2_with fail
              go_roundw
              case rel => exact ⟨j + 1, by omega, by go_num, F.out, OB.out⟩
              case measure => simp [intOf]; omega
    · obtain rfl : m = l.length := by omega
      have AT := Lib.hid (show argE l 0 = true by rw [AE.out, List.drop_length]; rfl)
      obtain ⟨y0, y1, y2⟩ := And.intro OO.out.b0 (And.intro OO.out.b1 OO.out.b2)
      have F0 := Lib.hid (show faultE a l = if rightN a ≠ 0 then rightN a else if rightL l ≠ 0 then rightL l else if termL l = false then 40 else 0 by unfold faultE; rw [if_neg (by rw [AT.out]; simp)])
      clear AE PR
      go_wp2_with fail
      refine (rright_any a A c _ (by exact OO.out.tree)).mono ?_
      rintro e w1 ⟨rfl, hb1⟩
      have O1 := Lib.hid (OO.out.keep hb1)
      clear hb1 y0 y1 y2
      obtain ⟨y0, y1, y2⟩ := And.intro O1.out.b0 (And.intro O1.out.b1 O1.out.b2)
      by_cases hr : rightN a = 0
      · have h0 : ((rightN a : Int) != 0) = false := by simp [hr]
        rw [if_neg (by simp [hr])] at F0
        clear hr y0 y1 y2
        go_wp2_with fail
        go_loopw [48] (fun i wr => ∃ m : Nat, m ≤ l.length ∧ i = .int .i64 m ∧ rightL l = rightL (l.drop m) ∧ One w wr a A c) (fun i _ => l.length - (intOf i).toNat)
        case atStart => exact ⟨0, Nat.zero_le _, rfl, by rw [List.drop_zero], O1.out⟩
        case round =>
          obtain ⟨m, hm', rfl, hA, hO⟩ := hrel
          have AE := Lib.hid hA
          have OO := Lib.hid hO
          have PR := Lib.hid (HP.out.up hO.below)
          clear hA hO O1
          by_cases hlt : m < l.length
          · obtain ⟨b, o, A', c', rfl, hltb, p0, p1, p2, p3, ht⟩ := PR.out.at_ m hlt
            have DR := Lib.hid (List.drop_eq_getElem_cons hlt)
            obtain ⟨p, hp⟩ : ∃ p, p = l[m] := ⟨_, rfl⟩
            rw [← hp] at p0 p1 p2 p3 DR ht
            rw [DR.out] at AE
            have ha := below_alloc wr (.cells #[.int .i64 p.1, .int .i64 p.2.k, .int .i64 p.2.i, .slice A' p.2.ks.length c'] 47)
            have O1 := Lib.hid (OO.out.keep ha)
            have TT := Lib.hid (ht.keep ha ha.size)
            obtain ⟨q0, q1, q2, q3⟩ := box4_new wr (.int .i64 p.1) (.int .i64 p.2.k) (.int .i64 p.2.i) (.slice A' p.2.ks.length c') 47
            have QC := Lib.hid (And.intro q0 (And.intro q1 (And.intro q2 q3)))
            clear hp ht
            go_wp2_with fail
            refine (rright_any p.2 A' c' _ (by exact TT.out)).mono ?_
            rintro e w2 ⟨rfl, hb2⟩
            have O2 := Lib.hid (O1.out.keep hb2)
            have TT2 := Lib.hid (TT.out.keep hb2 hb2.size)
            have s0 := (hb2.cell (p := ⟨wr.heap.size, 0, none⟩) (by simp)).trans QC.out.1
            have s1 := (hb2.cell (p := ⟨wr.heap.size, 1, none⟩) (by simp)).trans QC.out.2.1
            have s2 := (hb2.cell (p := ⟨wr.heap.size, 2, none⟩) (by simp)).trans QC.out.2.2.1
            have s3 := (hb2.cell (p := ⟨wr.heap.size, 3, none⟩) (by simp)).trans QC.out.2.2.2
            clear hb2
            by_cases hr : rightN p.2 = 0
            · have h2 : ((rightN p.2 : Int) != 0) = false := by simp [hr]
              have F := Lib.hid (show rightL l = rightL (l.drop (m + 1)) by rw [AE.out]; simp [rightL, hr])
              clear hr
              go_wp2_with fail
              go_roundw
              case rel => exact ⟨m + 1, by omega, by go_num, F.out, O2.out⟩
              case measure => simp [intOf]; omega
            · have h2 : ((rightN p.2 : Int) != 0) = true := by rw [bne_iff_ne]; omega
              have F := Lib.hid (show faultE a l = rightN p.2 by rw [F0.out, AE.out]; simp [rightL, hr])
              clear hr
              go_wp2_with fail
              refine (rright_any p.2 A' c' _ (by exact TT2.out)).mono ?_
              rintro e w3 ⟨rfl, hb3⟩
              have O3 := Lib.hid (O2.out.keep hb3)
              clear hb3
              go_wp2_with fail
              go_ret
              exact ⟨by rw [F.out]; rfl, O3.out.below⟩
          · obtain rfl : m = l.length := by omega
            have RL := Lib.hid (show rightL l = 0 by rw [AE.out, List.drop_length]; rfl)
            rw [RL.out] at F0
            simp only [ne_eq, not_true_eq_false, if_false] at F0
            clear AE PR
            go_wp2_with fail
            go_loopw [62] (fun i wr => ∃ m : Nat, m ≤ l.length ∧ i = .int .i64 m ∧ termL l = termL (l.drop m) ∧ One w wr a A c) (fun i _ => l.length - (intOf i).toNat)
            case atStart => exact ⟨0, Nat.zero_le _, rfl, by rw [List.drop_zero], OO.out⟩
            case round =>
              obtain ⟨m, hm', rfl, hA, hO⟩ := hrel
              have AE := Lib.hid hA
              have PR := Lib.hid (HP.out.up hO.below)
              have O3 := Lib.hid hO
              clear hA hO OO
              by_cases hlt : m < l.length
              · obtain ⟨b, o, A', c', rfl, hltb, p0, p1, p2, p3, ht⟩ := PR.out.at_ m hlt
                have DR := Lib.hid (List.drop_eq_getElem_cons hlt)
                obtain ⟨p, hp⟩ : ∃ p, p = l[m] := ⟨_, rfl⟩
                rw [← hp] at p0 p1 p2 p3 DR ht
                rw [DR.out] at AE
                have ha := below_alloc wr (.cells #[.int .i64 p.1, .int .i64 p.2.k, .int .i64 p.2.i, .slice A' p.2.ks.length c'] 47)
                have O1 := Lib.hid (O3.out.keep ha)
                obtain ⟨q0, q1, q2, q3⟩ := box4_new wr (.int .i64 p.1) (.int .i64 p.2.k) (.int .i64 p.2.i) (.slice A' p.2.ks.length c') 47
                clear hp ht
                go_wp2_with fail
                refine (term_any p.2.k p.2.i A' p.2.ks.length c' _).mono ?_
                rintro e w2 ⟨rfl, hb2⟩
                have O2 := Lib.hid (O1.out.keep hb2)
                clear hb2
                cases hr : termB p.2.k with
                | true =>
                  have F := Lib.hid (show termL l = termL (l.drop (m + 1)) by rw [AE.out]; simp [termL, hr])
                  go_wp2_with fail
                  go_roundw
                  case rel => exact ⟨m + 1, by omega, by go_num, F.out, O2.out⟩
                  case measure => simp [intOf]; omega
                | false =>
                  have F := Lib.hid (show faultE a l = 40 by rw [F0.out, if_pos (by rw [AE.out]; simp [termL, hr])])
                  go_wp2_with fail
                  go_ret
                  exact ⟨by rw [F.out]; rfl, O2.out.below⟩
              · obtain rfl : m = l.length := by omega
                have F := Lib.hid (show faultE a l = 0 by rw [F0.out, if_neg (by rw [AE.out, List.drop_length]; simp [termL])])
                go_wp2_with fail
                go_ret
                exact ⟨by rw [F.out]; rfl, O3.out.below⟩
      · have h0 : ((rightN a : Int) != 0) = true := by rw [bne_iff_ne]; omega
        rw [if_pos hr] at F0
        clear hr
        go_wp2_with fail
        refine (rright_any a A c _ (by exact O1.out.tree)).mono ?_
        rintro e w2 ⟨rfl, hb2⟩
        have O2 := Lib.hid (O1.out.keep hb2)
        clear hb2 y0 y1 y2
        go_wp2_with fail
        go_ret
        exact ⟨by rw [F0.out]; rfl, O2.out.below⟩
end Go.Proofs.Ytkncchhalahpoaa
