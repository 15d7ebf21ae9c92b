/- The law InternParts, walked. -/
import Derived.Test.YtfdggmmibgbfnaaI11
import Derived.Test.YtfdggmmibgbfnaaE3
namespace Go.Proofs.Ytfdggmmibgbfnaa
open Go.RowKit
set_option linter.unusedVariables false
set_option linter.unusedSimpArgs false
set_option maxHeartbeats 800000 in
set_option maxRecDepth 100000 in
theorem parts_law' (t : Tr) (At : Option Addr) (ct : Nat) (w : World) (ht : IsT w w.heap.size t At ct) :
    Calls Try.prog 10 #[.agg #[.int .i64 t.k, .int .i64 t.i, .slice At t.ks.length ct]] w fun e w' => e = .returned (.bool true) ∧ Below w.heap.size w w' := by
  have hbe := below_al w (.cells #[.int .i64 t.k, .int .i64 t.i, .slice At t.ks.length ct] 24)
  have HT := Lib.hid (ht.keep hbe hbe.size)
  have BE := Lib.hid (Box3.new w (.int .i64 t.k) (.int .i64 t.i) (.slice At t.ks.length ct))
  have B0 := Lib.hid hbe
  have NEW := Lib.hid (show Calls Try.prog 31 #[.int .i64 1000] (w.alloc (.cells #[.int .i64 t.k, .int .i64 t.i, .slice At t.ks.length ct] 24)) fun e w' => e = .returned (.pointer (some ⟨w.heap.size + 2, 0, none⟩)) ∧ Tab w' (w.heap.size + 1) (w.heap.size + 2) (w.heap.size + 1) 1000 [] none 0 ∧ Below (w.heap.size + 1) (w.alloc (.cells #[.int .i64 t.k, .int .i64 t.i, .slice At t.ks.length ct] 24)) w' from by
    have := new_1000 (w.alloc (.cells #[.int .i64 t.k, .int .i64 t.i, .slice At t.ks.length ct] 24))
    rw [World.size_alloc] at this
    exact this)
  have HT' : IsT (w.alloc (.cells #[.int .i64 t.k, .int .i64 t.i, .slice At t.ks.length ct] 24)) (w.heap.size + 1) t At ct := by have := HT.out; rw [World.size_alloc] at this; exact this
  replace HT' := Lib.hid HT'
  clear ht hbe HT
  go_enter Try.func10, Try.ntmps10
  go_wp2_with fail
  refine NEW.out.mono ?_
  rintro e w2 ⟨rfl, hT2, hb2⟩
  have hs2 : w.heap.size + 1 ≤ w2.heap.size := by have := hb2.size; simpa using this
  have T2 := Lib.hid hT2
  have HL2 := Lib.hid (IsT.keep hb2 (Nat.le_refl _) t HT'.out)
  have HT2 := Lib.hid (IsT.keep hb2 hs2 t HT'.out)
  have BE2 := Lib.hid (BE.out.keep hb2 (by omega))
  have B2 := Lib.hid (B0.out.trans (hb2.mono (by omega)))
  clear hT2 hb2 NEW HT'
  obtain ⟨y0, y1, y2⟩ := BE2.out.cells
  by_cases hr : rightN t = 0
  · have ADD := Lib.hid (add_new (room := 1000) hr (right_shp' hr).2.1)
    have PUT := Lib.hid (put_ok (tl := w.heap.size + 1) (Nat.le_refl _) hs2 T2.out t At ct HL2.out hr ADD.out.1)
    have HR := Lib.hid hr
    clear hr
    obtain ⟨L, hL⟩ : ∃ L, L = addX 1000 t [] := ⟨_, rfl⟩
    rw [← hL] at ADD PUT
    rw [ADD.out.2.1] at PUT
    clear hL
    go_wp2_with fail
    refine PUT.out.mono ?_
    rintro e w3 ⟨rfl, A3, c3, hA⟩
    have T3 := Lib.hid hA.tab
    have BE3 := Lib.hid ((hA.kp.block _ BE2.out.lt (T2.out.ne BE2.out (by decide) (by decide))).trans BE2.out)
    have HT3 := Lib.hid (IsT.keep hA.bel (Nat.le_trans hs2 hA.kp.size) t HL2.out)
    have B3 := Lib.hid (B2.out.trans (hA.bel.mono (by omega)))
    have hle := hA.tab.le
    clear hA y0 y1 y2 PUT
    obtain ⟨y0, y1, y2⟩ := Box3.cells BE3.out
    go_wp2_with fail
    refine (rright_any t At ct _ (by exact HT3.out)).mono ?_
    rintro e w4 ⟨rfl, hb4⟩
    rw [HR.out]
    have T4 := Lib.hid (T3.out.keep hb4)
    have B4 := Lib.hid (B3.out.trans (hb4.mono B3.out.size))
    clear hb4 y0 y1 y2
    go_wp2_with fail
    refine (len_any T4.out).mono ?_
    rintro e w9 ⟨rfl, rfl⟩
    have OK := Lib.hid T4.out.ok
    have hrm := T4.out.le
    obtain ⟨W, hW⟩ : ∃ W, W = w9 := ⟨_, rfl⟩
    have B5 := Lib.hid (show Below W.heap.size W w9 by rw [hW]; exact Below.refl _ _)
    have TW := Lib.hid (show Tab W (w.heap.size + 1) (w.heap.size + 2) (w.heap.size + 1) 1000 L A3 c3 by rw [hW]; exact T4.out)
    have BW := Lib.hid (show Below w.heap.size w W by rw [hW]; exact B4.out)
    clear hW T3 T4 B3 B4
    go_wp2_with fail
    go_loopw [6] (fun i wx => ∃ m : Nat, m ≤ L.length ∧ i = .int .i64 ((m : Int) + 1) ∧ Below W.heap.size W wx) (fun i _ => L.length + 1 - (intOf i).toNat)
    case atStart => exact ⟨0, Nat.zero_le _, rfl, B5.out⟩
    case round =>
      obtain ⟨m, hm, rfl, hbw⟩ := hrel
      have BR := Lib.hid hbw
      have TR := Lib.hid (TW.out.keep hbw)
      clear hbw
      by_cases hlt : m < L.length
      · have GET := Lib.hid (get_some TR.out m hlt)
        have KID := Lib.hid (fun q (hq : q ∈ L[m].ks) => show ∃ j, j < m ∧ num L q = j + 1 ∧ L[j]? = some q ∧ rightN q = 0 from by
          have h1 := OK.out.kids m hlt q hq
          obtain ⟨j, hj, e⟩ := List.mem_iff_getElem.1 h1
          simp at hj
          rw [List.getElem_take] at e
          exact ⟨j, by omega, by rw [← e]; exact num_get OK.out.nodup j (by omega), by rw [List.getElem?_eq_getElem (by omega), e], OK.out.right q (List.mem_of_mem_take h1)⟩)
        have RX := Lib.hid (OK.out.right L[m] (List.getElem_mem hlt))
        have SZ := Lib.hid (show sizeV L ((m : Int) + 1) = .tuple #[.int .i64 (L[m].sz : Nat), .int .i64 0] by unfold sizeV; rw [if_pos ⟨by omega, by omega⟩, show ((m : Int) + 1 - 1).toNat = m by omega, List.getElem?_eq_getElem hlt]; rfl)
        obtain ⟨x, hx⟩ : ∃ x, x = L[m] := ⟨_, rfl⟩
        rw [← hx] at GET KID RX SZ
        clear hx
        have hszx := (right_shp' RX.out).2.1
        have h4x := (kind_of_shp x (right_shp' RX.out).1).2.2.2.2
        go_wp2_with fail
        refine GET.out.mono ?_
        rintro e w5 ⟨Ax, cx, rfl, ho, hb5⟩
        have X5 := Lib.hid (ho.isT x (Nat.le_refl _) (fit_right x (right_shp' RX.out).1))
        have T5 := Lib.hid (TR.out.keep hb5)
        have B5' := Lib.hid (BR.out.trans (hb5.mono BR.out.size))
        simp only [gotGet]
        clear ho hb5 GET
        have hba := below_al w5 (.cells #[.int .i64 x.k, .int .i64 x.i, .slice Ax x.ks.length cx] 24)
        have T6 := Lib.hid (T5.out.keep hba)
        have B6 := Lib.hid (B5'.out.trans (hba.mono B5'.out.size))
        have X6 := Lib.hid (X5.out.keep hba hba.size)
        obtain ⟨x0, x1, x2⟩ := (Box3.new w5 (.int .i64 x.k) (.int .i64 x.i) (.slice Ax x.ks.length cx)).cells
        clear hba
        go_wp2_with fail
        refine (isize_any T6.out ((m : Int) + 1)).mono ?_
        rintro e w8 ⟨rfl, rfl⟩
        rw [SZ.out]
        have SUM := Lib.hid (show 1 + szL x.ks = x.sz from (sz_eq x).symm)
        obtain ⟨V, hV⟩ : ∃ V, V = w5.alloc (.cells #[.int .i64 x.k, .int .i64 x.i, .slice Ax x.ks.length cx] 24) := ⟨_, rfl⟩
        have BV := Lib.hid (show Below V.heap.size V (w5.alloc (.cells #[.int .i64 x.k, .int .i64 x.i, .slice Ax x.ks.length cx] 24)) by rw [hV]; exact Below.refl _ _)
        rw [← hV] at T6 B6 X6
        clear hV T5 X5 B5' BR TR
        go_wp2_with fail
        go_loopw [11, 65] (fun sm i wx => ∃ j : Nat, j ≤ x.ks.length ∧ i = .int .i64 j ∧ sm = .int .i64 ((1 + szL (x.ks.take j) : Nat) : Int) ∧ Below V.heap.size V wx) (fun _ i _ => x.ks.length - (intOf i).toNat)
        case atStart => exact ⟨0, Nat.zero_le _, rfl, by simp [szL], BV.out⟩
        case round =>
          obtain ⟨j, hj, rfl, rfl, hbv⟩ := hrel
          have TV := Lib.hid (T6.out.keep hbv)
          have BJ := Lib.hid hbv
          clear x0 x1 x2
          by_cases hlj : j < x.ks.length
          · obtain ⟨b, o, Aq, cq, hAx, hltb, p0, p1, p2, hkT⟩ := X6.out.kid j hlj
            obtain ⟨jj, hjj, hnum, hLj, hrq⟩ := KID.out x.ks[j] (List.getElem_mem hlj)
            have STK := Lib.hid (szL_take x.ks j hlj)
            have hle2 := szL_take_le x.ks (j + 1)
            obtain ⟨q, hq⟩ : ∃ q, q = x.ks[j] := ⟨_, rfl⟩
            rw [← hq] at p0 p1 p2 hkT hnum hLj hrq STK
            have d0 := (hbv.cell hltb).trans p0
            have d1 := (hbv.cell hltb).trans p1
            have d2 := (hbv.cell hltb).trans p2
            subst hAx
            have hbq := below_al wr (.cells #[.int .i64 q.k, .int .i64 q.i, .slice Aq q.ks.length cq] 24)
            have KT := Lib.hid ((hkT.keep hbv hbv.size).keep hbq hbq.size)
            have TQ := Lib.hid (TV.out.keep hbq)
            have BQ := Lib.hid (hbv.trans (hbq.mono hbv.size))
            obtain ⟨k0, k1, k2⟩ := (Box3.new wr (.int .i64 q.k) (.int .i64 q.i) (.slice Aq q.ks.length cq)).cells
            have FN := Lib.hid (show findN L q = jj + 1 by unfold findN; rw [if_pos hrq, hnum])
            have hjl : jj < L.length := (List.getElem?_eq_some_iff.1 hLj).1
            have SQ := Lib.hid (show sizeV L ((jj : Int) + 1) = .tuple #[.int .i64 (q.sz : Nat), .int .i64 0] by unfold sizeV; rw [if_pos ⟨by omega, by omega⟩, show ((jj : Int) + 1 - 1).toNat = jj by omega, hLj]; rfl)
            have hsl := SUM.out
            have ht1 : szL (x.ks.take j) + q.sz ≤ 1000 := by have := STK.out; omega
            clear p0 p1 p2 hkT hnum hLj hrq hq hbv hbq
            obtain ⟨s, hs⟩ : ∃ s, s = szL (x.ks.take j) := ⟨_, rfl⟩
            rw [← hs] at STK ht1 ⊢
            clear hs
            have wr1 : IntKind.i64.wrap (((1 + s : Nat) : Int) + (q.sz : Int)) = ((1 + s : Nat) : Int) + (q.sz : Int) := by rw [IntKind.wrap_i64]; omega
            obtain ⟨s1, hs1⟩ : ∃ s1, s1 = 1 + s := ⟨_, rfl⟩
            rw [← hs1] at wr1 ⊢
            have HS1 := Lib.hid hs1
            clear hs1
            have c1 : ¬ ((jj : Int) + 1 < 1) := by omega
            have c2 : ¬ ((m : Int) + 1 ≤ (jj : Int) + 1) := by omega
            go_wp2_with fail
            refine (ifind_any TQ.out q Aq cq (by exact KT.out)).mono ?_
            rintro e w10 ⟨rfl, hb10⟩
            rw [FN.out, show ((jj + 1 : Nat) : Int) = (jj : Int) + 1 by omega]
            have TF := Lib.hid (TQ.out.keep hb10)
            have BF := Lib.hid (BQ.out.trans (hb10.mono BQ.out.size))
            clear hb10 k0 k1 k2 d0 d1 d2
            go_wp2_with fail
            refine (isize_any TF.out ((jj : Int) + 1)).mono ?_
            rintro e w11 ⟨rfl, rfl⟩
            rw [SQ.out]
            go_wp2_with fail
            go_roundw
            case rel => exact ⟨j + 1, by omega, by go_num, by rw [STK.out, HS1.out]; congr 1; omega, BF.out⟩
            case measure => simp [intOf]; omega
          · obtain rfl : j = x.ks.length := by omega
            have ET := Lib.hid (show 1 + szL (x.ks.take x.ks.length) = x.sz by rw [List.take_length]; exact SUM.out)
            rw [ET.out]
            have BF := Lib.hid (B6.out.trans (BJ.out.mono B6.out.size))
            go_wp2_with fail
            go_roundw
            case rel => exact ⟨m + 1, by omega, by go_num, BF.out⟩
            case measure => simp [intOf]; omega
      · obtain rfl : m = L.length := by omega
        have BF := Lib.hid (BW.out.trans (BR.out.mono BW.out.size))
        go_wp2_with fail
        go_ret
        exact ⟨rfl, BF.out⟩
  · have PUT := Lib.hid (put_bad T2.out t At ct HT2.out hr)
    have hne : ((rightN t : Int) != 0) = true := by rw [bne_iff_ne]; omega
    clear hr
    go_wp2_with fail
    refine PUT.out.mono ?_
    rintro e w3 ⟨rfl, hb3⟩
    have T3 := Lib.hid (T2.out.keep hb3)
    have HT3 := Lib.hid (HT2.out.keep hb3 hb3.size)
    have B3 := Lib.hid (B2.out.trans (hb3.mono B2.out.size))
    obtain ⟨z0, z1, z2⟩ := (BE2.out.keep hb3 BE2.out.lt).cells
    clear hb3 y0 y1 y2 PUT
    go_wp2_with fail
    refine (rright_any t At ct _ (by exact HT3.out)).mono ?_
    rintro e w4 ⟨rfl, hb4⟩
    have T4 := Lib.hid (T3.out.keep hb4)
    have B4 := Lib.hid (B3.out.trans (hb4.mono B3.out.size))
    clear hb4 z0 z1 z2
    go_wp2_with fail
    refine (len_any T4.out).mono ?_
    rintro e w9 ⟨rfl, rfl⟩
    go_wp2_with fail
    go_ret
    exact ⟨rfl, B4.out⟩
end Go.Proofs.Ytfdggmmibgbfnaa
