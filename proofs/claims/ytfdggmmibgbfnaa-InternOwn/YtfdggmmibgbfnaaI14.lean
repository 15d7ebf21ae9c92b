/- The law InternOwn, walked. -/
import Derived.Test.YtfdggmmibgbfnaaI13
import Derived.Test.YtfdggmmibgbfnaaE3
namespace Go.Proofs.Ytfdggmmibgbfnaa
open Go.RowKit
set_option linter.unusedVariables false
set_option linter.unusedSimpArgs false
set_option maxHeartbeats 800000 in
set_option maxRecDepth 100000 in
theorem own_law6 (t : Tr) (At : Option Addr) (ct : Nat) (w : World) (ht : IsT w w.heap.size t At ct) :
    Calls Try.prog 12 #[.agg #[.int .i64 t.k, .int .i64 t.i, .slice At t.ks.length ct]] w fun e w' => e = .returned (.bool true) ∧ Below w.heap.size w w' := by
  have hbe := below_al w (.cells #[.int .i64 t.k, .int .i64 t.i, .slice At t.ks.length ct] 24)
  have HT := Lib.hid (ht.keep hbe hbe.size)
  have FIT := Lib.hid ht.fit
  have BE := Lib.hid (Box3.new w (.int .i64 t.k) (.int .i64 t.i) (.slice At t.ks.length ct))
  have B0 := Lib.hid hbe
  obtain ⟨y0, y1, y2⟩ := BE.out.cells
  clear ht hbe
  go_enter Try.func12, Try.ntmps12
  go_wp2_with fail
  refine (rright_any t At ct _ (by exact HT.out)).mono ?_
  rintro e w2 ⟨rfl, hb2⟩
  have HT2 := Lib.hid (HT.out.keep hb2 hb2.size)
  have BE2 := Lib.hid (BE.out.keep hb2 BE.out.lt)
  have B2 := Lib.hid (B0.out.trans (hb2.mono B0.out.size))
  clear hb2 y0 y1 y2
  by_cases hr : rightN t = 0
  · have hne : ((rightN t : Int) != 0) = false := by simp [hr]
    have ADD := Lib.hid (add_new (room := 1000) hr (right_shp' hr).2.1)
    have HR := Lib.hid hr
    have h4 := (kind_of_shp t (right_shp' hr).1).2.2.2.2
    obtain ⟨y0, y1, y2⟩ := BE2.out.cells
    clear hr
    go_wp2_with fail
    refine (copy_any t.sz t At ct _ (Nat.le_refl _) (by exact HT2.out)).mono ?_
    rintro e w3 ⟨Aw, cw, rfl, hw, hb3⟩
    have WAS := Lib.hid (hw.isT t (Nat.le_refl _) FIT.out)
    have HT3 := Lib.hid (HT2.out.keep hb3 hb3.size)
    have BE3 := Lib.hid (BE2.out.keep hb3 BE2.out.lt)
    have B3 := Lib.hid (B2.out.trans (hb3.mono B2.out.size))
    have hb3a := below_al w3 (.cells #[.int .i64 t.k, .int .i64 t.i, .slice Aw t.ks.length cw] 24)
    have WAS3 := Lib.hid (WAS.out.keep hb3a hb3a.size)
    have WB3 := Lib.hid (Box3.new w3 (.int .i64 t.k) (.int .i64 t.i) (.slice Aw t.ks.length cw))
    have HT3a := Lib.hid (HT3.out.keep hb3a hb3a.size)
    obtain ⟨x0, x1, x2⟩ := (BE3.out.keep hb3a BE3.out.lt).cells
    have B3a := Lib.hid (B3.out.trans (hb3a.mono B3.out.size))
    clear hw hb3 y0 y1 y2 WAS HT3 hb3a
    go_wp2_with fail
    refine (copy_any t.sz t At ct _ (Nat.le_refl _) (by exact HT3a.out)).mono ?_
    rintro e w4 ⟨Am, cm, rfl, hm, hb4⟩
    have hs4 : w3.heap.size + 1 ≤ w4.heap.size := by have := hb4.size; simpa using this
    have MINE := Lib.hid (show OwnT w4 (w3.heap.size + 1) w4.heap.size t Am cm by rw [World.size_alloc] at hm; exact hm)
    have BW4 := Lib.hid (show Below (w3.heap.size + 1) (w3.alloc (.cells #[.int .i64 t.k, .int .i64 t.i, .slice Aw t.ks.length cw] 24)) w4 by rw [World.size_alloc] at hb4; exact hb4)
    have B4 := Lib.hid (B3a.out.trans (hb4.mono B3a.out.size))
    have hb4a := below_al w4 (.cells #[.int .i64 t.k, .int .i64 t.i, .slice Am t.ks.length cm] 24)
    have NEW := Lib.hid (show Calls Try.prog 31 #[.int .i64 1000] (w4.alloc (.cells #[.int .i64 t.k, .int .i64 t.i, .slice Am t.ks.length cm] 24)) fun e w' => e = .returned (.pointer (some ⟨w4.heap.size + 2, 0, none⟩)) ∧ Tab w' (w4.heap.size + 1) (w4.heap.size + 2) (w4.heap.size + 1) 1000 [] none 0 ∧ Below (w4.heap.size + 1) (w4.alloc (.cells #[.int .i64 t.k, .int .i64 t.i, .slice Am t.ks.length cm] 24)) w' from by
      have := new_1000 (w4.alloc (.cells #[.int .i64 t.k, .int .i64 t.i, .slice Am t.ks.length cm] 24))
      rw [World.size_alloc] at this
      exact this)
    have MB := Lib.hid (Box3.new w4 (.int .i64 t.k) (.int .i64 t.i) (.slice Am t.ks.length cm))
    have BW4a := Lib.hid (BW4.out.trans (hb4a.mono hs4))
    have MINEa := Lib.hid (OwnT.same t (fun k h1 h2 => hb4a.block k h2) MINE.out)
    have B4a := Lib.hid (B4.out.trans (hb4a.mono B4.out.size))
    clear hm hb4 hb4a x0 x1 x2
    go_wp2_with fail
    refine NEW.out.mono ?_
    rintro e w5 ⟨rfl, hT5, hb5⟩
    have hs5 : w4.heap.size + 1 ≤ w5.heap.size := by have := hb5.size; simpa using this
    have T5 := Lib.hid hT5
    have MINE5 := Lib.hid (OwnT.same t (fun k h1 h2 => hb5.block k (by omega)) MINEa.out)
    have MB5 := Lib.hid (MB.out.keep hb5 (by omega))
    have BW5 := Lib.hid (BW4a.out.trans (hb5.mono (by omega)))
    have B5 := Lib.hid (B4a.out.trans (hb5.mono (by have := B4.out.size; omega)))
    obtain ⟨y0, y1, y2⟩ := MB5.out.cells
    clear hT5 hb5 NEW
    have PUT := Lib.hid (put_ok (tl := w4.heap.size + 1) (Nat.le_refl _) hs5 T5.out t Am cm (MINE5.out.isT t (by omega) FIT.out) HR.out ADD.out.1)
    obtain ⟨L, hL⟩ : ∃ L, L = addX 1000 t [] := ⟨_, rfl⟩
    rw [← hL] at ADD PUT
    obtain ⟨m, hmL⟩ : ∃ m, L.length = m + 1 := ⟨L.length - 1, by have := ADD.out.1; have := ADD.out.2.1; omega⟩
    have LT := Lib.hid (show L[m]? = some t by
      have h1 := num_at ADD.out.2.2.2.1
      rw [← ADD.out.2.2.2.2, ADD.out.2.1, hmL] at h1
      simpa using h1)
    have NUM := Lib.hid (show findN L t = m + 1 by unfold findN; rw [if_pos HR.out, ← ADD.out.2.2.2.2, ADD.out.2.1, hmL])
    rw [ADD.out.2.1, hmL, show ((m + 1 : Nat) : Int) = (m : Int) + 1 by omega] at PUT
    have hml : m < L.length := by omega
    clear hL
    go_wp2_with fail
    refine PUT.out.mono ?_
    rintro e w6 ⟨rfl, A6, c6, hA⟩
    have T6 := Lib.hid hA.tab
    have hz6 := hA.kp.size
    have MB6 := Lib.hid (MB5.out.keep hA.bel (by omega))
    have MINE6 := Lib.hid (OwnT.same t (fun k h1 h2 => hA.bel.block k (by omega)) MINE5.out)
    have BW6 := Lib.hid (BW5.out.trans (hA.bel.mono (by omega)))
    have B6 := Lib.hid (B5.out.trans (hA.bel.mono (by have := B4.out.size; omega)))
    clear hA y0 y1 y2 PUT T5
    obtain ⟨y0, y1, y2⟩ := MB6.out.cells
    have OV := Lib.hid (Ovr.start MINE6.out)
    go_wp2_with fail
    go_loopw [33] (fun i wx => ∃ j : Nat, j ≤ t.ks.length ∧ i = .int .i64 (j : Int) ∧ Ovr w6 wx (w3.heap.size + 1) w4.heap.size Am cm t.ks.length) (fun i _ => t.ks.length - (intOf i).toNat)
    case atStart => exact ⟨0, Nat.zero_le _, rfl, OV.out⟩
    case round =>
      obtain ⟨wo, rfl⟩ : ∃ wo, wo = wr := ⟨_, rfl⟩
      obtain ⟨j, hj, rfl, hO⟩ := hrel
      have OJ := Lib.hid hO
      have b2 := (MB6.out.spo hO.spo (by omega)).cells.2.2
      clear hO y0 y1 y2
      by_cases hlt : j < t.ks.length
      · obtain ⟨g, rfl, hc, ⟨u0, u1, u2, c0, c1, c2⟩, fz, NX⟩ := OJ.out.step j hlt
        have NXT := Lib.hid NX
        have f0 := fz (j * 3)
        have f1 := fz (j * 3 + 1)
        have f2 := fz (j * 3 + 2)
        clear NX fz
        go_wp2_with fail
        go_roundw
        case rel => exact ⟨j + 1, by omega, by go_num, NXT.out _ _ _⟩
        case measure => simp [intOf]; omega
      · obtain rfl : j = t.ks.length := by omega
        have T7 := Lib.hid (T6.out.spo OJ.out.spo (.inl (by omega)))
        have BW7 := Lib.hid (BW6.out.trans OJ.out.spo.below)
        have B7 := Lib.hid (B6.out.trans (OJ.out.spo.below.mono (by have := B3.out.size; omega)))
        have GET := Lib.hid (get_some T7.out m hml)
        rw [show L[m] = t from by have := LT.out; rw [List.getElem?_eq_getElem hml] at this; simpa using this] at GET
        have hz7 : w6.heap.size ≤ wo.heap.size := OJ.out.spo.below.size
        go_wp2_with fail
        refine GET.out.mono ?_
        rintro e w8 ⟨Aa, ca, rfl, ha, hb8⟩
        simp only [gotGet]
        have hz8 := hb8.size
        have T8 := Lib.hid (T7.out.keep hb8)
        have BW8 := Lib.hid (BW7.out.trans (hb8.mono (by omega)))
        have B8 := Lib.hid (B7.out.trans (hb8.mono B7.out.size))
        have hb8a := below_al w8 (.cells #[.int .i64 t.k, .int .i64 t.i, .slice Aa t.ks.length ca] 24)
        have T8a := Lib.hid (T8.out.keep hb8a)
        have BW8a := Lib.hid (BW8.out.trans (hb8a.mono (by omega)))
        have B8a := Lib.hid (B8.out.trans (hb8a.mono B8.out.size))
        have AB := Lib.hid (Box3.new w8 (.int .i64 t.k) (.int .i64 t.i) (.slice Aa t.ks.length ca))
        have OV2 := Lib.hid (Ovr.start (OwnT.same t (fun k h1 h2 => hb8a.block k h2) ha))
        have T7lt := Lib.hid T7.out.lt
        obtain ⟨y0, y1, y2⟩ := AB.out.cells
        clear ha hb8 hb8a GET
        go_wp2_with fail
        go_loopw [51] (fun i wx => ∃ j : Nat, j ≤ t.ks.length ∧ i = .int .i64 (j : Int) ∧ Ovr (w8.alloc (.cells #[.int .i64 t.k, .int .i64 t.i, .slice Aa t.ks.length ca] 24)) wx wo.heap.size w8.heap.size Aa ca t.ks.length) (fun i _ => t.ks.length - (intOf i).toNat)
        case atStart => exact ⟨0, Nat.zero_le _, rfl, OV2.out⟩
        case round =>
          obtain ⟨j, hj2, rfl, hO⟩ := hrel
          have OK2 := Lib.hid hO
          have b3 := (AB.out.spo hO.spo (by omega)).cells.2.2
          clear hO y0 y1 y2 b2
          by_cases hlt : j < t.ks.length
          · obtain ⟨g, rfl, hc, ⟨u0, u1, u2, c0, c1, c2⟩, fz, NX⟩ := OK2.out.step j hlt
            have NXT := Lib.hid NX
            have f0 := fz (j * 3)
            have f1 := fz (j * 3 + 1)
            have f2 := fz (j * 3 + 2)
            clear NX fz
            go_wp2_with fail
            go_roundw
            case rel => exact ⟨j + 1, by omega, by go_num, NXT.out _ _ _⟩
            case measure => simp [intOf]; omega
          · obtain rfl : j = t.ks.length := by omega
            have T9 := Lib.hid (T8a.out.same fun k hk => OK2.out.spo.out (T8a.out.lt k hk).2 (by have := T7lt.out k hk; omega))
            have hz9 := OK2.out.spo.below.size
            simp only [World.size_alloc] at hz9
            have BW9 := Lib.hid (BW8a.out.trans (OK2.out.spo.below.mono (by omega)))
            have B9 := Lib.hid (B8a.out.trans (OK2.out.spo.below.mono (by have := B7.out.size; omega)))
            have GET2 := Lib.hid (get_some T9.out m hml)
            rw [show L[m] = t from by have := LT.out; rw [List.getElem?_eq_getElem hml] at this; simpa using this] at GET2
            clear b3
            go_wp2_with fail
            refine GET2.out.mono ?_
            rintro e w10 ⟨Ab, cb, rfl, hbo, hb10⟩
            simp only [gotGet]
            have hz10 := hb10.size
            have T10 := Lib.hid (T9.out.keep hb10)
            have BW10 := Lib.hid (BW9.out.trans (hb10.mono (by omega)))
            have B10 := Lib.hid (B9.out.trans (hb10.mono B9.out.size))
            have IB := Lib.hid (hbo.isT t (Nat.le_refl _) FIT.out)
            have hb10a := below_al w10 (.cells #[.int .i64 t.k, .int .i64 t.i, .slice Ab t.ks.length cb] 24)
            have T10a := Lib.hid (T10.out.keep hb10a)
            have BW10a := Lib.hid (BW10.out.trans (hb10a.mono (by omega)))
            have B10a := Lib.hid (B10.out.trans (hb10a.mono B10.out.size))
            have IB10 := Lib.hid (IB.out.keep hb10a hb10a.size)
            have IW10 := Lib.hid (show IsT (w10.alloc (.cells #[.int .i64 t.k, .int .i64 t.i, .slice Ab t.ks.length cb] 24)) (w10.alloc (.cells #[.int .i64 t.k, .int .i64 t.i, .slice Ab t.ks.length cb] 24)).heap.size t Aw cw from IsT.keep BW10a.out (by simp; omega) t (by have := WAS3.out; rw [World.size_alloc] at this; exact this))
            have WB10 := Lib.hid (WB3.out.keep BW10a.out (by omega))
            obtain ⟨k0, k1, k2⟩ := WB10.out.cells
            obtain ⟨n0, n1, n2⟩ := (Box3.new w10 (.int .i64 t.k) (.int .i64 t.i) (.slice Ab t.ks.length cb)).cells
            clear hbo hb10 hb10a GET2
            go_wp2_with fail
            refine (same06 t t Ab Aw cb cw _ (by exact IB10.out) (by exact IW10.out)).mono ?_
            rintro e w11 ⟨rfl, hb11⟩
            rw [likeB_me]
            have T11 := Lib.hid (T10a.out.keep hb11)
            have IW11 := Lib.hid (IW10.out.keep hb11 hb11.size)
            have B11 := Lib.hid (B10a.out.trans (hb11.mono B10a.out.size))
            obtain ⟨z0, z1, z2⟩ := (WB10.out.keep hb11 WB10.out.lt).cells
            clear hb11 k0 k1 k2 n0 n1 n2
            go_wp2_with fail
            refine (ifind_any T11.out t Aw cw (by exact IW11.out)).mono ?_
            rintro e w12 ⟨rfl, hb12⟩
            rw [NUM.out, show ((m + 1 : Nat) : Int) = (m : Int) + 1 by omega]
            have B12 := Lib.hid (B11.out.trans (hb12.mono B11.out.size))
            clear hb12 z0 z1 z2
            go_wp2_with fail
            go_ret
            exact ⟨by first | rfl | simp, B12.out⟩
  · have hne : ((rightN t : Int) != 0) = true := by rw [bne_iff_ne]; omega
    clear hr
    go_wp2_with fail
    go_ret
    exact ⟨rfl, B2.out⟩
end Go.Proofs.Ytfdggmmibgbfnaa
