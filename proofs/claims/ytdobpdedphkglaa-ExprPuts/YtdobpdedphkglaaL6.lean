/- The law ExprPuts, walked. -/
import Derived.Test.YtdobpdedphkglaaL5
import Derived.Deep.QuietTactic
import Derived.BigQuiet
namespace Go.Proofs.Ytdobpdedphkglaa
open Go.RowKit Go.Sort
/-- of what Put answers without a fault -/
theorem putR_zero {t x : Tr} {zs : List Int} (h : (putR t x zs).2 = 0) : rightN t = 0 ∧ rightN x = 0 ∧ ∃ q, partAt t zs = some q ∧ rightN q = 0 ∧ atN t zs = (q, 0) ∧ (putR t x zs).1 = putAt x t zs ∧ rightN (putAt x t zs) = 0 ∧ atN (putAt x t zs) zs = (x, 0) ∧ putR (putAt x t zs) q zs = (t, 0) := by
  have h1 : rightN t = 0 := by
    unfold putR at h
    by_cases h1 : rightN t = 0
    · exact h1
    · rw [if_pos h1] at h; exact h
  have h2 : rightN x = 0 := by
    unfold putR at h
    rw [if_neg (by simp [h1])] at h
    by_cases h2 : rightN x = 0
    · exact h2
    · rw [if_pos h2] at h; exact h
  cases h3 : partAt t zs with
  | none => rw [putR_path h1 h2 h3] at h; simp at h
  | some q =>
    have h0 : putR t x zs = if termB q.k ≠ termB x.k then (zeroT, 40) else if rightN (putAt x t zs) ≠ 0 then (zeroT, rightN (putAt x t zs)) else (putAt x t zs, 0) := by
      unfold putR; rw [if_neg (by simp [h1]), if_neg (by simp [h2]), h3]
    rw [h0] at h
    have hk : termB q.k = termB x.k := by
      by_cases hk : termB q.k = termB x.k
      · exact hk
      · rw [if_pos hk] at h; simp at h
    rw [if_neg (by simp [hk])] at h
    have hr : rightN (putAt x t zs) = 0 := by
      by_cases hr : rightN (putAt x t zs) = 0
      · exact hr
      · rw [if_pos hr] at h; exact h
    have hq : rightN q = 0 := by
      obtain ⟨a1, a2, a3⟩ := right_zero3 h1
      have b1 := partAt_sz zs t q h3
      have b2 := partAt_dp zs t q h3
      exact right_of (by omega) (by omega) (partAt_shp zs t q h3 a3)
    refine ⟨h1, h2, q, rfl, hq, ?_, ?_, hr, ?_, ?_⟩
    · unfold atN; rw [if_pos h1, h3]
    · rw [h0, if_neg (by simp [hk]), if_neg (by simp [hr])]
    · unfold atN; rw [if_pos hr, partAt_put x zs t q h3]
    · unfold putR
      rw [if_neg (by simp [hr]), if_neg (by simp [hq]), partAt_put x zs t q h3]
      simp only []
      rw [if_neg (by simp [hk]), putAt_back x zs t q h3, if_neg (by simp [h1])]
theorem atN_right {t : Tr} {zs : List Int} (h : rightN t = 0) (h0 : (atN t zs).2 = 0) : rightN (atN t zs).1 = 0 := by
  unfold atN at h0 ⊢
  rw [if_pos h] at h0 ⊢
  cases h3 : partAt t zs with
  | none => rw [h3] at h0; simp at h0
  | some q =>
    obtain ⟨a1, a2, a3⟩ := right_zero3 h
    have b1 := partAt_sz zs t q h3
    have b2 := partAt_dp zs t q h3
    exact right_of (t := q) (by omega) (by omega) (partAt_shp zs t q h3 a3)
theorem atN_other {t x q : Tr} {zs ys : List Int} {k : Nat} (h : rightN t = 0) (hy : rightN (putAt x t zs) = 0) (h1 : k < zs.length) (h2 : k < ys.length) (e : zs.take k = ys.take k) (ne : zs[k] ≠ ys[k]) (hp : partAt t zs = some q) : atN (putAt x t zs) ys = atN t ys := by
  unfold atN; rw [if_pos h, if_pos hy, partAt_other x zs ys t q k h1 h2 e ne hp]
/-- what the loop over the path stands on -/
structure Pu (w W : World) (t : Tr) (A : Option Addr) (c : Nat) (y : Tr) (by_ : Nat) (A' : Option Addr) (c' : Nat) (A1 : Option Addr) (zs : List Int) (B1 : Option Addr) (ys : List Int) : Prop where
  tb : Box3 W w.heap.size (.int .i64 t.k) (.int .i64 t.i) (.slice A t.ks.length c)
  isT : IsT W W.heap.size t A c
  yb : AnB W by_ y A' c'
  path : Rd .i64 W W.heap.size A1 zs
  other : Rd .i64 W W.heap.size B1 ys
  below : Below w.heap.size w W
theorem Pu.keep {w W W' : World} {t : Tr} {A : Option Addr} {c : Nat} {y : Tr} {b : Nat} {A' : Option Addr} {c' : Nat} {A1 : Option Addr} {zs : List Int} {B1 : Option Addr} {ys : List Int} (h : Pu w W t A c y b A' c' A1 zs B1 ys) (hb : Below W.heap.size W W') : Pu w W' t A c y b A' c' A1 zs B1 ys :=
  ⟨h.tb.keep hb h.tb.lt, h.isT.keep hb hb.size, h.yb.keep hb, h.path.upZ hb, h.other.upZ hb, h.below.trans (hb.mono h.below.size)⟩
set_option maxRecDepth 100000 in
set_option maxHeartbeats 4000000 in
theorem puts_any (t x : Tr) (A Ax : Option Addr) (c cx : Nat) (A1 : Option Addr) (n cap : Nat) (zs : List Int) (B1 : Option Addr) (n2 cap2 : Nat) (ys : List Int) (w : World) (ht : IsT w w.heap.size t A c) (hx : IsT w w.heap.size x Ax cx) (hz : zs.length = n) (hn : n ≤ maxLen) (hnc : n ≤ cap) (hr : Rd .i64 w w.heap.size A1 zs) (hz2 : ys.length = n2) (hn2 : n2 ≤ maxLen) (hr2 : Rd .i64 w w.heap.size B1 ys) :
    Calls Try.prog 4 #[.agg #[.int .i64 t.k, .int .i64 t.i, .slice A t.ks.length c], .agg #[.int .i64 x.k, .int .i64 x.i, .slice Ax x.ks.length cx], .slice A1 n cap, .slice B1 n2 cap2] w fun e w' => e = .returned (.bool true) ∧ Below w.heap.size w w' := by
  have K0 := Lib.hid (Qk.start ht hx hr)
  have O0 := Lib.hid (hr2.upZ (K0.out.below))
  have FT := Lib.hid (ht.fit t)
  have FX := Lib.hid (hx.fit x)
  have FY := Lib.hid (putR_fit (zs := zs) (ht.fit t) (hx.fit x))
  have PZ := Lib.hid (putR_zero (t := t) (x := x) (zs := zs))
  have hn' : n ≤ 9223372036854775807 := by unfold maxLen at hn; omega
  have HZ := Lib.hid hz
  have HZ2 := Lib.hid hz2
  clear ht hx hr hr2 hz hz2
  go_enter Try.func4, Try.ntmps4
  go_wp2_with fail
  refine (rput_tree t A c x Ax cx A1 n cap zs _ (by exact K0.out.isT) (by exact K0.out.isX) HZ.out hn hnc (by exact K0.out.path)).mono ?_
  rintro e w1 ⟨hb1, A2, c2, ho, rfl⟩
  obtain ⟨py, hpy⟩ : ∃ py, py = putR t x zs := ⟨_, rfl⟩
  have HPY := Lib.hid hpy
  rw [← hpy] at ho FY PZ ⊢
  obtain ⟨y, g⟩ := py
  simp only at ho FY PZ ⊢
  have K1 := Lib.hid (fun o => (K0.out.keep hb1).keep (alloc_below w1 o))
  have O1 := Lib.hid (fun o => (O0.out.upZ hb1).upZ (alloc_below w1 o))
  have t0 := fun o => (K1.out o).tb.cells.1
  have t1 := fun o => (K1.out o).tb.cells.2.1
  have t2 := fun o => (K1.out o).tb.cells.2.2
  have x0 := fun o => (K1.out o).xb.cells.1
  have x1 := fun o => (K1.out o).xb.cells.2.1
  have x2 := fun o => (K1.out o).xb.cells.2.2
  clear hb1 ho hpy K0 O0
  go_wp2_with fail
  refine (put_tree t A c x Ax cx A1 n cap zs _ (by exact (K1.out _).isT) (by exact (K1.out _).isX) HZ.out hn hnc (by exact (K1.out _).path)).mono ?_
  rintro e w2 ⟨hb1, A3, c3, ho, rfl⟩
  rw [← HPY.out] at ho ⊢
  simp only at ho ⊢
  have K2 := Lib.hid (fun o => ((K1.out _).keep hb1).keep (alloc_below w2 o))
  have O2 := Lib.hid (fun o => ((O1.out _).upZ hb1).upZ (alloc_below w2 o))
  have BY := Lib.hid (AnB.new ho FY.out)
  clear hb1 ho K1 O1 t0 t1 t2 x0 x1 x2
  by_cases hg : g = 0
  · subst hg
    obtain ⟨R1, R2, q, P1, R3, P2, P3, R4, P4, P5⟩ := PZ.out rfl
    have OT := Lib.hid (fun (k : Nat) h1 h2 e ne => atN_other (k := k) (ys := ys) R1 R4 h1 h2 e ne P1)
    rw [← P3] at R4 P4 P5 OT
    have HR1 := Lib.hid R1
    have FQ := Lib.hid (partAt_fit zs t q P1 FT.out)
    have SX := Lib.hid (show sameB x x = true by rw [sameB_self, R2]; rfl)
    have ST := Lib.hid (show sameB t t = true by rw [sameB_self, R1]; rfl)
    have HP2 := Lib.hid P2
    have HP4 := Lib.hid P4
    have HP5 := Lib.hid P5
    clear PZ P1 R1 R2 R3 R4 P2 P3 P4 P5 HPY
    have t0 := fun o => (K2.out o).tb.cells.1
    have t1 := fun o => (K2.out o).tb.cells.2.1
    have t2 := fun o => (K2.out o).tb.cells.2.2
    go_wp2_with fail
    refine (at_any t A c A1 n cap zs _ (by exact (K2.out _).isT) HZ.out hn (by exact (K2.out _).path)).mono ?_
    rintro e w3 ⟨hb1, A4, c4, ho, rfl⟩
    rw [HP2.out] at ho ⊢
    simp only at ho ⊢
    have K3 := Lib.hid (fun o => ((K2.out _).keep hb1).keep (alloc_below w3 o))
    have O3 := Lib.hid (fun o => ((O2.out _).upZ hb1).upZ (alloc_below w3 o))
    have BY3 := Lib.hid (fun o => (BY.out.keep hb1).keep (alloc_below w3 o))
    have BQ := Lib.hid (AnB.new ho FQ.out)
    clear hb1 ho K2 O2 BY t0 t1 t2 HP2
    have y0 := fun o => (BY3.out o).box.cells.1
    have y1 := fun o => (BY3.out o).box.cells.2.1
    have y2 := fun o => (BY3.out o).box.cells.2.2
    go_wp2_with fail
    refine (at_any y A3 c3 A1 n cap zs _ (by exact (BY3.out _).is) HZ.out hn (by exact (K3.out _).path)).mono ?_
    rintro e w4 ⟨hb1, A5, c5, ho, rfl⟩
    rw [HP4.out] at ho ⊢
    simp only at ho ⊢
    have K4 := Lib.hid (fun o => ((K3.out _).keep hb1).keep (alloc_below w4 o))
    have O4 := Lib.hid (fun o => ((O3.out _).upZ hb1).upZ (alloc_below w4 o))
    have BY4 := Lib.hid (fun o => ((BY3.out _).keep hb1).keep (alloc_below w4 o))
    have BQ4 := Lib.hid (fun o => (BQ.out.keep hb1).keep (alloc_below w4 o))
    have BN := Lib.hid (AnB.new ho FX.out)
    clear hb1 ho K3 O3 BY3 BQ y0 y1 y2 HP4
    have y0 := fun o => (BY4.out o).box.cells.1
    have y1 := fun o => (BY4.out o).box.cells.2.1
    have y2 := fun o => (BY4.out o).box.cells.2.2
    have q0 := fun o => (BQ4.out o).box.cells.1
    have q1 := fun o => (BQ4.out o).box.cells.2.1
    have q2 := fun o => (BQ4.out o).box.cells.2.2
    go_wp2_with fail
    refine (put_tree y A3 c3 q A4 c4 A1 n cap zs _ (by exact (BY4.out _).is) (by exact (BQ4.out _).is) HZ.out hn hnc (by exact (K4.out _).path)).mono ?_
    rintro e w5 ⟨hb1, A6, c6, ho, rfl⟩
    rw [HP5.out] at ho ⊢
    simp only at ho ⊢
    have K5 := Lib.hid (fun o => ((K4.out _).keep hb1).keep (alloc_below w5 o))
    have O5 := Lib.hid (fun o => ((O4.out _).upZ hb1).upZ (alloc_below w5 o))
    have BY5 := Lib.hid (fun o => ((BY4.out _).keep hb1).keep (alloc_below w5 o))
    have BN5 := Lib.hid (fun o => (BN.out.keep hb1).keep (alloc_below w5 o))
    have BB := Lib.hid (AnB.new ho FT.out)
    clear hb1 ho K4 O4 BY4 BQ4 BN y0 y1 y2 q0 q1 q2 HP5
    have n0 := fun o => (BN5.out o).box.cells.1
    have n1 := fun o => (BN5.out o).box.cells.2.1
    have n2' := fun o => (BN5.out o).box.cells.2.2
    have x0 := fun o => (K5.out o).xb.cells.1
    have x1 := fun o => (K5.out o).xb.cells.2.1
    have x2 := fun o => (K5.out o).xb.cells.2.2
    go_wp2_with fail
    refine (same_any x x A5 Ax c5 cx _ (by exact (BN5.out _).is) (by exact (K5.out _).isX)).mono ?_
    rintro e w6 ⟨rfl, hb1⟩
    rw [SX.out]
    have K6 := Lib.hid ((K5.out _).keep hb1)
    have O6 := Lib.hid ((O5.out _).upZ hb1)
    have BY6 := Lib.hid ((BY5.out _).keep hb1)
    have BB6 := Lib.hid (BB.out.keep hb1)
    obtain ⟨b0, b1, b2⟩ := BB6.out.box.cells
    obtain ⟨t0, t1, t2⟩ := K6.out.tb.cells
    clear hb1 K5 O5 BY5 BB BN5 n0 n1 n2' x0 x1 x2
    go_wp2_with fail
    refine (same_any t t A6 A c6 c _ (by exact BB6.out.is) (by exact K6.out.isT)).mono ?_
    rintro e w7 ⟨rfl, hb1⟩
    rw [ST.out]
    have U := Lib.hid ((Pu.mk K6.out.tb K6.out.isT BY6.out K6.out.path O6.out K6.out.below).keep hb1)
    clear hb1 K6 O6 BY6 BB6 b0 b1 b2 t0 t1 t2 SX ST FX FY FQ
    go_wp2_with fail
    go_loopw [91] (fun i wr => ∃ m : Nat, m ≤ n ∧ i = .int .i64 (m : Int) ∧ zs.take m = ys.take m ∧ Pu w wr t A c y w2.heap.size A3 c3 A1 zs B1 ys) (fun i _ => n - (intOf i).toNat)
    case atStart => exact ⟨0, Nat.zero_le _, rfl, rfl, U.out⟩
    case round =>
      obtain ⟨m, hm, rfl, hE, hU⟩ := hrel
      have E := Lib.hid hE
      have V := Lib.hid hU
      clear hE hU U
      by_cases hlt : m < n
      · by_cases hm2 : m < n2
        · obtain ⟨ad, rfl, hb, hc⟩ := V.out.path m (by rw [HZ.out]; exact hlt)
          obtain ⟨ad', rfl, hb', hc'⟩ := V.out.other m (by rw [HZ2.out]; exact hm2)
          have Z1 := Lib.hid (show zs[m]'(by rw [HZ.out]; exact hlt) = zs.getD m 0 by rw [List.getD_eq_getElem?_getD, List.getElem?_eq_getElem (by rw [HZ.out]; exact hlt)]; rfl)
          have Z2 := Lib.hid (show ys[m]'(by rw [HZ2.out]; exact hm2) = ys.getD m 0 by rw [List.getD_eq_getElem?_getD, List.getElem?_eq_getElem (by rw [HZ2.out]; exact hm2)]; rfl)
          obtain ⟨z, hz⟩ : ∃ z, z = zs.getD m 0 := ⟨_, rfl⟩
          obtain ⟨z', hz'⟩ : ∃ z, z = ys.getD m 0 := ⟨_, rfl⟩
          rw [← hz] at hc Z1
          rw [← hz'] at hc' Z2
          clear hz hz' hb hb'
          by_cases hzz : z = z'
          · subst hzz
            have E2 := Lib.hid (show zs.take (m + 1) = ys.take (m + 1) by
              rw [List.take_succ_eq_append_getElem (by rw [HZ.out]; exact hlt), List.take_succ_eq_append_getElem (by rw [HZ2.out]; exact hm2), E.out, Z1.out, Z2.out])
            go_wp2
            go_quiet (fail)
            go_wp2
            go_roundw
            case rel => exact ⟨m + 1, by omega, by go_num, E2.out, V.out.keep (below_drewN (Below.refl _ _) _)⟩
            case measure => simp [intOf]; omega
          · have h1 : (z != z') = true := by simpa using hzz
            have h2 : (z == z') = false := by simpa using hzz
            have OE := Lib.hid (OT.out m (by rw [HZ.out]; exact hlt) (by rw [HZ2.out]; exact hm2) E.out (by rw [Z1.out, Z2.out]; exact hzz))
            clear hzz OT
            go_wp2
            go_quiet (fail)
            have V1 := Lib.hid (fun k => V.out.keep (below_drewN (Below.refl _ _) k))
            clear V E Z1 Z2 hc hc'
            have t0 := fun k => (V1.out k).tb.cells.1
            have t1 := fun k => (V1.out k).tb.cells.2.1
            have t2 := fun k => (V1.out k).tb.cells.2.2
            go_wp2_with fail
            refine (at_any t A c _ n2 cap2 ys _ (by exact (V1.out _).isT) HZ2.out hn2 (by exact (V1.out _).other)).mono ?_
            rintro e w8 ⟨hb1, A7, c7, ho, rfl⟩
            obtain ⟨pa, hpa⟩ : ∃ pa, pa = atN t ys := ⟨_, rfl⟩
            have FP := Lib.hid (atN_fit (zs := ys) FT.out)
            have RP := Lib.hid (atN_right (zs := ys) HR1.out)
            rw [← hpa] at ho FP RP OE ⊢
            clear hpa
            obtain ⟨p, f⟩ := pa
            simp only at ho FP RP ⊢
            have V2 := Lib.hid (fun o => ((V1.out _).keep hb1).keep (alloc_below w8 o))
            have BP := Lib.hid (AnB.new ho FP.out)
            clear hb1 ho V1 t0 t1 t2
            have y0 := fun o => (V2.out o).yb.box.cells.1
            have y1 := fun o => (V2.out o).yb.box.cells.2.1
            have y2 := fun o => (V2.out o).yb.box.cells.2.2
            go_wp2_with fail
            refine (at_any y A3 c3 _ n2 cap2 ys _ (by exact (V2.out _).yb.is) HZ2.out hn2 (by exact (V2.out _).other)).mono ?_
            rintro e w9 ⟨hb1, A8, c8, ho, rfl⟩
            rw [OE.out] at ho ⊢
            simp only at ho ⊢
            have V3 := Lib.hid (fun o => ((V2.out _).keep hb1).keep (alloc_below w9 o))
            have BP3 := Lib.hid (fun o => (BP.out.keep hb1).keep (alloc_below w9 o))
            have BP4 := Lib.hid (AnB.new ho FP.out)
            clear hb1 ho V2 y0 y1 y2 BP OE
            by_cases hf : f = 0
            · subst hf
              have SP := Lib.hid (show sameB p p = true by rw [sameB_self, RP.out rfl]; rfl)
              have p0 := fun o => (BP3.out o).box.cells.1
              have p1 := fun o => (BP3.out o).box.cells.2.1
              have p2 := fun o => (BP3.out o).box.cells.2.2
              go_wp2_with fail
              refine (same_any p p A7 A8 c7 c8 _ (by exact (BP3.out _).is) (by exact BP4.out.is)).mono ?_
              rintro e w10 ⟨rfl, hb1⟩
              rw [SP.out]
              have V4 := Lib.hid ((V3.out _).keep hb1)
              clear hb1 V3 p0 p1 p2
              go_wp2_with fail
              go_ret
              exact ⟨rfl, V4.out.below⟩
            · have h1 : ((f : Int) != 0) = true := by simpa using hf
              have h2 : ((f : Int) == 0) = false := by simpa using hf
              clear hf
              go_wp2_with fail
              go_ret
              exact ⟨by simp, (V3.out _).below⟩
        · go_wp2_with fail
          go_ret
          exact ⟨rfl, V.out.below⟩
      · obtain rfl : m = n := by omega
        go_wp2_with fail
        go_ret
        exact ⟨rfl, V.out.below⟩
  · have h1 : ((g : Int) != 0) = true := by simpa using hg
    have h2 : ((g : Int) == 0) = false := by simpa using hg
    clear hg
    go_wp2_with fail
    go_ret
    exact ⟨by simp, (K2.out _).below⟩
theorem puts_row (t x : Tr) (A Ax : Option Addr) (c cx : Nat) (a : Option Addr) (l cc : Nat) (zs : List Int) (a' : Option Addr) (l' cc' : Nat) (ys : List Int) (w : World) (ht : IsT w w.heap.size t A c) (hx : IsT w w.heap.size x Ax cx) (h : IsRow .i64 w a l cc zs) (h' : IsRow .i64 w a' l' cc' ys) :
    Calls Try.prog 4 #[.agg #[.int .i64 t.k, .int .i64 t.i, .slice A t.ks.length c], .agg #[.int .i64 x.k, .int .i64 x.i, .slice Ax x.ks.length cx], .slice a l cc, .slice a' l' cc'] w fun e w' => e = .returned (.bool true) ∧ Below w.heap.size w w' := by
  obtain ⟨h1, h2, h3, h4⟩ := rd_of_ints h
  obtain ⟨k1, k2, k3, k4⟩ := rd_of_ints h'
  exact puts_any t x A Ax c cx a l cc _ a' l' cc' _ w ht hx h1 h4 h3 h2 k1 k4 k2
end Go.Proofs.Ytdobpdedphkglaa
