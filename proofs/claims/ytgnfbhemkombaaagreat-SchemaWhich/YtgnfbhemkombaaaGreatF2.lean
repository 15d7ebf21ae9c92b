/- The document's OfFree, OfBound, occurring, OfVars. -/
import Derived.Test.YtgnfbhemkombaaaGreatF1
import Derived.Test.YtgnfbhemkombaaaGreatE6
import Derived.Deep.RegionHeld3
namespace Go.Proofs.YtgnfbhemkombaaaGreat
open Go.RowKit
set_option linter.unusedVariables false
set_option linter.unusedSimpArgs false
theorem rpow_any (n : Int) (w : World) : Calls Tryz.prog 115 #[.int .i64 n] w fun e w' => e = .returned (.int .u64 (withN 0 n : Nat)) ∧ w = w' := by
  by_cases h : 0 ≤ n ∧ n ≤ 63
  · refine (power_any n w h.1 h.2).mono ?_
    rintro e w' ⟨rfl, rfl⟩
    refine ⟨?_, rfl⟩
    unfold withN powN
    rw [if_pos h, Nat.zero_or]
  · refine (power_out n w (by omega)).mono ?_
    rintro e w' ⟨rfl, rfl⟩
    refine ⟨?_, rfl⟩
    unfold withN
    rw [if_neg h]
    rfl
/-- the box of a tree that was handed in -/
def Box3' (W : World) (b : Nat) (t : Tr) (A : Option Addr) (c : Nat) : Prop := Box3 W b (.int .i64 t.k) (.int .i64 t.i) (.slice A t.ks.length c)
theorem Box3'.keep {W W' : World} {b : Nat} {t : Tr} {A : Option Addr} {c : Nat} (h : Box3' W b t A c) (hb : Below W.heap.size W W') : Box3' W' b t A c := Box3.keep h hb (Box3.lt h)
theorem Box3'.new (W : World) (t : Tr) (A : Option Addr) (c : Nat) : Box3' (W.alloc (.cells #[.int .i64 t.k, .int .i64 t.i, .slice A t.ks.length c] 24)) W.heap.size t A c := Box3.new _ _ _ _
structure Start (w wr : World) (t : Tr) (A : Option Addr) (c : Nat) : Prop where
  below : Below w.heap.size w wr
  box : Box3' wr w.heap.size t A c
theorem Start.new (w : World) (t : Tr) (A : Option Addr) (c : Nat) : Start w (w.alloc (.cells #[.int .i64 t.k, .int .i64 t.i, .slice A t.ks.length c] 24)) t A c := ⟨(Below.refl _ _).alloc (Nat.le_refl _) _, Box3'.new _ _ _ _⟩
theorem Start.keep {w wr w1 : World} {t : Tr} {A : Option Addr} {c : Nat} (h : Start w wr t A c) (hb : Below wr.heap.size wr w1) : Start w w1 t A c := ⟨h.below.trans (hb.mono h.below.size), h.box.keep hb⟩
set_option maxHeartbeats 2000000 in
set_option maxRecDepth 100000 in
theorem roffree_any : ∀ (N : Nat) (t : Tr) (A : Option Addr) (c : Nat) (w : World), t.sz ≤ N → IsT w w.heap.size t A c →
    Calls Tryz.prog 91 #[.agg #[.int .i64 t.k, .int .i64 t.i, .slice A t.ks.length c]] w fun e w' => e = .returned (.int .u64 (freeT t : Nat)) ∧ Below w.heap.size w w' := by
  intro N
  induction N with
  | zero => intro t A c w h; have := sz_pos t; omega
  | succ N ih =>
    intro t A c w hN ht
    have IH := Lib.hid ih
    have HT := Lib.hid ht
    have E := Lib.hid (freeT_eq t)
    have hl := ht.len
    have hb0 : Below w.heap.size w (w.alloc (.cells #[.int .i64 t.k, .int .i64 t.i, .slice A t.ks.length c] 24)) := (Below.refl _ _).alloc (Nat.le_refl _) _
    obtain ⟨x0, x1, x2⟩ := box_new w (.int .i64 t.k) (.int .i64 t.i) (.slice A t.ks.length c) 24
    have HB0 := Lib.hid hb0
    clear ih ht
    by_cases hv : t.k = 1
    · have e1 : (t.k == 1) = true := by simp [hv]
      have F := Lib.hid (show freeT t = withN 0 t.i by rw [E.out, if_pos hv])
      go_enter Tryz.func91, Tryz.ntmps91
      go_wp2_with fail
      refine (rpow_any t.i _).mono ?_
      rintro e w9 ⟨rfl, hw9⟩
      rw [← hw9]
      clear hw9
      go_wp2_with fail
      go_ret
      exact ⟨ret_intw (by rw [F.out]), (Below.refl _ _).alloc (Nat.le_refl _) _⟩
    · have e1 : (t.k == 1) = false := by simpa using hv
      have ST := Lib.hid (Start.new w t A c)
      have BU := Lib.hid zero_U
      go_enter Tryz.func91, Tryz.ntmps91
      go_wp2_with fail
      go_loopw [3, 15] (fun s i wr => ∃ m : Nat, m ≤ t.ks.length ∧ i = .int .i64 m ∧ s = .int .u64 ((0 ||| freeL (t.ks.take m) : Nat) : Int) ∧ Below w.heap.size w wr ∧ Box3' wr w.heap.size t A c) (fun _ i _ => t.ks.length - (intOf i).toNat)
      case atStart => exact ⟨0, Nat.zero_le _, rfl, by simp [freeL_nil], ST.out.below, ST.out.box⟩
      case round =>
        obtain ⟨m, hm', rfl, rfl, hbr, hbx⟩ := hrel
        have U0 := Lib.hid (show U64 (0 ||| freeL (t.ks.take m)) from Nat.or_lt_two_pow BU.out (freeL_U _))
        have HBX := Lib.hid hbx
        by_cases hlt : m < t.ks.length
        · obtain ⟨b, o, A', c', rfl, hlt', c0, c1, c2, hk⟩ := HT.out.kid m hlt
          have S := Lib.hid (freeL_take t.ks m hlt)
          have kz := kid_sz t m hlt
          obtain ⟨q, hq⟩ : ∃ q, q = t.ks[m] := ⟨_, rfl⟩
          rw [← hq] at c0 c1 c2 hk kz S
          clear hq
          have d0 := (hbr.cell hlt').trans c0
          have d1 := (hbr.cell hlt').trans c1
          have d2 := (hbr.cell hlt').trans c2
          have ha : ∀ o, Below wr.heap.size wr (wr.alloc o) := fun o => (Below.refl _ _).alloc (Nat.le_refl _) _
          have HK := Lib.hid (fun o => (hk.keep (hbr.mono (Nat.le_refl _)) hbr.size).keep (ha o) (ha o).size)
          have QU := Lib.hid (freeT_U q)
          have NX := Lib.hid (show (0 ||| freeL (t.ks.take m)) ||| freeT q = 0 ||| freeL (t.ks.take (m + 1)) by rw [S.out, Nat.or_assoc])
          obtain ⟨s, hs⟩ : ∃ s, s = 0 ||| freeL (t.ks.take m) := ⟨_, rfl⟩
          rw [← hs] at NX U0 ⊢
          have HA := Lib.hid ha
          clear c0 c1 c2 hk hs S ha
          go_wp2_with fail
          refine (IH.out q A' c' _ (by omega) (by exact HK.out _)).mono ?_
          rintro e w' ⟨rfl, hb2⟩
          have hb3 : Below w.heap.size w w' := hbr.trans (((HA.out _).trans (hb2.mono (HA.out _).size)).mono hbr.size)
          have hbx3 := Lib.hid ((hbx.keep (HA.out _)).keep hb2)
          clear hb2 hbx
          go_wp2_with fail
          refine (runion_any s (freeT q) _ U0.out QU.out).mono ?_
          rintro e w9 ⟨rfl, hw9⟩
          rw [← hw9]
          clear hw9
          rw [NX.out]
          go_wp2_with fail
          go_roundw
          case rel => exact ⟨m + 1, by omega, by go_num, by first | rfl | simp, hb3, hbx3.out⟩
          case measure => simp [intOf]; omega
        · obtain rfl : m = t.ks.length := by omega
          rw [List.take_length] at U0 ⊢
          simp only [Nat.zero_or] at U0 ⊢
          obtain ⟨z0, z1, z2⟩ := HBX.out.cells
          have QB := Lib.hid (fun W => rquantified_any t.k t.i A t.ks.length c W)
          clear hbx
          by_cases hq : t.k = 7 ∨ t.k = 10
          · have F := Lib.hid (show freeT t = withoutN (freeL t.ks) t.i by rw [E.out, if_neg hv, if_pos hq])
            go_wp2_with fail
            refine (QB.out _).mono ?_
            rintro e w1 ⟨rfl, hb1⟩
            rw [decide_eq_true hq]
            have S1 := (Start.mk hbr HBX.out).keep hb1
            obtain ⟨y0, y1, y2⟩ := Box3.cells S1.box
            have BX := Lib.hid S1.below
            clear S1 hb1
            go_wp2_with fail
            refine (rwithout_any (freeL t.ks) t.i _ U0.out).mono ?_
            rintro e w9 ⟨rfl, hw9⟩
            rw [← hw9]
            clear hw9
            go_wp2_with fail
            go_ret
            exact ⟨ret_intw (by rw [F.out]), BX.out⟩
          · have F := Lib.hid (show freeT t = freeL t.ks by rw [E.out, if_neg hv, if_neg hq])
            go_wp2_with fail
            refine (QB.out _).mono ?_
            rintro e w1 ⟨rfl, hb1⟩
            rw [decide_eq_false hq]
            have BX := Lib.hid ((Start.mk hbr HBX.out).keep hb1).below
            clear hb1
            go_wp2_with fail
            go_ret
            exact ⟨ret_intw (by rw [F.out]), BX.out⟩

set_option maxHeartbeats 2000000 in
set_option maxRecDepth 100000 in
theorem rocc_any : ∀ (N : Nat) (t : Tr) (A : Option Addr) (c : Nat) (w : World), t.sz ≤ N → IsT w w.heap.size t A c →
    Calls Tryz.prog 93 #[.agg #[.int .i64 t.k, .int .i64 t.i, .slice A t.ks.length c]] w fun e w' => e = .returned (.int .u64 (occT t : Nat)) ∧ Below w.heap.size w w' := by
  intro N
  induction N with
  | zero => intro t A c w h; have := sz_pos t; omega
  | succ N ih =>
    intro t A c w hN ht
    have IH := Lib.hid ih
    have HT := Lib.hid ht
    have E := Lib.hid (occT_eq t)
    have hl := ht.len
    have hb0 : Below w.heap.size w (w.alloc (.cells #[.int .i64 t.k, .int .i64 t.i, .slice A t.ks.length c] 24)) := (Below.refl _ _).alloc (Nat.le_refl _) _
    obtain ⟨x0, x1, x2⟩ := box_new w (.int .i64 t.k) (.int .i64 t.i) (.slice A t.ks.length c) 24
    have HB0 := Lib.hid hb0
    clear ih ht
    by_cases hv : t.k = 1
    · have e1 : (t.k == 1) = true := by simp [hv]
      have F := Lib.hid (show occT t = withN 0 t.i by rw [E.out, if_pos hv])
      go_enter Tryz.func93, Tryz.ntmps93
      go_wp2_with fail
      refine (rpow_any t.i _).mono ?_
      rintro e w9 ⟨rfl, hw9⟩
      rw [← hw9]
      clear hw9
      go_wp2_with fail
      go_ret
      exact ⟨ret_intw (by rw [F.out]), (Below.refl _ _).alloc (Nat.le_refl _) _⟩
    · have e1 : (t.k == 1) = false := by simpa using hv
      have ST := Lib.hid (Start.new w t A c)
      have BU := Lib.hid zero_U
      go_enter Tryz.func93, Tryz.ntmps93
      go_wp2_with fail
      go_loopw [3, 15] (fun s i wr => ∃ m : Nat, m ≤ t.ks.length ∧ i = .int .i64 m ∧ s = .int .u64 ((0 ||| occL (t.ks.take m) : Nat) : Int) ∧ Below w.heap.size w wr ∧ Box3' wr w.heap.size t A c) (fun _ i _ => t.ks.length - (intOf i).toNat)
      case atStart => exact ⟨0, Nat.zero_le _, rfl, by simp [occL_nil], ST.out.below, ST.out.box⟩
      case round =>
        obtain ⟨m, hm', rfl, rfl, hbr, hbx⟩ := hrel
        have U0 := Lib.hid (show U64 (0 ||| occL (t.ks.take m)) from Nat.or_lt_two_pow BU.out (occL_U _))
        have HBX := Lib.hid hbx
        by_cases hlt : m < t.ks.length
        · obtain ⟨b, o, A', c', rfl, hlt', c0, c1, c2, hk⟩ := HT.out.kid m hlt
          have S := Lib.hid (occL_take t.ks m hlt)
          have kz := kid_sz t m hlt
          obtain ⟨q, hq⟩ : ∃ q, q = t.ks[m] := ⟨_, rfl⟩
          rw [← hq] at c0 c1 c2 hk kz S
          clear hq
          have d0 := (hbr.cell hlt').trans c0
          have d1 := (hbr.cell hlt').trans c1
          have d2 := (hbr.cell hlt').trans c2
          have ha : ∀ o, Below wr.heap.size wr (wr.alloc o) := fun o => (Below.refl _ _).alloc (Nat.le_refl _) _
          have HK := Lib.hid (fun o => (hk.keep (hbr.mono (Nat.le_refl _)) hbr.size).keep (ha o) (ha o).size)
          have QU := Lib.hid (occT_U q)
          have NX := Lib.hid (show (0 ||| occL (t.ks.take m)) ||| occT q = 0 ||| occL (t.ks.take (m + 1)) by rw [S.out, Nat.or_assoc])
          obtain ⟨s, hs⟩ : ∃ s, s = 0 ||| occL (t.ks.take m) := ⟨_, rfl⟩
          rw [← hs] at NX U0 ⊢
          have HA := Lib.hid ha
          clear c0 c1 c2 hk hs S ha
          go_wp2_with fail
          refine (IH.out q A' c' _ (by omega) (by exact HK.out _)).mono ?_
          rintro e w' ⟨rfl, hb2⟩
          have hb3 : Below w.heap.size w w' := hbr.trans (((HA.out _).trans (hb2.mono (HA.out _).size)).mono hbr.size)
          have hbx3 := Lib.hid ((hbx.keep (HA.out _)).keep hb2)
          clear hb2 hbx
          go_wp2_with fail
          refine (runion_any s (occT q) _ U0.out QU.out).mono ?_
          rintro e w9 ⟨rfl, hw9⟩
          rw [← hw9]
          clear hw9
          rw [NX.out]
          go_wp2_with fail
          go_roundw
          case rel => exact ⟨m + 1, by omega, by go_num, by first | rfl | simp, hb3, hbx3.out⟩
          case measure => simp [intOf]; omega
        · obtain rfl : m = t.ks.length := by omega
          rw [List.take_length] at U0 ⊢
          simp only [Nat.zero_or] at U0 ⊢
          have F := Lib.hid (show occT t = occL t.ks by rw [E.out, if_neg hv])
          clear hbx
          go_wp2_with fail
          go_ret
          exact ⟨ret_intw (by rw [F.out]), hbr⟩

set_option maxHeartbeats 2000000 in
set_option maxRecDepth 100000 in
theorem rofbound_any : ∀ (N : Nat) (t : Tr) (A : Option Addr) (c : Nat) (w : World), t.sz ≤ N → IsT w w.heap.size t A c →
    Calls Tryz.prog 94 #[.agg #[.int .i64 t.k, .int .i64 t.i, .slice A t.ks.length c]] w fun e w' => e = .returned (.int .u64 (boundT t : Nat)) ∧ Below w.heap.size w w' := by
  intro N
  induction N with
  | zero => intro t A c w h; have := sz_pos t; omega
  | succ N ih =>
    intro t A c w hN ht
    have IH := Lib.hid ih
    have HT := Lib.hid ht
    have E := Lib.hid (boundT_eq t)
    have hl := ht.len
    have hb0 : Below w.heap.size w (w.alloc (.cells #[.int .i64 t.k, .int .i64 t.i, .slice A t.ks.length c] 24)) := (Below.refl _ _).alloc (Nat.le_refl _) _
    obtain ⟨x0, x1, x2⟩ := box_new w (.int .i64 t.k) (.int .i64 t.i) (.slice A t.ks.length c) 24
    have HB0 := Lib.hid hb0
    clear ih ht
    by_cases hq : t.k = 7 ∨ t.k = 10
    · have BU := Lib.hid (show U64 (withN 0 t.i) from withU _ zero_U)
      have F := Lib.hid (show boundT t = withN 0 t.i ||| boundL t.ks by rw [E.out, if_pos hq])
      have QB := Lib.hid (fun W => rquantified_any t.k t.i A t.ks.length c W)
      go_enter Tryz.func94, Tryz.ntmps94
      go_wp2_with fail
      refine (QB.out _).mono ?_
      rintro e w1 ⟨rfl, hb1⟩
      rw [decide_eq_true hq]
      have ST := Lib.hid ((Start.new w t A c).keep hb1)
      obtain ⟨y0, y1, y2⟩ := Box3.cells ST.out.box
      clear hb1 x0 x1 x2
      go_wp2_with fail
      refine (rpow_any t.i _).mono ?_
      rintro e w9 ⟨rfl, hw9⟩
      rw [← hw9]
      clear hw9
      go_wp2_with fail
      go_loopw [3, 14] (fun s i wr => ∃ m : Nat, m ≤ t.ks.length ∧ i = .int .i64 m ∧ s = .int .u64 ((withN 0 t.i ||| boundL (t.ks.take m) : Nat) : Int) ∧ Below w.heap.size w wr ∧ Box3' wr w.heap.size t A c) (fun _ i _ => t.ks.length - (intOf i).toNat)
      case atStart => exact ⟨0, Nat.zero_le _, rfl, by simp [boundL_nil], ST.out.below, ST.out.box⟩
      case round =>
        obtain ⟨m, hm', rfl, rfl, hbr, hbx⟩ := hrel
        have U0 := Lib.hid (show U64 (withN 0 t.i ||| boundL (t.ks.take m)) from Nat.or_lt_two_pow BU.out (boundL_U _))
        have HBX := Lib.hid hbx
        by_cases hlt : m < t.ks.length
        · obtain ⟨b, o, A', c', rfl, hlt', c0, c1, c2, hk⟩ := HT.out.kid m hlt
          have S := Lib.hid (boundL_take t.ks m hlt)
          have kz := kid_sz t m hlt
          obtain ⟨q, hq⟩ : ∃ q, q = t.ks[m] := ⟨_, rfl⟩
          rw [← hq] at c0 c1 c2 hk kz S
          clear hq
          have d0 := (hbr.cell hlt').trans c0
          have d1 := (hbr.cell hlt').trans c1
          have d2 := (hbr.cell hlt').trans c2
          have ha : ∀ o, Below wr.heap.size wr (wr.alloc o) := fun o => (Below.refl _ _).alloc (Nat.le_refl _) _
          have HK := Lib.hid (fun o => (hk.keep (hbr.mono (Nat.le_refl _)) hbr.size).keep (ha o) (ha o).size)
          have QU := Lib.hid (boundT_U q)
          have NX := Lib.hid (show (withN 0 t.i ||| boundL (t.ks.take m)) ||| boundT q = withN 0 t.i ||| boundL (t.ks.take (m + 1)) by rw [S.out, Nat.or_assoc])
          obtain ⟨s, hs⟩ : ∃ s, s = withN 0 t.i ||| boundL (t.ks.take m) := ⟨_, rfl⟩
          rw [← hs] at NX U0 ⊢
          have HA := Lib.hid ha
          clear c0 c1 c2 hk hs S ha
          go_wp2_with fail
          refine (IH.out q A' c' _ (by omega) (by exact HK.out _)).mono ?_
          rintro e w' ⟨rfl, hb2⟩
          have hb3 : Below w.heap.size w w' := hbr.trans (((HA.out _).trans (hb2.mono (HA.out _).size)).mono hbr.size)
          have hbx3 := Lib.hid ((hbx.keep (HA.out _)).keep hb2)
          clear hb2 hbx
          go_wp2_with fail
          refine (runion_any s (boundT q) _ U0.out QU.out).mono ?_
          rintro e w9 ⟨rfl, hw9⟩
          rw [← hw9]
          clear hw9
          rw [NX.out]
          go_wp2_with fail
          go_roundw
          case rel => exact ⟨m + 1, by omega, by go_num, by first | rfl | simp, hb3, hbx3.out⟩
          case measure => simp [intOf]; omega
        · obtain rfl : m = t.ks.length := by omega
          rw [List.take_length] at U0 ⊢
          clear hbx
          obtain ⟨s, hs⟩ : ∃ s, s = withN 0 t.i ||| boundL t.ks := ⟨_, rfl⟩
          rw [← hs] at F ⊢
          clear hs
          go_wp2_with fail
          go_ret
          exact ⟨ret_intw (by rw [F.out]), hbr⟩

    · have BU := Lib.hid (show U64 (0) from zero_U)
      have F := Lib.hid (show boundT t = 0 ||| boundL t.ks by rw [E.out, if_neg hq])
      have QB := Lib.hid (fun W => rquantified_any t.k t.i A t.ks.length c W)
      go_enter Tryz.func94, Tryz.ntmps94
      go_wp2_with fail
      refine (QB.out _).mono ?_
      rintro e w1 ⟨rfl, hb1⟩
      rw [decide_eq_false hq]
      have ST := Lib.hid ((Start.new w t A c).keep hb1)
      obtain ⟨y0, y1, y2⟩ := Box3.cells ST.out.box
      clear hb1 x0 x1 x2
      go_wp2_with fail
      go_loopw [3, 14] (fun s i wr => ∃ m : Nat, m ≤ t.ks.length ∧ i = .int .i64 m ∧ s = .int .u64 ((0 ||| boundL (t.ks.take m) : Nat) : Int) ∧ Below w.heap.size w wr ∧ Box3' wr w.heap.size t A c) (fun _ i _ => t.ks.length - (intOf i).toNat)
      case atStart => exact ⟨0, Nat.zero_le _, rfl, by simp [boundL_nil], ST.out.below, ST.out.box⟩
      case round =>
        obtain ⟨m, hm', rfl, rfl, hbr, hbx⟩ := hrel
        have U0 := Lib.hid (show U64 (0 ||| boundL (t.ks.take m)) from Nat.or_lt_two_pow BU.out (boundL_U _))
        have HBX := Lib.hid hbx
        by_cases hlt : m < t.ks.length
        · obtain ⟨b, o, A', c', rfl, hlt', c0, c1, c2, hk⟩ := HT.out.kid m hlt
          have S := Lib.hid (boundL_take t.ks m hlt)
          have kz := kid_sz t m hlt
          obtain ⟨q, hq⟩ : ∃ q, q = t.ks[m] := ⟨_, rfl⟩
          rw [← hq] at c0 c1 c2 hk kz S
          clear hq
          have d0 := (hbr.cell hlt').trans c0
          have d1 := (hbr.cell hlt').trans c1
          have d2 := (hbr.cell hlt').trans c2
          have ha : ∀ o, Below wr.heap.size wr (wr.alloc o) := fun o => (Below.refl _ _).alloc (Nat.le_refl _) _
          have HK := Lib.hid (fun o => (hk.keep (hbr.mono (Nat.le_refl _)) hbr.size).keep (ha o) (ha o).size)
          have QU := Lib.hid (boundT_U q)
          have NX := Lib.hid (show (0 ||| boundL (t.ks.take m)) ||| boundT q = 0 ||| boundL (t.ks.take (m + 1)) by rw [S.out, Nat.or_assoc])
          obtain ⟨s, hs⟩ : ∃ s, s = 0 ||| boundL (t.ks.take m) := ⟨_, rfl⟩
          rw [← hs] at NX U0 ⊢
          have HA := Lib.hid ha
          clear c0 c1 c2 hk hs S ha
          go_wp2_with fail
          refine (IH.out q A' c' _ (by omega) (by exact HK.out _)).mono ?_
          rintro e w' ⟨rfl, hb2⟩
          have hb3 : Below w.heap.size w w' := hbr.trans (((HA.out _).trans (hb2.mono (HA.out _).size)).mono hbr.size)
          have hbx3 := Lib.hid ((hbx.keep (HA.out _)).keep hb2)
          clear hb2 hbx
          go_wp2_with fail
          refine (runion_any s (boundT q) _ U0.out QU.out).mono ?_
          rintro e w9 ⟨rfl, hw9⟩
          rw [← hw9]
          clear hw9
          rw [NX.out]
          go_wp2_with fail
          go_roundw
          case rel => exact ⟨m + 1, by omega, by go_num, by first | rfl | simp, hb3, hbx3.out⟩
          case measure => simp [intOf]; omega
        · obtain rfl : m = t.ks.length := by omega
          rw [List.take_length] at U0 ⊢
          clear hbx
          obtain ⟨s, hs⟩ : ∃ s, s = 0 ||| boundL t.ks := ⟨_, rfl⟩
          rw [← hs] at F ⊢
          clear hs
          go_wp2_with fail
          go_ret
          exact ⟨ret_intw (by rw [F.out]), hbr⟩

/-- a tree that was handed in: its box, the tree, in a later world -/
structure One (w wr : World) (t : Tr) (A : Option Addr) (c : Nat) : Prop where
  b0 : wr.cell? ⟨w.heap.size, 0, none⟩ = some (.int .i64 t.k)
  b1 : wr.cell? ⟨w.heap.size, 1, none⟩ = some (.int .i64 t.i)
  b2 : wr.cell? ⟨w.heap.size, 2, none⟩ = some (.slice A t.ks.length c)
  tree : IsT wr wr.heap.size t A c
  below : Below w.heap.size w wr
  size : w.heap.size + 1 ≤ wr.heap.size
theorem One.new {w : World} {t : Tr} {A : Option Addr} {c : Nat} (h : IsT w w.heap.size t A c) : One w (w.alloc (.cells #[.int .i64 t.k, .int .i64 t.i, .slice A t.ks.length c] 24)) t A c := by
  have hb : Below w.heap.size w (w.alloc (.cells #[.int .i64 t.k, .int .i64 t.i, .slice A t.ks.length c] 24)) := (Below.refl _ _).alloc (Nat.le_refl _) _
  obtain ⟨x0, x1, x2⟩ := box_new w (.int .i64 t.k) (.int .i64 t.i) (.slice A t.ks.length c) 24
  exact ⟨x0, x1, x2, h.keep hb hb.size, hb, by simp⟩
theorem One.keep {w wr w1 : World} {t : Tr} {A : Option Addr} {c : Nat} (h : One w wr t A c) (hb : Below wr.heap.size wr w1) : One w w1 t A c := by
  have e : ∀ {p : Addr} {v : Value}, wr.cell? p = some v → w1.cell? p = some v := fun hv => (hb.cell (block_lt_of_cell hv)).trans hv
  exact ⟨e h.b0, e h.b1, e h.b2, h.tree.keep hb hb.size, h.below.trans (hb.mono h.below.size), Nat.le_trans h.size hb.size⟩
theorem One.drew {w wr : World} {t : Tr} {A : Option Addr} {c : Nat} (h : One w wr t A c) : One w wr.drew t A c := h.keep (Below.refl _ _).drew
set_option maxHeartbeats 1000000 in
set_option maxRecDepth 100000 in
theorem rofvars_any (t : Tr) (A : Option Addr) (c : Nat) (w : World) (ht : IsT w w.heap.size t A c) :
    Calls Tryz.prog 54 #[.agg #[.int .i64 t.k, .int .i64 t.i, .slice A t.ks.length c]] w fun e w' => e = .returned (.int .u64 (varsT t : Nat)) ∧ Below w.heap.size w w' := by
  have T' := (One.new ht).drew
  have E := Lib.hid (show varsT t = occT t ||| boundT t from rfl)
  have U1 := Lib.hid (occT_U t)
  have U2 := Lib.hid (boundT_U t)
  clear ht
  go_enter Tryz.func54, Tryz.ntmps54
  go_wp2_with fail
  go_region_held3 (fun w' => w'.cell? ⟨w.heap.size, 0, none⟩ = some (.int .i64 t.k) ∧ w'.cell? ⟨w.heap.size, 1, none⟩ = some (.int .i64 t.i) ∧ w'.cell? ⟨w.heap.size, 2, none⟩ = some (.slice A t.ks.length c))
    (exact ⟨T'.b0, T'.b1, T'.b2⟩)
    (first
      | (go_at_call 93; refine (rocc_any t.sz t A c _ (Nat.le_refl _) (by exact T'.tree)).mono ?_; rintro e w3 ⟨rfl, hb3⟩; replace T' := T'.keep hb3; clear hb3)
      | (go_at_call 94; refine (rofbound_any t.sz t A c _ (Nat.le_refl _) (by exact T'.tree)).mono ?_; rintro e w3 ⟨rfl, hb3⟩; replace T' := T'.keep hb3; clear hb3)
      | (go_at_call 53; refine (runion_any (occT t) (boundT t) _ U1.out U2.out).mono ?_; rintro e w3 ⟨rfl, hw3⟩; rw [← hw3]; clear hw3))
  all_goals (go_wp2_with fail)
  go_ret
  exact ⟨ret_intw (by rw [E.out]), T'.below⟩
end Go.Proofs.YtgnfbhemkombaaaGreat
