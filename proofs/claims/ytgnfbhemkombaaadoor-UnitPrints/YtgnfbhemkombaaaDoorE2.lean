/- What the document's functions on trees answer: kids, shaped, Right, IsTerm, IsFormula and their kin. -/
import Derived.Test.YtgnfbhemkombaaaDoorE1
namespace Go.Proofs.YtgnfbhemkombaaaDoor
open Go.RowKit
def kidsR (least most : Int) (b : Bool) (ks : List Tr) : Bool := decide (least ≤ (ks.length : Int)) && decide ((ks.length : Int) ≤ most) && shpL b ks
theorem shpL_take (b : Bool) (ks : List Tr) (m : Nat) (h : m < ks.length) : shpL b (ks.take (m + 1)) = (shpL b (ks.take m) && ((termB ks[m].k == b) && ks[m].shp)) := by
  rw [List.take_succ_eq_append_getElem h, shpL_append, shpL_cons]; simp [shpL]
theorem shpL_bad (b : Bool) (ks : List Tr) (m : Nat) (h : m < ks.length) (hx : ((termB ks[m].k == b) && ks[m].shp) = false) : shpL b ks = false := by
  conv => lhs; rw [← List.take_append_drop (m + 1) ks, shpL_append, shpL_take b ks m h, hx]
  simp
def ShapedC (N : Nat) : Prop := ∀ (t : Tr) (A : Option Addr) (c : Nat) (w : World), t.sz ≤ N → IsT w w.heap.size t A c →
    Calls Tryd.prog 25 #[.agg #[.int .i64 t.k, .int .i64 t.i, .slice A t.ks.length c]] w fun e w' => e = .returned (.bool t.shp) ∧ Below w.heap.size w w'
set_option maxHeartbeats 1000000 in
theorem kids_any (N : Nat) (IH : ShapedC N) (t : Tr) (k i : Int) (A : Option Addr) (c : Nat) (least most : Int) (bb : Bool) (w : World) (hN : t.sz ≤ N + 1) (ht : IsT w w.heap.size t A c) :
    Calls Tryd.prog 53 #[.agg #[.int .i64 k, .int .i64 i, .slice A t.ks.length c], .int .i64 least, .int .i64 most, .bool bb] w fun e w' => e = .returned (.bool (kidsR least most bb t.ks)) ∧ Below w.heap.size w w' := by
  have HT := Lib.hid ht
  have hl := ht.len
  have hb0 : Below w.heap.size w (w.alloc (.cells #[.int .i64 k, .int .i64 i, .slice A t.ks.length c] 24)) := (Below.refl _ _).alloc (Nat.le_refl _) _
  clear ht
  by_cases h1 : (t.ks.length : Int) < least
  · have F := Lib.hid (show kidsR least most bb t.ks = false by unfold kidsR; rw [decide_eq_false (by omega)]; rfl)
    go_enter Tryd.func53, Tryd.ntmps53
    go_wp2_with fail
    go_ret
    exact ⟨by rw [F.out]; rfl, hb0⟩
  · by_cases h2 : most < (t.ks.length : Int)
    · have F := Lib.hid (show kidsR least most bb t.ks = false by unfold kidsR; rw [decide_eq_false (p := (t.ks.length : Int) ≤ most) (by omega)]; simp)
      go_enter Tryd.func53, Tryd.ntmps53
      go_wp2_with fail
      go_ret
      exact ⟨by rw [F.out]; rfl, hb0⟩
    · have F := Lib.hid (show kidsR least most bb t.ks = shpL bb t.ks by unfold kidsR; rw [decide_eq_true (by omega), decide_eq_true (by omega)]; rfl)
      have d1 : decide ((t.ks.length : Int) < least) = false := decide_eq_false h1
      have d2 : decide (most < (t.ks.length : Int)) = false := decide_eq_false h2
      go_enter Tryd.func53, Tryd.ntmps53
      go_wp2_with fail
      go_loopw [26] (fun i wr => ∃ m : Nat, m ≤ t.ks.length ∧ i = .int .i64 m ∧ shpL bb (t.ks.take m) = true ∧ Below w.heap.size w wr) (fun i _ => t.ks.length - (intOf i).toNat)
      case atStart => exact ⟨0, Nat.zero_le _, rfl, by simp [shpL], hb0⟩
      case round =>
        obtain ⟨m, hm', rfl, hs, hbr⟩ := hrel
        have HS := Lib.hid hs
        clear hs
        by_cases hlt : m < t.ks.length
        · obtain ⟨b, o, A', c', rfl, hlt', c0, c1, c2, hk⟩ := HT.out.kid m hlt
          have S := Lib.hid (shpL_take bb t.ks m hlt)
          have Z := Lib.hid (shpL_bad bb t.ks m hlt)
          have kz := kid_sz t m hlt
          obtain ⟨q, hq⟩ : ∃ q, q = t.ks[m] := ⟨_, rfl⟩
          rw [← hq] at c0 c1 c2 hk kz S Z
          clear hq
          have e0 := (hbr.cell hlt').trans c0
          have e1 := (hbr.cell hlt').trans c1
          have e2 := (hbr.cell hlt').trans c2
          have HK := Lib.hid (hk.keep (hbr.mono (Nat.le_refl _)) hbr.size)
          clear c0 c1 c2 hk
          have ha : Below wr.heap.size wr (wr.alloc (.cells #[.int .i64 q.k, .int .i64 q.i, .slice A' q.ks.length c'] 24)) := (Below.refl _ _).alloc (Nat.le_refl _) _
          cases hT : termB q.k == bb with
          | false =>
            have F2 := Lib.hid (Z.out (by rw [hT]; rfl))
            have hT2 : termB q.k = !bb := by cases h : termB q.k <;> cases bb <;> simp_all
            clear hT
            cases bb
            all_goals
              go_wp2_with (go_at_call 26; refine (term_any _ _ _ _ _ _).mono ?_; rintro e w' ⟨rfl, hb2⟩)
              go_ret
              exact ⟨by rw [F.out, F2.out]; rfl, hbr.trans ((ha.trans (hb2.mono ha.size)).mono hbr.size)⟩
          | true =>
            have hT2 : termB q.k = bb := by simpa using hT
            have X := Lib.hid hT
            clear hT
            cases bb
            all_goals
              go_wp2_with fail
              refine (term_any _ _ _ _ _ _).mono ?_
              rintro e w1 ⟨rfl, hb2⟩
              have hx := hb2.size
              simp at hx
              obtain ⟨f0, f1, f2⟩ := box_cells (hb2.mono (by simp))
              have hb3 := ha.trans (hb2.mono ha.size)
              have HK1 := Lib.hid (HK.out.keep hb3 hb3.size)
              clear hb2 HK
              cases hS : q.shp with
              | false =>
                have F2 := Lib.hid (Z.out (by rw [X.out, hS]; rfl))
                go_wp2_with (go_at_call 25; refine (IH q A' c' _ (by omega) (by exact HK1.out)).mono ?_; rintro e w' ⟨rfl, hb4⟩)
                go_ret
                exact ⟨by rw [F.out, F2.out]; rfl, hbr.trans ((hb3.trans (hb4.mono hb3.size)).mono hbr.size)⟩
              | true =>
                have S2 := Lib.hid (show shpL _ (t.ks.take (m + 1)) = true by rw [S.out, HS.out, X.out, hS]; rfl)
                go_wp2_with (go_at_call 25; refine (IH q A' c' _ (by omega) (by exact HK1.out)).mono ?_; rintro e w' ⟨rfl, hb4⟩)
                go_roundw
                case rel => exact ⟨m + 1, by omega, by go_num, S2.out, hbr.trans ((hb3.trans (hb4.mono hb3.size)).mono hbr.size)⟩
                case measure => simp [intOf]; omega
        · obtain rfl : m = t.ks.length := by omega
          have F2 := Lib.hid (show shpL bb t.ks = true by have := HS.out; rwa [List.take_length] at this)
          go_wp2_with fail
          go_ret
          exact ⟨by rw [F.out, F2.out]; rfl, hbr⟩
theorem shp_kids (t : Tr) (k i l u : Int) (b : Bool) (e1 : k = t.k) (e2 : i = t.i) (h : ∀ n : Int, 0 ≤ n → kindOk k i n = (decide (l ≤ n) && decide (n ≤ u))) (hb : kidsTerm k = b) : t.shp = kidsR l u b t.ks := by
  subst e1 e2
  rw [shp_eq, h _ (by omega), hb]; rfl
theorem shp_not (t : Tr) (k i : Int) (e1 : k = t.k) (e2 : i = t.i) (h : ∀ n : Int, kindOk k i n = false) : t.shp = false := by
  subst e1 e2
  rw [shp_eq, h]; rfl
set_option maxHeartbeats 4000000 in
theorem shaped_step (N : Nat) (IH : ShapedC N) : ShapedC (N + 1) := by
  intro t A c w hN ht
  obtain ⟨k, hk0⟩ : ∃ k, k = t.k := ⟨_, rfl⟩
  obtain ⟨i, hi0⟩ : ∃ i, i = t.i := ⟨_, rfl⟩
  rw [← hk0, ← hi0]
  have HK := Lib.hid hk0
  have HI := Lib.hid hi0
  clear hk0 hi0
  have hb0 : Below w.heap.size w (w.alloc (.cells #[.int .i64 k, .int .i64 i, .slice A t.ks.length c] 24)) := (Below.refl _ _).alloc (Nat.le_refl _) _
  have HT' := Lib.hid (ht.keep hb0 hb0.size)
  clear ht
  by_cases hi : i < 0
  · have F := Lib.hid (shp_not t k i HK.out HI.out (fun n => by unfold kindOk; rw [decide_eq_false (by omega)]; rfl))
    go_enter Tryd.func25, Tryd.ntmps25
    go_wp2_with fail
    go_ret
    exact ⟨by rw [F.out]; rfl, hb0⟩
  · by_cases hk : 1 ≤ k ∧ k ≤ 10
    · have hk' : k = 1 ∨ k = 2 ∨ k = 3 ∨ k = 4 ∨ k = 5 ∨ k = 6 ∨ k = 7 ∨ k = 8 ∨ k = 9 ∨ k = 10 := by omega
      clear hk
      rcases hk' with rfl | rfl | rfl | rfl | rfl | rfl | rfl | rfl | rfl | rfl
      · by_cases hc : i ≤ 63
        · have F := Lib.hid (shp_kids t 1 i 0 0 true HK.out HI.out (fun n hn => by rw [Bool.eq_iff_iff]; simp [kindOk]; omega) (by decide))
          go_enter Tryd.func25, Tryd.ntmps25
          go_wp2_with (go_at_call 53; refine (kids_any N IH t _ _ A c 0 0 true _ hN (by exact HT'.out)).mono ?_; rintro e w' ⟨rfl, hb2⟩)
          go_ret
          exact ⟨by rw [F.out]; rfl, hb0.trans (hb2.mono hb0.size)⟩
        · have F := Lib.hid (shp_not t 1 i HK.out HI.out (fun n => by simp [kindOk]; omega))
          have hc' : decide (i ≤ 63) = false := by simpa using hc
          go_enter Tryd.func25, Tryd.ntmps25
          go_wp2_with fail
          go_ret
          exact ⟨by rw [F.out]; rfl, hb0⟩
      · by_cases hc : i ≤ 99
        · have F := Lib.hid (shp_kids t 2 i 0 4 true HK.out HI.out (fun n hn => by rw [Bool.eq_iff_iff]; simp [kindOk]; omega) (by decide))
          go_enter Tryd.func25, Tryd.ntmps25
          go_wp2_with (go_at_call 53; refine (kids_any N IH t _ _ A c 0 4 true _ hN (by exact HT'.out)).mono ?_; rintro e w' ⟨rfl, hb2⟩)
          go_ret
          exact ⟨by rw [F.out]; rfl, hb0.trans (hb2.mono hb0.size)⟩
        · have F := Lib.hid (shp_not t 2 i HK.out HI.out (fun n => by simp [kindOk]; omega))
          have hc' : decide (i ≤ 99) = false := by simpa using hc
          go_enter Tryd.func25, Tryd.ntmps25
          go_wp2_with fail
          go_ret
          exact ⟨by rw [F.out]; rfl, hb0⟩
      · by_cases hc : i ≤ 99
        · have F := Lib.hid (shp_kids t 3 i 0 4 true HK.out HI.out (fun n hn => by rw [Bool.eq_iff_iff]; simp [kindOk]; omega) (by decide))
          go_enter Tryd.func25, Tryd.ntmps25
          go_wp2_with (go_at_call 53; refine (kids_any N IH t _ _ A c 0 4 true _ hN (by exact HT'.out)).mono ?_; rintro e w' ⟨rfl, hb2⟩)
          go_ret
          exact ⟨by rw [F.out]; rfl, hb0.trans (hb2.mono hb0.size)⟩
        · have F := Lib.hid (shp_not t 3 i HK.out HI.out (fun n => by simp [kindOk]; omega))
          have hc' : decide (i ≤ 99) = false := by simpa using hc
          go_enter Tryd.func25, Tryd.ntmps25
          go_wp2_with fail
          go_ret
          exact ⟨by rw [F.out]; rfl, hb0⟩
      · by_cases hc : i = 0
        · have F := Lib.hid (shp_kids t 4 i 2 2 true HK.out HI.out (fun n hn => by rw [Bool.eq_iff_iff]; simp [kindOk]; omega) (by decide))
          subst hc
          go_enter Tryd.func25, Tryd.ntmps25
          go_wp2_with (go_at_call 53; refine (kids_any N IH t _ _ A c 2 2 true _ hN (by exact HT'.out)).mono ?_; rintro e w' ⟨rfl, hb2⟩)
          go_ret
          exact ⟨by rw [F.out]; rfl, hb0.trans (hb2.mono hb0.size)⟩
        · have F := Lib.hid (shp_not t 4 i HK.out HI.out (fun n => by simp [kindOk]; omega))
          have hc' : (i == 0) = false := by simpa using hc
          go_enter Tryd.func25, Tryd.ntmps25
          go_wp2_with fail
          go_ret
          exact ⟨by rw [F.out]; rfl, hb0⟩
      · by_cases hc : i = 0
        · have F := Lib.hid (shp_kids t 5 i 1 1 false HK.out HI.out (fun n hn => by rw [Bool.eq_iff_iff]; simp [kindOk]; omega) (by decide))
          subst hc
          go_enter Tryd.func25, Tryd.ntmps25
          go_wp2_with (go_at_call 53; refine (kids_any N IH t _ _ A c 1 1 false _ hN (by exact HT'.out)).mono ?_; rintro e w' ⟨rfl, hb2⟩)
          go_ret
          exact ⟨by rw [F.out]; rfl, hb0.trans (hb2.mono hb0.size)⟩
        · have F := Lib.hid (shp_not t 5 i HK.out HI.out (fun n => by simp [kindOk]; omega))
          have hc' : (i == 0) = false := by simpa using hc
          go_enter Tryd.func25, Tryd.ntmps25
          go_wp2_with fail
          go_ret
          exact ⟨by rw [F.out]; rfl, hb0⟩
      · by_cases hc : i = 0
        · have F := Lib.hid (shp_kids t 6 i 2 2 false HK.out HI.out (fun n hn => by rw [Bool.eq_iff_iff]; simp [kindOk]; omega) (by decide))
          subst hc
          go_enter Tryd.func25, Tryd.ntmps25
          go_wp2_with (go_at_call 53; refine (kids_any N IH t _ _ A c 2 2 false _ hN (by exact HT'.out)).mono ?_; rintro e w' ⟨rfl, hb2⟩)
          go_ret
          exact ⟨by rw [F.out]; rfl, hb0.trans (hb2.mono hb0.size)⟩
        · have F := Lib.hid (shp_not t 6 i HK.out HI.out (fun n => by simp [kindOk]; omega))
          have hc' : (i == 0) = false := by simpa using hc
          go_enter Tryd.func25, Tryd.ntmps25
          go_wp2_with fail
          go_ret
          exact ⟨by rw [F.out]; rfl, hb0⟩
      · by_cases hc : i ≤ 63
        · have F := Lib.hid (shp_kids t 7 i 1 1 false HK.out HI.out (fun n hn => by rw [Bool.eq_iff_iff]; simp [kindOk]; omega) (by decide))
          go_enter Tryd.func25, Tryd.ntmps25
          go_wp2_with (go_at_call 53; refine (kids_any N IH t _ _ A c 1 1 false _ hN (by exact HT'.out)).mono ?_; rintro e w' ⟨rfl, hb2⟩)
          go_ret
          exact ⟨by rw [F.out]; rfl, hb0.trans (hb2.mono hb0.size)⟩
        · have F := Lib.hid (shp_not t 7 i HK.out HI.out (fun n => by simp [kindOk]; omega))
          have hc' : decide (i ≤ 63) = false := by simpa using hc
          go_enter Tryd.func25, Tryd.ntmps25
          go_wp2_with fail
          go_ret
          exact ⟨by rw [F.out]; rfl, hb0⟩
      · by_cases hc : i = 0
        · have F := Lib.hid (shp_kids t 8 i 2 2 false HK.out HI.out (fun n hn => by rw [Bool.eq_iff_iff]; simp [kindOk]; omega) (by decide))
          subst hc
          go_enter Tryd.func25, Tryd.ntmps25
          go_wp2_with (go_at_call 53; refine (kids_any N IH t _ _ A c 2 2 false _ hN (by exact HT'.out)).mono ?_; rintro e w' ⟨rfl, hb2⟩)
          go_ret
          exact ⟨by rw [F.out]; rfl, hb0.trans (hb2.mono hb0.size)⟩
        · have F := Lib.hid (shp_not t 8 i HK.out HI.out (fun n => by simp [kindOk]; omega))
          have hc' : (i == 0) = false := by simpa using hc
          go_enter Tryd.func25, Tryd.ntmps25
          go_wp2_with fail
          go_ret
          exact ⟨by rw [F.out]; rfl, hb0⟩
      · by_cases hc : i = 0
        · have F := Lib.hid (shp_kids t 9 i 2 2 false HK.out HI.out (fun n hn => by rw [Bool.eq_iff_iff]; simp [kindOk]; omega) (by decide))
          subst hc
          go_enter Tryd.func25, Tryd.ntmps25
          go_wp2_with (go_at_call 53; refine (kids_any N IH t _ _ A c 2 2 false _ hN (by exact HT'.out)).mono ?_; rintro e w' ⟨rfl, hb2⟩)
          go_ret
          exact ⟨by rw [F.out]; rfl, hb0.trans (hb2.mono hb0.size)⟩
        · have F := Lib.hid (shp_not t 9 i HK.out HI.out (fun n => by simp [kindOk]; omega))
          have hc' : (i == 0) = false := by simpa using hc
          go_enter Tryd.func25, Tryd.ntmps25
          go_wp2_with fail
          go_ret
          exact ⟨by rw [F.out]; rfl, hb0⟩
      · by_cases hc : i ≤ 63
        · have F := Lib.hid (shp_kids t 10 i 1 1 false HK.out HI.out (fun n hn => by rw [Bool.eq_iff_iff]; simp [kindOk]; omega) (by decide))
          go_enter Tryd.func25, Tryd.ntmps25
          go_wp2_with (go_at_call 53; refine (kids_any N IH t _ _ A c 1 1 false _ hN (by exact HT'.out)).mono ?_; rintro e w' ⟨rfl, hb2⟩)
          go_ret
          exact ⟨by rw [F.out]; rfl, hb0.trans (hb2.mono hb0.size)⟩
        · have F := Lib.hid (shp_not t 10 i HK.out HI.out (fun n => by simp [kindOk]; omega))
          have hc' : decide (i ≤ 63) = false := by simpa using hc
          go_enter Tryd.func25, Tryd.ntmps25
          go_wp2_with fail
          go_ret
          exact ⟨by rw [F.out]; rfl, hb0⟩
    · have F := Lib.hid (show t.shp = false by
        cases h : t.shp with
        | false => rfl
        | true => have := kind_of_shp t h; have := HK.out; omega)
      have n1 : (k == 1) = false := by rw [beq_eq_false_iff_ne]; omega
      have n2 : (k == 2) = false := by rw [beq_eq_false_iff_ne]; omega
      have n3 : (k == 3) = false := by rw [beq_eq_false_iff_ne]; omega
      have n4 : (k == 4) = false := by rw [beq_eq_false_iff_ne]; omega
      have n5 : (k == 5) = false := by rw [beq_eq_false_iff_ne]; omega
      have n6 : (k == 6) = false := by rw [beq_eq_false_iff_ne]; omega
      have n7 : (k == 7) = false := by rw [beq_eq_false_iff_ne]; omega
      have n8 : (k == 8) = false := by rw [beq_eq_false_iff_ne]; omega
      have n9 : (k == 9) = false := by rw [beq_eq_false_iff_ne]; omega
      have n10 : (k == 10) = false := by rw [beq_eq_false_iff_ne]; omega
      clear hk
      go_enter Tryd.func25, Tryd.ntmps25
      go_wp2_with fail
      go_ret
      exact ⟨by rw [F.out]; rfl, hb0⟩
theorem shaped_any : ∀ N, ShapedC N := by
  intro N
  induction N with
  | zero => intro t A c w h; have := sz_pos t; omega
  | succ N ih => exact shaped_step N ih
end Go.Proofs.YtgnfbhemkombaaaDoor
