/- agrees of package subst. -/
import Derived.Test.YtfdggmmibgbfnaaA4
import Derived.Test.YtfdggmmibgbfnaaT19
import Derived.Deep.RegionHeld3
import Derived.Deep.DeepCutAuto
namespace Go.Proofs.Ytfdggmmibgbfnaa
open Go.RowKit
set_option linter.unusedVariables false
set_option linter.unusedSimpArgs false
/-- the cells of an array of names -/
def rowF (f : Int → Int) : List Value := (List.range 64).map fun (j : Nat) => Value.int .i64 (f (j : Int))
theorem rowF_len (f : Int → Int) : (rowF f).length = 64 := by simp [rowF]
theorem rowF_at (f : Int → Int) (j : Nat) (h : j < 64) : (rowF f)[j]? = some (.int .i64 (f (j : Int))) := by simp [rowF, h]
theorem ownA_row : ownA 64 = (rowF id).toArray := by
  apply Array.ext_getElem?
  intro j
  by_cases hj : j < 64
  · rw [ownA_at _ _ hj]
    simp [rowF, hj]
  · simp [ownA, rowF, hj]
theorem rowF_set (f : Int → Int) (i v : Int) (h0 : 0 ≤ i) (h1 : i ≤ 63) : (rowF f).set i.toNat (.int .i64 v) = rowF (setF f i v) := by
  apply List.ext_getElem?
  intro j
  rw [List.getElem?_set]
  by_cases hj : j < 64
  · rw [rowF_at (setF f i v) _ hj, rowF_at f _ hj]
    unfold setF
    by_cases e : i.toNat = j
    · have e2 : (j : Int) = i := by omega
      simp [e, rowF_len, hj, e2]
    · have e2 : ¬ (j : Int) = i := by omega
      rw [if_neg e]
      simp [e2]
  · have e : ¬ i.toNat = j := by omega
    rw [if_neg e]
    simp [rowF, hj]
/-- the cells of a couple -/
def rowCp (a b : Tr) (A A' : Option Addr) (c c' : Nat) (d : Int) (f g : Int → Int) : List Value :=
  [.int .i64 a.k, .int .i64 a.i, .slice A a.ks.length c, .int .i64 b.k, .int .i64 b.i, .slice A' b.ks.length c', .int .i64 d] ++ (rowF f ++ rowF g)
theorem rowCp_len (a b : Tr) (A A' : Option Addr) (c c' : Nat) (d : Int) (f g : Int → Int) : (rowCp a b A A' c c' d f g).length = 135 := by simp [rowCp, rowF_len]
theorem rowCp_f (a b : Tr) (A A' : Option Addr) (c c' : Nat) (d : Int) (f g : Int → Int) (i : Int) (h0 : 0 ≤ i) (h1 : i ≤ 63) : (rowCp a b A A' c c' d f g)[7 + i.toNat]? = some (.int .i64 (f i)) := by
  unfold rowCp
  rw [List.getElem?_append_right (by simp), List.getElem?_append_left (by simp [rowF_len]; omega)]
  rw [show 7 + i.toNat - [Value.int .i64 a.k, .int .i64 a.i, .slice A a.ks.length c, .int .i64 b.k, .int .i64 b.i, .slice A' b.ks.length c', .int .i64 d].length = i.toNat by simp]
  rw [rowF_at _ _ (by omega), show ((i.toNat : Nat) : Int) = i by omega]
theorem rowCp_g (a b : Tr) (A A' : Option Addr) (c c' : Nat) (d : Int) (f g : Int → Int) (i : Int) (h0 : 0 ≤ i) (h1 : i ≤ 63) : (rowCp a b A A' c c' d f g)[71 + i.toNat]? = some (.int .i64 (g i)) := by
  unfold rowCp
  rw [List.getElem?_append_right (by simp; omega), List.getElem?_append_right (by simp [rowF_len]; omega)]
  rw [show 71 + i.toNat - [Value.int .i64 a.k, .int .i64 a.i, .slice A a.ks.length c, .int .i64 b.k, .int .i64 b.i, .slice A' b.ks.length c', .int .i64 d].length - (rowF f).length = i.toNat by simp [rowF_len]; omega]
  rw [rowF_at _ _ (by omega), show ((i.toNat : Nat) : Int) = i by omega]
/-- the two nodes correspond -/
def agreeB (a b : Tr) (f g : Int → Int) : Bool := decide (a.k = b.k) && (decide (a.ks.length = b.ks.length) && (if a.k = 1 then decide (f a.i = g b.i) else if a.k = 7 ∨ a.k = 10 then true else decide (a.i = b.i)))
/-- the cells of a couple, read one by one -/
structure IsC (X : Array Value) (a b : Tr) (A A' : Option Addr) (c c' : Nat) (d : Int) (f g : Int → Int) : Prop where
  eq : X = (rowCp a b A A' c c' d f g).toArray
set_option maxHeartbeats 2000000 in
theorem agrees_any (a b : Tr) (A A' : Option Addr) (c c' : Nat) (d : Int) (f g : Int → Int) (X : Array Value) (hX : IsC X a b A A' c c' d f g) (ha : a.k = 1 → 0 ≤ a.i ∧ a.i ≤ 63) (hb : b.k = 1 → 0 ≤ b.i ∧ b.i ≤ 63) (w : World) :
    Calls Try.prog 99 #[.agg X] w fun e w' => e = .returned (.bool (agreeB a b f g)) ∧ Below w.heap.size w w' := by
  have x0 : X[0]? = some (.int .i64 a.k) := by rw [hX.eq]; simp [rowCp]
  have x1 : X[1]? = some (.int .i64 a.i) := by rw [hX.eq]; simp [rowCp]
  have x2 : X[2]? = some (.slice A a.ks.length c) := by rw [hX.eq]; simp [rowCp]
  have x3 : X[3]? = some (.int .i64 b.k) := by rw [hX.eq]; simp [rowCp]
  have x4 : X[4]? = some (.int .i64 b.i) := by rw [hX.eq]; simp [rowCp]
  have x5 : X[5]? = some (.slice A' b.ks.length c') := by rw [hX.eq]; simp [rowCp]
  have xf := Lib.hid (fun h : a.k = 1 => show X[7 + a.i.toNat]? = some (.int .i64 (f a.i)) by rw [hX.eq, List.getElem?_toArray]; exact rowCp_f a b A A' c c' d f g a.i (ha h).1 (ha h).2)
  have xg := Lib.hid (fun h : b.k = 1 => show X[71 + b.i.toNat]? = some (.int .i64 (g b.i)) by rw [hX.eq, List.getElem?_toArray]; exact rowCp_g a b A A' c c' d f g b.i (hb h).1 (hb h).2)
  have HA := Lib.hid ha
  have HB := Lib.hid hb
  clear ha hb hX
  have hb0 : Below w.heap.size w (w.alloc (.cells X 120)) := (Below.refl _ _).alloc (Nat.le_refl _) _
  have cell := Lib.hid (fun (W : World) (h : Below (w.heap.size + 1) (w.alloc (.cells X 120)) W) j v (hj : X[j]? = some v) => show W.cell? ⟨w.heap.size, j, none⟩ = some v by
    rw [h.cell (by simp), cell_of_row _ _ j X 120 (0, 0) (heap_alloc_last w _)]; exact hj)
  have up := Lib.hid (fun (W : World) (h : Below (w.heap.size + 1) (w.alloc (.cells X 120)) W) => hb0.trans (h.mono (by omega)))
  replace hb0 := Lib.hid hb0
  obtain ⟨R, hR⟩ : ∃ R, R = agreeB a b f g := ⟨_, rfl⟩
  rw [← hR]
  replace hR := Lib.hid hR
  by_cases hk : a.k = b.k
  · by_cases hl : a.ks.length = b.ks.length
    · have hk' : (a.k != b.k) = false := by simpa using hk
      have hl' : ((a.ks.length : Int) != (b.ks.length : Int)) = false := by simp [hl]
      have hkR := Lib.hid hk
      have hlR := Lib.hid hl
      clear hk hl
      by_cases h1 : a.k = 1
      · have h2 : b.k = 1 := by have := hkR.out; omega
        have e1 : R = decide (f a.i = g b.i) := by rw [hR.out]; simp [agreeB, h1, h2, hlR.out]
        replace xf := xf.out h1
        replace xg := xg.out h2
        obtain ⟨a0, a1⟩ := HA.out h1
        obtain ⟨b0, b1⟩ := HB.out h2
        obtain ⟨ia, hia⟩ : ∃ n : Nat, a.i = (n : Int) := ⟨a.i.toNat, by omega⟩
        obtain ⟨ib, hib⟩ : ∃ n : Nat, b.i = (n : Int) := ⟨b.i.toNat, by omega⟩
        rw [hia] at a0 a1 e1 xf x1
        rw [hib] at b0 b1 e1 xg x4
        simp only [Int.toNat_natCast] at xf xg
        have a2 : (ia : Int) < 64 := by omega
        have b2 : (ib : Int) < 64 := by omega
        have a3 : ia < 64 := by omega
        have b3 : ib < 64 := by omega
        replace hia := Lib.hid hia
        replace hib := Lib.hid hib
        have D := Lib.hid (show decide (a.k = 1) = true by simp [h1])
        replace h1 := Lib.hid h1
        replace h2 := Lib.hid h2
        obtain ⟨u, hu⟩ : ∃ u, u = f (ia : Int) := ⟨_, rfl⟩
        obtain ⟨v, hv⟩ : ∃ v, v = g (ib : Int) := ⟨_, rfl⟩
        rw [← hu] at xf e1
        rw [← hv] at xg e1
        clear hu hv
        subst e1
        go_enter Try.func99, Try.ntmps99
        go_upto_region 4 with (go_at_call 103; refine (sIsVar_any _ _ _ _ _ _).mono ?_; rintro e w1 ⟨rfl, hb1⟩; rw [D.out])
        replace hb1 : Below (w.heap.size + 1) (w.alloc (.cells X 120)) w1 := hb1.mono (by simp)
        have TB := Lib.hid (fun (W : World) (h : Below (w.heap.size + 1) w1 W) => show W.cell? ⟨w.heap.size, 1, none⟩ = some (.int .i64 (ia : Int)) ∧ W.cell? ⟨w.heap.size, 4, none⟩ = some (.int .i64 (ib : Int)) ∧ W.cell? ⟨w.heap.size, 7 + ia, none⟩ = some (.int .i64 u) ∧ W.cell? ⟨w.heap.size, 71 + ib, none⟩ = some (.int .i64 v) from
          have h' := hb1.trans h
          ⟨cell.out W h' _ _ x1, cell.out W h' _ _ x4, cell.out W h' _ _ xf, cell.out W h' _ _ xg⟩)
        have UB := Lib.hid (up.out w1 hb1)
        clear hb1 x0 x1 x2 x3 x4 x5 xf xg
        go_region_held3 (fun w' => w'.cell? ⟨w.heap.size, 1, none⟩ = some (.int .i64 (ia : Int)) ∧ w'.cell? ⟨w.heap.size, 4, none⟩ = some (.int .i64 (ib : Int)) ∧ w'.cell? ⟨w.heap.size, 7 + ia, none⟩ = some (.int .i64 u) ∧ w'.cell? ⟨w.heap.size, 71 + ib, none⟩ = some (.int .i64 v)) ((refine TB.out _ ?_; repeat (first | exact Below.refl _ _ | refine Below.drew ?_))) (fail)
        go_wp2_with fail
        go_ret
        refine ⟨?_, ?_⟩
        · congr 2
        · exact UB.out.drew
      · have D := Lib.hid (show decide (a.k = 1) = false by simp [h1])
        by_cases hq : a.k = 7 ∨ a.k = 10
        · obtain rfl : R = true := by rw [hR.out]; simp [agreeB, hkR.out.symm, h1, hq, hlR.out]
          have Dq := Lib.hid (show decide (a.k = 7 ∨ a.k = 10) = true by simp [hq])
          replace h1 := Lib.hid h1
          replace hq := Lib.hid hq
          go_enter Try.func99, Try.ntmps99
          go_wp2_with (first
            | (go_at_call 103; refine (sIsVar_any _ _ _ _ _ _).mono ?_; rintro e w1 ⟨rfl, hb1⟩; rw [D.out]
               replace hb1 : Below (w.heap.size + 1) (w.alloc (.cells X 120)) w1 := hb1.mono (by simp)
               have y0 := cell.out w1 hb1 _ _ x0
               have y1 := cell.out w1 hb1 _ _ x1
               have y2 := cell.out w1 hb1 _ _ x2
               replace hb1 := Lib.hid hb1)
            | (go_at_call 86; refine (sIsQuant_any _ _ _ _ _ _).mono ?_; rintro e w2 ⟨rfl, hb2⟩; rw [Dq.out]))
          go_ret
          exact ⟨rfl, (up.out w1 hb1.out).trans (hb2.mono (up.out w1 hb1.out).size)⟩
        · have e1 : R = (a.i == b.i) := by rw [hR.out]; simp [agreeB, hkR.out.symm, h1, hq, hlR.out]; rfl
          subst e1
          have Dq := Lib.hid (show decide (a.k = 7 ∨ a.k = 10) = false by simp [hq])
          replace h1 := Lib.hid h1
          replace hq := Lib.hid hq
          go_enter Try.func99, Try.ntmps99
          go_wp2_with (first
            | (go_at_call 103; refine (sIsVar_any _ _ _ _ _ _).mono ?_; rintro e w1 ⟨rfl, hb1⟩; rw [D.out]
               replace hb1 : Below (w.heap.size + 1) (w.alloc (.cells X 120)) w1 := hb1.mono (by simp)
               have y0 := cell.out w1 hb1 _ _ x0
               have y1 := cell.out w1 hb1 _ _ x1
               have y2 := cell.out w1 hb1 _ _ x2
               replace hb1 := Lib.hid hb1)
            | (go_at_call 86; refine (sIsQuant_any _ _ _ _ _ _).mono ?_; rintro e w2 ⟨rfl, hb2⟩; rw [Dq.out]
               have hb3 := Lib.hid (hb1.out.trans (hb2.mono (by have := hb1.out.size; simpa using this)))
               have z1 := cell.out w2 hb3.out _ _ x1
               have z4 := cell.out w2 hb3.out _ _ x4))
          go_ret
          exact ⟨rfl, up.out w2 hb3.out⟩
    · obtain rfl : R = false := by rw [hR.out]; simp [agreeB, hl]
      have hk' : (a.k != b.k) = false := by simpa using hk
      have hl' : ((a.ks.length : Int) != (b.ks.length : Int)) = true := by simp; omega
      replace hk := Lib.hid hk
      replace hl := Lib.hid hl
      go_enter Try.func99, Try.ntmps99
      go_wp2_with fail
      go_ret
      exact ⟨rfl, hb0.out⟩
  · obtain rfl : R = false := by rw [hR.out]; simp [agreeB, hk]
    have hk' : (a.k != b.k) = true := by simpa using hk
    replace hk := Lib.hid hk
    go_enter Try.func99, Try.ntmps99
    go_wp2_with fail
    go_ret
    exact ⟨rfl, hb0.out⟩
end Go.Proofs.Ytfdggmmibgbfnaa
