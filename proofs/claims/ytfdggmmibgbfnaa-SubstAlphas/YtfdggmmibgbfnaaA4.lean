/- own of package subst. -/
import Derived.Test.YtfdggmmibgbfnaaS1
import Derived.Deep.WholeRow
import Derived.Deep.DeepCutAuto
import Derived.Deep.MidRow
namespace Go.Proofs.Ytfdggmmibgbfnaa
open Go.RowKit
set_option linter.unusedVariables false
set_option linter.unusedSimpArgs false
/-- the names 0 to m - 1, zero behind them -/
def ownA (m : Nat) : Array Value := ((List.range 64).map fun j => Value.int .i64 (if j < m then (j : Int) else 0)).toArray
theorem infoNm : (Try.prog.info? 117).map (fun i => (i.zero, i.size)) = some (some (.agg (ownA 0)), 64) := by kernel_rfl
theorem ownA_size (m : Nat) : (ownA m).size = 64 := by simp [ownA]
theorem ownA_at (m j : Nat) (h : j < 64) : (ownA m)[j]? = some (Value.int .i64 (if j < m then (j : Int) else 0)) := by
  simp [ownA, h]
theorem ownA_set (m : Nat) (h : m < 64) : (ownA m).setIfInBounds m (.int .i64 (m : Int)) = ownA (m + 1) := by
  apply Array.ext_getElem?
  intro j
  rw [Array.getElem?_setIfInBounds]
  by_cases e : m = j
  · subst e
    rw [if_pos rfl, ownA_at _ _ h]
    simp [ownA_size, h]
  · by_cases hj : j < 64
    · rw [if_neg e, ownA_at _ _ hj, ownA_at _ _ hj]
      by_cases h2 : j < m
      · simp [h2, show j < m + 1 by omega]
      · simp [h2, show ¬ j < m + 1 by omega]
    · rw [if_neg e]
      simp [ownA, hj]
theorem ownA_one (m : Nat) : (ownA m).all (·.oneCell') = true := by
  rw [Array.all_eq_true_iff_forall_mem]
  intro v hv
  simp only [ownA, List.mem_toArray, List.mem_map] at hv
  obtain ⟨j, _, rfl⟩ := hv
  rfl
theorem results_cell_mid {P : Program} {fn : Func} {p : Tmp} {ty : TypeId} (h : fn.results = #[.cell p ty]) (tmps : Array Value) (w : World) (b o : Nat) (cs : List Value) (d : TypeDesc)
    (hp : tmps.getD p undef = .pointer (some ⟨b, o, none⟩)) (hc : w.rangeAt b o cs) (hu : P.underlying ty = some d) (hd : d.isRow = true) (hi : (P.info? ty).map (·.size) = some cs.length) :
    (results fn tmps).run P w = .ok (.agg cs.toArray) w := by
  have hp' : tmps[p]?.getD undef = .pointer (some ⟨b, o, none⟩) := by simpa using hp
  simp [results, h, hp', asAddr, run_loadVar_mid w b o ty cs d hc hu hd hi]
theorem below_setCells {B : Nat} {w : World} (b : Nat) (hB : B ≤ b) : ∀ (vs : List Value) (o : Nat) (w' : World), Below B w w' → Below B w (w'.setCells b o vs)
  | [], _, _, h => h
  | v :: r, o, w', h => below_setCells b hB r (o + 1) _ (h.setCell hB v)
theorem arrNm : Try.prog.underlying 117 = some (.array 64 3) := by kernel_rfl
set_option maxHeartbeats 2000000 in
theorem own_at (w : World) (Y : Array Value) (hY : Hid (Y = ownA 64)) : Calls Try.prog 98 #[] w fun e w' => e = .returned (.agg Y) ∧ Below w.heap.size w w' := by
  have hz := (zero_of_info infoNm).1
  have hi := Lib.hid (zero_of_info infoNm).2
  obtain ⟨Z, hZ⟩ : ∃ Z, Z = ownA 0 := ⟨_, rfl⟩
  rw [← hZ] at hz
  have hZs : Z.size = 64 := by rw [hZ]; exact ownA_size 0
  replace hZ := Lib.hid hZ
  go_enter Try.func98, Try.ntmps98
  go_wp2_with fail
  go_loopw [3] (fun i wr => ∃ (m : Nat) (X : Array Value), m ≤ 64 ∧ i = .int .i64 (m : Int) ∧ Hid (X = ownA m) ∧ wr = (w.alloc (.cells Z 117)).alloc (.cells X 117)) (fun i _ => 64 - (intOf i).toNat)
  · exact ⟨0, Z, by omega, rfl, hZ, rfl⟩
  · obtain ⟨m, X, hm, rfl, hX, rfl⟩ := hrel
    have hXs : X.size = 64 := by rw [hX.out]; exact ownA_size m
    by_cases hlt : m < 64
    · have hd : decide ((m : Int) < 64) = true := by simp; omega
      have hx : ∃ v, X[m]? = some v := ⟨_, by rw [hX.out]; exact ownA_at m m hlt⟩
      obtain ⟨v, hx⟩ := hx
      go_wp2_with fail
      refine ⟨⟨m + 1, _, by omega, by simp, ?_, rfl⟩, by simp [intOf]; omega⟩
      exact (show _ = _ by rw [hX.out]; exact ownA_set m hlt)
    · obtain rfl : m = 64 := by omega
      have hXY : X = Y := by rw [hX.out, hY.out]
      subst hXY
      have hi2 : (Try.prog.info? 117).map (·.size) = some X.size := by rw [hi.out, hXs]
      have hone : X.all (·.oneCell') = true := by rw [hX.out]; exact ownA_one 64
      have h1 : ((w.alloc (.cells Z 117)).alloc (.cells X 117)).rangeAt (w.heap.size + 1) 0 X.toList := by
        have := World.rangeAt_of_block (w := (w.alloc (.cells Z 117)).alloc (.cells X 117)) (b := w.heap.size + 1) (C := X) (t := 117) (fr := (0, 0)) (by
          have := heap_alloc_last (w.alloc (.cells Z 117)) (.cells X 117)
          simpa using this) 0 X.size
        simpa using this
      have h2 : ((w.alloc (.cells Z 117)).alloc (.cells X 117)).there w.heap.size 0 X.size := by
        intro j hj
        rw [hXs] at hj
        have e : ((w.alloc (.cells Z 117)).alloc (.cells X 117)).heap[w.heap.size]? = some (.cells Z 117 (0, 0)) := by
          show ((w.heap.push _).push _)[w.heap.size]? = _
          simp [Array.getElem?_push]
        have hj2 : j < Z.size := by omega
        exact ⟨by simp [World.cell?, e, hj2], by simp [World.frozen?, e]⟩
      have hb0 : Below w.heap.size w ((w.alloc (.cells Z 117)).alloc (.cells X 117)) := ((Below.refl _ _).alloc (Nat.le_refl _) _).alloc (by show _ ≤ (w.heap.push _).size; simp) _
      obtain ⟨W, hW⟩ : ∃ W, W = (w.alloc (.cells Z 117)).alloc (.cells X 117) := ⟨_, rfl⟩
      rw [← hW] at h1 h2 hb0 ⊢
      clear hW
      replace h1 := Lib.hid h1
      replace h2 := Lib.hid h2
      replace hi2 := Lib.hid hi2
      replace hone := Lib.hid hone
      go_upto_region 7 with fail
      go_wp2_with (first | (refine wpList_load_mid rfl _ _ rfl _ _ rfl X.toList _ h1.out arrNm rfl hi2.out ?_) | (refine wpList_store_mid rfl _ _ _ rfl _ _ X rfl rfl h2.out hi2.out hone.out ?_))
      refine ⟨rfl, _, results_cell_mid (P := Try.prog) (d := .array 64 3) (by rfl) _ _ w.heap.size 0 X.toList ?_ (World.rangeAt_setCells_same _ _ _ _ (by simpa using h2.out)) arrNm rfl (by simpa using hi2.out), ?_, ?_⟩
      · rfl
      · simp
      · exact below_setCells _ (Nat.le_refl _) _ _ _ hb0
theorem own_any (w : World) : Calls Try.prog 98 #[] w fun e w' => e = .returned (.agg (ownA 64)) ∧ Below w.heap.size w w' := own_at w _ rfl
end Go.Proofs.Ytfdggmmibgbfnaa
