/- Vars, Free, Bound, NotFree of package free. -/
import Derived.Test.YtmmdhlemkcddmaaF6
namespace Go.Proofs.Ytmmdhlemkcddmaa
open Go.RowKit
set_option linter.unusedVariables false
set_option linter.unusedSimpArgs false
theorem right_shp {t : Tr} (h : rightN t = 0) : t.shp = true := by
  unfold rightN at h
  split at h
  · cases h
  · split at h
    · cases h
    · split at h
      · assumption
      · cases h
def wVars (k i : Int) (ar : Nat) : Bool := decide (k = 1) || decide (k = 7 ∨ k = 10)
def wBound (k i : Int) (ar : Nat) : Bool := decide (k = 7 ∨ k = 10)
theorem gOf_vars : gOf wVars = gVars := by
  funext k i ar acc
  unfold gOf wVars gVars
  by_cases h : k = 1 ∨ k = 7 ∨ k = 10
  · rw [if_pos h, if_pos (by rcases h with h | h <;> simp [h])]
  · rw [if_neg h, if_neg (by simp; omega)]
theorem gOf_bound : gOf wBound = gBound := by
  funext k i ar acc
  unfold gOf wBound gBound
  by_cases h : k = 7 ∨ k = 10
  · rw [if_pos h, if_pos (by simp [h])]
  · rw [if_neg h, if_neg (by simp; omega)]
theorem gOf_free : gOf freeB = gFree := by
  funext k i ar acc
  unfold gOf freeB gFree
  by_cases h : k = 1 ∧ hasN ar i = false
  · rw [if_pos h, if_pos (by simp [h.1, h.2])]
  · rw [if_neg h, if_neg (by simp; intro e; cases hh : hasN ar i with | true => rfl | false => exact absurd ⟨e, hh⟩ h)]
theorem val_vars (t : Tr) : valR (fun t => foldV (gOf wVars) t 0 0) t = valR varsT t := by
  unfold valR
  split
  · rename_i h; rw [gOf_vars]; exact code_vars t (right_shp h)
  · rfl
theorem val_bound (t : Tr) : valR (fun t => foldV (gOf wBound) t 0 0) t = valR boundT t := by
  unfold valR
  split
  · rename_i h; rw [gOf_bound]; exact code_bound t
  · rfl
theorem val_free (t : Tr) : valR (fun t => foldV (gOf freeB) t 0 0) t = valR freeT t := by
  unfold valR
  split
  · rename_i h; rw [gOf_free]; exact code_free t (right_shp h)
  · rfl
set_option maxHeartbeats 1000000 in
theorem vars1_any : Asks 119 wVars := by
  intro k i A n c ar W hU
  have hb0 : Below W.heap.size W (W.alloc (.cells #[.int .i64 k, .int .i64 i, .slice A n c] 24)) := (Below.refl _ _).alloc (Nat.le_refl _) _
  have HB0 := Lib.hid hb0
  have BX := Lib.hid (Box3.new W (.int .i64 k) (.int .i64 i) (.slice A n c))
  obtain ⟨y0, y1, y2⟩ := BX.out.cells
  clear hb0 hU
  go_enter Try.func119, Try.ntmps119
  go_wp2_with fail
  refine (isVar_any k i A n c _).mono ?_
  rintro e w1 ⟨rfl, hb1⟩
  have B1 := Lib.hid (HB0.out.trans (hb1.mono HB0.out.size))
  obtain ⟨z0, z1, z2⟩ := (BX.out.keep hb1 BX.out.lt).cells
  clear hb1 y0 y1 y2
  by_cases h1 : k = 1
  · rw [decide_eq_true h1]
    have F := Lib.hid (show wVars k i ar = true by unfold wVars; rw [decide_eq_true h1]; rfl)
    clear h1
    go_wp2_with fail
    go_ret
    exact ⟨by rw [F.out]; rfl, B1.out⟩
  · rw [decide_eq_false h1]
    have F := Lib.hid (show wVars k i ar = decide (k = 7 ∨ k = 10) by unfold wVars; rw [decide_eq_false h1]; rfl)
    clear h1
    go_wp2_with fail
    refine (isQuant_any k i A n c _).mono ?_
    rintro e w2 ⟨rfl, hb2⟩
    obtain ⟨d, hd⟩ : ∃ d, d = decide (k = 7 ∨ k = 10) := ⟨_, rfl⟩
    rw [← hd] at F ⊢
    clear hd
    go_wp2_with fail
    go_ret
    exact ⟨by rw [F.out]; rfl, B1.out.trans (hb2.mono B1.out.size)⟩
set_option maxHeartbeats 1000000 in
set_option maxRecDepth 100000 in
theorem vars_any (t : Tr) (A : Option Addr) (c : Nat) (w : World) (ht : IsT w w.heap.size t A c) :
    Calls Try.prog 84 #[.agg #[.int .i64 t.k, .int .i64 t.i, .slice A t.ks.length c]] w fun e w' => e = .returned (.tuple #[.int .u64 (valR varsT t : Nat), .int .i64 (rightN t : Nat)]) ∧ Below w.heap.size w w' := by
  have hmf : ∀ (fn : Fn) (first cap : Array Value) (w : World), (Instr.makeFunc fn first cap).run Try.prog w = .ok (.func fn first cap) w := fun _ _ _ _ => rfl
  have T0 := Lib.hid (One.new ht)
  obtain ⟨y0, y1, y2⟩ := And.intro T0.out.b0 (And.intro T0.out.b1 T0.out.b2)
  have IC := Lib.hid (idsOf_any 119 wVars (fun _ _ => by first | (go_simp; done) | rfl) vars1_any t A c _ T0.out.tree)
  rw [val_vars] at IC
  clear ht
  go_enter Try.func84, Try.ntmps84
  go_wp2_with fail
  refine IC.out.mono ?_
  rintro e w1 ⟨rfl, hb1⟩
  go_wp2_with fail
  go_ret2
  exact ⟨rfl, (T0.out.keep hb1).below⟩
set_option maxHeartbeats 1000000 in
set_option maxRecDepth 100000 in
theorem free_any (t : Tr) (A : Option Addr) (c : Nat) (w : World) (ht : IsT w w.heap.size t A c) :
    Calls Try.prog 68 #[.agg #[.int .i64 t.k, .int .i64 t.i, .slice A t.ks.length c]] w fun e w' => e = .returned (.tuple #[.int .u64 (valR freeT t : Nat), .int .i64 (rightN t : Nat)]) ∧ Below w.heap.size w w' := by
  have hmf : ∀ (fn : Fn) (first cap : Array Value) (w : World), (Instr.makeFunc fn first cap).run Try.prog w = .ok (.func fn first cap) w := fun _ _ _ _ => rfl
  have T0 := Lib.hid (One.new ht)
  obtain ⟨y0, y1, y2⟩ := And.intro T0.out.b0 (And.intro T0.out.b1 T0.out.b2)
  have IC := Lib.hid (idsOf_any 111 freeB (fun _ _ => by first | (go_simp; done) | rfl) (fun k i A n c ar W hU => isFree_any k i A n c ar W hU) t A c _ T0.out.tree)
  rw [val_free] at IC
  clear ht
  go_enter Try.func68, Try.ntmps68
  go_wp2_with fail
  refine IC.out.mono ?_
  rintro e w1 ⟨rfl, hb1⟩
  go_wp2_with fail
  go_ret2
  exact ⟨rfl, (T0.out.keep hb1).below⟩
theorem valR_U {f : Tr → Nat} (hf : ∀ t, f t < 2 ^ 64) (t : Tr) : U64 (valR f t) := by unfold valR; split; exact hf t; exact zero_U
set_option maxHeartbeats 1000000 in
set_option maxRecDepth 100000 in
theorem notFree_any (x : Int) (t : Tr) (A : Option Addr) (c : Nat) (w : World) (ht : IsT w w.heap.size t A c) :
    Calls Try.prog 100 #[.int .i64 x, .agg #[.int .i64 t.k, .int .i64 t.i, .slice A t.ks.length c]] w fun e w' => e = .returned (.tuple #[.bool (nfB x t), .int .i64 (nfE x t : Nat)]) ∧ Below w.heap.size w w' := by
  have T0 := Lib.hid (One.new ht)
  obtain ⟨y0, y1, y2⟩ := And.intro T0.out.b0 (And.intro T0.out.b1 T0.out.b2)
  have VU := Lib.hid (valR_U freeT_U t)
  clear ht
  by_cases hx : 0 ≤ x ∧ x ≤ 63
  · have FX := Lib.hid (show fitsB x = true by unfold fitsB; rw [decide_eq_true hx])
    have E := Lib.hid (show nfE x t = rightN t by unfold nfE; rw [if_pos hx])
    go_enter Try.func100, Try.ntmps100
    go_wp2_with fail
    refine (isNumber_any x _).mono ?_
    rintro e w9 ⟨rfl, hw9⟩
    rw [← hw9, FX.out]
    clear hw9
    go_wp2_with fail
    refine (free_any t A c _ (by exact T0.out.tree)).mono ?_
    rintro e w1 ⟨rfl, hb1⟩
    have T1 := Lib.hid (T0.out.keep hb1)
    clear hb1
    by_cases hr : rightN t = 0
    · have h0 : ((rightN t : Int) != 0) = false := by simp [hr]
      have V := Lib.hid (show nfB x t = !hasN (valR freeT t) x by unfold nfB; rw [if_pos hx, if_pos hr, valR_ok hr])
      have R := Lib.hid hr
      clear hr hx
      obtain ⟨fv, hfv⟩ : ∃ fv, fv = valR freeT t := ⟨_, rfl⟩
      rw [← hfv] at V VU ⊢
      clear hfv
      go_wp2_with fail
      refine (has_any fv x _ VU.out).mono ?_
      rintro e w9 ⟨rfl, hw9⟩
      rw [← hw9]
      clear hw9
      go_wp2_with fail
      go_ret2
      exact ⟨by rw [V.out, E.out, R.out]; rfl, T1.out.below⟩
    · have h0 : ((rightN t : Int) != 0) = true := by rw [bne_iff_ne]; omega
      have V := Lib.hid (show nfB x t = false by unfold nfB; rw [if_pos hx, if_neg hr])
      clear hr hx
      go_wp2_with fail
      go_ret2
      exact ⟨by rw [V.out, E.out]; rfl, T1.out.below⟩
  · have FX := Lib.hid (show fitsB x = false by unfold fitsB; rw [decide_eq_false hx])
    have E := Lib.hid (show nfE x t = 1 by unfold nfE; rw [if_neg hx])
    have V := Lib.hid (show nfB x t = false by unfold nfB; rw [if_neg hx])
    clear hx
    go_enter Try.func100, Try.ntmps100
    go_wp2_with fail
    refine (isNumber_any x _).mono ?_
    rintro e w9 ⟨rfl, hw9⟩
    rw [← hw9, FX.out]
    clear hw9
    go_wp2_with fail
    go_ret2
    exact ⟨by rw [V.out, E.out]; rfl, T0.out.below⟩
end Go.Proofs.Ytmmdhlemkcddmaa
