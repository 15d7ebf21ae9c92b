/- F6, F7, F4, F8, E28, S3, S4, S5, V0, L0, LQ, one behind the other. -/
import Derived.Test.YtjdhmfpkhijkeaaGreatF5
import Derived.Test.YtjdhmfpkhijkeaaGreatE9
import Derived.Test.YtjdhmfpkhijkeaaGreatF3
import Derived.Test.YtjdhmfpkhijkeaaGreatLK
import Derived.Test.YtjdhmfpkhijkeaaGreatS1
import Derived.WalkMore
import Derived.Deep.LoopGhost
import Derived.Deep.RegionHeld3
import Derived.Test.YtjdhmfpkhijkeaaGreatS2
import Derived.Test.YtjdhmfpkhijkeaaGreatEV
import Derived.Test.YtjdhmfpkhijkeaaGreatT18
import Derived.Test.YtjdhmfpkhijkeaaGreatE5
import Derived.SizedLaws
import Derived.Deep.Slices
import Derived.ProofKit
import Derived.OpenShut
namespace Go.Proofs.YtjdhmfpkhijkeaaGreat
open Go.RowKit
set_option linter.unusedVariables false
set_option linter.unusedSimpArgs false
/-- block p is a variable that holds the function wf -/
def FnBox (W : World) (p wf : Nat) : Prop := W.heap[p]? = some (.cells #[.func (.func wf) #[] #[]] 129 (0, 0))
theorem FnBox.cell {W : World} {p wf : Nat} (h : FnBox W p wf) : W.cell? ⟨p, 0, none⟩ = some (.func (.func wf) #[] #[]) := by
  unfold FnBox at h
  simp [World.cell?, h]
theorem FnBox.lt {W : World} {p wf : Nat} (h : FnBox W p wf) : p < W.heap.size := (Array.getElem?_eq_some_iff.1 h).1
theorem FnBox.keep {W W' : World} {p wf : Nat} (h : FnBox W p wf) (hb : Below W.heap.size W W') : FnBox W' p wf := (hb.block p h.lt).trans h
/-- what asks of a node -/
def Asks (wf : Nat) (wB : Int → Int → Nat → Bool) : Prop := ∀ (k i : Int) (A : Option Addr) (n c ar : Nat) (W : World), U64 ar → Calls Tryz.prog wf #[.agg #[.int .i64 k, .int .i64 i, .slice A n c], .int .u64 (ar : Int)] W fun e W' => e = .returned (.bool (wB k i ar)) ∧ Below W.heap.size W W'
def gOf (wB : Int → Int → Nat → Bool) (k i : Int) (ar acc : Nat) : Nat := if wB k i ar = true then withN acc i else acc
set_option maxHeartbeats 2000000 in
set_option maxRecDepth 100000 in
theorem ids1_any (wf p b : Nat) (hpb : p ≠ b) (wB : Int → Int → Nat → Bool) (hE : ∀ (args : Array Value) (w : World), Sem.run Tryz.prog (callFunc wf args) w = .ok (.enter wf args) w) (hW : Asks wf wB) : Finds 142 p b (gOf wB) (fun W => FnBox W p wf) := by
  intro k i A n c ar s W hUa hUs hS hI
  have hbw := hS.lt
  have hpw := hI.lt
  have hb0 : Below W.heap.size W (W.alloc (.cells #[.int .i64 k, .int .i64 i, .slice A n c] 26)) := (Below.refl _ _).alloc (Nat.le_refl _) _
  obtain ⟨y0, y1, y2⟩ := box_new W (.int .i64 k) (.int .i64 i) (.slice A n c) 26
  have fc := (hI.keep hb0).cell
  have S0 := Lib.hid (hS.keep hb0)
  have HB0 := Lib.hid hb0
  have BX := Lib.hid (Box3.new W (.int .i64 k) (.int .i64 i) (.slice A n c))
  have WC := Lib.hid (hW k i A n c ar (W.alloc (.cells #[.int .i64 k, .int .i64 i, .slice A n c] 26)) hUa)
  have HUs := Lib.hid hUs
  clear hb0 hS hI hW hUa hUs
  go_enter Tryz.func142, Tryz.ntmps142
  go_wp2_with fail
  refine WC.out.mono ?_
  rintro e w1 ⟨rfl, hb1⟩
  have S1 := Lib.hid (S0.out.keep hb1)
  have K1 := Lib.hid ((KeepX.of_below (b := b) HB0.out).trans (KeepX.of_below hb1))
  obtain ⟨z0, z1, z2⟩ := (BX.out.keep hb1 BX.out.lt).cells
  have sc := S1.out.cell
  have sf := S1.out.frozen
  clear hb1 y0 y1 y2 fc
  cases hw : wB k i ar with
  | true =>
    have G := Lib.hid (show gOf wB k i ar s = withN s i by unfold gOf; rw [if_pos hw])
    go_wp2_with fail
    refine (with_any s i _ HUs.out).mono ?_
    rintro e w9 ⟨rfl, hw9⟩
    rw [← hw9]
    clear hw9
    go_wp2_with fail
    go_end0
    exact ⟨rfl, by rw [G.out]; exact S1.out.set _, K1.out.trans (KeepX.set b 0 _ _)⟩
  | false =>
    have G := Lib.hid (show gOf wB k i ar s = s by unfold gOf; rw [if_neg (by rw [hw]; simp)])
    go_wp2_with fail
    go_end0
    exact ⟨rfl, by rw [G.out]; exact S1.out, K1.out⟩
theorem stay_gOf (wB : Int → Int → Nat → Bool) : StayU (gOf wB) := fun k i ar acc _ hc => by unfold gOf; split; exact withU _ hc; exact hc
set_option maxHeartbeats 2000000 in
set_option maxRecDepth 100000 in
theorem idsOf_any (wf : Nat) (wB : Int → Int → Nat → Bool) (hE : ∀ (args : Array Value) (w : World), Sem.run Tryz.prog (callFunc wf args) w = .ok (.enter wf args) w) (hW : Asks wf wB) (t : Tr) (A : Option Addr) (c : Nat) (w : World) (ht : IsT w w.heap.size t A c) :
    Calls Tryz.prog 132 #[.agg #[.int .i64 t.k, .int .i64 t.i, .slice A t.ks.length c], .func (.func wf) #[] #[]] w fun e w' => e = .returned (.tuple #[.int .u64 (valR (fun t => foldV (gOf wB) t 0 0) t : Nat), .int .i64 (rightN t : Nat)]) ∧ Below w.heap.size w w' := by
  have hmf : ∀ (fn : Fn) (first cap : Array Value) (w : World), (Instr.makeFunc fn first cap).run Tryz.prog w = .ok (.func fn first cap) w := fun _ _ _ _ => rfl
  have O0 := One.new ht
  have hb1 : Below (w.alloc (.cells #[.int .i64 t.k, .int .i64 t.i, .slice A t.ks.length c] 26)).heap.size (w.alloc (.cells #[.int .i64 t.k, .int .i64 t.i, .slice A t.ks.length c] 26)) ((w.alloc (.cells #[.int .i64 t.k, .int .i64 t.i, .slice A t.ks.length c] 26)).alloc (.cells #[.func (.func wf) #[] #[]] 129)) := (Below.refl _ _).alloc (Nat.le_refl _) _
  have O1 := Lib.hid (O0.keep hb1)
  have FB := Lib.hid (show FnBox ((w.alloc (.cells #[.int .i64 t.k, .int .i64 t.i, .slice A t.ks.length c] 26)).alloc (.cells #[.func (.func wf) #[] #[]] 129)) (w.heap.size + 1) wf by
    have := World.alloc_heap_new (w.alloc (.cells #[.int .i64 t.k, .int .i64 t.i, .slice A t.ks.length c] 26)) (.cells #[.func (.func wf) #[] #[]] 129)
    rw [World.size_alloc] at this
    exact this)
  have b0 := O1.out.b0
  have b1 := O1.out.b1
  have b2 := O1.out.b2
  have HE := Lib.hid hE
  have HW := Lib.hid hW
  clear hb1 O0 ht hE hW
  go_enter Tryz.func132, Tryz.ntmps132
  go_wp2_with fail
  refine (right_any t A c _ (by exact O1.out.tree)).mono ?_
  rintro e w1 ⟨rfl, hb2⟩
  have O2 := Lib.hid (O1.out.keep hb2)
  have FB2 := Lib.hid (FB.out.keep hb2)
  clear hb2 b0 b1 b2
  by_cases hr : rightN t = 0
  · have h0 : ((rightN t : Int) != 0) = false := by simp [hr]
    have V := Lib.hid (valR_ok (f := fun t => foldV (gOf wB) t 0 0) hr)
    have R := Lib.hid hr
    have ha : ∀ o, Below w1.heap.size w1 (w1.alloc o) := fun o => (Below.refl _ _).alloc (Nat.le_refl _) _
    have O3 := Lib.hid (fun o => O2.out.keep (ha o))
    have c0 := fun o => (O3.out o).b0
    have c1 := fun o => (O3.out o).b1
    have c2 := fun o => (O3.out o).b2
    have VC := Lib.hid (fvisit_any 142 (w.heap.size + 1) w1.heap.size w1.heap.size (gOf wB) (fun W => FnBox W (w.heap.size + 1) wf) (Nat.le_refl _) (stay_gOf wB) (fun X Y hk hx => (hk.block _ hx.lt (by have := FB2.out.lt; omega)).trans hx) (fun _ _ => by first | (go_simp; done) | rfl) (ids1_any wf (w.heap.size + 1) w1.heap.size (by have := FB2.out.lt; omega) wB HE.out HW.out) t.sz t A c 0 0 (w1.alloc (.cells #[.int .u64 0] 73)) (Nat.le_refl _) (O2.out.tree.keep (ha _) (Nat.le_refl _)) zero_U zero_U (World.alloc_heap_new w1 _) (FB2.out.keep (ha _)))
    have HA := Lib.hid ha
    have hz := O2.out.size
    clear hr ha
    go_wp2_with fail
    refine VC.out.mono ?_
    rintro e w3 ⟨rfl, hS, hK⟩
    have sc := hS.cell
    have BB := Lib.hid ((O3.out _).below.trans (hK.below (B := w.heap.size) (by omega) (by simp; omega)))
    clear hS hK
    go_wp2_with fail
    go_ret2
    exact ⟨by rw [V.out, R.out]; rfl, BB.out⟩
  · have h0 : ((rightN t : Int) != 0) = true := by rw [bne_iff_ne]; omega
    have V := Lib.hid (valR_bad (f := fun t => foldV (gOf wB) t 0 0) hr)
    clear hr
    go_wp2_with fail
    go_ret2
    exact ⟨by rw [V.out]; rfl, O2.out.below⟩
end Go.Proofs.YtjdhmfpkhijkeaaGreat
namespace Go.Proofs.YtjdhmfpkhijkeaaGreat
open Go.RowKit
set_option linter.unusedVariables false
set_option linter.unusedSimpArgs false
theorem right_shp {t : Tr} (h : rightN t = 0) : t.shp = true := by
  unfold rightN at h
  split at h
  · cases h
  · split at h
    · cases h
    · split at h
      · assumption
      · cases h
def wVars (k i : Int) (ar : Nat) : Bool := decide (k = 1) || decide (k = 7 ∨ k = 10)
def wBound (k i : Int) (ar : Nat) : Bool := decide (k = 7 ∨ k = 10)
theorem gOf_vars : gOf wVars = gVars := by
  funext k i ar acc
  unfold gOf wVars gVars
  by_cases h : k = 1 ∨ k = 7 ∨ k = 10
  · rw [if_pos h, if_pos (by rcases h with h | h <;> simp [h])]
  · rw [if_neg h, if_neg (by simp; omega)]
theorem gOf_bound : gOf wBound = gBound := by
  funext k i ar acc
  unfold gOf wBound gBound
  by_cases h : k = 7 ∨ k = 10
  · rw [if_pos h, if_pos (by simp [h])]
  · rw [if_neg h, if_neg (by simp; omega)]
theorem gOf_free : gOf freeB = gFree := by
  funext k i ar acc
  unfold gOf freeB gFree
  by_cases h : k = 1 ∧ hasN ar i = false
  · rw [if_pos h, if_pos (by simp [h.1, h.2])]
  · rw [if_neg h, if_neg (by simp; intro e; cases hh : hasN ar i with | true => rfl | false => exact absurd ⟨e, hh⟩ h)]
theorem val_vars (t : Tr) : valR (fun t => foldV (gOf wVars) t 0 0) t = valR varsT t := by
  unfold valR
  split
  · rename_i h; rw [gOf_vars]; exact code_vars t (right_shp h)
  · rfl
theorem val_bound (t : Tr) : valR (fun t => foldV (gOf wBound) t 0 0) t = valR boundT t := by
  unfold valR
  split
  · rename_i h; rw [gOf_bound]; exact code_bound t
  · rfl
theorem val_free (t : Tr) : valR (fun t => foldV (gOf freeB) t 0 0) t = valR freeT t := by
  unfold valR
  split
  · rename_i h; rw [gOf_free]; exact code_free t (right_shp h)
  · rfl
set_option maxHeartbeats 1000000 in
theorem vars1_any : Asks 134 wVars := by
  intro k i A n c ar W hU
  have hb0 : Below W.heap.size W (W.alloc (.cells #[.int .i64 k, .int .i64 i, .slice A n c] 26)) := (Below.refl _ _).alloc (Nat.le_refl _) _
  have HB0 := Lib.hid hb0
  have BX := Lib.hid (Box3.new W (.int .i64 k) (.int .i64 i) (.slice A n c))
  obtain ⟨y0, y1, y2⟩ := BX.out.cells
  clear hb0 hU
  go_enter Tryz.func134, Tryz.ntmps134
  go_wp2_with fail
  refine (isVar_any k i A n c _).mono ?_
  rintro e w1 ⟨rfl, hb1⟩
  have B1 := Lib.hid (HB0.out.trans (hb1.mono HB0.out.size))
  obtain ⟨z0, z1, z2⟩ := (BX.out.keep hb1 BX.out.lt).cells
  clear hb1 y0 y1 y2
  by_cases h1 : k = 1
  · rw [decide_eq_true h1]
    have F := Lib.hid (show wVars k i ar = true by unfold wVars; rw [decide_eq_true h1]; rfl)
    clear h1
    go_wp2_with fail
    go_ret
    exact ⟨by rw [F.out]; rfl, B1.out⟩
  · rw [decide_eq_false h1]
    have F := Lib.hid (show wVars k i ar = decide (k = 7 ∨ k = 10) by unfold wVars; rw [decide_eq_false h1]; rfl)
    clear h1
    go_wp2_with fail
    refine (isQuant_any k i A n c _).mono ?_
    rintro e w2 ⟨rfl, hb2⟩
    obtain ⟨d, hd⟩ : ∃ d, d = decide (k = 7 ∨ k = 10) := ⟨_, rfl⟩
    rw [← hd] at F ⊢
    clear hd
    go_wp2_with fail
    go_ret
    exact ⟨by rw [F.out]; rfl, B1.out.trans (hb2.mono B1.out.size)⟩
set_option maxHeartbeats 1000000 in
set_option maxRecDepth 100000 in
theorem vars_any (t : Tr) (A : Option Addr) (c : Nat) (w : World) (ht : IsT w w.heap.size t A c) :
    Calls Tryz.prog 120 #[.agg #[.int .i64 t.k, .int .i64 t.i, .slice A t.ks.length c]] w fun e w' => e = .returned (.tuple #[.int .u64 (valR varsT t : Nat), .int .i64 (rightN t : Nat)]) ∧ Below w.heap.size w w' := by
  have hmf : ∀ (fn : Fn) (first cap : Array Value) (w : World), (Instr.makeFunc fn first cap).run Tryz.prog w = .ok (.func fn first cap) w := fun _ _ _ _ => rfl
  have T0 := Lib.hid (One.new ht)
  obtain ⟨y0, y1, y2⟩ := And.intro T0.out.b0 (And.intro T0.out.b1 T0.out.b2)
  have IC := Lib.hid (idsOf_any 134 wVars (fun _ _ => by first | (go_simp; done) | rfl) vars1_any t A c _ T0.out.tree)
  rw [val_vars] at IC
  clear ht
  go_enter Tryz.func120, Tryz.ntmps120
  go_wp2_with fail
  refine IC.out.mono ?_
  rintro e w1 ⟨rfl, hb1⟩
  go_wp2_with fail
  go_ret2
  exact ⟨rfl, (T0.out.keep hb1).below⟩
set_option maxHeartbeats 1000000 in
set_option maxRecDepth 100000 in
theorem free_any (t : Tr) (A : Option Addr) (c : Nat) (w : World) (ht : IsT w w.heap.size t A c) :
    Calls Tryz.prog 118 #[.agg #[.int .i64 t.k, .int .i64 t.i, .slice A t.ks.length c]] w fun e w' => e = .returned (.tuple #[.int .u64 (valR freeT t : Nat), .int .i64 (rightN t : Nat)]) ∧ Below w.heap.size w w' := by
  have hmf : ∀ (fn : Fn) (first cap : Array Value) (w : World), (Instr.makeFunc fn first cap).run Tryz.prog w = .ok (.func fn first cap) w := fun _ _ _ _ => rfl
  have T0 := Lib.hid (One.new ht)
  obtain ⟨y0, y1, y2⟩ := And.intro T0.out.b0 (And.intro T0.out.b1 T0.out.b2)
  have IC := Lib.hid (idsOf_any 131 freeB (fun _ _ => by first | (go_simp; done) | rfl) (fun k i A n c ar W hU => isFree_any k i A n c ar W hU) t A c _ T0.out.tree)
  rw [val_free] at IC
  clear ht
  go_enter Tryz.func118, Tryz.ntmps118
  go_wp2_with fail
  refine IC.out.mono ?_
  rintro e w1 ⟨rfl, hb1⟩
  go_wp2_with fail
  go_ret2
  exact ⟨rfl, (T0.out.keep hb1).below⟩
theorem valR_U {f : Tr → Nat} (hf : ∀ t, f t < 2 ^ 64) (t : Tr) : U64 (valR f t) := by unfold valR; split; exact hf t; exact zero_U
set_option maxHeartbeats 1000000 in
set_option maxRecDepth 100000 in
theorem notFree_any (x : Int) (t : Tr) (A : Option Addr) (c : Nat) (w : World) (ht : IsT w w.heap.size t A c) :
    Calls Tryz.prog 101 #[.int .i64 x, .agg #[.int .i64 t.k, .int .i64 t.i, .slice A t.ks.length c]] w fun e w' => e = .returned (.tuple #[.bool (nfB x t), .int .i64 (nfE x t : Nat)]) ∧ Below w.heap.size w w' := by
  have T0 := Lib.hid (One.new ht)
  obtain ⟨y0, y1, y2⟩ := And.intro T0.out.b0 (And.intro T0.out.b1 T0.out.b2)
  have VU := Lib.hid (valR_U freeT_U t)
  clear ht
  by_cases hx : 0 ≤ x ∧ x ≤ 63
  · have FX := Lib.hid (show fitsB x = true by unfold fitsB; rw [decide_eq_true hx])
    have E := Lib.hid (show nfE x t = rightN t by unfold nfE; rw [if_pos hx])
    go_enter Tryz.func101, Tryz.ntmps101
    go_wp2_with fail
    refine (isNumber_any x _).mono ?_
    rintro e w9 ⟨rfl, hw9⟩
    rw [← hw9, FX.out]
    clear hw9
    go_wp2_with fail
    refine (free_any t A c _ (by exact T0.out.tree)).mono ?_
    rintro e w1 ⟨rfl, hb1⟩
    have T1 := Lib.hid (T0.out.keep hb1)
    clear hb1
    by_cases hr : rightN t = 0
    · have h0 : ((rightN t : Int) != 0) = false := by simp [hr]
      have V := Lib.hid (show nfB x t = !hasN (valR freeT t) x by unfold nfB; rw [if_pos hx, if_pos hr, valR_ok hr])
      have R := Lib.hid hr
      clear hr hx
      obtain ⟨fv, hfv⟩ : ∃ fv, fv = valR freeT t := ⟨_, rfl⟩
      rw [← hfv] at V VU ⊢
      clear hfv
      go_wp2_with fail
      refine (has_any fv x _ VU.out).mono ?_
      rintro e w9 ⟨rfl, hw9⟩
      rw [← hw9]
      clear hw9
      go_wp2_with fail
      go_ret2
      exact ⟨by rw [V.out, E.out, R.out]; rfl, T1.out.below⟩
    · have h0 : ((rightN t : Int) != 0) = true := by rw [bne_iff_ne]; omega
      have V := Lib.hid (show nfB x t = false by unfold nfB; rw [if_pos hx, if_neg hr])
      clear hr hx
      go_wp2_with fail
      go_ret2
      exact ⟨by rw [V.out, E.out]; rfl, T1.out.below⟩
  · have FX := Lib.hid (show fitsB x = false by unfold fitsB; rw [decide_eq_false hx])
    have E := Lib.hid (show nfE x t = 1 by unfold nfE; rw [if_neg hx])
    have V := Lib.hid (show nfB x t = false by unfold nfB; rw [if_neg hx])
    clear hx
    go_enter Tryz.func101, Tryz.ntmps101
    go_wp2_with fail
    refine (isNumber_any x _).mono ?_
    rintro e w9 ⟨rfl, hw9⟩
    rw [← hw9, FX.out]
    clear hw9
    go_wp2_with fail
    go_ret2
    exact ⟨by rw [V.out, E.out]; rfl, T0.out.below⟩
end Go.Proofs.YtjdhmfpkhijkeaaGreat
namespace Go.Proofs.YtjdhmfpkhijkeaaGreat
open Go.RowKit
set_option linter.unusedVariables false
set_option linter.unusedSimpArgs false
def wantTN (t : Tr) : Nat := if rightN t = 0 then (if termB t.k = true then 0 else 40) else rightN t
def wantFN (t : Tr) : Nat := if rightN t = 0 then (if termB t.k = true then 40 else 0) else rightN t
set_option maxHeartbeats 1000000 in
theorem rwantT_any (t : Tr) (A : Option Addr) (c : Nat) (w : World) (ht : IsT w w.heap.size t A c) :
    Calls Tryz.prog 123 #[.agg #[.int .i64 t.k, .int .i64 t.i, .slice A t.ks.length c]] w fun e w' => e = .returned (.int .i64 (wantTN t : Nat)) ∧ Below w.heap.size w w' := by
  have T0 := Lib.hid (One.new ht)
  obtain ⟨y0, y1, y2⟩ := And.intro T0.out.b0 (And.intro T0.out.b1 T0.out.b2)
  clear ht
  go_enter Tryz.func123, Tryz.ntmps123
  go_wp2_with fail
  refine (rright_any t A c _ (by exact T0.out.tree)).mono ?_
  rintro e w1 ⟨rfl, hb1⟩
  have T1 := Lib.hid (T0.out.keep hb1)
  obtain ⟨z0, z1, z2⟩ := And.intro T1.out.b0 (And.intro T1.out.b1 T1.out.b2)
  clear hb1 y0 y1 y2
  by_cases hr : rightN t = 0
  · have h0 : ((rightN t : Int) != 0) = false := by simp [hr]
    have R := Lib.hid (show wantTN t = if termB t.k = true then 0 else 40 by unfold wantTN; rw [if_pos hr])
    clear hr
    go_wp2_with fail
    refine (term_any t.k t.i A t.ks.length c _).mono ?_
    rintro e w2 ⟨rfl, hb2⟩
    have T2 := Lib.hid (T1.out.keep hb2)
    clear hb2
    cases ht : termB t.k with
    | true =>
      rw [ht] at R
      go_wp2_with fail
      go_ret
      exact ⟨ret_intw (by rw [R.out]; rfl), T2.out.below⟩
    | false =>
      rw [ht] at R
      go_wp2_with fail
      go_ret
      exact ⟨ret_intw (by rw [R.out]; rfl), T2.out.below⟩
  · have h0 : ((rightN t : Int) != 0) = true := by rw [bne_iff_ne]; omega
    have R := Lib.hid (show wantTN t = rightN t by unfold wantTN; rw [if_neg hr])
    clear hr
    go_wp2_with fail
    refine (rright_any t A c _ (by exact T1.out.tree)).mono ?_
    rintro e w2 ⟨rfl, hb2⟩
    go_wp2_with fail
    go_ret
    exact ⟨ret_intw (by rw [R.out]), (T1.out.keep hb2).below⟩
set_option maxHeartbeats 1000000 in
theorem rwantF_any (t : Tr) (A : Option Addr) (c : Nat) (w : World) (ht : IsT w w.heap.size t A c) :
    Calls Tryz.prog 31 #[.agg #[.int .i64 t.k, .int .i64 t.i, .slice A t.ks.length c]] w fun e w' => e = .returned (.int .i64 (wantFN t : Nat)) ∧ Below w.heap.size w w' := by
  have T0 := Lib.hid (One.new ht)
  obtain ⟨y0, y1, y2⟩ := And.intro T0.out.b0 (And.intro T0.out.b1 T0.out.b2)
  clear ht
  go_enter Tryz.func31, Tryz.ntmps31
  go_wp2_with fail
  refine (rright_any t A c _ (by exact T0.out.tree)).mono ?_
  rintro e w1 ⟨rfl, hb1⟩
  have T1 := Lib.hid (T0.out.keep hb1)
  obtain ⟨z0, z1, z2⟩ := And.intro T1.out.b0 (And.intro T1.out.b1 T1.out.b2)
  clear hb1 y0 y1 y2
  by_cases hr : rightN t = 0
  · have h0 : ((rightN t : Int) != 0) = false := by simp [hr]
    have R := Lib.hid (show wantFN t = if termB t.k = true then 40 else 0 by unfold wantFN; rw [if_pos hr])
    clear hr
    go_wp2_with fail
    refine (term_any t.k t.i A t.ks.length c _).mono ?_
    rintro e w2 ⟨rfl, hb2⟩
    have T2 := Lib.hid (T1.out.keep hb2)
    clear hb2
    cases ht : termB t.k with
    | true =>
      rw [ht] at R
      go_wp2_with fail
      go_ret
      exact ⟨ret_intw (by rw [R.out]; rfl), T2.out.below⟩
    | false =>
      rw [ht] at R
      go_wp2_with fail
      go_ret
      exact ⟨ret_intw (by rw [R.out]; rfl), T2.out.below⟩
  · have h0 : ((rightN t : Int) != 0) = true := by rw [bne_iff_ne]; omega
    have R := Lib.hid (show wantFN t = rightN t by unfold wantFN; rw [if_neg hr])
    clear hr
    go_wp2_with fail
    refine (rright_any t A c _ (by exact T1.out.tree)).mono ?_
    rintro e w2 ⟨rfl, hb2⟩
    go_wp2_with fail
    go_ret
    exact ⟨ret_intw (by rw [R.out]), (T1.out.keep hb2).below⟩
/-- the errors of a term, a variable, an expression -/
def askN (x : Int) (t a : Tr) : Nat := if 0 ≤ x ∧ x ≤ 63 then (if firstN t a = 0 then wantTN t else firstN t a) else 1
theorem firstN_le (a b : Tr) : firstN a b ≤ 22 := by unfold firstN; split; exact rightN_le a; exact rightN_le b
set_option maxHeartbeats 1000000 in
set_option maxRecDepth 100000 in
theorem rasked_any (t a : Tr) (x : Int) (A A' : Option Addr) (c c' : Nat) (w : World) (ht : IsT w w.heap.size t A c) (ha : IsT w w.heap.size a A' c') :
    Calls Tryz.prog 107 #[.agg #[.int .i64 t.k, .int .i64 t.i, .slice A t.ks.length c], .int .i64 x, .agg #[.int .i64 a.k, .int .i64 a.i, .slice A' a.ks.length c']] w fun e w' => e = .returned (.int .i64 (askN x t a : Nat)) ∧ Below w.heap.size w w' := by
  have T0 := Lib.hid (two_start ht ha)
  have hl := firstN_le t a
  clear ht ha
  by_cases hx : 0 ≤ x ∧ x ≤ 63
  · have a1 : ¬ x < 0 := by omega
    have a2 : ¬ 63 < x := by omega
    have b0 := T0.out.b0
    have b1 := T0.out.b1
    have b2 := T0.out.b2
    have d0 := T0.out.d0
    have d1 := T0.out.d1
    have d2 := T0.out.d2
    go_enter Tryz.func107, Tryz.ntmps107
    go_wp2_with fail
    refine (first_any t a A A' c c' _ (by exact T0.out.ta) (by exact T0.out.tb)).mono ?_
    rintro e w1 ⟨rfl, hb1⟩
    have T1 := Lib.hid (T0.out.keep hb1)
    clear hb1 b0 b1 b2 d0 d1 d2
    have b0 := T1.out.b0
    have b1 := T1.out.b1
    have b2 := T1.out.b2
    by_cases hf : firstN t a = 0
    · have h0 : ((firstN t a : Int) != 0) = false := by simp [hf]
      have R := Lib.hid (show askN x t a = wantTN t by unfold askN; rw [if_pos hx, if_pos hf])
      clear hf hx
      go_wp2_with fail
      refine (rwantT_any t A c _ (by exact T1.out.ta)).mono ?_
      rintro e w2 ⟨rfl, hb2⟩
      go_wp2_with fail
      go_ret
      exact ⟨ret_intw (by rw [R.out]), (T1.out.keep hb2).below⟩
    · have h0 : ((firstN t a : Int) != 0) = true := by rw [bne_iff_ne]; omega
      have R := Lib.hid (show askN x t a = firstN t a by unfold askN; rw [if_pos hx, if_neg hf])
      clear hf hx
      go_wp2_with fail
      go_ret
      exact ⟨ret_intw (by rw [R.out]), T1.out.below⟩
  · have R := Lib.hid (show askN x t a = 1 by unfold askN; rw [if_neg hx])
    by_cases a1 : x < 0
    · clear hx
      go_enter Tryz.func107, Tryz.ntmps107
      go_wp2_with fail
      go_ret
      exact ⟨ret_intw (by rw [R.out]; rfl), T0.out.below⟩
    · have a2 : 63 < x := by omega
      clear hx
      go_enter Tryz.func107, Tryz.ntmps107
      go_wp2_with fail
      go_ret
      exact ⟨ret_intw (by rw [R.out]; rfl), T0.out.below⟩
/-- what Caught answers -/
def catV (x : Int) (t a : Tr) : Nat := if askN x t a = 0 then catT (varsT t) x a else 0
set_option maxHeartbeats 1000000 in
set_option maxRecDepth 100000 in
theorem rcaughtf_any (t a : Tr) (x : Int) (A A' : Option Addr) (c c' : Nat) (w : World) (ht : IsT w w.heap.size t A c) (ha : IsT w w.heap.size a A' c') :
    Calls Tryz.prog 79 #[.agg #[.int .i64 t.k, .int .i64 t.i, .slice A t.ks.length c], .int .i64 x, .agg #[.int .i64 a.k, .int .i64 a.i, .slice A' a.ks.length c']] w fun e w' => e = .returned (.tuple #[.int .u64 (catV x t a : Nat), .int .i64 (askN x t a : Nat)]) ∧ Below w.heap.size w w' := by
  have T0 := Lib.hid (two_start ht ha)
  have b0 := T0.out.b0
  have b1 := T0.out.b1
  have b2 := T0.out.b2
  have d0 := T0.out.d0
  have d1 := T0.out.d1
  have d2 := T0.out.d2
  have VU := Lib.hid (varsT_U t)
  clear ht ha
  go_enter Tryz.func79, Tryz.ntmps79
  go_wp2_with fail
  refine (rasked_any t a x A A' c c' _ (by exact T0.out.ta) (by exact T0.out.tb)).mono ?_
  rintro e w1 ⟨rfl, hb1⟩
  have T1 := Lib.hid (T0.out.keep hb1)
  clear hb1 b0 b1 b2 d0 d1 d2
  have b0 := T1.out.b0
  have b1 := T1.out.b1
  have b2 := T1.out.b2
  have d0 := T1.out.d0
  have d1 := T1.out.d1
  have d2 := T1.out.d2
  by_cases hf : askN x t a = 0
  · have h0 : ((askN x t a : Int) != 0) = false := by simp [hf]
    have R := Lib.hid (show catV x t a = catT (varsT t) x a by unfold catV; rw [if_pos hf])
    have Z := Lib.hid hf
    clear hf
    have T' := T1.out.keep (Below.refl _ _).drew
    clear b0 b1 b2 d0 d1 d2
    go_wp2_with fail
    go_region_held3 (fun w' => w'.cell? ⟨w.heap.size, 0, none⟩ = some (.int .i64 t.k) ∧ w'.cell? ⟨w.heap.size, 1, none⟩ = some (.int .i64 t.i) ∧ w'.cell? ⟨w.heap.size, 2, none⟩ = some (.slice A t.ks.length c) ∧ w'.cell? ⟨w.heap.size + 1, 0, none⟩ = some (.int .i64 a.k) ∧ w'.cell? ⟨w.heap.size + 1, 1, none⟩ = some (.int .i64 a.i) ∧ w'.cell? ⟨w.heap.size + 1, 2, none⟩ = some (.slice A' a.ks.length c'))
      (exact ⟨T'.b0, T'.b1, T'.b2, T'.d0, T'.d1, T'.d2⟩)
      (first
        | (go_at_call 44; refine (rofvars_any t A c _ (by exact T'.ta)).mono ?_; rintro e w3 ⟨rfl, hb3⟩; replace T' := T'.keep hb3; clear hb3)
        | (go_at_call 108; refine (rcaught_any (varsT t) x VU.out a.sz a A' c' _ (Nat.le_refl _) (by exact T'.tb)).mono ?_; rintro e w3 ⟨rfl, hb3⟩; replace T' := T'.keep hb3; clear hb3))
    all_goals (go_wp2_with fail)
    go_ret2
    exact ⟨by rw [R.out, Z.out]; rfl, T'.below⟩
  · have h0 : ((askN x t a : Int) != 0) = true := by rw [bne_iff_ne]; omega
    have R := Lib.hid (show catV x t a = 0 by unfold catV; rw [if_neg hf])
    clear hf
    go_wp2_with fail
    go_ret2
    exact ⟨by rw [R.out]; rfl, T1.out.below⟩
/-- what FreeFor answers -/
def ffB (x : Int) (t a : Tr) : Bool := decide (askN x t a = 0) && decide (catV x t a = 0)
set_option maxHeartbeats 1000000 in
set_option maxRecDepth 100000 in
theorem rfreefor_any (t a : Tr) (x : Int) (A A' : Option Addr) (c c' : Nat) (w : World) (ht : IsT w w.heap.size t A c) (ha : IsT w w.heap.size a A' c') :
    Calls Tryz.prog 41 #[.agg #[.int .i64 t.k, .int .i64 t.i, .slice A t.ks.length c], .int .i64 x, .agg #[.int .i64 a.k, .int .i64 a.i, .slice A' a.ks.length c']] w fun e w' => e = .returned (.tuple #[.bool (ffB x t a), .int .i64 (askN x t a : Nat)]) ∧ Below w.heap.size w w' := by
  have T0 := Lib.hid (two_start ht ha)
  have b0 := T0.out.b0
  have b1 := T0.out.b1
  have b2 := T0.out.b2
  have d0 := T0.out.d0
  have d1 := T0.out.d1
  have d2 := T0.out.d2
  clear ht ha
  go_enter Tryz.func41, Tryz.ntmps41
  go_wp2_with fail
  refine (rcaughtf_any t a x A A' c c' _ (by exact T0.out.ta) (by exact T0.out.tb)).mono ?_
  rintro e w1 ⟨rfl, hb1⟩
  have T1 := Lib.hid (T0.out.keep hb1)
  clear hb1 b0 b1 b2 d0 d1 d2
  by_cases hf : askN x t a = 0
  · have h0 : ((askN x t a : Int) == 0) = true := by simp [hf]
    have Z := Lib.hid hf
    by_cases hc : catV x t a = 0
    · have h1 : ((catV x t a : Int) == 0) = true := by simp [hc]
      have R := Lib.hid (show ffB x t a = true by unfold ffB; rw [decide_eq_true hf, decide_eq_true hc]; rfl)
      clear hf hc
      go_wp2_with fail
      go_ret2
      exact ⟨by rw [R.out]; rfl, T1.out.below⟩
    · have h1 : ((catV x t a : Int) == 0) = false := by rw [beq_eq_false_iff_ne]; omega
      have R := Lib.hid (show ffB x t a = false by unfold ffB; rw [decide_eq_false hc]; simp)
      clear hf hc
      go_wp2_with fail
      go_ret2
      exact ⟨by rw [R.out]; rfl, T1.out.below⟩
  · have h0 : ((askN x t a : Int) == 0) = false := by rw [beq_eq_false_iff_ne]; omega
    have R := Lib.hid (show ffB x t a = false by unfold ffB; rw [decide_eq_false hf]; rfl)
    clear hf
    go_wp2_with fail
    go_ret2
    exact ⟨by rw [R.out]; rfl, T1.out.below⟩
end Go.Proofs.YtjdhmfpkhijkeaaGreat
namespace Go.Proofs.YtjdhmfpkhijkeaaGreat
open Go.RowKit
set_option linter.unusedVariables false
set_option linter.unusedSimpArgs false
/-- block p is a variable that holds the number x -/
def IntBox (W : World) (p : Nat) (x : Int) : Prop := W.heap[p]? = some (.cells #[.int .i64 x] 3 (0, 0))
theorem IntBox.cell {W : World} {p : Nat} {x : Int} (h : IntBox W p x) : W.cell? ⟨p, 0, none⟩ = some (.int .i64 x) := by
  unfold IntBox at h
  simp [World.cell?, h]
theorem IntBox.lt {W : World} {p : Nat} {x : Int} (h : IntBox W p x) : p < W.heap.size := (Array.getElem?_eq_some_iff.1 h).1
theorem IntBox.keep {W W' : World} {p : Nat} {x : Int} (h : IntBox W p x) (hb : Below W.heap.size W W') : IntBox W' p x := (hb.block p h.lt).trans h
theorem or_walk64 (a b : Nat) (ha : U64 a) (hb : U64 b) : bits .or .u64 (a : Int) (b : Int) = ((a ||| b : Nat) : Int) := or64 a b ha hb
theorem and_walk64 (a b : Nat) (ha : U64 a) (hb : U64 b) : bits .and .u64 (a : Int) (b : Int) = ((a &&& b : Nat) : Int) := and64 a b ha hb
theorem gCatch_eq (x k i : Int) (ar acc : Nat) : gCatch x k i ar acc = if freeB k i ar = true ∧ i = x then acc ||| ar else acc := by
  unfold gCatch freeB
  by_cases h : k = 1 ∧ hasN ar i = false ∧ i = x
  · rw [if_pos h, if_pos ⟨by simp [h.1, h.2.1], h.2.2⟩]
  · rw [if_neg h, if_neg]
    rintro ⟨a, b⟩
    simp at a
    exact h ⟨a.1, a.2, b⟩
set_option maxHeartbeats 2000000 in
set_option maxRecDepth 100000 in
theorem caught1_any (p b : Nat) (hpb : p ≠ b) (x : Int) : Finds 130 p b (gCatch x) (fun W => IntBox W p x) := by
  intro k i A n c ar s W hUa hUs hS hI
  have hbw := hS.lt
  have hpw := hI.lt
  have hb0 : Below W.heap.size W (W.alloc (.cells #[.int .i64 k, .int .i64 i, .slice A n c] 26)) := (Below.refl _ _).alloc (Nat.le_refl _) _
  obtain ⟨y0, y1, y2⟩ := box_new W (.int .i64 k) (.int .i64 i) (.slice A n c) 26
  have S0 := Lib.hid (hS.keep hb0)
  have I0 := Lib.hid (hI.keep hb0)
  have HB0 := Lib.hid hb0
  have BX := Lib.hid (Box3.new W (.int .i64 k) (.int .i64 i) (.slice A n c))
  have HUa := Lib.hid hUa
  have OW := Lib.hid (or_walk64 s ar hUs hUa)
  clear hb0 hS hI hUa hUs
  go_enter Tryz.func130, Tryz.ntmps130
  go_wp2_with fail
  refine (isFree_any k i A n c ar _ HUa.out).mono ?_
  rintro e w1 ⟨rfl, hb1⟩
  have S1 := Lib.hid (S0.out.keep hb1)
  have K1 := Lib.hid ((KeepX.of_below (b := b) HB0.out).trans (KeepX.of_below hb1))
  obtain ⟨z0, z1, z2⟩ := (BX.out.keep hb1 BX.out.lt).cells
  have sc := S1.out.cell
  have sf := S1.out.frozen
  have ic := (I0.out.keep hb1).cell
  clear hb1 y0 y1 y2
  have G := Lib.hid (gCatch_eq x k i ar s)
  cases hw : freeB k i ar with
  | true =>
    by_cases hx : i = x
    · have hx' : (i == x) = true := by simp [hx]
      have G1 := Lib.hid (show gCatch x k i ar s = s ||| ar by rw [G.out, if_pos ⟨hw, hx⟩])
      have ow := OW.out
      clear hx G
      go_wp2_with fail
      go_end0
      refine ⟨rfl, ?_, ?_⟩
      · rw [G1.out]
        first | exact S1.out.set _ | (rw [ow]; exact S1.out.set _)
      · exact K1.out.trans (KeepX.set b 0 _ _)
    · have hx' : (i == x) = false := by simpa using hx
      have G1 := Lib.hid (show gCatch x k i ar s = s by rw [G.out, if_neg (fun h => hx h.2)])
      clear hx G
      go_wp2_with fail
      go_end0
      exact ⟨rfl, by rw [G1.out]; exact S1.out, K1.out⟩
  | false =>
    have G1 := Lib.hid (show gCatch x k i ar s = s by rw [G.out, if_neg (fun h => by rw [hw] at h; cases h.1)])
    clear G
    go_wp2_with fail
    go_end0
    exact ⟨rfl, by rw [G1.out]; exact S1.out, K1.out⟩
/-- is it right, and a term? as the code asks -/
def isTB (t : Tr) : Bool := decide (sortN t.k = 1) && decide (rightN t = 0)
set_option maxHeartbeats 1000000 in
theorem isTerm_any (t : Tr) (A : Option Addr) (c : Nat) (w : World) (ht : IsT w w.heap.size t A c) :
    Calls Tryz.prog 60 #[.agg #[.int .i64 t.k, .int .i64 t.i, .slice A t.ks.length c]] w fun e w' => e = .returned (.bool (isTB t)) ∧ Below w.heap.size w w' := by
  have T0 := Lib.hid (One.new ht)
  obtain ⟨y0, y1, y2⟩ := And.intro T0.out.b0 (And.intro T0.out.b1 T0.out.b2)
  clear ht
  go_enter Tryz.func60, Tryz.ntmps60
  go_wp2_with fail
  refine (sortOf_any t.k t.i A t.ks.length c _).mono ?_
  rintro e w1 ⟨rfl, hb1⟩
  have T1 := Lib.hid (T0.out.keep hb1)
  obtain ⟨z0, z1, z2⟩ := And.intro T1.out.b0 (And.intro T1.out.b1 T1.out.b2)
  clear hb1 y0 y1 y2
  by_cases hs : sortN t.k = 1
  · have h1 : (sortN t.k == 1) = true := by simp [hs]
    have F := Lib.hid (show isTB t = decide (rightN t = 0) by unfold isTB; rw [decide_eq_true hs]; rfl)
    clear hs
    go_wp2_with fail
    refine (right_any t A c _ (by exact T1.out.tree)).mono ?_
    rintro e w2 ⟨rfl, hb2⟩
    have T2 := Lib.hid (T1.out.keep hb2)
    clear hb2
    by_cases hr : rightN t = 0
    · have h0 : ((rightN t : Int) == 0) = true := by simp [hr]
      have F2 := Lib.hid (show isTB t = true by rw [F.out, decide_eq_true hr])
      clear hr
      go_wp2_with fail
      go_ret
      exact ⟨by rw [F2.out]; rfl, T2.out.below⟩
    · have h0 : ((rightN t : Int) == 0) = false := by rw [beq_eq_false_iff_ne]; omega
      have F2 := Lib.hid (show isTB t = false by rw [F.out, decide_eq_false hr])
      clear hr
      go_wp2_with fail
      go_ret
      exact ⟨by rw [F2.out]; rfl, T2.out.below⟩
  · have h1 : (sortN t.k == 1) = false := by simpa using hs
    have F := Lib.hid (show isTB t = false by unfold isTB; rw [decide_eq_false hs]; rfl)
    clear hs
    go_wp2_with fail
    go_ret
    exact ⟨by rw [F.out]; rfl, T1.out.below⟩
/-- what Caught was handed, boxed, in a later world -/
structure Cau (w wr : World) (t a : Tr) (x : Int) (A A' : Option Addr) (c c' : Nat) : Prop where
  b0 : wr.cell? ⟨w.heap.size, 0, none⟩ = some (.int .i64 t.k)
  b1 : wr.cell? ⟨w.heap.size, 1, none⟩ = some (.int .i64 t.i)
  b2 : wr.cell? ⟨w.heap.size, 2, none⟩ = some (.slice A t.ks.length c)
  xb : IntBox wr (w.heap.size + 1) x
  d0 : wr.cell? ⟨w.heap.size + 1 + 1, 0, none⟩ = some (.int .i64 a.k)
  d1 : wr.cell? ⟨w.heap.size + 1 + 1, 1, none⟩ = some (.int .i64 a.i)
  d2 : wr.cell? ⟨w.heap.size + 1 + 1, 2, none⟩ = some (.slice A' a.ks.length c')
  ta : IsT wr wr.heap.size t A c
  tb : IsT wr wr.heap.size a A' c'
  below : Below w.heap.size w wr
  size : w.heap.size + 3 ≤ wr.heap.size
theorem Cau.new {w : World} {t a : Tr} {A A' : Option Addr} {c c' : Nat} (x : Int) (ht : IsT w w.heap.size t A c) (ha : IsT w w.heap.size a A' c') :
    Cau w (((w.alloc (.cells #[.int .i64 t.k, .int .i64 t.i, .slice A t.ks.length c] 26)).alloc (.cells #[.int .i64 x] 3)).alloc (.cells #[.int .i64 a.k, .int .i64 a.i, .slice A' a.ks.length c'] 26)) t a x A A' c c' := by
  have h1 : Below w.heap.size w (((w.alloc (.cells #[.int .i64 t.k, .int .i64 t.i, .slice A t.ks.length c] 26)).alloc (.cells #[.int .i64 x] 3)).alloc (.cells #[.int .i64 a.k, .int .i64 a.i, .slice A' a.ks.length c'] 26)) := (((Below.refl _ _).alloc (Nat.le_refl _) _).alloc (by simp) _).alloc (by simp; omega) _
  have h2 : Below (w.heap.size + 1) (w.alloc (.cells #[.int .i64 t.k, .int .i64 t.i, .slice A t.ks.length c] 26)) (((w.alloc (.cells #[.int .i64 t.k, .int .i64 t.i, .slice A t.ks.length c] 26)).alloc (.cells #[.int .i64 x] 3)).alloc (.cells #[.int .i64 a.k, .int .i64 a.i, .slice A' a.ks.length c'] 26)) := ((Below.refl _ _).alloc (by simp) _).alloc (by simp) _
  obtain ⟨f0, f1, f2⟩ := (Box3.keep (Box3.new w (.int .i64 t.k) (.int .i64 t.i) (.slice A t.ks.length c)) h2 (Nat.lt_succ_self _)).cells
  have e1 := World.alloc_heap_new (w.alloc (.cells #[.int .i64 t.k, .int .i64 t.i, .slice A t.ks.length c] 26)) (.cells #[.int .i64 x] 3)
  rw [World.size_alloc] at e1
  have e3 := Box3.new ((w.alloc (.cells #[.int .i64 t.k, .int .i64 t.i, .slice A t.ks.length c] 26)).alloc (.cells #[.int .i64 x] 3)) (.int .i64 a.k) (.int .i64 a.i) (.slice A' a.ks.length c')
  rw [World.size_alloc, World.size_alloc] at e3
  obtain ⟨g0, g1, g2⟩ := e3.cells
  refine ⟨f0, f1, f2, ?_, g0, g1, g2, ht.keep h1 h1.size, ha.keep h1 h1.size, h1, by simp⟩
  exact (Below.heap_alloc _ _ _ (by simp)).trans e1
theorem Cau.keep {w wr w1 : World} {t a : Tr} {x : Int} {A A' : Option Addr} {c c' : Nat} (h : Cau w wr t a x A A' c c') (hb : Below wr.heap.size wr w1) : Cau w w1 t a x A A' c c' := by
  have e : ∀ {p : Addr} {v : Value}, wr.cell? p = some v → w1.cell? p = some v := fun hv => (hb.cell (block_lt_of_cell hv)).trans hv
  exact ⟨e h.b0, e h.b1, e h.b2, h.xb.keep hb, e h.d0, e h.d1, e h.d2, h.ta.keep hb hb.size, h.tb.keep hb hb.size, h.below.trans (hb.mono h.below.size), Nat.le_trans h.size hb.size⟩
theorem isTB_term {t : Tr} (hr : rightN t = 0) : isTB t = termB t.k := by
  unfold isTB
  rw [decide_eq_true hr, Bool.and_true]
  cases ht : termB t.k with
  | true => rw [decide_eq_true ((sort_term t.k).2 ht)]
  | false => rw [decide_eq_false (fun e => by rw [(sort_term t.k).1 e] at ht; cases ht)]
set_option maxHeartbeats 4000000 in
set_option maxRecDepth 100000 in
theorem caught_any (t a : Tr) (x : Int) (A A' : Option Addr) (c c' : Nat) (w : World) (ht : IsT w w.heap.size t A c) (ha : IsT w w.heap.size a A' c') :
    Calls Tryz.prog 116 #[.agg #[.int .i64 t.k, .int .i64 t.i, .slice A t.ks.length c], .int .i64 x, .agg #[.int .i64 a.k, .int .i64 a.i, .slice A' a.ks.length c']] w fun e w' => e = .returned (.tuple #[.int .u64 (catV x t a : Nat), .int .i64 (askN x t a : Nat)]) ∧ Below w.heap.size w w' := by
  have hmf : ∀ (fn : Fn) (first cap : Array Value) (w : World), (Instr.makeFunc fn first cap).run Tryz.prog w = .ok (.func fn first cap) w := fun _ _ _ _ => rfl
  have T0 := Lib.hid (Cau.new x ht ha)
  have b0 := T0.out.b0
  have b1 := T0.out.b1
  have b2 := T0.out.b2
  have xc := T0.out.xb.cell
  have d0 := T0.out.d0
  have d1 := T0.out.d1
  have d2 := T0.out.d2
  clear ht ha
  by_cases hx : 0 ≤ x ∧ x ≤ 63
  · have FX := Lib.hid (show fitsB x = true by unfold fitsB; rw [decide_eq_true hx])
    go_enter Tryz.func116, Tryz.ntmps116
    go_wp2_with fail
    refine (isNumber_any x _).mono ?_
    rintro e w9 ⟨rfl, hw9⟩
    rw [← hw9, FX.out]
    clear hw9
    go_wp2_with fail
    refine (vars_any t A c _ (by exact T0.out.ta)).mono ?_
    rintro e w1 ⟨rfl, hb1⟩
    have T1 := Lib.hid (T0.out.keep hb1)
    clear hb1 b0 b1 b2 xc d0 d1 d2
    have b0 := T1.out.b0
    have b1 := T1.out.b1
    have b2 := T1.out.b2
    have xc := T1.out.xb.cell
    have d0 := T1.out.d0
    have d1 := T1.out.d1
    have d2 := T1.out.d2
    by_cases hr : rightN t = 0
    · have h0 : ((rightN t : Int) != 0) = false := by simp [hr]
      have VV := Lib.hid (show valR varsT t = varsT t from valR_ok hr)
      have f1 : firstN t a = rightN a := by unfold firstN; rw [if_neg (by simp [hr])]
      have TT := Lib.hid (isTB_term hr)
      go_wp2_with fail
      refine (right_any a A' c' _ (by exact T1.out.tb)).mono ?_
      rintro e w2 ⟨rfl, hb2⟩
      have T2 := Lib.hid (T1.out.keep hb2)
      clear hb2 b0 b1 b2 xc d0 d1 d2
      have b0 := T2.out.b0
      have b1 := T2.out.b1
      have b2 := T2.out.b2
      have xc := T2.out.xb.cell
      have d0 := T2.out.d0
      have d1 := T2.out.d1
      have d2 := T2.out.d2
      by_cases hra : rightN a = 0
      · have h1 : ((rightN a : Int) != 0) = false := by simp [hra]
        go_wp2_with fail
        refine (isTerm_any t A c _ (by exact T2.out.ta)).mono ?_
        rintro e w3 ⟨rfl, hb3⟩
        rw [TT.out]
        have T3 := Lib.hid (T2.out.keep hb3)
        clear hb3 b0 b1 b2 xc d0 d1 d2
        have b0 := T3.out.b0
        have b1 := T3.out.b1
        have b2 := T3.out.b2
        have xc := T3.out.xb.cell
        have d0 := T3.out.d0
        have d1 := T3.out.d1
        have d2 := T3.out.d2
        cases htk : termB t.k with
        | false =>
          have AE := Lib.hid (show askN x t a = 40 by unfold askN; rw [if_pos hx, f1, if_pos hra]; unfold wantTN; rw [if_pos hr, htk]; rfl)
          have CE := Lib.hid (show catV x t a = 0 by unfold catV; rw [AE.out, if_neg (by omega)])
          clear hr hra hx
          go_wp2_with fail
          go_ret2
          exact ⟨by rw [AE.out, CE.out]; rfl, T3.out.below⟩
        | true =>
          have AE := Lib.hid (show askN x t a = 0 by unfold askN; rw [if_pos hx, f1, if_pos hra]; unfold wantTN; rw [if_pos hr, htk]; rfl)
          have CE := Lib.hid (show catV x t a = varsT t &&& foldV (gCatch x) a 0 0 by unfold catV; rw [if_pos AE.out, code_catch _ x hx.1 hx.2 a (right_shp hra)])
          have hal : ∀ o, Below w3.heap.size w3 (w3.alloc o) := fun o => (Below.refl _ _).alloc (Nat.le_refl _) _
          have T4 := Lib.hid (fun o => T3.out.keep (hal o))
          have VC := Lib.hid (fvisit_any 130 (w.heap.size + 1) w3.heap.size w3.heap.size (gCatch x) (fun W => IntBox W (w.heap.size + 1) x) (Nat.le_refl _) (gCatch_U x) (fun X Y hk hx => (hk.block _ hx.lt (by have := T3.out.size; omega)).trans hx) (fun _ _ => by first | (go_simp; done) | rfl) (caught1_any (w.heap.size + 1) w3.heap.size (by have := T3.out.size; omega) x) a.sz a A' c' 0 0 (w3.alloc (.cells #[.int .u64 0] 73)) (Nat.le_refl _) (T3.out.tb.keep (hal _) (Nat.le_refl _)) zero_U zero_U (World.alloc_heap_new w3 _) (T4.out _).xb)
          have AW := Lib.hid (and_walk64 (varsT t) (foldV (gCatch x) a 0 0) (varsT_U t) (foldV_U (gCatch_U x) a 0 0 zero_U zero_U))
          have hz := T3.out.size
          rw [VV.out]
          clear hr hra hx b0 b1 b2 xc d0 d1 d2
          have d0 := fun o => (T4.out o).d0
          have d1 := fun o => (T4.out o).d1
          have d2 := fun o => (T4.out o).d2
          go_wp2_with fail
          refine VC.out.mono ?_
          rintro e w5 ⟨rfl, hS, hK⟩
          have sc := hS.cell
          have BB := Lib.hid ((T4.out _).below.trans (hK.below (B := w.heap.size) (by omega) (by simp; omega)))
          have aw := AW.out
          clear hS hK d0 d1 d2
          go_wp2_with fail
          go_ret2
          refine ⟨?_, BB.out⟩
          rw [AE.out, CE.out]
          first | rfl | (rw [aw]; rfl) | (simp [aw])
      · have h1 : ((rightN a : Int) != 0) = true := by rw [bne_iff_ne]; omega
        have AE := Lib.hid (show askN x t a = rightN a by unfold askN; rw [if_pos hx, f1, if_neg hra])
        have CE := Lib.hid (show catV x t a = 0 by unfold catV; rw [AE.out, if_neg hra])
        clear hr hra hx
        go_wp2_with fail
        go_ret2
        exact ⟨by rw [AE.out, CE.out]; rfl, T2.out.below⟩
    · have h0 : ((rightN t : Int) != 0) = true := by rw [bne_iff_ne]; omega
      have AE := Lib.hid (show askN x t a = rightN t by
        have f1 : firstN t a = rightN t := by unfold firstN; rw [if_pos hr]
        unfold askN; rw [if_pos hx, f1, if_neg hr])
      have CE := Lib.hid (show catV x t a = 0 by unfold catV; rw [AE.out, if_neg hr])
      clear hr hx
      go_wp2_with fail
      go_ret2
      exact ⟨by rw [AE.out, CE.out]; rfl, T1.out.below⟩
  · have FX := Lib.hid (show fitsB x = false by unfold fitsB; rw [decide_eq_false hx])
    have AE := Lib.hid (show askN x t a = 1 by unfold askN; rw [if_neg hx])
    have CE := Lib.hid (show catV x t a = 0 by unfold catV; rw [AE.out, if_neg (by omega)])
    clear hx
    go_enter Tryz.func116, Tryz.ntmps116
    go_wp2_with fail
    refine (isNumber_any x _).mono ?_
    rintro e w9 ⟨rfl, hw9⟩
    rw [← hw9, FX.out]
    clear hw9
    go_wp2_with fail
    go_ret2
    exact ⟨by rw [AE.out, CE.out]; rfl, T0.out.below⟩
set_option maxHeartbeats 1000000 in
set_option maxRecDepth 100000 in
theorem freeFor_any (t a : Tr) (x : Int) (A A' : Option Addr) (c c' : Nat) (w : World) (ht : IsT w w.heap.size t A c) (ha : IsT w w.heap.size a A' c') :
    Calls Tryz.prog 99 #[.agg #[.int .i64 t.k, .int .i64 t.i, .slice A t.ks.length c], .int .i64 x, .agg #[.int .i64 a.k, .int .i64 a.i, .slice A' a.ks.length c']] w fun e w' => e = .returned (.tuple #[.bool (ffB x t a), .int .i64 (askN x t a : Nat)]) ∧ Below w.heap.size w w' := by
  have T0 := Lib.hid (two_start ht ha)
  have b0 := T0.out.b0
  have b1 := T0.out.b1
  have b2 := T0.out.b2
  have d0 := T0.out.d0
  have d1 := T0.out.d1
  have d2 := T0.out.d2
  clear ht ha
  go_enter Tryz.func99, Tryz.ntmps99
  go_wp2_with fail
  refine (caught_any t a x A A' c c' _ (by exact T0.out.ta) (by exact T0.out.tb)).mono ?_
  rintro e w1 ⟨rfl, hb1⟩
  have T1 := Lib.hid (T0.out.keep hb1)
  clear hb1 b0 b1 b2 d0 d1 d2
  by_cases hf : askN x t a = 0
  · have h0 : ((askN x t a : Int) == 0) = true := by simp [hf]
    by_cases hc : catV x t a = 0
    · have h1 : ((catV x t a : Int) == 0) = true := by simp [hc]
      have R := Lib.hid (show ffB x t a = true by unfold ffB; rw [decide_eq_true hf, decide_eq_true hc]; rfl)
      clear hf hc
      go_wp2_with fail
      go_ret2
      exact ⟨by rw [R.out]; rfl, T1.out.below⟩
    · have h1 : ((catV x t a : Int) == 0) = false := by rw [beq_eq_false_iff_ne]; omega
      have R := Lib.hid (show ffB x t a = false by unfold ffB; rw [decide_eq_false hc]; simp)
      clear hf hc
      go_wp2_with fail
      go_ret2
      exact ⟨by rw [R.out]; rfl, T1.out.below⟩
  · have h0 : ((askN x t a : Int) == 0) = false := by rw [beq_eq_false_iff_ne]; omega
    have R := Lib.hid (show ffB x t a = false by unfold ffB; rw [decide_eq_false hf]; rfl)
    clear hf
    go_wp2_with fail
    go_ret2
    exact ⟨by rw [R.out]; rfl, T1.out.below⟩
end Go.Proofs.YtjdhmfpkhijkeaaGreat
namespace Go.Proofs.YtjdhmfpkhijkeaaGreat
open Go.RowKit Go.Shelf
attribute [local go_sem] Oper.semAt_some
set_option maxRecDepth 100000 in
set_option maxHeartbeats 4000000 in
theorem size_small (t : Tr) (A : Option Addr) (c : Nat) (w : World) (ht : IsT w w.heap.size t A c) (hsm : t.sz ≤ 1000) :
    Calls Tryz.prog 95 #[.agg #[.int .i64 t.k, .int .i64 t.i, .slice A t.ks.length c]] w fun e w' => e = .returned (.int .i64 (t.sz : Nat)) ∧ Below w.heap.size w w' := by
  refine (callsIn_wide (n := 5)).1 ?_
  refine callsIn_of_wp_marks Tryz.func95 rfl trivial ?_ rfl
  simp only [Tryz.ntmps95, List.size_toArray, List.length_cons, List.length_nil, Nat.reduceAdd, Nat.reduceSub, Array.replicate_succ, Array.replicate_zero, List.push_toArray, List.append_toArray, List.nil_append, List.cons_append]
  gi_wp2_with ((try refine ⟨trivial, ?_⟩); gi_at_call 77; refine (nodes_in Fence.wide 4 trivial rfl _ _ _ _ _ _).mono ?_; rintro e w' ⟨rfl, rfl⟩)
  obtain ⟨W0, hW0⟩ : ∃ W0, ((w.alloc (.cells #[.int .i64 t.k, .int .i64 t.i, .slice A t.ks.length c] 26)).alloc (.cells #[.int .i64 0] 3)).alloc (.cells #[.int .i64 t.k, .int .i64 t.i, .slice A t.ks.length c] 26) = W0 := ⟨_, rfl⟩
  have b1 := (Boxed.new (w.alloc (.cells #[.int .i64 t.k, .int .i64 t.i, .slice A t.ks.length c] 26)) 3 (.int .i64 0)).alloc (.cells #[.int .i64 t.k, .int .i64 t.i, .slice A t.ks.length c] 26)
  have b5 := Box3.new ((w.alloc (.cells #[.int .i64 t.k, .int .i64 t.i, .slice A t.ks.length c] 26)).alloc (.cells #[.int .i64 0] 3)) (.int .i64 t.k) (.int .i64 t.i) (.slice A t.ks.length c)
  have hB0 : Below w.heap.size w (((w.alloc (.cells #[.int .i64 t.k, .int .i64 t.i, .slice A t.ks.length c] 26)).alloc (.cells #[.int .i64 0] 3)).alloc (.cells #[.int .i64 t.k, .int .i64 t.i, .slice A t.ks.length c] 26)) :=
    (((Below.refl _ w).alloc (Nat.le_refl _) _).alloc (by simp) _).alloc (by simp; omega) _
  have hsz : (((w.alloc (.cells #[.int .i64 t.k, .int .i64 t.i, .slice A t.ks.length c] 26)).alloc (.cells #[.int .i64 0] 3)).alloc (.cells #[.int .i64 t.k, .int .i64 t.i, .slice A t.ks.length c] 26)).heap.size = w.heap.size + 3 := by simp
  simp only [World.size_alloc] at b1 b5
  rw [hW0] at b1 b5 hB0 hsz ⊢
  clear hW0
  refine wpIn_rangeFunc_ownH (α := Nd w w.heap.size) rfl (by omega) (gf := 104) (lb := #[.pointer (some ⟨w.heap.size + 1 + 1, 0, none⟩)]) rfl trivial (enters_of Tryz.func104 (by kernel_rfl) rfl)
    (nodes_stops Fence.wide rfl _ trivial trivial rfl (w.heap.size + 1 + 1) w.heap.size (w.heap.size + 2) w t A c W0 (by omega) (by omega) (by omega) b5.cells ht hB0) (fun h k => h.trans k) (KB.putObj (by omega)) (Below.refl _ _) (fun _ => rfl)
    (fun pre W => Boxed W (w.heap.size + 1) 3 (.int .i64 (pre.length : Nat)) ∧ Below w.heap.size w W ∧ Box3 W (w.heap.size + 1 + 1) (.int .i64 t.k) (.int .i64 t.i) (.slice A t.ks.length c))
    (fun _ _ _ => False)
    ?hI ?hIx ⟨b1, hB0, b5⟩
    (fun x a' _ => a' = { tmps := #[.agg #[.int .i64 t.k, .int .i64 t.i, .slice A t.ks.length c], .pointer (some ⟨w.heap.size, 0, none⟩), .int .i64 0, .pointer (some ⟨w.heap.size + 1, 0, none⟩), .agg #[.int .i64 t.k, .int .i64 t.i, .slice A t.ks.length c], .func (.func 104) #[] #[.pointer (some ⟨w.heap.size + 1 + 1, 0, none⟩)], .int .i64 (wr64 x.d), .agg #[.int .i64 x.t.k, .int .i64 x.t.i, .slice x.A x.t.ks.length x.c], undef, undef, undef, undef, undef], defers := [] })
    ?hAx ?assign ?body ?done ?stop
  case hI =>
    exact OwnFrom.and (Own.from (boxed_own _ _ (fun pre : List (Nd w w.heap.size) => .int .i64 (pre.length : Nat))) _) (OwnFrom.and (ownFrom_below (Nat.le_refl _) (by omega)) (box3_own _ _ _ _ _))
  case hIx => exact fun co => fun _ _ _ _ h _ _ => h
  case hAx => intro x a'; exact ownFrom_pure _ _
  case assign =>
    rintro l pre x W K ⟨i1, iB, i6⟩ hK
    simp only [encN, Array.zip_eq_zipWith, List.zipWith_toArray, List.foldl_toArray]
    gi_wp2
    exact hK _ _ ((KeepsOthers.refl _).from _) (KB.refl _ _ _) ⟨i1, iB, i6⟩ rfl
  case body =>
    rintro l pre x a' W hl ⟨r, hr⟩ ⟨i1, iB, i6⟩ rfl hlt
    have c1 := i1.cell
    have f1 := i1.frozen
    have hn1 : ¬ (1000 : Int) < (pre.length : Int) + 1 := by omega
    gi_wp2_with fail
    have k2 : KB w.heap.size (w.heap.size + 2) W (W.setCell ⟨w.heap.size + 1, 0, none⟩ (.int .i64 ((pre.length : Int) + 1))) := KB.setCell _ _ (by show w.heap.size ≤ w.heap.size + 1; omega) (by show w.heap.size + 1 < _; omega)
    refine ⟨(KeepsOthers.setCell _ _ _).from _, k2, ?_, iB.trans k2.below, i6.set_other _ _ (by show w.heap.size + 1 + 1 ≠ w.heap.size + 1; omega)⟩
    rw [show ((pre ++ [x]).length : Int) = (pre.length : Int) + 1 by simp]; exact i1.set _
  case done =>
    rintro D ys W hD hS ⟨i1, iB, i6⟩ hK
    have c1 := i1.cell
    have LN := Lib.hid (len_of hS)
    have RB := Lib.hid iB
    have HK := Lib.hid hK
    gi_wp2_with fail
    refine ⟨by simp, .inl ⟨_, _, rfl, run_takeDeferred HK.out, ?_⟩⟩
    exact ⟨.int .i64 (ys.length : Nat), by simp [results, Tryz.results95, go_sem], ret_int (by rw [LN.out]), below_left RB.out (by omega) HK.out _⟩
  case stop => intro D co pre W hD hSp h; exact h.elim
set_option maxRecDepth 100000 in
set_option maxHeartbeats 4000000 in
theorem depth_small (t : Tr) (A : Option Addr) (c : Nat) (w : World) (ht : IsT w w.heap.size t A c) (hsm : t.sz ≤ 1000) :
    Calls Tryz.prog 145 #[.agg #[.int .i64 t.k, .int .i64 t.i, .slice A t.ks.length c]] w fun e w' => e = .returned (.int .i64 (min t.dp 101 : Nat)) ∧ Below w.heap.size w w' := by
  refine (callsIn_wide (n := 5)).1 ?_
  refine callsIn_of_wp_marks Tryz.func145 rfl trivial ?_ rfl
  simp only [Tryz.ntmps145, List.size_toArray, List.length_cons, List.length_nil, Nat.reduceAdd, Nat.reduceSub, Array.replicate_succ, Array.replicate_zero, List.push_toArray, List.append_toArray, List.nil_append, List.cons_append]
  gi_wp2_with ((try refine ⟨trivial, ?_⟩); gi_at_call 77; refine (nodes_in Fence.wide 4 trivial rfl _ _ _ _ _ _).mono ?_; rintro e w' ⟨rfl, rfl⟩)
  obtain ⟨W0, hW0⟩ : ∃ W0, ((((w.alloc (.cells #[.int .i64 t.k, .int .i64 t.i, .slice A t.ks.length c] 26)).alloc (.cells #[.int .i64 0] 3)).alloc (.cells #[.int .i64 0] 3)).alloc (.cells #[.int .i64 0] 3)).alloc (.cells #[.int .i64 t.k, .int .i64 t.i, .slice A t.ks.length c] 26) = W0 := ⟨_, rfl⟩
  have b1 := (((Boxed.new (w.alloc (.cells #[.int .i64 t.k, .int .i64 t.i, .slice A t.ks.length c] 26)) 3 (.int .i64 0)).alloc (.cells #[.int .i64 0] 3)).alloc (.cells #[.int .i64 0] 3)).alloc (.cells #[.int .i64 t.k, .int .i64 t.i, .slice A t.ks.length c] 26)
  have b2 := ((Boxed.new ((w.alloc (.cells #[.int .i64 t.k, .int .i64 t.i, .slice A t.ks.length c] 26)).alloc (.cells #[.int .i64 0] 3)) 3 (.int .i64 0)).alloc (.cells #[.int .i64 0] 3)).alloc (.cells #[.int .i64 t.k, .int .i64 t.i, .slice A t.ks.length c] 26)
  have b3 := (Boxed.new (((w.alloc (.cells #[.int .i64 t.k, .int .i64 t.i, .slice A t.ks.length c] 26)).alloc (.cells #[.int .i64 0] 3)).alloc (.cells #[.int .i64 0] 3)) 3 (.int .i64 0)).alloc (.cells #[.int .i64 t.k, .int .i64 t.i, .slice A t.ks.length c] 26)
  have b5 := Box3.new ((((w.alloc (.cells #[.int .i64 t.k, .int .i64 t.i, .slice A t.ks.length c] 26)).alloc (.cells #[.int .i64 0] 3)).alloc (.cells #[.int .i64 0] 3)).alloc (.cells #[.int .i64 0] 3)) (.int .i64 t.k) (.int .i64 t.i) (.slice A t.ks.length c)
  have hB0 : Below w.heap.size w (((((w.alloc (.cells #[.int .i64 t.k, .int .i64 t.i, .slice A t.ks.length c] 26)).alloc (.cells #[.int .i64 0] 3)).alloc (.cells #[.int .i64 0] 3)).alloc (.cells #[.int .i64 0] 3)).alloc (.cells #[.int .i64 t.k, .int .i64 t.i, .slice A t.ks.length c] 26)) :=
    (((((Below.refl _ w).alloc (Nat.le_refl _) _).alloc (by simp) _).alloc (by simp; omega) _).alloc (by simp; omega) _).alloc (by simp; omega) _
  have hsz : (((((w.alloc (.cells #[.int .i64 t.k, .int .i64 t.i, .slice A t.ks.length c] 26)).alloc (.cells #[.int .i64 0] 3)).alloc (.cells #[.int .i64 0] 3)).alloc (.cells #[.int .i64 0] 3)).alloc (.cells #[.int .i64 t.k, .int .i64 t.i, .slice A t.ks.length c] 26)).heap.size = w.heap.size + 5 := by simp
  simp only [World.size_alloc] at b1 b2 b3 b5
  rw [hW0] at b1 b2 b3 b5 hB0 hsz ⊢
  clear hW0
  refine wpIn_rangeFunc_ownH (α := Nd w w.heap.size) rfl (by omega) (gf := 104) (lb := #[.pointer (some ⟨w.heap.size + 1 + 1 + 1 + 1, 0, none⟩)]) rfl trivial (enters_of Tryz.func104 (by kernel_rfl) rfl)
    (nodes_stops Fence.wide rfl _ trivial trivial rfl (w.heap.size + 1 + 1 + 1 + 1) w.heap.size (w.heap.size + 4) w t A c W0 (by omega) (by omega) (by omega) b5.cells ht hB0) (fun h k => h.trans k) (KB.putObj (by omega)) (Below.refl _ _) (fun _ => rfl)
    (fun pre W => (Boxed W (w.heap.size + 1 + 1) 3 (.int .i64 (pre.length : Nat)) ∧ Boxed W (w.heap.size + 1 + 1 + 1) 3 (.int .i64 (deepW pre)) ∧ Boxed W (w.heap.size + 1) 3 (.int .i64 0)) ∧ Below w.heap.size w W ∧ Box3 W (w.heap.size + 1 + 1 + 1 + 1) (.int .i64 t.k) (.int .i64 t.i) (.slice A t.ks.length c))
    (fun _ _ _ => False)
    ?hI ?hIx ⟨⟨b2, b3, b1⟩, hB0, b5⟩
    (fun x a' _ => a' = { tmps := #[.agg #[.int .i64 t.k, .int .i64 t.i, .slice A t.ks.length c], .pointer (some ⟨w.heap.size, 0, none⟩), .pointer (some ⟨w.heap.size + 1, 0, none⟩), .pointer (some ⟨w.heap.size + 1 + 1, 0, none⟩), .pointer (some ⟨w.heap.size + 1 + 1 + 1, 0, none⟩), .int .i64 (wr64 x.d), .agg #[.int .i64 t.k, .int .i64 t.i, .slice A t.ks.length c], .func (.func 104) #[] #[.pointer (some ⟨w.heap.size + 1 + 1 + 1 + 1, 0, none⟩)], .int .i64 (wr64 x.d), .agg #[.int .i64 x.t.k, .int .i64 x.t.i, .slice x.A x.t.ks.length x.c], undef, undef, undef, undef, undef, undef, undef, undef, undef, undef, undef], defers := [] })
    ?hAx ?assign ?body ?done ?stop
  case hI =>
    exact OwnFrom.and (OwnFrom.and (Own.from (boxed_own _ _ (fun pre : List (Nd w w.heap.size) => .int .i64 (pre.length : Nat))) _) (OwnFrom.and (Own.from (boxed_own _ _ (fun pre : List (Nd w w.heap.size) => .int .i64 (deepW pre))) _) (Own.from (boxed_own _ _ (fun _ => .int .i64 0)) _))) (OwnFrom.and (ownFrom_below (Nat.le_refl _) (by omega)) (box3_own _ _ _ _ _))
  case hIx => exact fun co => fun _ _ _ _ h _ _ => h
  case hAx => intro x a'; exact ownFrom_pure _ _
  case assign =>
    rintro l pre x W K ⟨i1, iB, i6⟩ hK
    simp only [encN, Array.zip_eq_zipWith, List.zipWith_toArray, List.foldl_toArray]
    gi_wp2
    exact hK _ _ ((KeepsOthers.refl _).from _) (KB.refl _ _ _) ⟨i1, iB, i6⟩ rfl
  case body =>
    rintro l pre x a' W hl ⟨r, hr⟩ ⟨⟨i2, i3, i1⟩, iB, i6⟩ rfl hlt
    have c2 := i2.cell
    have c3 := i3.cell
    have f2 := i2.frozen
    have f3 := i3.frozen
    have hn1 : ¬ (1000 : Int) < (pre.length : Int) + 1 := by omega
    have DS := Lib.hid (deepW_snoc pre x)
    have FIN := Lib.hid (show ∀ (mx : Int), mx = deepW (pre ++ [x]) → ∀ a'' : Act, ownPostG (w.heap.size + 5) (KB w.heap.size (w.heap.size + 4))
        (fun pre W => (Boxed W (w.heap.size + 1 + 1) 3 (.int .i64 (pre.length : Nat)) ∧ Boxed W (w.heap.size + 1 + 1 + 1) 3 (.int .i64 (deepW pre)) ∧ Boxed W (w.heap.size + 1) 3 (.int .i64 0)) ∧ Below w.heap.size w W ∧ Box3 W (w.heap.size + 1 + 1 + 1 + 1) (.int .i64 t.k) (.int .i64 t.i) (.slice A t.ks.length c))
        (fun _ _ _ => False) (pre ++ [x]) W Exit.normal a'' ((W.setCell ⟨w.heap.size + 1 + 1, 0, none⟩ (.int .i64 ((pre.length : Int) + 1))).setCell ⟨w.heap.size + 1 + 1 + 1, 0, none⟩ (.int .i64 mx)) from by
      intro mx hmx a''
      have zk : KB w.heap.size (w.heap.size + 4) W ((W.setCell ⟨w.heap.size + 1 + 1, 0, none⟩ (.int .i64 ((pre.length : Int) + 1))).setCell ⟨w.heap.size + 1 + 1 + 1, 0, none⟩ (.int .i64 mx)) :=
        (KB.setCell _ _ (by show w.heap.size ≤ w.heap.size + 1 + 1; omega) (by show w.heap.size + 1 + 1 < _; omega)).trans (KB.setCell _ _ (by show w.heap.size ≤ w.heap.size + 1 + 1 + 1; omega) (by show w.heap.size + 1 + 1 + 1 < _; omega))
      refine ⟨((KeepsOthers.setCell _ _ _).trans (KeepsOthers.setCell _ _ _)).from _, zk, ⟨?_, ?_, (i1.other (by omega) _).other (by omega) _⟩, iB.trans zk.below, (i6.set_other _ _ (by show w.heap.size + 1 + 1 + 1 + 1 ≠ w.heap.size + 1 + 1; omega)).set_other _ _ (by show w.heap.size + 1 + 1 + 1 + 1 ≠ w.heap.size + 1 + 1 + 1; omega)⟩
      · rw [show ((pre ++ [x]).length : Int) = (pre.length : Int) + 1 by simp]; exact (i2.set _).other (by omega) _
      · rw [← hmx]; exact (i3.other (B' := w.heap.size + 1 + 1) (by omega) _).set _)
    by_cases hmx2 : deepW pre < wr64 x.d
    · have e : RowKit.Hid (wr64 x.d = deepW (pre ++ [x])) := Lib.hid (by rw [DS.out]; omega)
      gi_wp2_with fail
      exact FIN.out _ e.out _
    · have e : RowKit.Hid (deepW pre = deepW (pre ++ [x])) := Lib.hid (by rw [DS.out]; omega)
      gi_wp2_with fail
      exact FIN.out _ e.out _
  case done =>
    rintro D ys W hD hS ⟨⟨i2, i3, i1⟩, iB, i6⟩ hK
    have c3 := i3.cell
    have c1 := i1.cell
    have f1 := i1.frozen
    have hlen := len_of hS
    have DN := Lib.hid (deep_of hS (by omega))
    obtain ⟨dd, hdd⟩ : ∃ dd, dd = deepW ys := ⟨_, rfl⟩
    rw [← hdd] at c3 DN
    clear hdd i3 hlen
    have RB := Lib.hid (fun v : Int => (iB.setCell (p := ⟨w.heap.size + 1, 0, none⟩) (show w.heap.size ≤ w.heap.size + 1 by omega) (.int .i64 v)))
    have RK := Lib.hid (fun v : Int => (KeepsOthers.setCell W ⟨w.heap.size + 1, 0, none⟩ (.int .i64 v)).same D _ hK rfl)
    have RX := Lib.hid (fun v : Int => i1.set (.int .i64 v))
    by_cases h1 : 101 < dd
    · have F := Lib.hid (show min t.dp 101 = 101 by have := DN.out; omega)
      gi_wp2_with fail
      refine ⟨by simp, .inl ⟨_, _, rfl, run_takeDeferred (RK.out _), ?_⟩⟩
      have bx := (boxed_left (RX.out 101) (RK.out 101) rfl (.deferred none)).cell
      exact ⟨.int .i64 101, by simp [results, Tryz.results145, go_sem, bx], ret_int (by rw [F.out]; rfl), below_left (RB.out 101) (by omega) (RK.out 101) _⟩
    · have F := Lib.hid (show ((min t.dp 101 : Nat) : Int) = dd by have := DN.out; omega)
      gi_wp2_with fail
      refine ⟨by simp, .inl ⟨_, _, rfl, run_takeDeferred (RK.out _), ?_⟩⟩
      have bx := (boxed_left (RX.out dd) (RK.out dd) rfl (.deferred none)).cell
      exact ⟨.int .i64 dd, by simp [results, Tryz.results145, go_sem, bx], ret_int (by rw [F.out]), below_left (RB.out dd) (by omega) (RK.out dd) _⟩
  case stop => intro D co pre W hD hSp h; exact h.elim
end Go.Proofs.YtjdhmfpkhijkeaaGreat
namespace Go.Proofs.YtjdhmfpkhijkeaaGreat
open Go.RowKit
set_option linter.unusedVariables false
set_option linter.unusedSimpArgs false
theorem infoSp : (Tryz.prog.info? 136).map (fun i => (i.zero, i.size, i.bytes)) = some (some (.agg #[.int .i64 0, .int .i64 0, .slice none 0 0, .int .i64 0, .int .u64 0]), 5, 56) := by kernel_rfl
/-- the cells of a list of spots -/
def rowS : List Spot → List (Option Addr × Nat) → List Value
  | s :: r, (A, c) :: q => .int .i64 s.1.k :: .int .i64 s.1.i :: .slice A s.1.ks.length c :: .int .i64 (s.2.1 : Int) :: .int .u64 (s.2.2 : Int) :: rowS r q
  | _, _ => []
theorem rowS_len : ∀ (l : List Spot) (cs : List (Option Addr × Nat)), cs.length = l.length → (rowS l cs).length = l.length * 5
  | [], [], _ => rfl
  | t :: r, (A, c) :: s, h => by simp only [rowS, List.length_cons]; rw [rowS_len r s (by simpa using h)]; omega
theorem rowS_append : ∀ (l : List Spot) (cs : List (Option Addr × Nat)) (s : Spot) (A : Option Addr) (c : Nat), cs.length = l.length → rowS (l ++ [s]) (cs ++ [(A, c)]) = rowS l cs ++ [.int .i64 s.1.k, .int .i64 s.1.i, .slice A s.1.ks.length c, .int .i64 (s.2.1 : Int), .int .u64 (s.2.2 : Int)]
  | [], [], s, A, c, _ => rfl
  | x :: r, (B, d) :: q, s, A, c, h => by simp only [rowS, List.cons_append]; rw [rowS_append r q s A c (by simpa using h)]
/-- a box of five cells -/
def BoxS (w : World) (b : Nat) (x y z u v : Value) : Prop := w.heap[b]? = some (.cells #[x, y, z, u, v] 136 (0, 0))
theorem BoxS.cells {w : World} {b : Nat} {x y z u v : Value} (h : BoxS w b x y z u v) : w.cell? ⟨b, 0, none⟩ = some x ∧ w.cell? ⟨b, 1, none⟩ = some y ∧ w.cell? ⟨b, 2, none⟩ = some z ∧ w.cell? ⟨b, 3, none⟩ = some u ∧ w.cell? ⟨b, 4, none⟩ = some v := by
  unfold BoxS at h
  simp [World.cell?, h]
theorem BoxS.lt {w : World} {b : Nat} {x y z u v : Value} (h : BoxS w b x y z u v) : b < w.heap.size := (Array.getElem?_eq_some_iff.1 h).1
theorem BoxS.keep {w w' : World} {b B : Nat} {x y z u v : Value} (h : BoxS w b x y z u v) (hb : Below B w w') (hB : b < B) : BoxS w' b x y z u v := (hb.block b hB).trans h
theorem BoxS.grown {w w' : World} {b : Nat} {row : Option Nat} {x y z u v : Value} (h : BoxS w b x y z u v) (hg : w.grownBy w' row) (hne : some b ≠ row) : BoxS w' b x y z u v := (hg.block b h.lt hne).trans h
theorem BoxS.new (w : World) (x y z u v : Value) : BoxS (w.alloc (.cells #[x, y, z, u, v] 136)) w.heap.size x y z u v := by
  show (w.heap.push _)[w.heap.size]? = _
  simp
theorem news5s (w : World) (x y z u v : Value) (t : TypeId) (j : Nat) (q : Value) (h : [x, y, z, u, v][j]? = some q) : (w.alloc (.cells #[x, y, z, u, v] t)).cell? ((⟨w.heap.size, 0, none⟩ : Addr).add j) = some q := by
  have e2 : (⟨w.heap.size, 0, none⟩ : Addr).add j = ⟨w.heap.size, j, none⟩ := by unfold Addr.add; split <;> simp_all
  rw [e2, cell_new3]
  simpa using h
def goodS (s : Spot) : Prop := s.1.shp = true ∧ 1 ≤ s.2.1 ∧ s.2.1 - 1 + s.1.dp ≤ 100 ∧ U64 s.2.2
/-- the spots lie in a row of one's own; their trees lie where they lay -/
structure IsS (w wr : World) (st : List Spot) (A : Option Addr) (c : Nat) (cs : List (Option Addr × Nat)) : Prop where
  below : Below w.heap.size w wr
  len : cs.length = st.length
  own : wr.ownsRow (w.heap.size + 1) 136 5 (.slice A st.length c) st.length (rowS st cs)
  tree : ∀ m (h : m < st.length), IsT w w.heap.size st[m].1 (cs[m]'(by omega)).1 (cs[m]'(by omega)).2
  good : ∀ s ∈ st, goodS s
theorem IsS.keep {w wr wr' : World} {st : List Spot} {A : Option Addr} {c : Nat} {cs : List (Option Addr × Nat)} (h : IsS w wr st A c cs) (hb : Below wr.heap.size wr wr') : IsS w wr' st A c cs :=
  ⟨h.below.trans (hb.mono h.below.size), h.len, ownsRow_same (hi := wr.heap.size) h.own (fun k _ k2 => hb.block k k2) (fun g e => (h.own.lt g e).2), h.tree, h.good⟩
theorem IsS.pop {w wr : World} {st : List Spot} {s : Spot} {A : Option Addr} {c : Nat} {cs : List (Option Addr × Nat)} (h : IsS w wr (st ++ [s]) A c cs) :
    ∃ g cs0 A2 c2, A = some ⟨g, 0, none⟩ ∧ w.heap.size + 1 ≤ g ∧ g < wr.heap.size ∧ st.length + 1 ≤ c ∧ IsS w wr st (some ⟨g, 0, none⟩) c cs0 ∧ IsT w w.heap.size s.1 A2 c2 ∧ goodS s ∧
      wr.cell? ⟨g, st.length * 5, none⟩ = some (.int .i64 s.1.k) ∧ wr.cell? ⟨g, st.length * 5 + 1, none⟩ = some (.int .i64 s.1.i) ∧ wr.cell? ⟨g, st.length * 5 + 2, none⟩ = some (.slice A2 s.1.ks.length c2) ∧ wr.cell? ⟨g, st.length * 5 + 3, none⟩ = some (.int .i64 (s.2.1 : Int)) ∧ wr.cell? ⟨g, st.length * 5 + 4, none⟩ = some (.int .u64 (s.2.2 : Int)) := by
  have hl := h.len
  have e : (st ++ [s]).length = st.length + 1 := by simp
  obtain ⟨cs0, x, rfl⟩ : ∃ cs0 x, cs = cs0 ++ [x] := by
    have : cs ≠ [] := by intro e'; rw [e'] at hl; simp at hl
    exact ⟨cs.dropLast, cs.getLast this, (List.dropLast_concat_getLast this).symm⟩
  obtain ⟨A2, c2⟩ := x
  have hl0 : cs0.length = st.length := by simpa using hl
  have own := h.own
  rw [rowS_append st cs0 s A2 c2 hl0] at own
  obtain ⟨g, cap, hv, hg1, hg2⟩ := own.form (by omega)
  cases hv
  have hlen := rowS_len st cs0 hl0
  have hc : ∀ j u, [Value.int .i64 s.1.k, .int .i64 s.1.i, .slice A2 s.1.ks.length c2, .int .i64 (s.2.1 : Int), .int .u64 (s.2.2 : Int)][j]? = some u → wr.cell? ⟨g, st.length * 5 + j, none⟩ = some u := by
    intro j u hj
    have hjl : j < 5 := by
      have := (List.getElem?_eq_some_iff.1 hj).1
      simpa using this
    have := own.cellAt (st.length * 5 + j) (by rw [e]; omega)
    rw [this, List.getElem?_append_right (by omega), hlen]
    rw [show st.length * 5 + j - st.length * 5 = j by omega]
    exact hj
  have hcap : st.length + 1 ≤ c := by
    rcases own.2 with ⟨e', _⟩ | ⟨g', cap', cur, e', _, _, hc', _⟩
    · cases e'
    · cases e'; rw [e] at hc'; exact hc'
  have ht := h.tree st.length (by rw [e]; omega)
  refine ⟨g, cs0, A2, c2, rfl, hg1, hg2, hcap, ⟨h.below, hl0, ?_, fun m hm => ?_, fun s' hs' => h.good s' (by simp [hs'])⟩, ?_, h.good s (by simp), by simpa using hc 0 _ rfl, hc 1 _ rfl, hc 2 _ rfl, hc 3 _ rfl, hc 4 _ rfl⟩
  · refine ownsRow_pop hlen (last := [.int .i64 s.1.k, .int .i64 s.1.i, .slice A2 s.1.ks.length c2, .int .i64 (s.2.1 : Int), .int .u64 (s.2.2 : Int)]) ?_
    rw [e] at own
    exact own
  · have := h.tree m (by rw [e]; omega)
    simpa [List.getElem_append_left hm, List.getElem_append_left (show m < cs0.length by omega)] using this
  · simpa [hl0, List.getElem_append_right] using ht
theorem IsS.push {w wr w4 : World} {st : List Spot} {s : Spot} {A : Option Addr} {c : Nat} {cs : List (Option Addr × Nat)} {A2 : Option Addr} {c2 g cap : Nat} {wx : World} (h : IsS w wr st A c cs) (ht : IsT w w.heap.size s.1 A2 c2) (hgd : goodS s) (hx : Below wr.heap.size wr wx)
    (hown : w4.ownsRow (w.heap.size + 1) 136 5 (.slice (some ⟨g, 0, none⟩) (st.length + 1) cap) (st.length + 1) (rowS st cs ++ [.int .i64 s.1.k, .int .i64 s.1.i, .slice A2 s.1.ks.length c2, .int .i64 (s.2.1 : Int), .int .u64 (s.2.2 : Int)])) (hg : wx.grownBy w4 (Value.slice A st.length c).ownBlock) :
    IsS w w4 (st ++ [s]) (some ⟨g, 0, none⟩) cap (cs ++ [(A2, c2)]) := by
  have e : (st ++ [s]).length = st.length + 1 := by simp
  have hlt := h.own.lt
  have hz := h.below.size
  refine ⟨?_, by simp [h.len], by rw [e, rowS_append _ _ _ _ _ h.len]; exact hown, fun m hm => ?_, fun s' hs' => ?_⟩
  · refine (h.below.trans (hx.mono h.below.size)).trans ⟨hg.os, hg.tape, hg.output, hg.size, fun k hk => hg.block k ?_ ?_⟩
    · have := hx.size; omega
    · intro e'
      have := (hlt k e'.symm).1
      omega
  · rcases Nat.lt_or_ge m st.length with h1 | h1
    · have := h.tree m h1
      simpa [List.getElem_append_left h1, List.getElem_append_left (show m < cs.length by rw [h.len]; exact h1)] using this
    · obtain rfl : m = st.length := by rw [e] at hm; omega
      simpa [h.len, List.getElem_append_right] using ht
  · rcases List.mem_append.1 hs' with h1 | h1
    · exact h.good s' h1
    · simp at h1; rw [h1]; exact hgd
/-- how far the count has come -/
structure Cnt (a : Tr) (l : List (Int × Tr)) (st : List Spot) (sz dp : Nat) : Prop where
  size : sz + spS l st = (putE l a 0).sz
  deep : ∀ M, (dp ≤ M ∧ spD l st M) ↔ dpP l 1 a 0 ≤ M
  low : dp ≤ 200
  few : spN st ≤ 1000
theorem Cnt.some {a : Tr} {l : List (Int × Tr)} {st : List Spot} {s : Spot} {sz dp : Nat} {u : Tr} (h : Cnt a l (st ++ [s]) sz dp) (hk : lookE l s.2.2 s.1.k s.1.i = some u) (hs : goodS s) (hu : u.dp ≤ 100) : Cnt a l (st ++ kidSp s.1 s.2.1 s.2.2) (sz + u.sz) (max dp (s.2.1 - 1 + u.dp)) := by
  have hks : kidSp s.1 s.2.1 s.2.2 = [] := by unfold kidSp; rw [(shp_varT hs.1 (lookE_var hk).1).1]; rfl
  rw [hks, List.append_nil]
  have hd := dp_pos s.1
  refine ⟨?_, fun M => ?_, ?_, ?_⟩
  · rw [← h.size, spS_append]
    have : spS l [s] = u.sz := by unfold spS; simp [putE_some hk]
    omega
  · rw [← h.deep M]
    have e : dpP l s.2.1 s.1 s.2.2 = s.2.1 - 1 + u.dp := dpP_some hk
    constructor
    · rintro ⟨h1, h2⟩
      refine ⟨by omega, fun q hq => ?_⟩
      rcases List.mem_append.1 hq with h3 | h3
      · exact h2 q h3
      · simp at h3; subst h3; rw [e]; omega
    · rintro ⟨h1, h2⟩
      have := h2 s (by simp)
      rw [e] at this
      exact ⟨by omega, fun q hq => h2 q (by simp [hq])⟩
  · have := h.low
    have := hs.2.2.1
    omega
  · have := h.few
    rw [spN_append] at this
    omega
theorem Cnt.none {a : Tr} {l : List (Int × Tr)} {st : List Spot} {s : Spot} {sz dp : Nat} (h : Cnt a l (st ++ [s]) sz dp) (hk : lookE l s.2.2 s.1.k s.1.i = none) : Cnt a l (st ++ kidSp s.1 s.2.1 s.2.2) (sz + 1) dp := by
  refine ⟨?_, fun M => ?_, h.low, ?_⟩
  · rw [← h.size, spS_append, spS_append]
    have : spS l [s] = 1 + spS l (kidSp s.1 s.2.1 s.2.2) := by
      have := spS_kids (d := s.2.1) hk
      unfold spS at *
      simpa using this
    omega
  · rw [← h.deep M]
    have e : dpP l s.2.1 s.1 s.2.2 ≤ M ↔ ∀ q ∈ kidSp s.1 s.2.1 s.2.2, dpP l q.2.1 q.1 q.2.2 ≤ M := by
      rw [dpP_none hk, dpGo_le]
      unfold kidSp
      simp
    constructor
    · rintro ⟨h1, h2⟩
      refine ⟨h1, fun q hq => ?_⟩
      rcases List.mem_append.1 hq with h3 | h3
      · exact h2 q (by simp [h3])
      · simp at h3; subst h3; exact e.2 fun p hp => h2 p (by simp [hp])
    · rintro ⟨h1, h2⟩
      refine ⟨h1, fun q hq => ?_⟩
      rcases List.mem_append.1 hq with h3 | h3
      · exact h2 q (by simp [h3])
      · exact e.1 (h2 s (by simp)) q h3
  · have := h.few
    rw [spN_append] at *
    have h1 := spN_kids s.1 s.2.1 s.2.2
    have : spN [s] = s.1.sz := by simp [spN]
    omega
theorem Cnt.drop {a : Tr} {l : List (Int × Tr)} {st : List Spot} {s : Spot} {sz dp : Nat} (h : Cnt a l (st ++ [s]) sz dp) : spN (st ++ kidSp s.1 s.2.1 s.2.2) < spN (st ++ [s]) := by
  rw [spN_append, spN_append]
  have h1 := spN_kids s.1 s.2.1 s.2.2
  have : spN [s] = s.1.sz := by simp [spN]
  omega
def measN (l : List (Int × Tr)) (a : Tr) : Nat := if 1000 < (putE l a 0).sz then 20 else if 100 < (putE l a 0).dp then 21 else 0
theorem Cnt.many {a : Tr} {l : List (Int × Tr)} {st : List Spot} {sz dp : Nat} (h : Cnt a l st sz dp) (hs : 1000 < sz) : measN l a = 20 := by
  have := h.size
  unfold measN
  rw [if_pos (by omega)]
theorem Cnt.done {a : Tr} {l : List (Int × Tr)} {sz dp : Nat} (h : Cnt a l [] sz dp) (hs : sz ≤ 1000) (ha : a.dp ≤ 100) : measN l a = if 100 < dp then 21 else 0 := by
  have h1 := h.size
  have h2 : spS l [] = 0 := by simp [spS]
  have h3 := h.deep 100
  have h4 := dpP_iff l 100 a 1 0 (Nat.le_refl _) (by omega)
  have h5 : spD l [] 100 := by intro s hs; simp at hs
  unfold measN
  rw [if_neg (by omega)]
  by_cases hd : 100 < dp
  · rw [if_pos hd]
    have : ¬ dpP l 1 a 0 ≤ 100 := fun e => by have := (h3.2 e).1; omega
    rw [h4] at this
    rw [if_pos (by omega)]
  · rw [if_neg hd]
    have := h3.1 ⟨by omega, h5⟩
    rw [h4] at this
    rw [if_neg (by omega)]
theorem Cnt.start {a : Tr} {l : List (Int × Tr)} (ha : a.sz ≤ 1000) : Cnt a l [(a, 1, 0)] 0 0 := by
  refine ⟨by simp [spS], fun M => ?_, by omega, by simp [spN]; exact ha⟩
  unfold spD
  simp
theorem kid_good {s : Spot} (h : goodS s) {q : Tr} (hq : q ∈ s.1.ks) : goodS (q, s.2.1 + 1, bdB s.1.k s.1.i s.2.2) := by
  refine ⟨shp_kid h.1 hq, by show 1 ≤ s.2.1 + 1; omega, ?_, bdB_U h.2.2.2⟩
  have h1 := h.2.2.1
  have h2 := dpL_le.1 (Nat.le_refl (dpL s.1.ks)) q hq
  rw [dp_eq] at h1
  show s.2.1 + 1 - 1 + q.dp ≤ 100
  omega
theorem below_alloc' (w : World) (o : Obj) : Below w.heap.size w (w.alloc o) := (Below.refl _ _).alloc (Nat.le_refl _) _
theorem IsS.start {w : World} {a : Tr} {A : Option Addr} {c : Nat} (ha : IsT w w.heap.size a A c) (hg : goodS (a, 1, 0)) :
    IsS w ((w.alloc (.cells #[.int .i64 a.k, .int .i64 a.i, .slice A a.ks.length c] 26)).alloc (.cells #[.int .i64 a.k, .int .i64 a.i, .slice A a.ks.length c, .int .i64 1, .int .u64 0] 136)) [(a, 1, 0)] (some ⟨w.heap.size + 1, 0, none⟩) 1 [(A, c)] := by
  refine ⟨(below_alloc' w _).trans ((below_alloc' _ _).mono (by simp)), rfl, ⟨rfl, .inr ⟨w.heap.size + 1, 1, #[.int .i64 a.k, .int .i64 a.i, .slice A a.ks.length c, .int .i64 1, .int .u64 0], rfl, Nat.le_refl _, ?_, Nat.le_refl _, by unfold maxLen; omega, rfl, rfl⟩⟩, fun m hm => ?_, fun s hs => ?_⟩
  · show ((w.heap.push _).push _)[w.heap.size + 1]? = _
    rw [Array.getElem?_push, if_pos (by simp)]
  · obtain rfl : m = 0 := by simpa using hm
    exact ha
  · simp at hs; rw [hs]; exact hg
/-- what is held while the depth is reckoned -/
structure Reg9 (w1 w2 : World) (sb : Nat) (u : Tr) (A3 : Option Addr) (c3 : Nat) (t : Tr) (A2 : Option Addr) (c2 d bd : Nat) (W : World) : Prop where
  tb : Box3 W w1.heap.size (.int .i64 u.k) (.int .i64 u.i) (.slice A3 u.ks.length c3)
  nb : BoxS W sb (.int .i64 t.k) (.int .i64 t.i) (.slice A2 t.ks.length c2) (.int .i64 (d : Int)) (.int .u64 (bd : Int))
  tree : IsT W W.heap.size u A3 c3
  below : Below w2.heap.size w2 W
theorem Reg9.keep {w1 w2 W W' : World} {sb : Nat} {u : Tr} {A3 : Option Addr} {c3 : Nat} {t : Tr} {A2 : Option Addr} {c2 d bd : Nat} (h : Reg9 w1 w2 sb u A3 c3 t A2 c2 d bd W) (hb : Below W.heap.size W W') : Reg9 w1 w2 sb u A3 c3 t A2 c2 d bd W' :=
  ⟨h.tb.keep hb h.tb.lt, h.nb.keep hb h.nb.lt, h.tree.keep hb hb.size, h.below.trans (hb.mono h.below.size)⟩
/-- what is held while a kid is laid onto the stack -/
structure Reg15 (wx : World) (sb : Nat) (q : Tr) (A' : Option Addr) (c' : Nat) (t : Tr) (A2 : Option Addr) (c2 d bd : Nat) (W : World) : Prop where
  kid : Box3 W wx.heap.size (.int .i64 q.k) (.int .i64 q.i) (.slice A' q.ks.length c')
  nb : BoxS W sb (.int .i64 t.k) (.int .i64 t.i) (.slice A2 t.ks.length c2) (.int .i64 (d : Int)) (.int .u64 (bd : Int))
  below : Below wx.heap.size wx W
theorem Reg15.keep {wx W W' : World} {sb : Nat} {q : Tr} {A' : Option Addr} {c' : Nat} {t : Tr} {A2 : Option Addr} {c2 d bd : Nat} (h : Reg15 wx sb q A' c' t A2 c2 d bd W) (hb : Below W.heap.size W W') : Reg15 wx sb q A' c' t A2 c2 d bd W' :=
  ⟨h.kid.keep hb h.kid.lt, h.nb.keep hb h.nb.lt, h.below.trans (hb.mono h.below.size)⟩
theorem Reg15.alloc {wx W : World} {sb : Nat} {q : Tr} {A' : Option Addr} {c' : Nat} {t : Tr} {A2 : Option Addr} {c2 d bd : Nat} (h : Reg15 wx sb q A' c' t A2 c2 d bd W) (o : Obj) : Reg15 wx sb q A' c' t A2 c2 d bd (W.alloc o) := h.keep (below_alloc' _ _)
set_option maxHeartbeats 8000000 in
set_option maxRecDepth 100000 in
theorem measure_any (a : Tr) (A : Option Addr) (c : Nat) (l : List (Int × Tr)) (Al : Option Addr) (cl : Nat) (hlr : ∀ p ∈ l, rightN p.2 = 0) (har : rightN a = 0) (w : World) (ha : IsT w w.heap.size a A c) (hp : IsP w w.heap.size l Al cl) :
    Calls Tryz.prog 140 #[.agg #[.int .i64 a.k, .int .i64 a.i, .slice A a.ks.length c], .slice Al l.length cl] w fun e w' => e = .returned (.int .i64 ((measN l a : Nat) : Int)) ∧ Below w.heap.size w w' := by
  obtain ⟨hshp, hsz, hdp⟩ := right_shp' har
  have HLR := Lib.hid hlr
  have HP := Lib.hid hp
  have CNT0 := Lib.hid (Cnt.start (l := l) hsz)
  have hb0 := below_alloc' w (.cells #[.int .i64 a.k, .int .i64 a.i, .slice A a.ks.length c] 26)
  obtain ⟨y0, y1, y2⟩ := box_new w (.int .i64 a.k) (.int .i64 a.i) (.slice A a.ks.length c) 26
  have GS0 : goodS (a, 1, 0) := ⟨hshp, Nat.le_refl _, by show 1 - 1 + a.dp ≤ 100; omega, zero_U⟩
  have START := Lib.hid (IsS.start ha GS0)
  obtain ⟨i0, hi, hz0, hz1, hz2⟩ := info_parts infoSp
  have HI := Lib.hid (And.intro hi (And.intro hz0 (And.intro hz1 hz2)))
  clear hi hz0 hz1 hz2 hlr hp har hshp GS0
  go_enter Tryz.func140, Tryz.ntmps140
  go_wp2_with fail
  go_step3
  go_wp2_with fail
  go_step3
  go_wp2_with fail
  go_loopg [5, 6, 7] a.sz (fun g s5 s6 s7 wx => ∃ (sz dp : Nat) (st : List Spot) (A1 : Option Addr) (c1 : Nat) (cs : List (Option Addr × Nat)), spN st = g ∧ s5 = .int .i64 (sz : Int) ∧ s6 = .int .i64 (dp : Int) ∧ s7 = .slice A1 st.length c1 ∧ sz ≤ 1000 ∧ Cnt a l st sz dp ∧ IsS w wx st A1 c1 cs)
  case atStart => exact ⟨0, 0, [(a, 1, 0)], _, _, _, by simp [spN], rfl, rfl, rfl, by omega, CNT0.out, START.out⟩
  case round =>
    obtain ⟨wo, rfl⟩ : ∃ wo, wo = wr := ⟨_, rfl⟩
    obtain ⟨sz, dp, st, A1, c1, cs, rfl, rfl, rfl, rfl, hszl, hC, hS⟩ := hrel
    have CC := Lib.hid hC
    have SS := Lib.hid hS
    have hlow := hC.low
    clear hC hS START CNT0 y0 y1 y2
    rcases List.eq_nil_or_concat st with rfl | ⟨st0, s, rfl⟩
    · have F := Lib.hid (CC.out.done hszl hdp)
      have BB := Lib.hid SS.out.below
      have hs1 : ¬ (1000 : Int) < (sz : Int) := by omega
      by_cases hd : 100 < dp
      · rw [if_pos hd] at F
        have hd' : (100 : Int) < (dp : Int) := by omega
        go_wp2_with fail
        try rw [Exit.noGoto_ret]
        go_ret
        exact ⟨by rw [F.out]; rfl, BB.out⟩
      · rw [if_neg hd] at F
        have hd' : ¬ (100 : Int) < (dp : Int) := by omega
        go_wp2_with fail
        try rw [Exit.noGoto_ret]
        go_ret
        exact ⟨by rw [F.out]; rfl, BB.out⟩
    · rw [List.concat_eq_append] at CC SS ⊢
      have DRP := Lib.hid CC.out.drop
      obtain ⟨g, cs0, A2, c2, rfl, hg1, hg2, hcap, hS0, hT, hgd, p0, p1, p2, p3, p4⟩ := SS.out.pop
      have hfew := CC.out.few
      have hlen := spN_len (st0 ++ [s])
      have e : (st0 ++ [s]).length = st0.length + 1 := by simp
      rw [e] at hlen
      rw [e]
      have S0 := Lib.hid hS0
      have TT := Lib.hid hT
      have GD := Lib.hid hgd
      obtain ⟨hgs, hg3, hg4, hgu⟩ := hgd
      have hdpp := dp_pos s.1
      have hlT := hT.len
      have BR := Lib.hid hS0.below
      clear SS hS0 hT e
      obtain ⟨n, hn⟩ : ∃ n, n = st0.length := ⟨_, rfl⟩
      rw [← hn] at p0 p1 p2 p3 p4 hcap hlen ⊢
      have HN := Lib.hid hn
      obtain ⟨t, d, bd⟩ := s
      simp only at p0 p1 p2 p3 p4 hg3 hg4 hgu hdpp hlT
      have NB := Lib.hid (BoxS.new wo (.int .i64 t.k) (.int .i64 t.i) (.slice A2 t.ks.length c2) (.int .i64 (d : Int)) (.int .u64 (bd : Int)))
      have hal : ∀ o, Below wo.heap.size wo (wo.alloc o) := fun o => below_alloc' wo o
      have PW := Lib.hid (fun o => (HP.out.up BR.out).up (hal o))
      have hn1 : (0 : Int) < (n : Int) + 1 := by omega
      obtain ⟨n0, n1, n2, n3, n4⟩ := NB.out.cells
      have HAL := Lib.hid hal
      clear hal hn
      go_wp2_with fail
      refine (termFor_any t.k t.i A2 t.ks.length c2 l Al cl bd _ hgu (by exact PW.out _)).mono ?_
      rintro e w1 ⟨hb1, hr⟩
      have hs1 := hb1.size
      simp only [World.size_alloc] at hs1
      have NB1 := Lib.hid (NB.out.keep hb1 (by simp))
      have S1 := Lib.hid ((S0.out.keep (HAL.out _)).keep hb1)
      have W1 := Lib.hid (((HAL.out (.cells #[.int .i64 t.k, .int .i64 t.i, .slice A2 t.ks.length c2, .int .i64 (d : Int), .int .u64 (bd : Int)] 136)).mono BR.out.size).trans (hb1.mono (by have := BR.out.size; simp; omega)))
      clear n0 n1 n2 n3 n4 p0 p1 p2 p3 p4
      cases hk : lookE l bd t.k t.i with
      | some u =>
        rw [hk] at hr
        obtain ⟨A3, c3, rfl, hu⟩ := hr
        have hur := right_shp' (HLR.out _ (lookP_mem (lookE_var hk).2.2))
        have CN := Lib.hid (CC.out.some hk GD.out hur.2.2)
        have hk1 : t.ks = [] := (shp_varT hgs (lookE_var hk).1).1
        have KS := Lib.hid (show kidSp t d bd = [] by unfold kidSp; rw [hk1]; rfl)
        obtain ⟨_, hu1, hu2⟩ := hur
        have UT := Lib.hid (fun o => (hu.keep hb1 hb1.size).keep (below_alloc' w1 o) (below_alloc' w1 o).size)
        have hup := sz_pos u
        clear hb1 hk hu
        go_wp2_with fail
        refine (size_small u A3 c3 _ (by exact UT.out _) hu1).mono ?_
        rintro e w2 ⟨rfl, hb2⟩
        have hs2 := hb2.size
        simp only [World.size_alloc] at hs2
        have TB := Lib.hid ((Box3.new w1 (.int .i64 u.k) (.int .i64 u.i) (.slice A3 u.ks.length c3)).keep hb2 (by simp))
        have NB2 := Lib.hid ((NB1.out.keep (below_alloc' w1 _) NB1.out.lt).keep hb2 (by simp; have := NB1.out.lt; omega))
        have UT2 := Lib.hid ((UT.out _).keep hb2 hb2.size)
        have S2 := Lib.hid ((S1.out.keep (below_alloc' w1 _)).keep hb2)
        clear hb2
        go_wp2_with fail
        have TK : Reg9 w1 w2 wo.heap.size u A3 c3 t A2 c2 d bd w2.drew := ⟨TB.out.keep ((Below.refl _ _).drew) TB.out.lt, NB2.out.keep ((Below.refl _ _).drew) NB2.out.lt, UT2.out.keep ((Below.refl _ _).drew) (Nat.le_refl _), (Below.refl _ _).drew⟩
        have hd1 : (1 : Int) ≤ (d : Int) := by omega
        have hd2 : (d : Int) ≤ 100 := by omega
        have wr1 : IntKind.i64.wrap ((d : Int) - 1) = (d : Int) - 1 := by rw [IntKind.wrap_i64]; omega
        have wr2 : IntKind.i64.wrap ((d : Int) - 1 + (u.dp : Int)) = (d : Int) - 1 + (u.dp : Int) := by rw [IntKind.wrap_i64]; omega
        have mx : (if (dp : Int) < (d : Int) - 1 + (u.dp : Int) then (d : Int) - 1 + (u.dp : Int) else (dp : Int)) = ((max dp (d - 1 + u.dp) : Nat) : Int) := by split <;> omega
        have hu3 : (u.dp : Int) ≤ 100 := by omega
        have hmin : min u.dp 101 = u.dp := by omega
        go_region_held3 (fun w' => w'.cell? ⟨wo.heap.size, 3, none⟩ = some (.int .i64 (d : Int)) ∧ w'.cell? ⟨w1.heap.size, 0, none⟩ = some (.int .i64 u.k) ∧ w'.cell? ⟨w1.heap.size, 1, none⟩ = some (.int .i64 u.i) ∧ w'.cell? ⟨w1.heap.size, 2, none⟩ = some (.slice A3 u.ks.length c3))
          (exact ⟨TK.nb.cells.2.2.2.1, TK.tb.cells⟩)
          (first
            | (go_at_call 145; refine (depth_small u A3 c3 _ (by exact TK.tree) hu1).mono ?_; rintro e w3 ⟨rfl, hb3⟩; rw [hmin]; replace TK := TK.keep hb3; clear hb3))
        have S3 := Lib.hid (S2.out.keep TK.below)
        have hlw := CN.out.low
        obtain ⟨dp', hdp'⟩ : ∃ dp', dp' = max dp (d - 1 + u.dp) := ⟨_, rfl⟩
        rw [← hdp'] at CN hlw ⊢
        rw [KS.out, List.append_nil] at CN DRP
        obtain ⟨k0, k1, k2, k3, k4⟩ := TK.nb.cells
        clear hdp' mx wr1 wr2 hmin
        by_cases hbig : 1000 < sz + u.sz
        · have F := Lib.hid (CN.out.many hbig)
          have hbig' : (1000 : Int) < (sz : Int) + (u.sz : Int) := by omega
          go_wp2_with fail
          try rw [Exit.noGoto_ret]
          go_ret
          exact ⟨by rw [F.out]; rfl, S3.out.below⟩
        · have hbig' : ¬ (1000 : Int) < (sz : Int) + (u.sz : Int) := by omega
          go_wp2_with fail
          go_loopw [7, 60] (fun p i wx => p = .slice (some ⟨g, 0, none⟩) n c1 ∧ i = .int .i64 0 ∧ wx = w3) (fun _ _ _ => 0)
          case atStart => exact ⟨rfl, rfl, rfl⟩
          case round =>
            obtain ⟨rfl, rfl, rfl⟩ := hrel
            go_wp2_with fail
            go_roundg (spN st0)
            case measure => rw [List.concat_eq_append]; exact DRP.out
            case rel => exact ⟨sz + u.sz, dp', st0, _, _, _, rfl, by first | rfl | simp, rfl, by rw [HN.out], by omega, CN.out, S3.out⟩
      | none =>
        rw [hk] at hr
        obtain rfl := hr
        have CN := Lib.hid (CC.out.none hk)
        have hkl := (kind_of_shp t hgs).2.2.2.2
        have KG := Lib.hid (fun q hq => kid_good (s := (t, d, bd)) GD.out (q := q) hq)
        have S2 := Lib.hid (S1.out.keep (below_alloc' w1 (.cells #[.int .i64 0, .int .i64 0, .slice none 0 0] 26)))
        have NB2 := Lib.hid (NB1.out.keep (below_alloc' w1 (.cells #[.int .i64 0, .int .i64 0, .slice none 0 0] 26)) NB1.out.lt)
        obtain ⟨k0, k1, k2, k3, k4⟩ := NB2.out.cells
        clear hb1 hk
        by_cases hbig : 1000 < sz + 1
        · have F := Lib.hid (CN.out.many hbig)
          have hbig' : (1000 : Int) < (sz : Int) + 1 := by omega
          go_wp2_with fail
          try rw [Exit.noGoto_ret]
          go_ret
          exact ⟨by rw [F.out]; rfl, S2.out.below⟩
        · have hbig' : ¬ (1000 : Int) < (sz : Int) + 1 := by omega
          go_wp2_with fail
          go_loopw [7, 60] (fun p i wx => ∃ (m : Nat) (A4 : Option Addr) (c4 : Nat) (cs4 : List (Option Addr × Nat)), m ≤ t.ks.length ∧ i = .int .i64 m ∧ p = .slice A4 (n + m) c4 ∧ IsS w wx (st0 ++ (kidSp t d bd).take m) A4 c4 cs4 ∧ BoxS wx wo.heap.size (.int .i64 t.k) (.int .i64 t.i) (.slice A2 t.ks.length c2) (.int .i64 (d : Int)) (.int .u64 (bd : Int)) ∧ (∀ g', (Value.slice A4 (n + m) c4).ownBlock = some g' → g' ≠ wo.heap.size)) (fun _ i _ => t.ks.length - (intOf i).toNat)
          case atStart => exact ⟨0, _, _, _, Nat.zero_le _, rfl, rfl, by rw [List.take_zero, List.append_nil]; exact S2.out, NB2.out, fun g' e => by have : g = g' := (by simpa [Value.ownBlock] using e); omega⟩
          case round =>
            obtain ⟨m, A4, c4, cs4, hm', rfl, rfl, hSm, hNB, hgn⟩ := hrel
            have SM := Lib.hid hSm
            have NBM := Lib.hid hNB
            have GN := Lib.hid hgn
            have hll : (st0 ++ (kidSp t d bd).take m).length = n + m := by rw [List.length_append, List.length_take, ← HN.out]; unfold kidSp; rw [List.length_map]; omega
            have bel := hSm.below
            have hown := hSm.own
            rw [hll] at hown
            have OWN := Lib.hid (fun (W : World) (h : Below wr.heap.size wr W) => ownsRow_same (hi := wr.heap.size) (w' := W) hown (fun k _ k2 => h.block k k2) (fun g e => (hown.lt g e).2))
            have OLT := Lib.hid hown.lt
            have PUSH := Lib.hid (fun (s : Spot) (w4 wy : World) (A2 : Option Addr) (c2 g cap : Nat) => @IsS.push w wr w4 _ s A4 c4 cs4 A2 c2 g cap wy hSm)
            rw [hll] at PUSH
            clear hSm hNB hgn hown k0 k1 k2 k3 k4
            by_cases hlt : m < t.ks.length
            · obtain ⟨b, o, A', c', rfl, hlt', p0, p1, p2, hkT⟩ := TT.out.kid m hlt
              have KT := Lib.hid (kidSp_take t d bd m hlt)
              have GQ := Lib.hid (KG.out t.ks[m] (List.getElem_mem hlt))
              obtain ⟨q, hq⟩ : ∃ q, q = t.ks[m] := ⟨_, rfl⟩
              rw [← hq] at p0 p1 p2 hkT KT GQ
              have HKT := Lib.hid hkT
              have d0 := (bel.cell hlt').trans p0
              have d1 := (bel.cell hlt').trans p1
              have d2 := (bel.cell hlt').trans p2
              have ha := below_alloc' wr (.cells #[.int .i64 q.k, .int .i64 q.i, .slice A' q.ks.length c'] 26)
              have TK : Reg15 wr wo.heap.size q A' c' t (some ⟨b, o, none⟩) c2 d bd (wr.alloc (.cells #[.int .i64 q.k, .int .i64 q.i, .slice A' q.ks.length c'] 26)).drew :=
                (Reg15.mk (Box3.new _ _ _ _) (NBM.out.keep ha NBM.out.lt) ha).keep ((Below.refl _ _).drew)
              have hd2 : (d : Int) ≤ 100 := by omega
              have wr1 : IntKind.i64.wrap ((d : Int) + 1) = (d : Int) + 1 := by rw [IntKind.wrap_i64]; omega
              obtain ⟨bd', hbd'⟩ : ∃ bd', bd' = bdB t.k t.i bd := ⟨_, rfl⟩
              rw [← hbd'] at KT GQ
              have HBD := Lib.hid hbd'
              have hnbl := NBM.out.lt
              have hbz := bel.size
              clear p0 p1 p2 hkT hq hbd'
              go_wp2_with fail
              go_region_held3 (fun w' => (w'.cell? ⟨wr.heap.size, 0, none⟩ = some (.int .i64 q.k) ∧ w'.cell? ⟨wr.heap.size, 1, none⟩ = some (.int .i64 q.i) ∧ w'.cell? ⟨wr.heap.size, 2, none⟩ = some (.slice A' q.ks.length c')) ∧ (w'.cell? ⟨wo.heap.size, 0, none⟩ = some (.int .i64 t.k) ∧ w'.cell? ⟨wo.heap.size, 1, none⟩ = some (.int .i64 t.i) ∧ w'.cell? ⟨wo.heap.size, 2, none⟩ = some (.slice (some ⟨b, o, none⟩) t.ks.length c2) ∧ w'.cell? ⟨wo.heap.size, 3, none⟩ = some (.int .i64 (d : Int)) ∧ w'.cell? ⟨wo.heap.size, 4, none⟩ = some (.int .u64 (bd : Int))))
                (first | exact ⟨TK.kid.cells, TK.nb.cells⟩ | exact ⟨(TK.alloc _).kid.cells, (TK.alloc _).nb.cells⟩ | exact ⟨K4.out.1.cells, K4.out.2.cells⟩)
                (first
                  | (go_at_call 146; refine (sbound_any t.k t.i (some ⟨b, o, none⟩) t.ks.length c2 bd _ hgu).mono ?_; rintro e w3 ⟨rfl, hb3⟩; rw [← HBD.out]; replace TK := TK.keep hb3; clear hb3)
                  | (refine step_append_lies _ rfl _ _ _ rfl (w.heap.size + 1) 136 i0 _ 5 56 Tryz.underlying137 HI.out.1 HI.out.2.1 HI.out.2.2.1 HI.out.2.2.2 (by rfl) (by omega) (.slice A4 (n + m) c4) (n + m) (rowS (st0 ++ (kidSp t d bd).take m) cs4) (by rfl) (by exact OWN.out _ (TK.alloc _).below) ⟨w3.heap.size, 0, none⟩ 1 1 [.int .i64 q.k, .int .i64 q.i, .slice A' q.ks.length c', .int .i64 ((d : Int) + 1), .int .u64 (bd' : Int)] (by rfl) (by rfl) (by exact news5s _ _ _ _ _ _ _) (by simp [Value.oneCell']) (by omega) (by unfold maxLen; omega) (by omega) (by have := TK.below.size; simp; omega) (w3.heap.size + 1) (by simp) ?_; intro g4 cap4 w4 hown4 hgrow hat hlt4; have K4 := Lib.hid (And.intro ((TK.alloc _).kid.grown hgrow (fun e => by have := OLT.out _ e.symm; omega)) ((TK.alloc _).nb.grown hgrow (fun e => GN.out _ e.symm rfl))); have HO4 := Lib.hid hown4; have HG4 := Lib.hid hgrow; have HAT := Lib.hid hat; clear hown4 hgrow hat))
              have NS := Lib.hid (PUSH.out (q, d + 1, bd') w4 _ A' c' g4 cap4 HKT.out GQ.out (TK.alloc _).below HO4.out HG4.out)
              have NG := Lib.hid (show ∀ g', (Value.slice (some ⟨g4, 0, none⟩) (n + (m + 1)) cap4).ownBlock = some g' → g' ≠ wo.heap.size from fun g' e => by
                obtain rfl : g4 = g' := by simpa [Value.ownBlock] using e
                rcases HAT.out with h | h
                · exact GN.out _ h
                · have := TK.below.size; omega)
              go_wp2_with fail
              go_roundw
              case rel => exact ⟨m + 1, _, _, _, by omega, by go_num, rfl, by rw [KT.out, ← List.append_assoc]; exact NS.out, K4.out.2, NG.out⟩
              case measure => simp [intOf]; omega
            · obtain rfl : m = t.ks.length := by omega
              have KT := Lib.hid (show (kidSp t d bd).take t.ks.length = kidSp t d bd from List.take_of_length_le (by unfold kidSp; rw [List.length_map]; exact Nat.le_refl _))
              rw [KT.out] at SM hll
              go_wp2_with fail
              go_roundg (spN (st0 ++ kidSp t d bd))
              case measure => rw [List.concat_eq_append]; exact DRP.out
              case rel => exact ⟨sz + 1, dp, st0 ++ kidSp t d bd, _, _, _, rfl, by first | rfl | simp, rfl, by rw [hll], by omega, CN.out, SM.out⟩
end Go.Proofs.YtjdhmfpkhijkeaaGreat
namespace Go.Proofs.YtjdhmfpkhijkeaaGreat
open Go.RowKit
set_option linter.unusedVariables false
set_option linter.unusedSimpArgs false
/-- what may be is answered, else why not -/
def limR (t : Tr) : Tr × Nat := if rightN t = 0 then (t, 0) else (zeroT, rightN t)
theorem measN_right {l : List (Int × Tr)} {a : Tr} (hl : ∀ p ∈ l, rightN p.2 = 0) (ht : ∀ p ∈ l, termB p.2.k = true) (ha : rightN a = 0) : measN l a = rightN (putE l a 0) := by
  unfold measN
  rw [putE_right (fun p hp => ⟨ht p hp, (right_shp' (hl p hp)).1⟩) (right_shp' ha).1]
set_option maxHeartbeats 4000000 in
set_option maxRecDepth 100000 in
theorem repl_any (a : Tr) (A : Option Addr) (c : Nat) (l : List (Int × Tr)) (Al : Option Addr) (cl : Nat) (hl : ∀ p ∈ l, rightN p.2 = 0) (ht : ∀ p ∈ l, termB p.2.k = true) (har : rightN a = 0) (w : World) (ha : IsT w w.heap.size a A c) (hp : IsP w w.heap.size l Al cl) :
    Calls Tryz.prog 128 #[.agg #[.int .i64 a.k, .int .i64 a.i, .slice A a.ks.length c], .slice Al l.length cl] w (AnsPost w (limR (putE l a 0))) := by
  obtain ⟨e0, e1, hb0⟩ := two_boxes0 w (.int .i64 a.k) (.int .i64 a.i) (.slice A a.ks.length c) (.int .i64 0) (.int .i64 0) (.slice none 0 0)
  have E0 := Lib.hid e0
  have E1 := Lib.hid e1
  have HB0 := Lib.hid hb0
  have P0 := Lib.hid (hp.up hb0)
  have T0 := Lib.hid (ha.keep hb0 hb0.size)
  have M := Lib.hid (measN_right hl ht har)
  have HL := Lib.hid hl
  have HR := Lib.hid har
  obtain ⟨y0, y1, y2⟩ := e0.cells
  clear e0 e1 hb0 hp ha hl ht har
  go_enter Tryz.func128, Tryz.ntmps128
  go_wp2_with fail
  refine (measure_any a A c l Al cl HL.out HR.out _ (by exact T0.out) (by exact P0.out)).mono ?_
  rintro e w1 ⟨rfl, hb1⟩
  have X0 := Lib.hid (E0.out.keep hb1 E0.out.lt)
  have X1 := Lib.hid (E1.out.keep hb1 E1.out.lt)
  have W1 := Lib.hid (HB0.out.trans (hb1.mono HB0.out.size))
  have P1 := Lib.hid (P0.out.up hb1)
  have T1 := Lib.hid (T0.out.keep hb1 hb1.size)
  have hs1 : w.heap.size + 1 < w1.heap.size := X1.out.lt
  clear y0 y1 y2 hb1 E0 E1 HB0 P0 T0
  obtain ⟨y0, y1, y2⟩ := X0.out.cells
  by_cases h0 : measN l a = 0
  · have F := Lib.hid (show limR (putE l a 0) = (putE l a 0, 0) by unfold limR; rw [if_pos (by rw [← M.out]; exact h0)])
    have h1 : ((measN l a : Int) != 0) = false := by simp [h0]
    clear h0
    go_wp2_with fail
    refine (replaced_any l Al cl HL.out a.sz a A c 0 _ (Nat.le_refl _) zero_U (by exact T1.out) (by exact P1.out)).mono ?_
    rintro e w2 ⟨A2, c2, rfl, ho, hb2⟩
    have R2 := Lib.hid (X1.out.keep hb2 X1.out.lt)
    have W2 := Lib.hid (W1.out.trans (hb2.mono W1.out.size))
    have HO := Lib.hid ho
    obtain ⟨z0, z1, z2⟩ := R2.out.cells
    have f0 := R2.out.frozen 0
    have f1 := R2.out.frozen 1
    have f2 := R2.out.frozen 2
    clear hb2 ho y0 y1 y2
    obtain ⟨u, hu⟩ : ∃ u, u = putE l a 0 := ⟨_, rfl⟩
    have HU := Lib.hid hu.symm
    rw [← hu] at F HO ⊢
    clear hu
    go_wp2_with fail
    refine bodyPost_ret (v := .tuple #[.agg #[.int .i64 u.k, .int .i64 u.i, .slice A2 u.ks.length c2], .int .i64 0]) (by simp [results, Tryz.results128, go_sem, z0, z1, z2]) rfl ?_
    rw [HU.out]
    exact ans_tree F.out W2.out HO.out (by omega) (by omega)
  · have F := Lib.hid (show limR (putE l a 0) = (zeroT, measN l a) by unfold limR; rw [if_neg (by rw [← M.out]; exact h0), M.out])
    have h1 : ((measN l a : Int) != 0) = true := by rw [bne_iff_ne]; omega
    obtain ⟨z0, z1, z2⟩ := X1.out.cells
    have f0 := X1.out.frozen 0
    have f1 := X1.out.frozen 1
    have f2 := X1.out.frozen 2
    clear h0
    go_wp2_with fail
    refine bodyPost_ret (v := .tuple #[.agg #[.int .i64 0, .int .i64 0, .slice none 0 0], .int .i64 (measN l a : Int)]) (by simp [results, Tryz.results128, go_sem, z0, z1, z2]) rfl ?_
    exact ans_zero F.out W1.out (by omega)
set_option maxHeartbeats 4000000 in
set_option maxRecDepth 100000 in
theorem faultOf_any (a : Tr) (A : Option Addr) (c : Nat) (l : List (Int × Tr)) (Al : Option Addr) (cl : Nat) (w : World) (ha : IsT w w.heap.size a A c) (hp : IsP w w.heap.size l Al cl) :
    Calls Tryz.prog 127 #[.agg #[.int .i64 a.k, .int .i64 a.i, .slice A a.ks.length c], .slice Al l.length cl] w fun e w' => e = .returned (.int .i64 ((faultE a l : Nat) : Int)) ∧ Below w.heap.size w w' := by
  have T0 := Lib.hid (One.new ha)
  obtain ⟨y0, y1, y2⟩ := And.intro T0.out.b0 (And.intro T0.out.b1 T0.out.b2)
  have HP := Lib.hid hp
  have hcap := hp.cap
  have hle := hp.le
  clear ha hp
  go_enter Tryz.func127, Tryz.ntmps127
  go_wp2_with fail
  go_loopw [5, 16] (fun v i wr => ∃ m vs : Nat, m ≤ l.length ∧ i = .int .i64 m ∧ v = .int .u64 (vs : Int) ∧ U64 vs ∧ argE l 0 = argE (l.drop m) vs ∧ One w wr a A c) (fun _ i _ => l.length - (intOf i).toNat)
  case atStart => exact ⟨0, 0, Nat.zero_le _, rfl, rfl, zero_U, by rw [List.drop_zero], T0.out⟩
  case round =>
    obtain ⟨m, vs, hm', rfl, rfl, hU, hA, hO⟩ := hrel
    have HU := Lib.hid hU
    have AE := Lib.hid hA
    have OO := Lib.hid hO
    have PR := Lib.hid (HP.out.up hO.below)
    clear hU hA hO y0 y1 y2
    by_cases hlt : m < l.length
    · obtain ⟨b, o, A', c', rfl, hltb, p0, p1, p2, p3, ht⟩ := PR.out.at_ m hlt
      have DR := Lib.hid (List.drop_eq_getElem_cons hlt)
      obtain ⟨p, hp⟩ : ∃ p, p = l[m] := ⟨_, rfl⟩
      rw [← hp] at p0 p1 p2 p3 DR
      rw [DR.out] at AE
      have ha := below_alloc wr (.cells #[.int .i64 p.1, .int .i64 p.2.k, .int .i64 p.2.i, .slice A' p.2.ks.length c'] 117)
      have O1 := Lib.hid (OO.out.keep ha)
      obtain ⟨q0, q1, q2, q3⟩ := box4_new wr (.int .i64 p.1) (.int .i64 p.2.k) (.int .i64 p.2.i) (.slice A' p.2.ks.length c') 117
      clear hp ht
      by_cases h0 : p.1 < 0
      · have F := Lib.hid (show faultE a l = 1 by unfold faultE; rw [if_pos (by rw [AE.out]; simp [argE, show ¬ 0 ≤ p.1 by omega])])
        go_wp2_with fail
        go_ret
        exact ⟨by rw [F.out]; rfl, O1.out.below⟩
      · by_cases h1 : 63 < p.1
        · have F := Lib.hid (show faultE a l = 1 by unfold faultE; rw [if_pos (by rw [AE.out]; simp [argE, show ¬ p.1 ≤ 63 by omega])])
          go_wp2_with fail
          go_ret
          exact ⟨by rw [F.out]; rfl, O1.out.below⟩
        · cases hh : hasN vs p.1 with
          | true =>
            have F := Lib.hid (show faultE a l = 1 by unfold faultE; rw [if_pos (by rw [AE.out]; simp [argE, hh])])
            go_wp2_with fail
            refine (has_any vs p.1 _ HU.out).mono ?_
            rintro e w9 ⟨rfl, hw9⟩
            rw [← hw9, hh]
            clear hw9
            go_wp2_with fail
            go_ret
            exact ⟨by rw [F.out]; rfl, O1.out.below⟩
          | false =>
            have F := Lib.hid (show argE l 0 = argE (l.drop (m + 1)) (withN vs p.1) by rw [AE.out]; simp [argE, hh, show 0 ≤ p.1 by omega, show p.1 ≤ 63 by omega])
            go_wp2_with fail
            refine (has_any vs p.1 _ HU.out).mono ?_
            rintro e w9 ⟨rfl, hw9⟩
            rw [← hw9, hh]
            clear hw9
            go_wp2_with fail
            refine (with_any vs p.1 _ HU.out).mono ?_
            rintro e w9 ⟨rfl, hw9⟩
            rw [← hw9]
            clear hw9
            go_wp2_with fail
            go_roundw
            case rel => exact ⟨m + 1, withN vs p.1, by omega, by go_num, rfl, withU _ HU.out, F.out, O1.out⟩
            case measure => simp [intOf]; omega
    · obtain rfl : m = l.length := by omega
      have AT := Lib.hid (show argE l 0 = true by rw [AE.out, List.drop_length]; rfl)
      obtain ⟨y0, y1, y2⟩ := And.intro OO.out.b0 (And.intro OO.out.b1 OO.out.b2)
      have F0 := Lib.hid (show faultE a l = if rightN a ≠ 0 then rightN a else if rightL l ≠ 0 then rightL l else if termL l = false then 40 else 0 by unfold faultE; rw [if_neg (by rw [AT.out]; simp)])
      clear AE PR
      go_wp2_with fail
      refine (right_any a A c _ (by exact OO.out.tree)).mono ?_
      rintro e w1 ⟨rfl, hb1⟩
      have O1 := Lib.hid (OO.out.keep hb1)
      clear hb1 y0 y1 y2
      by_cases hr : rightN a = 0
      · have h0 : ((rightN a : Int) != 0) = false := by simp [hr]
        rw [if_neg (by simp [hr])] at F0
        clear hr
        go_wp2_with fail
        go_loopw [46] (fun i wr => ∃ m : Nat, m ≤ l.length ∧ i = .int .i64 m ∧ rightL l = rightL (l.drop m) ∧ One w wr a A c) (fun i _ => l.length - (intOf i).toNat)
        case atStart => exact ⟨0, Nat.zero_le _, rfl, by rw [List.drop_zero], O1.out⟩
        case round =>
          obtain ⟨m, hm', rfl, hA, hO⟩ := hrel
          have AE := Lib.hid hA
          have OO := Lib.hid hO
          have PR := Lib.hid (HP.out.up hO.below)
          clear hA hO O1
          by_cases hlt : m < l.length
          · obtain ⟨b, o, A', c', rfl, hltb, p0, p1, p2, p3, ht⟩ := PR.out.at_ m hlt
            have DR := Lib.hid (List.drop_eq_getElem_cons hlt)
            obtain ⟨p, hp⟩ : ∃ p, p = l[m] := ⟨_, rfl⟩
            rw [← hp] at p0 p1 p2 p3 DR ht
            rw [DR.out] at AE
            have ha := below_alloc wr (.cells #[.int .i64 p.1, .int .i64 p.2.k, .int .i64 p.2.i, .slice A' p.2.ks.length c'] 117)
            have O1 := Lib.hid (OO.out.keep ha)
            have TT := Lib.hid (ht.keep ha ha.size)
            obtain ⟨q0, q1, q2, q3⟩ := box4_new wr (.int .i64 p.1) (.int .i64 p.2.k) (.int .i64 p.2.i) (.slice A' p.2.ks.length c') 117
            clear hp ht
            go_wp2_with fail
            refine (right_any p.2 A' c' _ (by exact TT.out)).mono ?_
            rintro e w2 ⟨rfl, hb2⟩
            have O2 := Lib.hid (O1.out.keep hb2)
            clear hb2
            by_cases hr : rightN p.2 = 0
            · have h2 : ((rightN p.2 : Int) != 0) = false := by simp [hr]
              have F := Lib.hid (show rightL l = rightL (l.drop (m + 1)) by rw [AE.out]; simp [rightL, hr])
              clear hr
              go_wp2_with fail
              go_roundw
              case rel => exact ⟨m + 1, by omega, by go_num, F.out, O2.out⟩
              case measure => simp [intOf]; omega
            · have h2 : ((rightN p.2 : Int) != 0) = true := by rw [bne_iff_ne]; omega
              have F := Lib.hid (show faultE a l = rightN p.2 by rw [F0.out, AE.out]; simp [rightL, hr])
              clear hr
              go_wp2_with fail
              go_ret
              exact ⟨by rw [F.out]; rfl, O2.out.below⟩
          · obtain rfl : m = l.length := by omega
            have RL := Lib.hid (show rightL l = 0 by rw [AE.out, List.drop_length]; rfl)
            rw [RL.out] at F0
            simp only [ne_eq, not_true_eq_false, if_false] at F0
            have RA := Lib.hid (rightL_all RL.out)
            clear AE PR
            go_wp2_with fail
            go_loopw [59] (fun i wr => ∃ m : Nat, m ≤ l.length ∧ i = .int .i64 m ∧ termL l = termL (l.drop m) ∧ One w wr a A c) (fun i _ => l.length - (intOf i).toNat)
            case atStart => exact ⟨0, Nat.zero_le _, rfl, by rw [List.drop_zero], OO.out⟩
            case round =>
              obtain ⟨m, hm', rfl, hA, hO⟩ := hrel
              have AE := Lib.hid hA
              have PR := Lib.hid (HP.out.up hO.below)
              have O3 := Lib.hid hO
              clear hA hO OO
              by_cases hlt : m < l.length
              · obtain ⟨b, o, A', c', rfl, hltb, p0, p1, p2, p3, ht⟩ := PR.out.at_ m hlt
                have DR := Lib.hid (List.drop_eq_getElem_cons hlt)
                have RP := Lib.hid (RA.out l[m] (List.getElem_mem hlt))
                obtain ⟨p, hp⟩ : ∃ p, p = l[m] := ⟨_, rfl⟩
                rw [← hp] at p0 p1 p2 p3 DR ht RP
                rw [DR.out] at AE
                have ha := below_alloc wr (.cells #[.int .i64 p.1, .int .i64 p.2.k, .int .i64 p.2.i, .slice A' p.2.ks.length c'] 117)
                have O1 := Lib.hid (O3.out.keep ha)
                have TT := Lib.hid (ht.keep ha ha.size)
                obtain ⟨q0, q1, q2, q3⟩ := box4_new wr (.int .i64 p.1) (.int .i64 p.2.k) (.int .i64 p.2.i) (.slice A' p.2.ks.length c') 117
                clear hp ht
                go_wp2_with fail
                refine (isTerm_any p.2 A' c' _ (by exact TT.out)).mono ?_
                rintro e w2 ⟨rfl, hb2⟩
                rw [isTB_term RP.out]
                have O2 := Lib.hid (O1.out.keep hb2)
                clear hb2
                cases hr : termB p.2.k with
                | true =>
                  have F := Lib.hid (show termL l = termL (l.drop (m + 1)) by rw [AE.out]; simp [termL, hr])
                  go_wp2_with fail
                  go_roundw
                  case rel => exact ⟨m + 1, by omega, by go_num, F.out, O2.out⟩
                  case measure => simp [intOf]; omega
                | false =>
                  have F := Lib.hid (show faultE a l = 40 by rw [F0.out, if_pos (by rw [AE.out]; simp [termL, hr])])
                  go_wp2_with fail
                  go_ret
                  exact ⟨by rw [F.out]; rfl, O2.out.below⟩
              · obtain rfl : m = l.length := by omega
                have F := Lib.hid (show faultE a l = 0 by rw [F0.out, if_neg (by rw [AE.out, List.drop_length]; simp [termL])])
                go_wp2_with fail
                go_ret
                exact ⟨by rw [F.out]; rfl, O3.out.below⟩
      · have h0 : ((rightN a : Int) != 0) = true := by rw [bne_iff_ne]; omega
        rw [if_pos hr] at F0
        clear hr
        go_wp2_with fail
        go_ret
        exact ⟨by rw [F0.out]; rfl, O1.out.below⟩
end Go.Proofs.YtjdhmfpkhijkeaaGreat
namespace Go.Proofs.YtjdhmfpkhijkeaaGreat
open Go.RowKit
set_option linter.unusedVariables false
set_option linter.unusedSimpArgs false
/-- what Each answers -/
def eachR (a : Tr) (l : List (Int × Tr)) : Tr × Nat := if eachN a l = 0 then (putE l a 0, 0) else (zeroT, eachN a l)
theorem eachR_fault {a : Tr} {l : List (Int × Tr)} (h : faultE a l ≠ 0) : eachR a l = (zeroT, faultE a l) := by
  have e : eachN a l = faultE a l := by unfold eachN; rw [if_pos h]
  unfold eachR
  rw [e, if_neg h]
theorem eachR_cap {a : Tr} {l : List (Int × Tr)} (h : faultE a l = 0) (hc : capE a l = false) : eachR a l = (zeroT, 50) := by
  have e : eachN a l = 50 := by unfold eachN; rw [if_neg (by simp [h]), if_pos hc]
  unfold eachR
  rw [e]
  rfl
theorem eachR_ok {a : Tr} {l : List (Int × Tr)} (h : faultE a l = 0) (hc : capE a l = true) : eachR a l = limR (putE l a 0) := by
  have e : eachN a l = rightN (putE l a 0) := by unfold eachN; rw [if_neg (by simp [h]), if_neg (by simp [hc])]
  unfold eachR limR
  rw [e]
theorem ffB_ok {x : Int} {t a : Tr} (h0 : 0 ≤ x) (h1 : x ≤ 63) (ht : rightN t = 0) (ha : rightN a = 0) (hk : termB t.k = true) : askN x t a = 0 ∧ ffB x t a = decide (catT (varsT t) x a = 0) := by
  have f1 : firstN t a = 0 := by unfold firstN; rw [if_neg (by simp [ht]), ha]
  have h : askN x t a = 0 := by unfold askN wantTN; rw [if_pos ⟨h0, h1⟩, if_pos f1, if_pos ht, if_pos hk]
  refine ⟨h, ?_⟩
  unfold ffB catV
  rw [if_pos h, decide_eq_true h]
  rfl
theorem capE_drop {a : Tr} {l : List (Int × Tr)} {m : Nat} (h : m < l.length) : capE a (l.drop m) = (decide (catT (varsT l[m].2) l[m].1 a = 0) && capE a (l.drop (m + 1))) := by
  rw [List.drop_eq_getElem_cons h]
  unfold capE
  rw [List.all_cons]
  rfl
/-- an answer is handed on through a box -/
theorem ans_pass {w wr : World} {x : Tr × Nat} {A : Option Addr} {c lo b : Nat} (hbr : Below w.heap.size w wr) (ho : OwnT wr lo wr.heap.size x.1 A c) (hb : w.heap.size ≤ b) (hlo : b < lo) :
    AnsPost w x (.returned (.tuple #[.agg #[.int .i64 x.1.k, .int .i64 x.1.i, .slice A x.1.ks.length c], .int .i64 ((x.2 : Nat) : Int)])) (((wr.setCell ⟨b, 0, none⟩ (.int .i64 x.1.k)).setCell ⟨b, 1, none⟩ (.int .i64 x.1.i)).setCell ⟨b, 2, none⟩ (.slice A x.1.ks.length c)) := by
  refine ⟨below_set3 hbr _ _ _ hb, A, c, ?_, rfl⟩
  have hs : SameIn lo wr.heap.size wr (((wr.setCell ⟨b, 0, none⟩ (.int .i64 x.1.k)).setCell ⟨b, 1, none⟩ (.int .i64 x.1.i)).setCell ⟨b, 2, none⟩ (.slice A x.1.ks.length c)) := same_set3 _ _ _ _ _ hlo
  have := (OwnT.same _ hs ho).lower (lo' := w.heap.size) (by omega)
  simpa using this
/-- what Each holds -/
structure EK (w W : World) (a : Tr) (A : Option Addr) (c : Nat) (l : List (Int × Tr)) (Al : Option Addr) (cl : Nat) : Prop where
  ab : Box3 W w.heap.size (.int .i64 a.k) (.int .i64 a.i) (.slice A a.ks.length c)
  rb : Box3 W (w.heap.size + 1) (.int .i64 0) (.int .i64 0) (.slice none 0 0)
  tree : IsT W W.heap.size a A c
  pairs : IsP W W.heap.size l Al cl
  below : Below w.heap.size w W
theorem EK.keep {w W W' : World} {a : Tr} {A : Option Addr} {c : Nat} {l : List (Int × Tr)} {Al : Option Addr} {cl : Nat} (h : EK w W a A c l Al cl) (hb : Below W.heap.size W W') : EK w W' a A c l Al cl :=
  ⟨h.ab.keep hb h.ab.lt, h.rb.keep hb h.rb.lt, h.tree.keep hb hb.size, h.pairs.up hb, h.below.trans (hb.mono h.below.size)⟩
set_option maxHeartbeats 4000000 in
set_option maxRecDepth 100000 in
theorem each_any (a : Tr) (A : Option Addr) (c : Nat) (l : List (Int × Tr)) (Al : Option Addr) (cl : Nat) (w : World) (ha : IsT w w.heap.size a A c) (hp : IsP w w.heap.size l Al cl) :
    Calls Tryz.prog 115 #[.agg #[.int .i64 a.k, .int .i64 a.i, .slice A a.ks.length c], .slice Al l.length cl] w (AnsPost w (eachR a l)) := by
  obtain ⟨e0, e1, hb0⟩ := two_boxes0 w (.int .i64 a.k) (.int .i64 a.i) (.slice A a.ks.length c) (.int .i64 0) (.int .i64 0) (.slice none 0 0)
  have E0 := Lib.hid e0
  have E1 := Lib.hid e1
  have HB0 := Lib.hid hb0
  have P0 := Lib.hid (hp.up hb0)
  have T0 := Lib.hid (ha.keep hb0 hb0.size)
  have hcap := hp.cap
  have hle := hp.le
  obtain ⟨y0, y1, y2⟩ := e0.cells
  clear e0 e1 hb0 hp ha
  go_enter Tryz.func115, Tryz.ntmps115
  go_wp2_with fail
  refine (faultOf_any a A c l Al cl _ (by exact T0.out) (by exact P0.out)).mono ?_
  rintro e w1 ⟨rfl, hb1⟩
  have X0 := Lib.hid (E0.out.keep hb1 E0.out.lt)
  have X1 := Lib.hid (E1.out.keep hb1 E1.out.lt)
  have W1 := Lib.hid (HB0.out.trans (hb1.mono HB0.out.size))
  have P1 := Lib.hid (P0.out.up hb1)
  have T1 := Lib.hid (T0.out.keep hb1 hb1.size)
  have hs1 : w.heap.size + 1 < w1.heap.size := X1.out.lt
  clear y0 y1 y2 hb1 E0 E1 HB0 P0 T0
  by_cases h0 : faultE a l = 0
  · obtain ⟨q1, q2, q3, q4⟩ := faultE_zero h0
    have HR := Lib.hid q2
    have HL := Lib.hid q3
    have HT := Lib.hid q4
    have HX := Lib.hid (argE_mem q1)
    have F0 := Lib.hid h0
    have h1 : ((faultE a l : Int) != 0) = false := by simp [h0]
    clear h0 q1 q2 q3 q4
    go_wp2_with fail
    have K1 := Lib.hid (EK.mk X0.out X1.out T1.out P1.out W1.out)
    go_loopw [20] (fun i wr => ∃ m : Nat, m ≤ l.length ∧ i = .int .i64 m ∧ capE a l = capE a (l.drop m) ∧ EK w wr a A c l Al cl) (fun i _ => l.length - (intOf i).toNat)
    case atStart => exact ⟨0, Nat.zero_le _, rfl, by rw [List.drop_zero], K1.out⟩
    case round =>
      obtain ⟨m, hm', rfl, hA, hK⟩ := hrel
      have AE := Lib.hid hA
      have KR := Lib.hid hK
      clear hA hK X0 X1 W1 P1 T1 K1
      by_cases hlt : m < l.length
      · have CD := Lib.hid (AE.out.trans (capE_drop hlt))
        have FF := Lib.hid (ffB_ok (HX.out _ (List.getElem_mem hlt)).1 (HX.out _ (List.getElem_mem hlt)).2 (HL.out _ (List.getElem_mem hlt)) HR.out (HT.out _ (List.getElem_mem hlt)))
        obtain ⟨b, o, A', c', rfl, hltb, p0, p1, p2, p3, ht⟩ := KR.out.pairs.at_ m hlt
        obtain ⟨p, hp⟩ : ∃ p, p = l[m] := ⟨_, rfl⟩
        rw [← hp] at p0 p1 p2 p3 ht CD FF
        have ha := below_alloc wr (.cells #[.int .i64 p.1, .int .i64 p.2.k, .int .i64 p.2.i, .slice A' p.2.ks.length c'] 117)
        have K2 := Lib.hid (KR.out.keep ha)
        have TT := Lib.hid (ht.keep ha ha.size)
        obtain ⟨q0, q1, q2, q3⟩ := box4_new wr (.int .i64 p.1) (.int .i64 p.2.k) (.int .i64 p.2.i) (.slice A' p.2.ks.length c') 117
        obtain ⟨y0, y1, y2⟩ := K2.out.ab.cells
        clear hp ht ha AE
        go_wp2_with fail
        refine (freeFor_any p.2 a p.1 A' A c' c _ (by exact TT.out) (by exact K2.out.tree)).mono ?_
        rintro e w2 ⟨rfl, hb2⟩
        rw [FF.out.1, FF.out.2]
        have K3 := Lib.hid (K2.out.keep hb2)
        clear hb2 y0 y1 y2 q0 q1 q2 q3
        cases hd : decide (catT (varsT p.2) p.1 a = 0) with
        | true =>
          rw [hd, Bool.true_and] at CD
          go_wp2_with fail
          go_roundw
          case rel => exact ⟨m + 1, by omega, by go_num, CD.out, K3.out⟩
          case measure => simp [intOf]; omega
        | false =>
          rw [hd, Bool.false_and] at CD
          have F := Lib.hid (eachR_cap F0.out CD.out)
          obtain ⟨z0, z1, z2⟩ := K3.out.rb.cells
          have f0 := K3.out.rb.frozen 0
          have f1 := K3.out.rb.frozen 1
          have f2 := K3.out.rb.frozen 2
          go_wp2_with fail
          refine bodyPost_ret (v := .tuple #[.agg #[.int .i64 0, .int .i64 0, .slice none 0 0], .int .i64 50]) (by simp [results, Tryz.results115, go_sem, z0, z1, z2]) rfl ?_
          exact ans_zero F.out K3.out.below (by omega)
      · obtain rfl : m = l.length := by omega
        have CT := Lib.hid (show capE a l = true by rw [AE.out, List.drop_length]; rfl)
        have F := Lib.hid (eachR_ok F0.out CT.out)
        obtain ⟨y0, y1, y2⟩ := KR.out.ab.cells
        have hrl := KR.out.rb.lt
        go_wp2_with fail
        refine (repl_any a A c l Al cl HL.out HT.out HR.out _ (by exact KR.out.tree) (by exact KR.out.pairs)).mono ?_
        rintro e w2 ⟨hb2, A2, c2, ho, rfl⟩
        rw [← F.out] at ho ⊢
        have K3 := Lib.hid (KR.out.keep hb2)
        have HO := Lib.hid ho
        obtain ⟨z0, z1, z2⟩ := K3.out.rb.cells
        have f0 := K3.out.rb.frozen 0
        have f1 := K3.out.rb.frozen 1
        have f2 := K3.out.rb.frozen 2
        clear hb2 ho y0 y1 y2
        go_wp2_with fail
        refine bodyPost_ret (v := .tuple #[.agg #[.int .i64 (eachR a l).1.k, .int .i64 (eachR a l).1.i, .slice A2 (eachR a l).1.ks.length c2], .int .i64 ((eachR a l).2 : Int)]) (by simp [results, Tryz.results115, go_sem, z0, z1, z2]) rfl ?_
        exact ans_pass K3.out.below HO.out (by omega) (by omega)
  · have F := Lib.hid (eachR_fault h0)
    have h1 : ((faultE a l : Int) != 0) = true := by rw [bne_iff_ne]; omega
    obtain ⟨z0, z1, z2⟩ := X1.out.cells
    have f0 := X1.out.frozen 0
    have f1 := X1.out.frozen 1
    have f2 := X1.out.frozen 2
    clear h0
    go_wp2_with fail
    refine bodyPost_ret (v := .tuple #[.agg #[.int .i64 0, .int .i64 0, .slice none 0 0], .int .i64 (faultE a l : Int)]) (by simp [results, Tryz.results115, go_sem, z0, z1, z2]) rfl ?_
    exact ans_zero F.out W1.out (by omega)
/-- a row of one pair -/
theorem IsP.one {w : World} {x : Int} {t : Tr} {A : Option Addr} {c : Nat} (ht : IsT w w.heap.size t A c) : IsP (w.alloc (.cells #[.int .i64 x, .int .i64 t.k, .int .i64 t.i, .slice A t.ks.length c] 117)) (w.heap.size + 1) [(x, t)] (some ⟨w.heap.size, 0, none⟩) 1 := by
  obtain ⟨q0, q1, q2, q3⟩ := box4_new w (.int .i64 x) (.int .i64 t.k) (.int .i64 t.i) (.slice A t.ks.length c) 117
  refine ⟨Nat.le_refl _, by show 1 * 48 ≤ _; omega, fun m hm => ?_⟩
  obtain rfl : m = 0 := by simpa using hm
  exact ⟨w.heap.size, 0, A, c, rfl, Nat.lt_succ_self _, by simp, by simp, by simp, by simp, ht.keep (below_alloc w _) (Nat.le_succ _)⟩
set_option maxHeartbeats 4000000 in
set_option maxRecDepth 100000 in
theorem sput_any (a : Tr) (A : Option Addr) (c : Nat) (x : Int) (t : Tr) (A' : Option Addr) (c' : Nat) (w : World) (ha : IsT w w.heap.size a A c) (ht : IsT w w.heap.size t A' c') :
    Calls Tryz.prog 97 #[.agg #[.int .i64 a.k, .int .i64 a.i, .slice A a.ks.length c], .int .i64 x, .agg #[.int .i64 t.k, .int .i64 t.i, .slice A' t.ks.length c']] w (AnsPost w (eachR a [(x, t)])) := by
  obtain ⟨e0, e1, e2, hb0⟩ := three_boxes w (.int .i64 a.k) (.int .i64 a.i) (.slice A a.ks.length c) (.int .i64 t.k) (.int .i64 t.i) (.slice A' t.ks.length c') (.int .i64 0) (.int .i64 0) (.slice none 0 0)
  have TA := Lib.hid (ha.keep hb0 hb0.size)
  have TT := Lib.hid (ht.keep hb0 hb0.size)
  have E2 := Lib.hid e2
  have HB0 := Lib.hid hb0
  obtain ⟨y0, y1, y2⟩ := e0.cells
  obtain ⟨t0, t1, t2⟩ := e1.cells
  clear e0 e1 e2 hb0 ha ht
  have PP := Lib.hid (IsP.one (x := x) TT.out)
  have TA4 := Lib.hid (fun o => TA.out.keep (below_alloc _ o) (below_alloc _ o).size)
  have R4 := Lib.hid (fun o => E2.out.keep (below_alloc _ o) E2.out.lt)
  have B4 := Lib.hid (fun o => HB0.out.trans ((below_alloc _ o).mono HB0.out.size))
  go_enter Tryz.func97, Tryz.ntmps97
  go_wp2_with fail
  refine (each_any a A c [(x, t)] _ 1 _ (by exact TA4.out _) (by simpa using PP.out)).mono ?_
  rintro e w2 ⟨hb2, A2, c2, ho, rfl⟩
  have hs2 := hb2.size
  simp only [World.size_alloc] at hs2 ho
  have R5 := Lib.hid ((R4.out _).keep hb2 (R4.out _).lt)
  have B5 := Lib.hid ((B4.out _).trans (hb2.mono (by simp; omega)))
  have HO := Lib.hid ho
  obtain ⟨z0, z1, z2⟩ := R5.out.cells
  have f0 := R5.out.frozen 0
  have f1 := R5.out.frozen 1
  have f2 := R5.out.frozen 2
  clear hb2 ho y0 y1 y2 t0 t1 t2
  go_wp2_with fail
  refine bodyPost_ret (v := .tuple #[.agg #[.int .i64 (eachR a [(x, t)]).1.k, .int .i64 (eachR a [(x, t)]).1.i, .slice A2 (eachR a [(x, t)]).1.ks.length c2], .int .i64 ((eachR a [(x, t)]).2 : Int)]) (by simp [results, Tryz.results97, go_sem, z0, z1, z2]) rfl ?_
  exact ans_pass B5.out HO.out (by omega) (by omega)
end Go.Proofs.YtjdhmfpkhijkeaaGreat
namespace Go.Proofs.YtjdhmfpkhijkeaaGreat
open Go.RowKit
set_option linter.unusedVariables false
set_option linter.unusedSimpArgs false
theorem right_fit {t : Tr} (h : rightN t = 0) : t.fit := by
  have : ∀ t : Tr, t.shp = true → t.fit := by
    intro t
    induction t using Tr.ind with
    | h t ih =>
      intro hs
      have := (kind_of_shp t hs).2.2.2.2
      exact (fit_eq t).2 ⟨by unfold Cap; omega, fun q hq => ih q hq (shp_kid hs hq)⟩
  exact this t (right_shp' h).1
theorem zero_fit : zeroT.fit := (fit_eq zeroT).2 ⟨by unfold Cap zeroT; simp [Tr.ks], fun q hq => by simp [zeroT, Tr.ks] at hq⟩
theorem eachR_fit (a : Tr) (l : List (Int × Tr)) : (eachR a l).1.fit := by
  unfold eachR
  split
  · rename_i h
    unfold eachN at h
    split at h
    · rename_i h1; exact absurd h h1
    · split at h
      · cases h
      · exact right_fit h
  · exact zero_fit
theorem eachR_snd (a : Tr) (l : List (Int × Tr)) : (eachR a l).2 = eachN a l := by
  unfold eachR
  split
  · rename_i h; exact h.symm
  · rfl
/-- what is answered lies in memory -/
theorem AnsPost.is {w' : World} {x : Tr × Nat} {lo : Nat} {A : Option Addr} {c : Nat} (h : OwnT w' lo w'.heap.size x.1 A c) (hf : x.1.fit) : IsT w' w'.heap.size x.1 A c := h.isT _ (Nat.le_refl _) hf
/-- one pair alone -/
theorem faultE_one {a t : Tr} {x : Int} : faultE a [(x, t)] = if ¬ (0 ≤ x ∧ x ≤ 63) then 1 else if rightN a ≠ 0 then rightN a else if rightN t ≠ 0 then rightN t else if termB t.k = false then 40 else 0 := by
  have e1 : argE [(x, t)] 0 = decide (0 ≤ x ∧ x ≤ 63) := by
    simp [argE, hasN_zero]
  have e2 : rightL [(x, t)] = rightN t := by
    simp only [rightL]
    split
    · rfl
    · rename_i h; simp at h; exact h.symm
  have e3 : termL [(x, t)] = termB t.k := by simp [termL]
  unfold faultE
  rw [e1, e2, e3]
  by_cases hx : 0 ≤ x ∧ x ≤ 63
  · rw [decide_eq_true hx, if_neg (by simp), if_neg (show ¬ ¬ (0 ≤ x ∧ x ≤ 63) from fun h => h hx)]
  · rw [decide_eq_false hx, if_pos rfl, if_pos hx]
theorem capE_one {a t : Tr} {x : Int} : capE a [(x, t)] = decide (catT (varsT t) x a = 0) := by
  unfold capE capE.ffB'
  simp
/-- a good call -/
theorem eachN_one {a t : Tr} {x : Int} (hx : 0 ≤ x ∧ x ≤ 63) (ha : rightN a = 0) (ht : rightN t = 0) (hk : termB t.k = true) : eachN a [(x, t)] = if catT (varsT t) x a = 0 then rightN (putX x t a) else 50 := by
  have hf : faultE a [(x, t)] = 0 := by rw [faultE_one, if_neg (show ¬ ¬ (0 ≤ x ∧ x ≤ 63) from fun h => h hx), if_neg (by simp [ha]), if_neg (by simp [ht]), if_neg (by simp [hk])]
  unfold eachN
  rw [hf, capE_one]
  by_cases hc : catT (varsT t) x a = 0
  · rw [decide_eq_true hc, if_pos hc]; rfl
  · rw [decide_eq_false hc, if_neg hc]; rfl
theorem eachR_one_ok {a t : Tr} {x : Int} (h : eachN a [(x, t)] = 0) : eachR a [(x, t)] = (putX x t a, 0) := by unfold eachR; rw [if_pos h]
theorem eachR_nil {a : Tr} (ha : rightN a = 0) : eachR a [] = (a, 0) := by
  have h : eachN a [] = 0 := by
    unfold eachN faultE
    simp [argE, ha, rightL, termL, capE, putE_nil]
  unfold eachR
  rw [if_pos h, putE_nil]
theorem like_refl (a : Tr) : likeB a a = true := by unfold likeB; exact decide_eq_true (cmpT_self a)
theorem like_iff {a b : Tr} : likeB a b = true ↔ a = b := by unfold likeB; rw [decide_eq_true_eq]; exact cmpT_zero a b
/-- a box that was laid ahead is filled with what is answered -/
theorem Env.box {w w2 W : World} {bs : List (Nat × Tr × Option Addr × Nat)} (E : Env w w2 bs) (BB : Below w2.heap.size w2 W) {nb lo : Nat} {t : Tr} {A : Option Addr} {c : Nat} {x y z : Value} (NB : Box3 W nb x y z) (hnb : w2.heap.size ≤ nb) (hlo : nb < lo) (ho : OwnT W lo W.heap.size t A c) (hf : t.fit) :
    Env w (((W.setCell ⟨nb, 0, none⟩ (.int .i64 t.k)).setCell ⟨nb, 1, none⟩ (.int .i64 t.i)).setCell ⟨nb, 2, none⟩ (.slice A t.ks.length c)) ((nb, t, A, c) :: bs) := by
  have b3 := below_set3 BB (.int .i64 t.k) (.int .i64 t.i) (.slice A t.ks.length c) hnb
  refine ⟨E.below.trans (b3.mono E.below.size), fun q hq => ?_⟩
  rcases List.mem_cons.1 hq with rfl | hq
  · obtain ⟨c0, c1, c2⟩ := (NB.set3 (.int .i64 t.k) (.int .i64 t.i) (.slice A t.ks.length c)).cells
    refine ⟨c0, c1, c2, (OwnT.same _ (same_set3 _ _ _ _ _ hlo) ho).isT _ (by simp) hf⟩
  · exact (E.bts q hq).keep b3
theorem Env.fresh {w w2 W : World} {bs : List (Nat × Tr × Option Addr × Nat)} (E : Env w w2 bs) (BB : Below w2.heap.size w2 W) {lo : Nat} {t : Tr} {A : Option Addr} {c : Nat} (ho : OwnT W lo W.heap.size t A c) (hf : t.fit) :
    Env w (W.alloc (.cells #[.int .i64 t.k, .int .i64 t.i, .slice A t.ks.length c] 26)) ((W.heap.size, t, A, c) :: bs) := (E.keep BB).push (ho.isT _ (Nat.le_refl _) hf)
theorem stepA {w W W' : World} {o : Obj} (BB : Below w.heap.size w W) (h : Below (W.alloc o).heap.size (W.alloc o) W') : Below w.heap.size w W' := (BB.trans ((below_alloc W o).mono BB.size)).trans (h.mono (Nat.le_trans BB.size (below_alloc W o).size))
theorem stepB {w W W' : World} (BB : Below w.heap.size w W) (h : Below W.heap.size W W') : Below w.heap.size w W' := BB.trans (h.mono BB.size)
theorem boxA {W W' : World} {x y z : Value} (h : Below (W.alloc (.cells #[x, y, z] 26)).heap.size (W.alloc (.cells #[x, y, z] 26)) W') : Box3 W' W.heap.size x y z := (Box3.new W x y z).keep h (by simp)
theorem stepD {w W' : World} {o : Obj} (h : Below (w.alloc o).drew.heap.size (w.alloc o).drew W') : Below w.drew.heap.size w.drew W' := by
  refine Below.trans (b := (w.alloc o).drew) ?_ (h.mono (below_alloc w o).size)
  exact (below_alloc w.drew o)
theorem boxD {w W' : World} {x y z : Value} (h : Below (w.alloc (.cells #[x, y, z] 26)).drew.heap.size (w.alloc (.cells #[x, y, z] 26)).drew W') : Box3 W' w.heap.size x y z := Box3.keep (w := (w.alloc (.cells #[x, y, z] 26)).drew) (Box3.new w x y z) h (by show w.heap.size < (w.alloc _).heap.size; simp)
theorem isT_var (W : World) (B : Nat) (x : Int) : IsT W B (varT x) none 0 := IsT.mk (Nat.le_refl _) (by simp [Tr.ks, Cap]) fun m hm => by simp [Tr.ks] at hm
end Go.Proofs.YtjdhmfpkhijkeaaGreat
namespace Go.Proofs.YtjdhmfpkhijkeaaGreat
open Go.RowKit
theorem Tryz.cells24 : Tryz.prog.cellsOf 26 = 3 := by kernel_rfl
theorem Tryz.cells22 : Tryz.prog.cellsOf 22 = 1 := by kernel_rfl
theorem Tryz.cells3 : Tryz.prog.cellsOf 3 = 1 := by kernel_rfl
theorem Tryz.bytes24 : Tryz.prog.bytesOf 26 = 40 := by kernel_rfl
theorem weightsAll_mem {H : Type} {P : Program} {e : TypeId} : ∀ {l : List (DataW H)} {d : DataW H}, d ∈ l → ∀ n, n ∈ d.weights P e → n ∈ DataW.weightsAll P e l
  | x :: r, d, hd, n, hn => by
    rw [DataW.weightsAll]
    rcases List.mem_cons.1 hd with rfl | hd
    · exact List.mem_append_left _ hn
    · exact List.mem_append_right _ (weightsAll_mem hd n hn)
theorem spot_none {w : World} {a : Addr} {v : Value} (h : w.cell? a = some v) : a.spot = none := by
  unfold World.cell? at h
  split at h
  · cases hs : a.spot with
    | none => rfl
    | some x => rw [hs] at h; simp at h
  · cases h
theorem add_plain (b o m : Nat) : (⟨b, o, none⟩ : Addr).add m = ⟨b, o + m, none⟩ := by unfold Addr.add; split <;> simp_all
set_option maxRecDepth 100000 in
set_option maxHeartbeats 1000000 in
theorem open_expr {H : Type} {enc : TypeId × Value → H} {W : World} {spare : Nat → Bool} {held : Bool} (hsp : ∀ b, spare b = true) : ∀ (fuel : Nat) (cs : List Value) (x : DataW H × List MemPlace),
    DataW.trod enc Tryz.prog W 0 spare held fuel 26 cs = some x → (∀ n, n ∈ DataW.weights Tryz.prog 26 x.1 → n ≤ reachBytes) →
    ∃ t A c, cs = [.int .i64 t.k, .int .i64 t.i, .slice A t.ks.length c] ∧ IsT W W.heap.size t A c := by
  intro fuel
  induction fuel using Nat.strongRecOn with
  | ind fuel ih =>
    intro cs x h hw
    obtain ⟨xs, n, hn, hx, hlen, hxl, hf⟩ := DataW.trod_struct Tryz.underlying26 h
    rw [Tryz.cells24] at hlen
    match xs, hxl, cs, hlen with
    | [y0, y1, y2], _, [v0, v1, v2], _ =>
      have g0 := hf 0 _ rfl
      have g1 := hf 1 _ rfl
      have g2 := hf 2 _ rfl
      simp [Tryz.cells3, Tryz.cells22] at g0 g1 g2
      obtain ⟨k, e0, _, _⟩ := DataW.trod_int Tryz.underlying3 g0
      obtain ⟨i, e1, _, _⟩ := DataW.trod_int Tryz.underlying3 g1
      simp only [List.cons.injEq, and_true] at e0 e1
      subst e0 e1
      have hw2 : ∀ m, m ∈ DataW.weights Tryz.prog 22 y2.1 → m ≤ reachBytes := fun m hm => hw m (by
        rw [hx]
        simp only [List.map_cons, List.map_nil, DataW.weights, Tryz.underlying26]
        exact DataW.weights_mem_each (j := 2) (ds := [y0.1, y1.1, y2.1]) rfl rfl m hm)
      rcases DataW.trod_slice Tryz.underlying22 g2 with ⟨hcs, _⟩ | ⟨a, len, cap, elems, rest, n', hn', hcs, hy, _, hl, hm, hlen', hel, hsp', _⟩
      · simp only [List.cons.injEq, and_true] at hcs
        subst hcs
        exact ⟨.node k i [], none, 0, rfl, IsT.mk (t := .node k i []) (Nat.le_refl _) (by unfold Cap; simp [Tr.ks]) (fun m hm => absurd hm (by simp [Tr.ks]))⟩
      · simp only [List.cons.injEq, and_true] at hcs
        subst hcs
        obtain ⟨hrl, _⟩ := hsp' (hsp _)
        rw [Tryz.cells24] at hel
        have hy1 : y2.1 = .slice (elems.map (·.1)) (rest.map (·.1)) := by rw [hy]
        have hcap : len * 40 ≤ 140737488351232 := by
          have : (elems.length + rest.length) * 40 ≤ reachBytes := by
            refine hw2 _ ?_
            rw [hy1]
            simp only [DataW.weights, Tryz.underlying22, Tryz.bytes24, List.length_map]
            exact List.mem_cons_self
          unfold reachBytes at this
          omega
        have each : ∀ j, j < len → ∃ q : Tr × Option Addr × Nat, (∃ b o, some a = some (⟨b, o, none⟩ : Addr) ∧ b < W.heap.size ∧ W.cell? ⟨b, o + j * 3, none⟩ = some (.int .i64 q.1.k) ∧ W.cell? ⟨b, o + j * 3 + 1, none⟩ = some (.int .i64 q.1.i) ∧ W.cell? ⟨b, o + j * 3 + 2, none⟩ = some (.slice q.2.1 q.1.ks.length q.2.2)) ∧ IsT W W.heap.size q.1 q.2.1 q.2.2 := by
          intro j hj
          have h0 := hel j hj
          rw [List.getElem?_eq_getElem (by omega)] at h0
          obtain ⟨cs', h1, h2⟩ := Option.bind_eq_some_iff.1 h0
          obtain ⟨t, A, c, hcs', ht⟩ := ih n' (by omega) cs' _ h2 (fun n hn => hw2 n (by
            rw [hy1]
            simp only [DataW.weights, Tryz.underlying22]
            refine List.mem_cons_of_mem _ (List.mem_append_left _ (weightsAll_mem ?_ n hn))
            exact List.mem_map.2 ⟨elems[j], List.getElem_mem _, rfl⟩))
          obtain ⟨_, _, hcell⟩ := World.cells?_some h1
          subst hcs'
          have e0 := hcell 0 (by omega)
          have e1 := hcell 1 (by omega)
          have e2 := hcell 2 (by omega)
          rw [Deep.add_add] at e0 e1 e2
          simp only [List.getElem?_cons_zero, List.getElem?_cons_succ] at e0 e1 e2
          refine ⟨(t, A, c), ?_, ht⟩
          have hsp0 : a.spot = none := by
            have h0' := hel 0 (by omega)
            rw [List.getElem?_eq_getElem (by omega)] at h0'
            obtain ⟨cs2, h1', h2'⟩ := Option.bind_eq_some_iff.1 h0'
            obtain ⟨t', A', c', hcs2, _⟩ := ih n' (by omega) cs2 _ h2' (fun n hn => hw2 n (by
              rw [hy1]
              simp only [DataW.weights, Tryz.underlying22]
              refine List.mem_cons_of_mem _ (List.mem_append_left _ (weightsAll_mem ?_ n hn))
              exact List.mem_map.2 ⟨elems[0], List.getElem_mem _, rfl⟩))
            obtain ⟨_, _, hcell'⟩ := World.cells?_some h1'
            subst hcs2
            have e := hcell' 0 (by omega)
            rw [Deep.add_add] at e
            exact spot_none (a := a) (by simpa [Addr.add] using e)
          obtain ⟨b, o, sp⟩ := a
          obtain rfl : sp = none := hsp0
          rw [add_plain] at e0 e1 e2
          exact ⟨b, o, rfl, block_lt_of_cell e0, by simpa using e0, by simpa [Nat.add_assoc] using e1, by simpa [Nat.add_assoc] using e2⟩
        obtain ⟨q, hq⟩ := Deep.choose_lt each
        refine ⟨.node k i ((List.range len).map fun j => (q j).1), some a, cap, by simp [Tr.k, Tr.i, Tr.ks], ?_⟩
        refine IsT.mk (t := .node k i ((List.range len).map fun j => (q j).1)) (by simpa [Tr.ks] using hl) (by simpa [Tr.ks, Cap] using hcap) fun j hj => ?_
        have hj' : j < len := by simpa [Tr.ks] using hj
        obtain ⟨⟨b, o, h1, h2, h3, h4, h5⟩, h6⟩ := hq j hj'
        have e : (Tr.node k i ((List.range len).map fun j => (q j).1)).ks[j] = (q j).1 := by simp [Tr.ks]
        rw [e]
        exact ⟨b, o, _, _, h1, h2, h3, h4, h5, h6⟩
end Go.Proofs.YtjdhmfpkhijkeaaGreat
namespace Go.Proofs.YtjdhmfpkhijkeaaGreat
open Go.RowKit
theorem open_list {H : Type} {enc : TypeId × Value → H} {W : World} {spare : Nat → Bool} {held : Bool} (hsp : ∀ b, spare b = true) (fuel : Nat) (cs : List Value) (x : DataW H × List MemPlace)
    (h : DataW.trod enc Tryz.prog W 0 spare held fuel 22 cs = some x) (hw : ∀ n, n ∈ DataW.weights Tryz.prog 22 x.1 → n ≤ reachBytes) :
    ∃ (l : List Tr) (A : Option Addr) (c : Nat), cs = [.slice A l.length c] ∧ IsT W W.heap.size (.node 0 0 l) A c := by
  rcases DataW.trod_slice Tryz.underlying22 h with ⟨hcs, _⟩ | ⟨a, len, cap, elems, rest, n', hn', hcs, hy, _, hl, hm, hlen', hel, hsp', _⟩
  · subst hcs
    exact ⟨[], none, 0, rfl, IsT.mk (t := .node 0 0 []) (Nat.le_refl _) (by unfold Cap; simp [Tr.ks]) (fun m hm => absurd hm (by simp [Tr.ks]))⟩
  · subst hcs
    obtain ⟨hrl, _⟩ := hsp' (hsp _)
    rw [Tryz.cells24] at hel
    have hy1 : x.1 = .slice (elems.map (·.1)) (rest.map (·.1)) := by rw [hy]
    have hcap : len * 40 ≤ 140737488351232 := by
      have : (elems.length + rest.length) * 40 ≤ reachBytes := by
        refine hw _ ?_
        rw [hy1]
        simp only [DataW.weights, Tryz.underlying22, Tryz.bytes24, List.length_map]
        exact List.mem_cons_self
      unfold reachBytes at this
      omega
    have each : ∀ j, j < len → ∃ q : Tr × Option Addr × Nat, (∃ b o, some a = some (⟨b, o, none⟩ : Addr) ∧ b < W.heap.size ∧ W.cell? ⟨b, o + j * 3, none⟩ = some (.int .i64 q.1.k) ∧ W.cell? ⟨b, o + j * 3 + 1, none⟩ = some (.int .i64 q.1.i) ∧ W.cell? ⟨b, o + j * 3 + 2, none⟩ = some (.slice q.2.1 q.1.ks.length q.2.2)) ∧ IsT W W.heap.size q.1 q.2.1 q.2.2 := by
      intro j hj
      have h0 := hel j hj
      rw [List.getElem?_eq_getElem (by omega)] at h0
      obtain ⟨cs', h1, h2⟩ := Option.bind_eq_some_iff.1 h0
      obtain ⟨t, A, c, hcs', ht⟩ := open_expr hsp n' cs' _ h2 (fun n hn => hw n (by
        rw [hy1]
        simp only [DataW.weights, Tryz.underlying22]
        refine List.mem_cons_of_mem _ (List.mem_append_left _ (weightsAll_mem ?_ n hn))
        exact List.mem_map.2 ⟨elems[j], List.getElem_mem _, rfl⟩))
      obtain ⟨_, _, hcell⟩ := World.cells?_some h1
      subst hcs'
      have e0 := hcell 0 (by omega)
      have e1 := hcell 1 (by omega)
      have e2 := hcell 2 (by omega)
      rw [Deep.add_add] at e0 e1 e2
      simp only [List.getElem?_cons_zero, List.getElem?_cons_succ] at e0 e1 e2
      refine ⟨(t, A, c), ?_, ht⟩
      have hsp0 : a.spot = none := by
        have h0' := hel 0 (by omega)
        rw [List.getElem?_eq_getElem (by omega)] at h0'
        obtain ⟨cs2, h1', h2'⟩ := Option.bind_eq_some_iff.1 h0'
        obtain ⟨t', A', c', hcs2, _⟩ := open_expr hsp n' cs2 _ h2' (fun n hn => hw n (by
          rw [hy1]
          simp only [DataW.weights, Tryz.underlying22]
          refine List.mem_cons_of_mem _ (List.mem_append_left _ (weightsAll_mem ?_ n hn))
          exact List.mem_map.2 ⟨elems[0], List.getElem_mem _, rfl⟩))
        obtain ⟨_, _, hcell'⟩ := World.cells?_some h1'
        subst hcs2
        have e := hcell' 0 (by omega)
        rw [Deep.add_add] at e
        exact spot_none (a := a) (by simpa [Addr.add] using e)
      obtain ⟨b, o, sp⟩ := a
      obtain rfl : sp = none := hsp0
      rw [add_plain] at e0 e1 e2
      exact ⟨b, o, rfl, block_lt_of_cell e0, by simpa using e0, by simpa [Nat.add_assoc] using e1, by simpa [Nat.add_assoc] using e2⟩
    obtain ⟨q, hq⟩ := Deep.choose_lt each
    refine ⟨(List.range len).map fun j => (q j).1, some a, cap, by simp, ?_⟩
    refine IsT.mk (t := .node 0 0 ((List.range len).map fun j => (q j).1)) (by simpa [Tr.ks] using hl) (by simpa [Tr.ks, Cap] using hcap) fun j hj => ?_
    have hj' : j < len := by simpa [Tr.ks] using hj
    obtain ⟨⟨b, o, h1, h2, h3, h4, h5⟩, h6⟩ := hq j hj'
    have e : (Tr.node 0 0 ((List.range len).map fun j => (q j).1)).ks[j] = (q j).1 := by simp [Tr.ks]
    rw [e]
    exact ⟨b, o, _, _, h1, h2, h3, h4, h5, h6⟩
theorem Tryz.cellsParts : Tryz.prog.cellsOf 24 = 2 := by kernel_rfl
set_option maxRecDepth 100000 in
theorem open_parts {H : Type} {enc : TypeId × Value → H} {W : World} {spare : Nat → Bool} {held : Bool} (hsp : ∀ b, spare b = true) (fuel : Nat) (cs : List Value) (x : DataW H × List MemPlace)
    (h : DataW.trod enc Tryz.prog W 0 spare held fuel 24 cs = some x) (hw : ∀ n, n ∈ DataW.weights Tryz.prog 24 x.1 → n ≤ reachBytes) :
    ∃ (l : List Tr) (A : Option Addr) (c : Nat) (y : Int), cs = [.slice A l.length c, .int .i64 y] ∧ IsT W W.heap.size (.node 0 0 l) A c := by
  obtain ⟨xs, n, hn, hx, hlen, hxl, hf⟩ := DataW.trod_struct Tryz.underlying24 h
  rw [Tryz.cellsParts] at hlen
  match xs, hxl, cs, hlen with
  | [y0, y1], _, [v0, v1], _ =>
    have g0 := hf 0 _ rfl
    have g1 := hf 1 _ rfl
    simp [Tryz.cells3, Tryz.cells22] at g0 g1
    obtain ⟨k, e1, _, _⟩ := DataW.trod_int Tryz.underlying3 g1
    simp only [List.cons.injEq, and_true] at e1
    subst e1
    obtain ⟨l, A, c, hcs, ht⟩ := open_list hsp n _ _ g0 (fun m hm => hw m (by
      rw [hx]
      simp only [List.map_cons, List.map_nil, DataW.weights, Tryz.underlying24]
      exact DataW.weights_mem_each (j := 0) (ds := [y0.1, y1.1]) rfl rfl m hm))
    simp only [List.cons.injEq, and_true] at hcs
    exact ⟨l, A, c, k, by rw [hcs], ht⟩
end Go.Proofs.YtjdhmfpkhijkeaaGreat
