/- Vars, Free, Bound, NotFree of package free. -/
import Derived.Test.YtmmdhlemkcddmaaF5
import Derived.Test.YtmmdhlemkcddmaaE9
import Derived.Test.YtmmdhlemkcddmaaF3
namespace Go.Proofs.Ytmmdhlemkcddmaa
open Go.RowKit
set_option linter.unusedVariables false
set_option linter.unusedSimpArgs false
/-- block p is a variable that holds the function wf -/
def FnBox (W : World) (p wf : Nat) : Prop := W.heap[p]? = some (.cells #[.func (.func wf) #[] #[]] 130 (0, 0))
theorem FnBox.cell {W : World} {p wf : Nat} (h : FnBox W p wf) : W.cell? ⟨p, 0, none⟩ = some (.func (.func wf) #[] #[]) := by
  unfold FnBox at h
  simp [World.cell?, h]
theorem FnBox.lt {W : World} {p wf : Nat} (h : FnBox W p wf) : p < W.heap.size := (Array.getElem?_eq_some_iff.1 h).1
theorem FnBox.keep {W W' : World} {p wf : Nat} (h : FnBox W p wf) (hb : Below W.heap.size W W') : FnBox W' p wf := (hb.block p h.lt).trans h
/-- what asks of a node -/
def Asks (wf : Nat) (wB : Int → Int → Nat → Bool) : Prop := ∀ (k i : Int) (A : Option Addr) (n c ar : Nat) (W : World), U64 ar → Calls Try.prog wf #[.agg #[.int .i64 k, .int .i64 i, .slice A n c], .int .u64 (ar : Int)] W fun e W' => e = .returned (.bool (wB k i ar)) ∧ Below W.heap.size W W'
def gOf (wB : Int → Int → Nat → Bool) (k i : Int) (ar acc : Nat) : Nat := if wB k i ar = true then withN acc i else acc
set_option maxHeartbeats 2000000 in
set_option maxRecDepth 100000 in
theorem ids1_any (wf p b : Nat) (hpb : p ≠ b) (wB : Int → Int → Nat → Bool) (hE : ∀ (args : Array Value) (w : World), Sem.run Try.prog (callFunc wf args) w = .ok (.enter wf args) w) (hW : Asks wf wB) : Finds 139 p b (gOf wB) (fun W => FnBox W p wf) := by
  intro k i A n c ar s W hUa hUs hS hI
  have hbw := hS.lt
  have hpw := hI.lt
  have hb0 : Below W.heap.size W (W.alloc (.cells #[.int .i64 k, .int .i64 i, .slice A n c] 24)) := (Below.refl _ _).alloc (Nat.le_refl _) _
  obtain ⟨y0, y1, y2⟩ := box_new W (.int .i64 k) (.int .i64 i) (.slice A n c) 24
  have fc := (hI.keep hb0).cell
  have S0 := Lib.hid (hS.keep hb0)
  have HB0 := Lib.hid hb0
  have BX := Lib.hid (Box3.new W (.int .i64 k) (.int .i64 i) (.slice A n c))
  have WC := Lib.hid (hW k i A n c ar (W.alloc (.cells #[.int .i64 k, .int .i64 i, .slice A n c] 24)) hUa)
  have HUs := Lib.hid hUs
  clear hb0 hS hI hW hUa hUs
  go_enter Try.func139, Try.ntmps139
  go_wp2_with fail
  refine WC.out.mono ?_
  rintro e w1 ⟨rfl, hb1⟩
  have S1 := Lib.hid (S0.out.keep hb1)
  have K1 := Lib.hid ((KeepX.of_below (b := b) HB0.out).trans (KeepX.of_below hb1))
  obtain ⟨z0, z1, z2⟩ := (BX.out.keep hb1 BX.out.lt).cells
  have sc := S1.out.cell
  have sf := S1.out.frozen
  clear hb1 y0 y1 y2 fc
  cases hw : wB k i ar with
  | true =>
    have G := Lib.hid (show gOf wB k i ar s = withN s i by unfold gOf; rw [if_pos hw])
    go_wp2_with fail
    refine (with_any s i _ HUs.out).mono ?_
    rintro e w9 ⟨rfl, hw9⟩
    rw [← hw9]
    clear hw9
    go_wp2_with fail
    go_end0
    exact ⟨rfl, by rw [G.out]; exact S1.out.set _, K1.out.trans (KeepX.set b 0 _ _)⟩
  | false =>
    have G := Lib.hid (show gOf wB k i ar s = s by unfold gOf; rw [if_neg (by rw [hw]; simp)])
    go_wp2_with fail
    go_end0
    exact ⟨rfl, by rw [G.out]; exact S1.out, K1.out⟩
theorem stay_gOf (wB : Int → Int → Nat → Bool) : StayU (gOf wB) := fun k i ar acc _ hc => by unfold gOf; split; exact withU _ hc; exact hc
set_option maxHeartbeats 2000000 in
set_option maxRecDepth 100000 in
theorem idsOf_any (wf : Nat) (wB : Int → Int → Nat → Bool) (hE : ∀ (args : Array Value) (w : World), Sem.run Try.prog (callFunc wf args) w = .ok (.enter wf args) w) (hW : Asks wf wB) (t : Tr) (A : Option Addr) (c : Nat) (w : World) (ht : IsT w w.heap.size t A c) :
    Calls Try.prog 110 #[.agg #[.int .i64 t.k, .int .i64 t.i, .slice A t.ks.length c], .func (.func wf) #[] #[]] w fun e w' => e = .returned (.tuple #[.int .u64 (valR (fun t => foldV (gOf wB) t 0 0) t : Nat), .int .i64 (rightN t : Nat)]) ∧ Below w.heap.size w w' := by
  have hmf : ∀ (fn : Fn) (first cap : Array Value) (w : World), (Instr.makeFunc fn first cap).run Try.prog w = .ok (.func fn first cap) w := fun _ _ _ _ => rfl
  have O0 := One.new ht
  have hb1 : Below (w.alloc (.cells #[.int .i64 t.k, .int .i64 t.i, .slice A t.ks.length c] 24)).heap.size (w.alloc (.cells #[.int .i64 t.k, .int .i64 t.i, .slice A t.ks.length c] 24)) ((w.alloc (.cells #[.int .i64 t.k, .int .i64 t.i, .slice A t.ks.length c] 24)).alloc (.cells #[.func (.func wf) #[] #[]] 130)) := (Below.refl _ _).alloc (Nat.le_refl _) _
  have O1 := Lib.hid (O0.keep hb1)
  have FB := Lib.hid (show FnBox ((w.alloc (.cells #[.int .i64 t.k, .int .i64 t.i, .slice A t.ks.length c] 24)).alloc (.cells #[.func (.func wf) #[] #[]] 130)) (w.heap.size + 1) wf by
    have := World.alloc_heap_new (w.alloc (.cells #[.int .i64 t.k, .int .i64 t.i, .slice A t.ks.length c] 24)) (.cells #[.func (.func wf) #[] #[]] 130)
    rw [World.size_alloc] at this
    exact this)
  have b0 := O1.out.b0
  have b1 := O1.out.b1
  have b2 := O1.out.b2
  have HE := Lib.hid hE
  have HW := Lib.hid hW
  clear hb1 O0 ht hE hW
  go_enter Try.func110, Try.ntmps110
  go_wp2_with fail
  refine (right_any t A c _ (by exact O1.out.tree)).mono ?_
  rintro e w1 ⟨rfl, hb2⟩
  have O2 := Lib.hid (O1.out.keep hb2)
  have FB2 := Lib.hid (FB.out.keep hb2)
  clear hb2 b0 b1 b2
  by_cases hr : rightN t = 0
  · have h0 : ((rightN t : Int) != 0) = false := by simp [hr]
    have V := Lib.hid (valR_ok (f := fun t => foldV (gOf wB) t 0 0) hr)
    have R := Lib.hid hr
    have ha : ∀ o, Below w1.heap.size w1 (w1.alloc o) := fun o => (Below.refl _ _).alloc (Nat.le_refl _) _
    have O3 := Lib.hid (fun o => O2.out.keep (ha o))
    have c0 := fun o => (O3.out o).b0
    have c1 := fun o => (O3.out o).b1
    have c2 := fun o => (O3.out o).b2
    have VC := Lib.hid (fvisit_any 139 (w.heap.size + 1) w1.heap.size w1.heap.size (gOf wB) (fun W => FnBox W (w.heap.size + 1) wf) (Nat.le_refl _) (stay_gOf wB) (fun X Y hk hx => (hk.block _ hx.lt (by have := FB2.out.lt; omega)).trans hx) (fun _ _ => by first | (go_simp; done) | rfl) (ids1_any wf (w.heap.size + 1) w1.heap.size (by have := FB2.out.lt; omega) wB HE.out HW.out) t.sz t A c 0 0 (w1.alloc (.cells #[.int .u64 0] 55)) (Nat.le_refl _) (O2.out.tree.keep (ha _) (Nat.le_refl _)) zero_U zero_U (World.alloc_heap_new w1 _) (FB2.out.keep (ha _)))
    have HA := Lib.hid ha
    have hz := O2.out.size
    clear hr ha
    go_wp2_with fail
    refine VC.out.mono ?_
    rintro e w3 ⟨rfl, hS, hK⟩
    have sc := hS.cell
    have BB := Lib.hid ((O3.out _).below.trans (hK.below (B := w.heap.size) (by omega) (by simp; omega)))
    clear hS hK
    go_wp2_with fail
    go_ret2
    exact ⟨by rw [V.out, R.out]; rfl, BB.out⟩
  · have h0 : ((rightN t : Int) != 0) = true := by rw [bne_iff_ne]; omega
    have V := Lib.hid (valR_bad (f := fun t => foldV (gOf wB) t 0 0) hr)
    clear hr
    go_wp2_with fail
    go_ret2
    exact ⟨by rw [V.out]; rfl, O2.out.below⟩
end Go.Proofs.Ytmmdhlemkcddmaa
