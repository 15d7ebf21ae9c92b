/- made of the document's layer 7, schema 4: what stands behind Into. -/
import Derived.Test.YtgnfbhemkombaaaGreatHK
namespace Go.Proofs.YtgnfbhemkombaaaGreat
open Go.RowKit
set_option linter.unusedVariables false
set_option linter.unusedSimpArgs false
theorem boxw_far {W : World} {b : Nat} (x y z u v : Value) {k : Nat} (h : k ≠ b) : (((((W.setCell ⟨b, 0, none⟩ x).setCell ⟨b, 1, none⟩ y).setCell ⟨b, 2, none⟩ z).setCell ⟨b, 3, none⟩ u).setCell ⟨b, 4, none⟩ v).heap[k]? = W.heap[k]? := setW_other _ _ _ _ _ _ _ _ h
theorem FM.setW {w W : World} {ts : List (Tr × Option Addr × Nat)} (h : FM w W ts) {b : Nat} (hb : w.heap.size + 2 ≤ b) (x y z u v : Value) (hts : ∀ q ∈ ts, FrT (fun k => RX w k ∨ k = b) W q.1 q.2.1 q.2.2) : FM w (((((W.setCell ⟨b, 0, none⟩ x).setCell ⟨b, 1, none⟩ y).setCell ⟨b, 2, none⟩ z).setCell ⟨b, 3, none⟩ u).setCell ⟨b, 4, none⟩ v) ts := by
  refine ⟨(boxw_far x y z u v (by omega)).trans h.wb, ?_, fun q hq => ?_, below_setW h.bel (by omega) _ _ _ _ _, by have := h.size; simpa using this⟩
  · obtain ⟨p, r, s, hr⟩ := h.rb
    exact ⟨p, r, s, (boxw_far x y z u v (by omega)).trans hr⟩
  · exact fun W' h1 h2 => hts q hq W' (fun k hk hn => (h1 k (by simpa using hk) (fun e => hn (.inl e))).trans (boxw_far x y z u v (fun e => hn (.inr e)))) (by simpa using h2)
/-- what comes behind Into in made: the boxes, the trees, and a box that holds what came -/
structure FW (w W : World) (ts : List (Tr × Option Addr × Nat)) (nb : Nat) (x y z u v : Value) : Prop where
  fm : FM w W ts
  wb : BoxW W nb x y z u v
  lo : w.heap.size + 2 ≤ nb
theorem FW.keep {w W W' : World} {ts : List (Tr × Option Addr × Nat)} {nb : Nat} {x y z u v : Value} (h : FW w W ts nb x y z u v) (hb : Below W.heap.size W W') : FW w W' ts nb x y z u v := ⟨h.fm.keep hb, h.wb.keep hb h.wb.lt, h.lo⟩
theorem FW.more {w W : World} {ts : List (Tr × Option Addr × Nat)} {nb : Nat} {x y z u v : Value} (h : FW w W ts nb x y z u v) {t : Tr} {B : Option Addr} {cb : Nat} (ht : FrT (RX w) W t B cb) : FW w W ((t, B, cb) :: ts) nb x y z u v := ⟨h.fm.more ht, h.wb, h.lo⟩
theorem FW.set {w W : World} {ts : List (Tr × Option Addr × Nat)} {nb : Nat} {x y z u v : Value} (h : FW w W ts nb x y z u v) (p r s : Value) : FW w (((W.setCell ⟨w.heap.size + 1, 0, none⟩ p).setCell ⟨w.heap.size + 1, 1, none⟩ r).setCell ⟨w.heap.size + 1, 2, none⟩ s) ts nb x y z u v :=
  ⟨h.fm.set p r s, ((h.wb.set_other _ _ (by have := h.lo; show nb ≠ w.heap.size + 1; omega)).set_other _ _ (by have := h.lo; show nb ≠ w.heap.size + 1; omega)).set_other _ _ (by have := h.lo; show nb ≠ w.heap.size + 1; omega), h.lo⟩
theorem fwA {w W0 w5 : World} {P a : Tr} {Q Aa : Option Addr} {cq ca lo : Nat} (hF : FM w W0 []) (hw : Below W0.heap.size W0 w5) (ho : OwnT w5 lo w5.heap.size P Q cq) (hlo : W0.heap.size ≤ lo) (fP : P.fit) (hA : ∀ (X : World) (Y : Nat → Prop), (∀ k, Y k → w.heap.size ≤ k) → Below W0.heap.size W0 X → FrT Y X a Aa ca) (x y z u v : Value) :
    FW w (w5.alloc (.cells #[x, y, z, u, v] 57)) [(P, Q, cq), (a, Aa, ca)] w5.heap.size x y z u v := by
  have z0 := hF.size
  have z5 := hw.size
  have hb := alB w5 (.cells #[x, y, z, u, v] 57)
  refine ⟨((hF.keep (hw.trans (hb.mono z5))).more (hA _ _ (fun k hk => by unfold RX at hk; omega) (hw.trans (hb.mono z5)))).more ((own_frT (X := RX w) ho (Nat.le_refl _) (fun k hk => by unfold RX at hk; omega) fP).keep hb), BoxW.new w5 x y z u v, by omega⟩
theorem fwB {w W0 w5 : World} {P a : Tr} {Q Aa : Option Addr} {cq ca lo : Nat} (hF : FM w W0 []) (hw : Below W0.heap.size W0 w5) (zb : BoxW w5 W0.heap.size (.bool false) (.int .i64 0) (.int .i64 0) (.slice none 0 0) (.int .i64 0)) (ho : OwnT w5 lo w5.heap.size P Q cq) (hlo : W0.heap.size < lo) (fP : P.fit) (hA : ∀ (X : World) (Y : Nat → Prop), (∀ k, Y k → w.heap.size ≤ k) → Below W0.heap.size W0 X → FrT Y X a Aa ca) (x y z u v : Value) :
    FW w (((((w5.setCell ⟨W0.heap.size, 0, none⟩ x).setCell ⟨W0.heap.size, 1, none⟩ y).setCell ⟨W0.heap.size, 2, none⟩ z).setCell ⟨W0.heap.size, 3, none⟩ u).setCell ⟨W0.heap.size, 4, none⟩ v) [(P, Q, cq), (a, Aa, ca)] W0.heap.size x y z u v := by
  have z0 := hF.size
  have F5 : FM w w5 [(P, Q, cq), (a, Aa, ca)] := ((hF.keep hw).more (hA _ _ (fun k hk => by unfold RX at hk; omega) hw)).more (own_frT (X := RX w) ho (Nat.le_refl _) (fun k hk => by unfold RX at hk; omega) fP)
  refine ⟨F5.setW z0 x y z u v (fun q hq => ?_), zb.set5 x y z u v, z0⟩
  simp only [List.mem_cons, List.mem_nil_iff, or_false] at hq
  rcases hq with rfl | rfl
  · exact own_frT ho (Nat.le_refl _) (fun k hk => by rcases hk with hk | hk; unfold RX at hk; omega; omega) fP
  · exact hA _ _ (fun k hk => by rcases hk with hk | hk; unfold RX at hk; omega; omega) hw
theorem fwA0 {w W0 w5 : World} (hF : FM w W0 []) (hw : Below W0.heap.size W0 w5) (x y z u v : Value) : FW w (w5.alloc (.cells #[x, y, z, u, v] 57)) [] w5.heap.size x y z u v := by
  have z0 := hF.size
  have z5 := hw.size
  exact ⟨hF.keep (hw.trans ((alB w5 _).mono z5)), BoxW.new w5 x y z u v, by omega⟩
theorem fwB0 {w W0 w5 : World} (hF : FM w W0 []) (hw : Below W0.heap.size W0 w5) (zb : BoxW w5 W0.heap.size (.bool false) (.int .i64 0) (.int .i64 0) (.slice none 0 0) (.int .i64 0)) (x y z u v : Value) :
    FW w (((((w5.setCell ⟨W0.heap.size, 0, none⟩ x).setCell ⟨W0.heap.size, 1, none⟩ y).setCell ⟨W0.heap.size, 2, none⟩ z).setCell ⟨W0.heap.size, 3, none⟩ u).setCell ⟨W0.heap.size, 4, none⟩ v) [] W0.heap.size x y z u v :=
  ⟨(hF.keep hw).setW hF.size x y z u v (fun q hq => by simp at hq), zb.set5 x y z u v, hF.size⟩
end Go.Proofs.YtgnfbhemkombaaaGreat
