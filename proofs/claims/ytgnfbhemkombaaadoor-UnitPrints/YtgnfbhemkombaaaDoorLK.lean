/- Two trees at hand; the document's Like. -/
import Derived.Test.YtgnfbhemkombaaaDoorE4
namespace Go.Proofs.YtgnfbhemkombaaaDoor
open Go.RowKit
/-! ### two trees handed in, boxed -/
/-- the two boxes, the two trees, in a later world -/
structure Two (w wr : World) (a b : Tr) (A A' : Option Addr) (c c' : Nat) : Prop where
  b0 : wr.cell? ⟨w.heap.size, 0, none⟩ = some (.int .i64 a.k)
  b1 : wr.cell? ⟨w.heap.size, 1, none⟩ = some (.int .i64 a.i)
  b2 : wr.cell? ⟨w.heap.size, 2, none⟩ = some (.slice A a.ks.length c)
  d0 : wr.cell? ⟨w.heap.size + 1, 0, none⟩ = some (.int .i64 b.k)
  d1 : wr.cell? ⟨w.heap.size + 1, 1, none⟩ = some (.int .i64 b.i)
  d2 : wr.cell? ⟨w.heap.size + 1, 2, none⟩ = some (.slice A' b.ks.length c')
  ta : IsT wr wr.heap.size a A c
  tb : IsT wr wr.heap.size b A' c'
  below : Below w.heap.size w wr
  size : w.heap.size + 2 ≤ wr.heap.size
theorem two_start {w : World} {a b : Tr} {A A' : Option Addr} {c c' : Nat} (ha : IsT w w.heap.size a A c) (hb : IsT w w.heap.size b A' c') :
    Two w ((w.alloc (.cells #[.int .i64 a.k, .int .i64 a.i, .slice A a.ks.length c] 24)).alloc (.cells #[.int .i64 b.k, .int .i64 b.i, .slice A' b.ks.length c'] 24)) a b A A' c c' := by
  have h1 : Below w.heap.size w ((w.alloc (.cells #[.int .i64 a.k, .int .i64 a.i, .slice A a.ks.length c] 24)).alloc (.cells #[.int .i64 b.k, .int .i64 b.i, .slice A' b.ks.length c'] 24)) := ((Below.refl _ _).alloc (Nat.le_refl _) _).alloc (by simp) _
  obtain ⟨⟨f0, f1, f2⟩, g0, g1, g2⟩ := two_boxes (Below.refl (w.heap.size + 2) ((w.alloc (.cells #[.int .i64 a.k, .int .i64 a.i, .slice A a.ks.length c] 24)).alloc (.cells #[.int .i64 b.k, .int .i64 b.i, .slice A' b.ks.length c'] 24)))
  exact ⟨f0, f1, f2, g0, g1, g2, ha.keep h1 h1.size, hb.keep h1 h1.size, h1, by simp⟩
theorem Two.keep {w wr w1 : World} {a b : Tr} {A A' : Option Addr} {c c' : Nat} (h : Two w wr a b A A' c c') (hb : Below wr.heap.size wr w1) : Two w w1 a b A A' c c' := by
  have hs := h.size
  have e : ∀ {p : Addr} {v : Value}, wr.cell? p = some v → w1.cell? p = some v := fun hv => (hb.cell (block_lt_of_cell hv)).trans hv
  exact ⟨e h.b0, e h.b1, e h.b2, e h.d0, e h.d1, e h.d2, h.ta.keep hb hb.size, h.tb.keep hb hb.size, h.below.trans (hb.mono h.below.size), Nat.le_trans hs hb.size⟩
def likeB (a b : Tr) : Bool := decide (cmpT a b = 0)
set_option maxHeartbeats 1000000 in
theorem like_any (a b : Tr) (A A' : Option Addr) (c c' : Nat) (w : World) (ha : IsT w w.heap.size a A c) (hb : IsT w w.heap.size b A' c') :
    Calls Tryd.prog 12 #[.agg #[.int .i64 a.k, .int .i64 a.i, .slice A a.ks.length c], .agg #[.int .i64 b.k, .int .i64 b.i, .slice A' b.ks.length c']] w fun e w' => e = .returned (.bool (likeB a b)) ∧ Below w.heap.size w w' := by
  have T0 := Lib.hid (two_start ha hb)
  clear ha hb
  by_cases hc : cmpT a b = 0
  · have hc1 : (cmpT a b == 0) = true := by simpa using hc
    have G := Lib.hid (show likeB a b = true by unfold likeB; rw [decide_eq_true hc])
    clear hc
    go_enter Tryd.func12, Tryd.ntmps12
    go_wp2_with (go_at_call 28; refine (order_any a.sz a b A A' c c' _ (Nat.le_refl _) (by exact T0.out.ta) (by exact T0.out.tb)).mono ?_; rintro e w1 ⟨rfl, hb1⟩)
    go_ret
    exact ⟨by rw [G.out]; rfl, (T0.out.keep hb1).below⟩
  · have hc1 : (cmpT a b == 0) = false := by simpa using hc
    have G := Lib.hid (show likeB a b = false by unfold likeB; rw [decide_eq_false hc])
    clear hc
    go_enter Tryd.func12, Tryd.ntmps12
    go_wp2_with (go_at_call 28; refine (order_any a.sz a b A A' c c' _ (Nat.le_refl _) (by exact T0.out.ta) (by exact T0.out.tb)).mono ?_; rintro e w1 ⟨rfl, hb1⟩)
    go_ret
    exact ⟨by rw [G.out]; rfl, (T0.out.keep hb1).below⟩
end Go.Proofs.YtgnfbhemkombaaaDoor
