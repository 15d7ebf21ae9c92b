/- begin, peek, stands, refusal, expect, excess, node of package parse. -/
import Derived.Test.YtgnfbhemkombaaaDoorP9
import Derived.Deep.RegionWith
namespace Go.Proofs.YtgnfbhemkombaaaDoor
open Go.RowKit
set_option linter.unusedVariables false
/-- the next token; behind the last one stands one of no kind -/
def pkT (sl : Nat) : List Tok → Tok
  | t :: _ => t
  | [] => ⟨0, 0, sl⟩
def tokV (t : Tok) : Value := .agg #[.int .i64 (t.k : Int), .int .i64 (t.n : Int), .int .i64 (t.p : Int)]
/-- a token's box -/
def TBox (w : World) (b : Nat) (x y z : Value) : Prop := w.heap[b]? = some (.cells #[x, y, z] 37 (0, 0))
theorem TBox.cells {w : World} {b : Nat} {x y z : Value} (h : TBox w b x y z) : w.cell? ⟨b, 0, none⟩ = some x ∧ w.cell? ⟨b, 1, none⟩ = some y ∧ w.cell? ⟨b, 2, none⟩ = some z := by
  refine ⟨?_, ?_, ?_⟩ <;> (unfold World.cell?; rw [show w.heap[b]? = _ from h]; rfl)
theorem TBox.frozen {w : World} {b : Nat} {x y z : Value} (h : TBox w b x y z) (j : Nat) : w.frozen? ⟨b, j, none⟩ = false := Go.Joins.unfrozen_of_block h j
theorem TBox.new (w : World) (x y z : Value) : TBox (w.alloc (.cells #[x, y, z] 37)) w.heap.size x y z := World.alloc_heap_new w _
theorem TBox.lt {w : World} {b : Nat} {x y z : Value} (h : TBox w b x y z) : b < w.heap.size := (Array.getElem?_eq_some_iff.1 h).1
theorem TBox.keep {w w' : World} {b : Nat} {x y z : Value} (h : TBox w b x y z) (hb : Below w.heap.size w w') : TBox w' b x y z := (hb.block _ h.lt).trans h
theorem TBox.keepR {w w' : World} {b r : Nat} {x y z : Value} (h : TBox w b x y z) (hk : KeepR r w w') (hne : b ≠ r) : TBox w' b x y z := (hk.block _ h.lt hne).trans h
theorem below_set3t {B b : Nat} {w w' : World} (h : Below B w w') (hb : B ≤ b) (x y z : Value) : Below B w (((w'.setCell ⟨b, 0, none⟩ x).setCell ⟨b, 1, none⟩ y).setCell ⟨b, 2, none⟩ z) :=
  ((h.setCell (p := ⟨b, 0, none⟩) hb _).setCell (p := ⟨b, 1, none⟩) hb _).setCell (p := ⟨b, 2, none⟩) hb _
section
variable {b : Nat} {A : Option Addr} {c : Nat} {l rest : List Tok} {sl z m : Nat}
set_option maxHeartbeats 1000000 in
set_option maxRecDepth 100000 in
theorem begin_any (d : Nat) (w : World) (h : Rdr w b A c l rest sl z m) (hz : z ≤ 1000000) :
    Calls Tryd.prog 72 #[.pointer (some ⟨b, 0, none⟩), .int .i64 (d : Int)] w fun e w' => e = .returned (.tuple #[]) ∧ Rdr w' b A c l rest sl (z + 1) (max m d) ∧ KeepR b w w' := by
  obtain ⟨c0, c1, c2, c3, c4⟩ := h.cells
  have f3 := h.frozen 3
  have f4 := h.frozen 4
  have K := Lib.hid (fun x y => (KeepR.set b 3 w x).trans (KeepR.set b 4 _ y))
  have e2 : ((z + 1 : Nat) : Int) = (z : Int) + 1 := by omega
  by_cases hd : m < d
  · have R := Lib.hid (h.set34 (z + 1) d)
    rw [e2] at R
    rw [show max m d = d by omega]
    clear h e2
    go_enter Tryd.func72, Tryd.ntmps72
    go_wp2_with fail
    go_end0
    exact ⟨rfl, R.out, K.out _ _⟩
  · have R := Lib.hid (h.set34 (z + 1) m)
    rw [e2] at R
    rw [show max m d = m by omega]
    clear h e2
    go_enter Tryd.func72, Tryd.ntmps72
    go_wp2_with fail
    go_end0
    exact ⟨rfl, R.out, K.out _ _⟩
set_option maxHeartbeats 1000000 in
set_option maxRecDepth 100000 in
theorem peek_any (w : World) (h : Rdr w b A c l rest sl z m) (hl : l.length ≤ 8000) :
    Calls Tryd.prog 73 #[.pointer (some ⟨b, 0, none⟩)] w fun e w' => e = .returned (tokV (pkT sl rest)) ∧ Below w.heap.size w w' := by
  have ha : Below w.heap.size w (w.alloc (.cells #[.int .i64 0, .int .i64 0, .int .i64 0] 37)) := (Below.refl _ _).alloc (Nat.le_refl _) _
  have h1 := h.keep ha
  obtain ⟨c0, c1, c2, c3, c4⟩ := h1.cells
  have hs := h.suf.length_le
  cases rest with
  | nil =>
    simp only [List.length_nil, Nat.sub_zero] at c1
    clear h h1
    go_enter Tryd.func73, Tryd.ntmps73
    go_wp2_with fail
    go_quiet (fail)
    have bx := TBox.new w (.int .i64 0) (.int .i64 0) (.int .i64 0)
    have D := below_drewN ha nq
    have r2 : ((w.alloc (.cells #[.int .i64 0, .int .i64 0, .int .i64 0] 37)).drewN nq).cell? ⟨b, 2, none⟩ = some (.int .i64 (sl : Int)) := c2
    have b2 : TBox ((w.alloc (.cells #[.int .i64 0, .int .i64 0, .int .i64 0] 37)).drewN nq) w.heap.size (.int .i64 0) (.int .i64 0) (.int .i64 0) := bx
    clear c0 c1 c2 c3 c4 bx ha
    generalize (w.alloc (.cells #[.int .i64 0, .int .i64 0, .int .i64 0] 37)).drewN nq = W2 at D r2 b2 ⊢
    obtain ⟨y0, y1, y2⟩ := b2.cells
    have f0 := b2.frozen 0
    have f1 := b2.frozen 1
    have f2 := b2.frozen 2
    go_wp2_with fail
    refine bodyPost_ret (v := tokV ⟨0, 0, sl⟩) (by simp [results, Tryd.results73, go_sem, tokV, y0, y1, y2]) rfl ⟨rfl, below_set3t D (Nat.le_refl _) _ _ _⟩
  | cons t r =>
    simp only [List.length_cons] at hs c1
    have hn : l.length - (r.length + 1) < l.length := by omega
    obtain ⟨g, rfl, hc, hg, p0, p1, p2⟩ := h1.toks (l.length - (r.length + 1)) hn
    have et : l[l.length - (r.length + 1)] = t := by
      obtain ⟨pre, rfl⟩ := h.suf
      simp
    rw [et] at p0 p1 p2
    obtain ⟨k, hk⟩ : ∃ k, k = l.length - (r.length + 1) := ⟨_, rfl⟩
    rw [← hk] at p0 p1 p2 c1 hn
    clear h h1 et hk
    go_enter Tryd.func73, Tryd.ntmps73
    go_wp2_with fail
    go_quiet (fail)
    go_wp2_with fail
    have bx := TBox.new w (.int .i64 0) (.int .i64 0) (.int .i64 0)
    have D := below_drewN ha nq
    have r0 : ((w.alloc (.cells #[.int .i64 0, .int .i64 0, .int .i64 0] 37)).drewN nq).cell? ⟨b, 0, none⟩ = some (.slice (some ⟨g, 0, none⟩) l.length c) := c0
    have r1 : ((w.alloc (.cells #[.int .i64 0, .int .i64 0, .int .i64 0] 37)).drewN nq).cell? ⟨b, 1, none⟩ = some (.int .i64 (k : Int)) := c1
    have q0 : ((w.alloc (.cells #[.int .i64 0, .int .i64 0, .int .i64 0] 37)).drewN nq).cell? ⟨g, k * 3, none⟩ = some (.int .i64 (t.k : Int)) := p0
    have q1 : ((w.alloc (.cells #[.int .i64 0, .int .i64 0, .int .i64 0] 37)).drewN nq).cell? ⟨g, k * 3 + 1, none⟩ = some (.int .i64 (t.n : Int)) := p1
    have q2 : ((w.alloc (.cells #[.int .i64 0, .int .i64 0, .int .i64 0] 37)).drewN nq).cell? ⟨g, k * 3 + 2, none⟩ = some (.int .i64 (t.p : Int)) := p2
    have b2 : TBox ((w.alloc (.cells #[.int .i64 0, .int .i64 0, .int .i64 0] 37)).drewN nq) w.heap.size (.int .i64 0) (.int .i64 0) (.int .i64 0) := bx
    clear c0 c1 c2 c3 c4 p0 p1 p2 bx ha hg
    generalize (w.alloc (.cells #[.int .i64 0, .int .i64 0, .int .i64 0] 37)).drewN nq = W2 at D r0 r1 q0 q1 q2 b2 ⊢
    obtain ⟨y0, y1, y2⟩ := b2.cells
    have f0 := b2.frozen 0
    have f1 := b2.frozen 1
    have f2 := b2.frozen 2
    go_still_tail 10, (by kernel_rfl)
    change wpList _ _ _ _ _ W2.drew
    have b3 : TBox W2.drew w.heap.size (.int .i64 0) (.int .i64 0) (.int .i64 0) := b2
    have D3 : Below w.heap.size w W2.drew := D.trans ⟨rfl, rfl, rfl, Nat.le_refl _, fun _ _ => rfl⟩
    clear r0 r1 q0 q1 q2 b2 y0 y1 y2 f0 f1 f2 D
    generalize W2.drew = W3 at b3 D3 ⊢
    obtain ⟨y0, y1, y2⟩ := b3.cells
    have f0 := b3.frozen 0
    have f1 := b3.frozen 1
    have f2 := b3.frozen 2
    go_wp2_with fail
    refine bodyPost_ret (v := tokV t) (by simp [results, Tryd.results73, go_sem, tokV, y0, y1, y2]) rfl ⟨rfl, below_set3t D3 (Nat.le_refl _) _ _ _⟩
set_option maxHeartbeats 1000000 in
set_option maxRecDepth 100000 in
theorem stands_any (x : Nat) (w : World) (h : Rdr w b A c l rest sl z m) (hl : l.length ≤ 8000) :
    Calls Tryd.prog 101 #[.pointer (some ⟨b, 0, none⟩), .int .i64 (x : Int)] w fun e w' => e = .returned (.bool (stands x rest)) ∧ Below w.heap.size w w' := by
  have PK := Lib.hid (peek_any w h hl)
  have ST : stands x rest = ((pkT sl rest).k == 4 && (pkT sl rest).n == x) := by cases rest <;> simp [stands, pkT]
  rw [ST]
  clear h ST
  generalize pkT sl rest = t at PK ⊢
  by_cases h4 : t.k = 4
  · have e4 : ((t.k : Int) == 4) = true := by simp [h4]
    by_cases hx : t.n = x
    · have ex : ((t.n : Int) == (x : Int)) = true := by simp [hx]
      rw [show (t.k == 4 && t.n == x) = true by simp [h4, hx]]
      clear h4 hx
      go_enter Tryd.func101, Tryd.ntmps101
      go_wp2_with fail
      refine PK.out.mono ?_
      rintro e w1 ⟨rfl, hb1⟩
      unfold tokV
      go_wp2_with fail
      go_ret
      exact ⟨rfl, hb1.alloc hb1.size _⟩
    · have ex : ((t.n : Int) == (x : Int)) = false := by rw [beq_eq_false_iff_ne]; omega
      rw [show (t.k == 4 && t.n == x) = false by simp [hx]]
      clear h4 hx
      go_enter Tryd.func101, Tryd.ntmps101
      go_wp2_with fail
      refine PK.out.mono ?_
      rintro e w1 ⟨rfl, hb1⟩
      unfold tokV
      go_wp2_with fail
      go_ret
      exact ⟨rfl, hb1.alloc hb1.size _⟩
  · have e4 : ((t.k : Int) == 4) = false := by rw [beq_eq_false_iff_ne]; omega
    rw [show (t.k == 4 && t.n == x) = false by simp [h4]]
    clear h4
    go_enter Tryd.func101, Tryd.ntmps101
    go_wp2_with fail
    refine PK.out.mono ?_
    rintro e w1 ⟨rfl, hb1⟩
    unfold tokV
    go_wp2_with fail
    go_ret
    exact ⟨rfl, hb1.alloc hb1.size _⟩
theorem pk_place (sl : Nat) (rest : List Tok) : (pkT sl rest).p = placeN sl rest := by cases rest <;> rfl
set_option maxHeartbeats 1000000 in
set_option maxRecDepth 100000 in
theorem refusal_any (w : World) (h : Rdr w b A c l rest sl z m) (hl : l.length ≤ 8000) :
    Calls Tryd.prog 70 #[.pointer (some ⟨b, 0, none⟩)] w fun e w' => e = .returned (.agg #[.int .i64 32, .int .i64 ((placeN sl rest : Nat) : Int)]) ∧ Below w.heap.size w w' := by
  have ha : Below w.heap.size w (w.alloc (.cells #[.int .i64 0, .int .i64 0] 88)) := (Below.refl _ _).alloc (Nat.le_refl _) _
  have PK := Lib.hid (peek_any _ (h.keep ha) hl)
  have hbox : (w.alloc (.cells #[.int .i64 0, .int .i64 0] 88)).heap[w.heap.size]? = some (.cells #[.int .i64 0, .int .i64 0] 88 (0, 0)) := World.alloc_heap_new w _
  rw [← pk_place]
  clear h
  generalize pkT sl rest = t at PK ⊢
  have hfl : ∀ (x y z : Value) (W : World), (Instr.field 37 (.agg #[x, y, z]) 2).run Tryd.prog W = .ok z W := fun x y z W => by kernel_rfl
  go_enter Tryd.func70, Tryd.ntmps70
  go_wp2_with fail
  refine PK.out.mono ?_
  rintro e w1 ⟨rfl, hb1⟩
  have hb := (hb1.block _ (by simp)).trans hbox
  have y0 := Go.Joins.cell_of_block hb 0
  have y1 := Go.Joins.cell_of_block hb 1
  have f0 := Go.Joins.unfrozen_of_block hb 0
  have f1 := Go.Joins.unfrozen_of_block hb 1
  simp at y0 y1
  have B1 := Lib.hid (ha.trans (hb1.mono (by simp)))
  clear hb hb1 hbox ha
  unfold tokV
  go_wp2_with fail
  refine bodyPost_ret (v := .agg #[.int .i64 32, .int .i64 (t.p : Int)]) (by simp [results, Tryd.results70, go_sem, y0, y1]) rfl ⟨rfl, ?_⟩
  exact (B1.out.setCell (p := ⟨w.heap.size, 0, none⟩) (Nat.le_refl _) _).setCell (p := ⟨w.heap.size, 1, none⟩) (Nat.le_refl _) _
end
end Go.Proofs.YtgnfbhemkombaaaDoor
