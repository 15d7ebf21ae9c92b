/- The document's Size, Depth, Right, First, by, Order, Like, Same, Compare, IsTerm, IsFormula. -/
import Derived.Test.YtgnfbhemkombaaaDoorE2
import Derived.Test.YtgnfbhemkombaaaDoorT3
import Derived.Deep.QuietTactic
import Derived.BigQuiet
import Derived.Lib.QuietBelow
namespace Go.Proofs.YtgnfbhemkombaaaDoor
open Go.RowKit
/-- the value of a tree whose kids lie behind (A, c) -/
theorem keep_box {w w1 : World} {B b : Nat} {x y z : Value} (h : Below B w w1) (hb : b < B) (h0 : w.cell? ⟨b, 0, none⟩ = some x ∧ w.cell? ⟨b, 1, none⟩ = some y ∧ w.cell? ⟨b, 2, none⟩ = some z) :
    w1.cell? ⟨b, 0, none⟩ = some x ∧ w1.cell? ⟨b, 1, none⟩ = some y ∧ w1.cell? ⟨b, 2, none⟩ = some z :=
  ⟨(h.cell hb).trans h0.1, (h.cell hb).trans h0.2.1, (h.cell hb).trans h0.2.2⟩
theorem box_new (w : World) (x y z : Value) (t : TypeId) : (w.alloc (.cells #[x, y, z] t)).cell? ⟨w.heap.size, 0, none⟩ = some x ∧ (w.alloc (.cells #[x, y, z] t)).cell? ⟨w.heap.size, 1, none⟩ = some y ∧ (w.alloc (.cells #[x, y, z] t)).cell? ⟨w.heap.size, 2, none⟩ = some z :=
  ⟨cell_new3 _ _ _ 0, cell_new3 _ _ _ 1, cell_new3 _ _ _ 2⟩
theorem two_boxes {w w1 : World} {x y z x' y' z' : Value} {t t' : TypeId} (h : Below (w.heap.size + 2) ((w.alloc (.cells #[x, y, z] t)).alloc (.cells #[x', y', z'] t')) w1) :
    (w1.cell? ⟨w.heap.size, 0, none⟩ = some x ∧ w1.cell? ⟨w.heap.size, 1, none⟩ = some y ∧ w1.cell? ⟨w.heap.size, 2, none⟩ = some z) ∧
    (w1.cell? ⟨w.heap.size + 1, 0, none⟩ = some x' ∧ w1.cell? ⟨w.heap.size + 1, 1, none⟩ = some y' ∧ w1.cell? ⟨w.heap.size + 1, 2, none⟩ = some z') := by
  have e := keep_box h (b := w.heap.size) (by omega) (keep_box (((Below.refl (w.heap.size + 1) _).alloc (by simp) _)) (by omega) (box_new w x y z t))
  have e' := box_new (w.alloc (.cells #[x, y, z] t)) x' y' z' t'
  rw [World.size_alloc] at e'
  exact ⟨e, keep_box h (by omega) e'⟩
/-! ### Size, Depth -/
set_option maxHeartbeats 400000 in
theorem rsize_any (t : Tr) (A : Option Addr) (c : Nat) (w : World) (ht : IsT w w.heap.size t A c) :
    Calls Tryd.prog 23 #[.agg #[.int .i64 t.k, .int .i64 t.i, .slice A t.ks.length c]] w fun e w' => e = .returned (.int .i64 (min t.sz 1001 : Nat)) ∧ Below w.heap.size w w' := by
  have hb0 : Below w.heap.size w (w.alloc (.cells #[.int .i64 t.k, .int .i64 t.i, .slice A t.ks.length c] 24)) := (Below.refl _ _).alloc (Nat.le_refl _) _
  have HT := Lib.hid (ht.keep hb0 hb0.size)
  clear ht
  go_enter Tryd.func23, Tryd.ntmps23
  go_wp2_with fail
  refine (sizeUpTo_any t.sz t A c 1001 _ (Nat.le_refl _) (by exact HT.out) (by omega) (by omega)).mono ?_
  rintro e w' ⟨rfl, hb⟩
  go_wp2_with fail
  go_ret
  exact ⟨rfl, hb0.trans (hb.mono hb0.size)⟩
set_option maxHeartbeats 400000 in
theorem rdepth_any (t : Tr) (A : Option Addr) (c : Nat) (w : World) (ht : IsT w w.heap.size t A c) :
    Calls Tryd.prog 24 #[.agg #[.int .i64 t.k, .int .i64 t.i, .slice A t.ks.length c]] w fun e w' => e = .returned (.int .i64 (min t.dp 101 : Nat)) ∧ Below w.heap.size w w' := by
  have hb0 : Below w.heap.size w (w.alloc (.cells #[.int .i64 t.k, .int .i64 t.i, .slice A t.ks.length c] 24)) := (Below.refl _ _).alloc (Nat.le_refl _) _
  have HT := Lib.hid (ht.keep hb0 hb0.size)
  clear ht
  go_enter Tryd.func24, Tryd.ntmps24
  go_wp2_with fail
  refine (depthUpTo_any t.sz t A c 101 _ (Nat.le_refl _) (by exact HT.out) (by omega) (by omega)).mono ?_
  rintro e w' ⟨rfl, hb⟩
  go_wp2_with fail
  go_ret
  exact ⟨rfl, hb0.trans (hb.mono hb0.size)⟩
/-! ### Right -/
set_option maxHeartbeats 1000000 in
theorem rright_any (t : Tr) (A : Option Addr) (c : Nat) (w : World) (ht : IsT w w.heap.size t A c) :
    Calls Tryd.prog 10 #[.agg #[.int .i64 t.k, .int .i64 t.i, .slice A t.ks.length c]] w fun e w' => e = .returned (.int .i64 (rightN t : Nat)) ∧ Below w.heap.size w w' := by
  have hb0 : Below w.heap.size w (w.alloc (.cells #[.int .i64 t.k, .int .i64 t.i, .slice A t.ks.length c] 24)) := (Below.refl _ _).alloc (Nat.le_refl _) _
  have HT := Lib.hid (ht.keep hb0 hb0.size)
  clear ht
  go_enter Tryd.func10, Tryd.ntmps10
  go_wp2_with fail
  refine (rsize_any t A c _ (by exact HT.out)).mono ?_
  rintro e w1 ⟨rfl, hb1⟩
  have hx1 := hb1.size
  simp at hx1
  obtain ⟨f0, f1, f2⟩ := box_cells (hb1.mono (by simp))
  have hc1 : Below w.heap.size w w1 := hb0.trans (hb1.mono hb0.size)
  have HT1 := Lib.hid (HT.out.keep hb1 hb1.size)
  obtain ⟨s, hs⟩ : ∃ s, s = min t.sz 1001 := ⟨_, rfl⟩
  rw [← hs]
  have HS := Lib.hid hs
  clear hs
  by_cases h1 : 1000 < s
  · have F := Lib.hid (show rightN t = 20 by unfold rightN; rw [if_pos (by have := HS.out; omega)])
    go_wp2_with fail
    go_ret
    exact ⟨ret_int (by rw [F.out]; rfl), hc1⟩
  · go_wp2_with fail
    refine (rdepth_any t A c _ (by exact HT1.out)).mono ?_
    rintro e w2 ⟨rfl, hb2⟩
    have hx2 := hb2.size
    obtain ⟨g0, g1, g2⟩ := keep_box hb2 (by omega) ⟨f0, f1, f2⟩
    have hc2 : Below w.heap.size w w2 := hc1.trans (hb2.mono hc1.size)
    have HT2 := Lib.hid (HT1.out.keep hb2 hb2.size)
    clear f0 f1 f2
    obtain ⟨d, hd⟩ : ∃ d, d = min t.dp 101 := ⟨_, rfl⟩
    rw [← hd]
    have HD := Lib.hid hd
    clear hd
    by_cases h2 : 100 < d
    · have F := Lib.hid (show rightN t = 21 by unfold rightN; rw [if_neg (by have := HS.out; omega), if_pos (by have := HD.out; omega)])
      go_wp2_with fail
      go_ret
      exact ⟨ret_int (by rw [F.out]; rfl), hc2⟩
    · go_wp2_with fail
      refine (shaped_any t.sz t A c _ (Nat.le_refl _) (by exact HT2.out)).mono ?_
      rintro e w3 ⟨rfl, hb3⟩
      cases h3 : t.shp with
      | true =>
        have F := Lib.hid (show rightN t = 0 by unfold rightN; rw [if_neg (by have := HS.out; omega), if_neg (by have := HD.out; omega), h3]; rfl)
        go_wp2_with fail
        go_ret
        exact ⟨ret_int (by rw [F.out]; rfl), hc2.trans (hb3.mono hc2.size)⟩
      | false =>
        have F := Lib.hid (show rightN t = 22 by unfold rightN; rw [if_neg (by have := HS.out; omega), if_neg (by have := HD.out; omega), h3]; rfl)
        go_wp2_with fail
        go_ret
        exact ⟨ret_int (by rw [F.out]; rfl), hc2.trans (hb3.mono hc2.size)⟩
/-! ### First -/
def firstN (a b : Tr) : Nat := if rightN a ≠ 0 then rightN a else rightN b
theorem rightN_le (t : Tr) : rightN t ≤ 22 := by unfold rightN; repeat' split
                                                 all_goals omega
/-! ### by -/
set_option maxHeartbeats 400000 in
theorem by_any (a b : Int) (w : World) : Calls Tryd.prog 56 #[.int .i64 a, .int .i64 b] w fun e w' => e = .returned (.int .i64 (byI a b)) ∧ w = w' := by
  rcases byI_cases a b with ⟨h, h'⟩ | ⟨h, h'⟩ | ⟨h, h'⟩
  all_goals
    have H := Lib.hid h
    clear h
  · go_enter Tryd.func56, Tryd.ntmps56
    go_wp2_with fail
    go_ret
    exact ⟨ret_int (by rw [H.out]), rfl⟩
  · subst h'
    go_enter Tryd.func56, Tryd.ntmps56
    go_wp2_with fail
    go_ret
    exact ⟨ret_int (by rw [H.out]), rfl⟩
  · have h2 : ¬ a < b := by omega
    go_enter Tryd.func56, Tryd.ntmps56
    go_wp2_with fail
    go_ret
    exact ⟨ret_int (by rw [H.out]), rfl⟩
end Go.Proofs.YtgnfbhemkombaaaDoor
