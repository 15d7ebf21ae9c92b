/- The document's Size, Depth, Right, First, by, Order, Like, Same, Compare, IsTerm, IsFormula. -/
import Derived.Test.YtgnfbhemkombaaaGreatE2
import Derived.Test.YtgnfbhemkombaaaGreatT3
import Derived.Deep.QuietTactic
import Derived.BigQuiet
import Derived.Lib.QuietBelow
namespace Go.Proofs.YtgnfbhemkombaaaGreat
open Go.RowKit
/-- the value of a tree whose kids lie behind (A, c) -/
theorem keep_box {w w1 : World} {B b : Nat} {x y z : Value} (h : Below B w w1) (hb : b < B) (h0 : w.cell? ⟨b, 0, none⟩ = some x ∧ w.cell? ⟨b, 1, none⟩ = some y ∧ w.cell? ⟨b, 2, none⟩ = some z) :
    w1.cell? ⟨b, 0, none⟩ = some x ∧ w1.cell? ⟨b, 1, none⟩ = some y ∧ w1.cell? ⟨b, 2, none⟩ = some z :=
  ⟨(h.cell hb).trans h0.1, (h.cell hb).trans h0.2.1, (h.cell hb).trans h0.2.2⟩
theorem box_new (w : World) (x y z : Value) (t : TypeId) : (w.alloc (.cells #[x, y, z] t)).cell? ⟨w.heap.size, 0, none⟩ = some x ∧ (w.alloc (.cells #[x, y, z] t)).cell? ⟨w.heap.size, 1, none⟩ = some y ∧ (w.alloc (.cells #[x, y, z] t)).cell? ⟨w.heap.size, 2, none⟩ = some z :=
  ⟨cell_new3 _ _ _ 0, cell_new3 _ _ _ 1, cell_new3 _ _ _ 2⟩
theorem two_boxes {w w1 : World} {x y z x' y' z' : Value} {t t' : TypeId} (h : Below (w.heap.size + 2) ((w.alloc (.cells #[x, y, z] t)).alloc (.cells #[x', y', z'] t')) w1) :
    (w1.cell? ⟨w.heap.size, 0, none⟩ = some x ∧ w1.cell? ⟨w.heap.size, 1, none⟩ = some y ∧ w1.cell? ⟨w.heap.size, 2, none⟩ = some z) ∧
    (w1.cell? ⟨w.heap.size + 1, 0, none⟩ = some x' ∧ w1.cell? ⟨w.heap.size + 1, 1, none⟩ = some y' ∧ w1.cell? ⟨w.heap.size + 1, 2, none⟩ = some z') := by
  have e := keep_box h (b := w.heap.size) (by omega) (keep_box (((Below.refl (w.heap.size + 1) _).alloc (by simp) _)) (by omega) (box_new w x y z t))
  have e' := box_new (w.alloc (.cells #[x, y, z] t)) x' y' z' t'
  rw [World.size_alloc] at e'
  exact ⟨e, keep_box h (by omega) e'⟩
/-! ### Size, Depth -/
set_option maxHeartbeats 400000 in
theorem rsize_any (t : Tr) (A : Option Addr) (c : Nat) (w : World) (ht : IsT w w.heap.size t A c) :
    Calls Tryz.prog 62 #[.agg #[.int .i64 t.k, .int .i64 t.i, .slice A t.ks.length c]] w fun e w' => e = .returned (.int .i64 (min t.sz 1001 : Nat)) ∧ Below w.heap.size w w' := by
  have hb0 : Below w.heap.size w (w.alloc (.cells #[.int .i64 t.k, .int .i64 t.i, .slice A t.ks.length c] 24)) := (Below.refl _ _).alloc (Nat.le_refl _) _
  have HT := Lib.hid (ht.keep hb0 hb0.size)
  clear ht
  go_enter Tryz.func62, Tryz.ntmps62
  go_wp2_with fail
  refine (sizeUpTo_any t.sz t A c 1001 _ (Nat.le_refl _) (by exact HT.out) (by omega) (by omega)).mono ?_
  rintro e w' ⟨rfl, hb⟩
  go_wp2_with fail
  go_ret
  exact ⟨rfl, hb0.trans (hb.mono hb0.size)⟩
set_option maxHeartbeats 400000 in
theorem rdepth_any (t : Tr) (A : Option Addr) (c : Nat) (w : World) (ht : IsT w w.heap.size t A c) :
    Calls Tryz.prog 63 #[.agg #[.int .i64 t.k, .int .i64 t.i, .slice A t.ks.length c]] w fun e w' => e = .returned (.int .i64 (min t.dp 101 : Nat)) ∧ Below w.heap.size w w' := by
  have hb0 : Below w.heap.size w (w.alloc (.cells #[.int .i64 t.k, .int .i64 t.i, .slice A t.ks.length c] 24)) := (Below.refl _ _).alloc (Nat.le_refl _) _
  have HT := Lib.hid (ht.keep hb0 hb0.size)
  clear ht
  go_enter Tryz.func63, Tryz.ntmps63
  go_wp2_with fail
  refine (depthUpTo_any t.sz t A c 101 _ (Nat.le_refl _) (by exact HT.out) (by omega) (by omega)).mono ?_
  rintro e w' ⟨rfl, hb⟩
  go_wp2_with fail
  go_ret
  exact ⟨rfl, hb0.trans (hb.mono hb0.size)⟩
/-! ### Right -/
set_option maxHeartbeats 1000000 in
theorem rright_any (t : Tr) (A : Option Addr) (c : Nat) (w : World) (ht : IsT w w.heap.size t A c) :
    Calls Tryz.prog 26 #[.agg #[.int .i64 t.k, .int .i64 t.i, .slice A t.ks.length c]] w fun e w' => e = .returned (.int .i64 (rightN t : Nat)) ∧ Below w.heap.size w w' := by
  have hb0 : Below w.heap.size w (w.alloc (.cells #[.int .i64 t.k, .int .i64 t.i, .slice A t.ks.length c] 24)) := (Below.refl _ _).alloc (Nat.le_refl _) _
  have HT := Lib.hid (ht.keep hb0 hb0.size)
  clear ht
  go_enter Tryz.func26, Tryz.ntmps26
  go_wp2_with fail
  refine (rsize_any t A c _ (by exact HT.out)).mono ?_
  rintro e w1 ⟨rfl, hb1⟩
  have hx1 := hb1.size
  simp at hx1
  obtain ⟨f0, f1, f2⟩ := box_cells (hb1.mono (by simp))
  have hc1 : Below w.heap.size w w1 := hb0.trans (hb1.mono hb0.size)
  have HT1 := Lib.hid (HT.out.keep hb1 hb1.size)
  obtain ⟨s, hs⟩ : ∃ s, s = min t.sz 1001 := ⟨_, rfl⟩
  rw [← hs]
  have HS := Lib.hid hs
  clear hs
  by_cases h1 : 1000 < s
  · have F := Lib.hid (show rightN t = 20 by unfold rightN; rw [if_pos (by have := HS.out; omega)])
    go_wp2_with fail
    go_ret
    exact ⟨ret_int (by rw [F.out]; rfl), hc1⟩
  · go_wp2_with fail
    refine (rdepth_any t A c _ (by exact HT1.out)).mono ?_
    rintro e w2 ⟨rfl, hb2⟩
    have hx2 := hb2.size
    obtain ⟨g0, g1, g2⟩ := keep_box hb2 (by omega) ⟨f0, f1, f2⟩
    have hc2 : Below w.heap.size w w2 := hc1.trans (hb2.mono hc1.size)
    have HT2 := Lib.hid (HT1.out.keep hb2 hb2.size)
    clear f0 f1 f2
    obtain ⟨d, hd⟩ : ∃ d, d = min t.dp 101 := ⟨_, rfl⟩
    rw [← hd]
    have HD := Lib.hid hd
    clear hd
    by_cases h2 : 100 < d
    · have F := Lib.hid (show rightN t = 21 by unfold rightN; rw [if_neg (by have := HS.out; omega), if_pos (by have := HD.out; omega)])
      go_wp2_with fail
      go_ret
      exact ⟨ret_int (by rw [F.out]; rfl), hc2⟩
    · go_wp2_with fail
      refine (shaped_any t.sz t A c _ (Nat.le_refl _) (by exact HT2.out)).mono ?_
      rintro e w3 ⟨rfl, hb3⟩
      cases h3 : t.shp with
      | true =>
        have F := Lib.hid (show rightN t = 0 by unfold rightN; rw [if_neg (by have := HS.out; omega), if_neg (by have := HD.out; omega), h3]; rfl)
        go_wp2_with fail
        go_ret
        exact ⟨ret_int (by rw [F.out]; rfl), hc2.trans (hb3.mono hc2.size)⟩
      | false =>
        have F := Lib.hid (show rightN t = 22 by unfold rightN; rw [if_neg (by have := HS.out; omega), if_neg (by have := HD.out; omega), h3]; rfl)
        go_wp2_with fail
        go_ret
        exact ⟨ret_int (by rw [F.out]; rfl), hc2.trans (hb3.mono hc2.size)⟩
/-! ### First -/
def firstN (a b : Tr) : Nat := if rightN a ≠ 0 then rightN a else rightN b
theorem rightN_le (t : Tr) : rightN t ≤ 22 := by unfold rightN; repeat' split
                                                 all_goals omega
set_option maxHeartbeats 1000000 in
theorem first_any (a b : Tr) (A A' : Option Addr) (c c' : Nat) (w : World) (ha : IsT w w.heap.size a A c) (hb : IsT w w.heap.size b A' c') :
    Calls Tryz.prog 134 #[.agg #[.int .i64 a.k, .int .i64 a.i, .slice A a.ks.length c], .agg #[.int .i64 b.k, .int .i64 b.i, .slice A' b.ks.length c']] w fun e w' => e = .returned (.int .i64 (firstN a b : Nat)) ∧ Below w.heap.size w w' := by
  have hz0 : Below w.heap.size w (w.alloc (.cells #[.int .i64 a.k, .int .i64 a.i, .slice A a.ks.length c] 24)) := (Below.refl _ _).alloc (Nat.le_refl _) _
  have hz1 : Below w.heap.size w ((w.alloc (.cells #[.int .i64 a.k, .int .i64 a.i, .slice A a.ks.length c] 24)).alloc (.cells #[.int .i64 b.k, .int .i64 b.i, .slice A' b.ks.length c'] 24)) := hz0.alloc hz0.size _
  have HA := Lib.hid (ha.keep hz1 hz1.size)
  have HB := Lib.hid (hb.keep hz1 hz1.size)
  have hle := rightN_le a
  clear ha hb
  go_enter Tryz.func134, Tryz.ntmps134
  go_wp2_with fail
  refine (rright_any a A c _ (by exact HA.out)).mono ?_
  rintro e w1 ⟨rfl, hb1⟩
  have hx1 := hb1.size
  simp at hx1
  obtain ⟨⟨f0, f1, f2⟩, g0, g1, g2⟩ := two_boxes (hb1.mono (by simp))
  have hc1 : Below w.heap.size w w1 := hz1.trans (hb1.mono hz1.size)
  have HA1 := Lib.hid (HA.out.keep hb1 hb1.size)
  have HB1 := Lib.hid (HB.out.keep hb1 hb1.size)
  obtain ⟨r, hr⟩ : ∃ r, r = rightN a := ⟨_, rfl⟩
  rw [← hr] at hle ⊢
  have HR := Lib.hid hr
  clear hr
  by_cases h : r = 0
  · subst h
    have F := Lib.hid (show firstN a b = rightN b by unfold firstN; rw [if_neg (by rw [← HR.out]; simp)])
    go_wp2_with fail
    refine (rright_any b A' c' _ (by exact HB1.out)).mono ?_
    rintro e w2 ⟨rfl, hb2⟩
    go_wp2_with fail
    go_ret
    exact ⟨ret_int (by rw [F.out]), hc1.trans (hb2.mono hc1.size)⟩
  · have F := Lib.hid (show firstN a b = rightN a by unfold firstN; rw [if_pos (by rw [← HR.out]; exact h)])
    have h' : ((r : Int) != 0) = true := by rw [bne_iff_ne]; omega
    go_wp2_with fail
    refine (rright_any a A c _ (by exact HA1.out)).mono ?_
    rintro e w2 ⟨rfl, hb2⟩
    go_wp2_with fail
    go_ret
    exact ⟨ret_int (by rw [F.out]), hc1.trans (hb2.mono hc1.size)⟩
/-! ### by -/
set_option maxHeartbeats 400000 in
theorem by_any (a b : Int) (w : World) : Calls Tryz.prog 70 #[.int .i64 a, .int .i64 b] w fun e w' => e = .returned (.int .i64 (byI a b)) ∧ w = w' := by
  rcases byI_cases a b with ⟨h, h'⟩ | ⟨h, h'⟩ | ⟨h, h'⟩
  all_goals
    have H := Lib.hid h
    clear h
  · go_enter Tryz.func70, Tryz.ntmps70
    go_wp2_with fail
    go_ret
    exact ⟨ret_int (by rw [H.out]), rfl⟩
  · subst h'
    go_enter Tryz.func70, Tryz.ntmps70
    go_wp2_with fail
    go_ret
    exact ⟨ret_int (by rw [H.out]), rfl⟩
  · have h2 : ¬ a < b := by omega
    go_enter Tryz.func70, Tryz.ntmps70
    go_wp2_with fail
    go_ret
    exact ⟨ret_int (by rw [H.out]), rfl⟩
end Go.Proofs.YtgnfbhemkombaaaGreat
