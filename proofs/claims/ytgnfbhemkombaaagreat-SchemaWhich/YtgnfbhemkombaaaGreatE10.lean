/- headOf, order and their kin of package expr; cmp.Compare, cmp.Or. -/
import Derived.Test.YtgnfbhemkombaaaGreatE9
import Derived.Test.YtgnfbhemkombaaaGreatE4
import Derived.Deep.DeepCutAuto
import Derived.Deep.RegionHeld3
import Derived.Deep.RegionWith
import Derived.Deep.DrawnRows
import Derived.StillTailTactics
namespace Go.Proofs.YtgnfbhemkombaaaGreat
open Go.RowKit Go.Sort
set_option maxHeartbeats 400000 in
theorem isNaN_any (a : Int) (w : World) : Calls Tryz.prog 141 #[.int .i64 a] w fun e w' => e = .returned (.bool false) ∧ w = w' := by
  have h : (a != a) = false := by simp
  go_enter Tryz.func141, Tryz.ntmps141
  go_wp2_with fail
  go_ret
  exact ⟨rfl, rfl⟩
set_option maxHeartbeats 400000 in
theorem cmpc_any (a b : Int) (w : World) : Calls Tryz.prog 133 #[.int .i64 a, .int .i64 b] w fun e w' => e = .returned (.int .i64 (byI a b)) ∧ w = w' := by
  rcases byI_cases a b with ⟨h, h'⟩ | ⟨h, h'⟩ | ⟨h, h'⟩
  all_goals
    have H := Lib.hid h
    clear h
  · go_enter Tryz.func133, Tryz.ntmps133
    go_wp2_with (go_at_call 141; refine (isNaN_any _ _).mono ?_; rintro e w' ⟨rfl, rfl⟩)
    go_ret
    exact ⟨ret_int (by rw [H.out]), rfl⟩
  · subst h'
    go_enter Tryz.func133, Tryz.ntmps133
    go_wp2_with (go_at_call 141; refine (isNaN_any _ _).mono ?_; rintro e w' ⟨rfl, rfl⟩)
    go_ret
    exact ⟨ret_int (by rw [H.out]), rfl⟩
  · have h2 : ¬ a < b := by omega
    go_enter Tryz.func133, Tryz.ntmps133
    go_wp2_with (go_at_call 141; refine (isNaN_any _ _).mono ?_; rintro e w' ⟨rfl, rfl⟩)
    go_ret
    exact ⟨ret_int (by rw [H.out]), rfl⟩
/-- the first of three that is not 0 -/
def or3 (x y z : Int) : Int := if x ≠ 0 then x else if y ≠ 0 then y else z
set_option maxHeartbeats 1000000 in
theorem or_any (x y z : Int) (b c : Nat) (w : World) (h0 : w.cell? ⟨b, 0, none⟩ = some (.int .i64 x)) (h1 : w.cell? ⟨b, 1, none⟩ = some (.int .i64 y)) (h2 : w.cell? ⟨b, 2, none⟩ = some (.int .i64 z)) :
    Calls Tryz.prog 132 #[.slice (some ⟨b, 0, none⟩) 3 c] w fun e w' => e = .returned (.int .i64 (or3 x y z)) ∧ w = w' := by
  go_enter Tryz.func132, Tryz.ntmps132
  go_wp2_with fail
  go_loop [8] (fun i => (∃ m : Nat, m ≤ 3 ∧ i = .int .i64 m ∧ (1 ≤ m → x = 0) ∧ (2 ≤ m → y = 0) ∧ (3 ≤ m → z = 0))) (fun i => 3 - (intOf i).toNat)
  case atStart => exact ⟨0, by omega, rfl, by omega, by omega, by omega⟩
  case round =>
    obtain ⟨m, hm, rfl, hx, hy, hz⟩ := hrel
    have : m = 0 ∨ m = 1 ∨ m = 2 ∨ m = 3 := by omega
    rcases this with rfl | rfl | rfl | rfl
    · clear hx hy hz
      by_cases hx0 : x = 0
      · subst hx0
        go_wp2_with fail
        go_round
        case rel => exact ⟨1, by omega, rfl, by simp, by omega, by omega⟩
        case measure => simp [intOf]
      · have hx1 : (x != 0) = true := by simpa using hx0
        have F := Lib.hid (show or3 x y z = x by unfold or3; rw [if_pos hx0])
        clear hx0
        go_wp2_with fail
        go_ret
        exact ⟨ret_int (by rw [F.out]), rfl⟩
    · obtain rfl := hx (by omega)
      clear hx hy hz
      by_cases hy0 : y = 0
      · subst hy0
        go_wp2_with fail
        go_round
        case rel => exact ⟨2, by omega, rfl, by simp, by simp, by omega⟩
        case measure => simp [intOf]
      · have hy1 : (y != 0) = true := by simpa using hy0
        have F := Lib.hid (show or3 0 y z = y by unfold or3; rw [if_neg (by simp), if_pos hy0])
        clear hy0
        go_wp2_with fail
        go_ret
        exact ⟨ret_int (by rw [F.out]), rfl⟩
    · obtain rfl := hx (by omega)
      obtain rfl := hy (by omega)
      clear hx hy hz
      have F := Lib.hid (show or3 0 0 z = z by unfold or3; rw [if_neg (by simp), if_neg (by simp)])
      by_cases hz0 : z = 0
      · subst hz0
        go_wp2_with fail
        go_round
        case rel => exact ⟨3, by omega, rfl, by simp, by simp, by simp⟩
        case measure => simp [intOf]
      · have hz1 : (z != 0) = true := by simpa using hz0
        clear hz0
        go_wp2_with fail
        go_ret
        exact ⟨ret_int (by rw [F.out]), rfl⟩
    · obtain rfl := hx (by omega)
      obtain rfl := hy (by omega)
      obtain rfl := hz (by omega)
      clear hx hy hz
      go_wp2_with fail
      go_ret
      exact ⟨rfl, rfl⟩
set_option maxHeartbeats 400000 in
theorem headOf_any (k i : Int) (A : Option Addr) (n c : Nat) (w : World) :
    Calls Tryz.prog 131 #[.agg #[.int .i64 k, .int .i64 i, .slice A n c]] w fun e w' => e = .returned (.agg #[.int .i64 k, .int .i64 i, .int .i64 n]) ∧ (w.alloc (.cells #[.int .i64 k, .int .i64 i, .slice A n c] 24)).alloc (.cells #[.int .i64 k, .int .i64 i, .int .i64 n] 129) = w' := by
  go_enter Tryz.func131, Tryz.ntmps131
  go_wp2_with fail
  exact bodyPost_ret (v := .agg #[.int .i64 k, .int .i64 i, .int .i64 n]) (by simp [results, Tryz.results131, go_sem]) rfl ⟨rfl, rfl⟩
/-- the two heads lie in boxes of their own -/
def HeadsIn (w wc : World) (B : Nat) (x y z x' y' z' : Int) (p q : Value) : Prop :=
  ∃ b5 b6, p = .pointer (some ⟨b5, 0, none⟩) ∧ q = .pointer (some ⟨b6, 0, none⟩) ∧ Below B w wc ∧
    (wc.cell? ⟨b5, 0, none⟩ = some (.int .i64 x) ∧ wc.cell? ⟨b5, 1, none⟩ = some (.int .i64 y) ∧ wc.cell? ⟨b5, 2, none⟩ = some (.int .i64 z)) ∧
    (wc.cell? ⟨b6, 0, none⟩ = some (.int .i64 x') ∧ wc.cell? ⟨b6, 1, none⟩ = some (.int .i64 y') ∧ wc.cell? ⟨b6, 2, none⟩ = some (.int .i64 z'))
theorem peel {W : World} {p : Addr} {v : Value} (o : Obj) (h : W.cell? p = some v) : (W.alloc o).cell? p = some v := (((Below.refl W.heap.size W).alloc (Nat.le_refl _) o).cell (block_lt_of_cell h)).trans h
theorem peel_drew {W : World} {p : Addr} {v : Value} (h : W.cell? p = some v) : W.drew.cell? p = some v := h
theorem cell_atH {W : World} {b j : Nat} {cs : Array Value} {t : TypeId} {v : Value} (h : b = W.heap.size) (hv : cs[j]? = some v) : (W.alloc (.cells cs t)).cell? ⟨b, j, none⟩ = some v := by
  subst h; rw [cell_new3]; exact hv
end Go.Proofs.YtgnfbhemkombaaaGreat
