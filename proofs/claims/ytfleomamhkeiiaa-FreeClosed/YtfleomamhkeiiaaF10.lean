/- The library's slices.Backward over a slice of ints: its contract. -/
import Derived.Test.YtfleomamhkeiiaaW3
import Derived.Test.YtfleomamhkeiiaaE9
namespace Go.Proofs.Ytfleomamhkeiiaa
open Go.RowKit Go.Shelf
attribute [local go_sem] Oper.semAt_some
set_option linter.unusedVariables false
set_option linter.unusedSimpArgs false
/-- a round keeps every cell from block g on -/
def KG (g : Nat) (W W' : World) : Prop := ∀ q v, g ≤ q.block → W.cell? q = some v → W'.cell? q = some v
theorem KG.refl (g : Nat) (W : World) : KG g W W := fun _ _ _ h => h
theorem KG.trans {g : Nat} {X Y Z : World} (h : KG g X Y) (k : KG g Y Z) : KG g X Z := fun q v hq h0 => k q v hq (h q v hq h0)
theorem KG.of_below {g : Nat} {W W' : World} (h : Below W.heap.size W W') : KG g W W' := fun q v _ h0 => (h.cell (block_lt_of_cell h0)).trans h0
theorem KG.putObj {g : Nat} (W : World) (l : Nat) (o o' : Obj) (h0 : W.heap[l]? = some o) (hc : o.isCells = false) : KG g W (W.putObj l o') :=
  fun q v _ hq => cell_kept hq (grownBy_putObj' W l o') (fun r e => by cases e; exact ⟨o, h0, hc⟩)
theorem KG.setCell {g : Nat} (W : World) (p : Addr) (v : Value) (hp : p.block < g) : KG g W (W.setCell p v) :=
  fun q u hq h0 => (World.cell?_of_block (heap_setCell_other W p v q.block (by omega))).trans h0
/-- what has come when k rounds are over -/
def uptoB {α : Type} (f : Nat → α) (k : Nat) : List α := (List.range k).map f
theorem uptoB_succ {α : Type} (f : Nat → α) (k : Nat) : uptoB f (k + 1) = uptoB f k ++ [f k] := by simp [uptoB, List.range_succ]
theorem uptoB_length {α : Type} (f : Nat → α) (k : Nat) : (uptoB f k).length = k := by simp [uptoB]
def bwd (zs : List Nat) (j : Nat) : Nat × Nat := (zs.length - 1 - j, zs[zs.length - 1 - j]?.getD 0)
set_option maxRecDepth 100000 in
set_option maxHeartbeats 2000000 in
theorem backward1_in (F : Fence) (n : Nat) (hF : F.fn 116) (hro : F.round = none) (hn : 1 ≤ n) (l Bs g b off cap : Nat) (zs : List Nat) (hreach : zs.length * 8 ≤ 140737488351232) (hb : g ≤ b) (hBg : g ≤ Bs) (J Jx : List (Nat × Nat) → World → Prop)
    (hY : ∀ pre x W, J pre W → pre.length < zs.length → YieldAt F (n - 1) Try.prog l #[.int .i64 (x.1 : Int), .int .i64 (x.2 : Int)] W fun e W' =>
      (e = .returned (.bool true) ∧ J (pre ++ [x]) W' ∧ KG g W W') ∨ (e = .returned (.bool false) ∧ Jx (pre ++ [x]) W'))
    (W : World) (hBs : W.cell? ⟨Bs, 0, none⟩ = some (.slice (some ⟨b, off, none⟩) zs.length cap)) (hc : ∀ j, j < zs.length → W.cell? ⟨b, off + j, none⟩ = some (.int .i64 ((zs[j]?.getD 0 : Nat) : Int))) (h0 : J [] W) :
    CallsIn F n Try.prog 116 #[.func (.yield l) #[] #[], .pointer (some ⟨Bs, 0, none⟩)] W fun e W' => (∃ v, e = .returned v) ∧
      ((∃ ys, ys = uptoB (bwd zs) zs.length ∧ J ys W') ∨ (∃ pre, (∃ k, k ≤ zs.length ∧ pre = uptoB (bwd zs) k) ∧ Jx pre W')) := by
  refine callsIn_of_wp Try.func116 rfl hF ?_ hro
  simp only [Try.ntmps116, List.size_toArray, List.length_cons, List.length_nil, Nat.reduceAdd, Nat.reduceSub, Array.replicate_succ, Array.replicate_zero, List.push_toArray, List.append_toArray, List.nil_append, List.cons_append]
  gi_wp2
  gi_loopw [3] (fun i wr => ∃ k : Nat, k ≤ zs.length ∧ i = .int .i64 ((zs.length : Int) - 1 - (k : Int)) ∧ J (uptoB (bwd zs) k) wr ∧ KG g W wr) (fun i _ => (intOf i + 1).toNat)
  case atStart => exact ⟨0, Nat.zero_le _, by simp, h0, KG.refl _ _⟩
  case round =>
    obtain ⟨k, hk, rfl, hJs, hnx⟩ := hrel
    by_cases hlt : k < zs.length
    · obtain ⟨j, hj⟩ : ∃ j, j = zs.length - 1 - k := ⟨_, rfl⟩
      have ej : (zs.length : Int) - 1 - (k : Int) = (j : Int) := by omega
      have hjl : j < zs.length := by omega
      have hcx := hnx _ _ hb (hc j hjl)
      have hbx := hnx _ _ hBg hBs
      have eb : bwd zs k = (j, zs[j]?.getD 0) := by unfold bwd; rw [← hj]
      obtain ⟨z, hz⟩ : ∃ z, z = zs[j]?.getD 0 := ⟨_, rfl⟩
      rw [← hz] at eb hcx
      clear hz
      obtain ⟨fn, tmps, assign, body, hy, hR⟩ := hY _ (j, z) wr hJs (by rw [uptoB_length]; exact hlt)
      dsimp only at hy
      rw [ej]
      have HJ := Lib.hid (show j + 1 + k = zs.length by omega)
      have EB := Lib.hid eb
      clear hj ej eb
      gi_wp2
      refine hR.mono ?_
      rintro e W3 (⟨rfl, hJ3, hk3⟩ | ⟨rfl, hJx3⟩)
      · gi_wp2
        go_roundw
        case rel => exact ⟨k + 1, by omega, by congr 1; have := HJ.out; omega, by rw [uptoB_succ, EB.out]; exact hJ3, hnx.trans hk3⟩
        case measure => simp [intOf]; try omega
      · gi_wp2
        refine bodyPost_ret (results_none rfl _ _ _) rfl ?_
        exact ⟨⟨_, rfl⟩, .inr ⟨_, ⟨k + 1, by omega, by rw [uptoB_succ, EB.out]⟩, hJx3⟩⟩
    · obtain rfl : k = zs.length := by omega
      rw [show (zs.length : Int) - 1 - (zs.length : Int) = -1 by omega]
      gi_wp2
      go_end0
      exact ⟨⟨_, rfl⟩, .inl ⟨_, rfl, hJs⟩⟩
set_option maxRecDepth 100000 in
set_option maxHeartbeats 1000000 in
/-- at the nil slice: no round -/
theorem backward1_nil (F : Fence) (n : Nat) (hF : F.fn 116) (hro : F.round = none) (l Bs : Nat) (J : List (Nat × Nat) → World → Prop) (W : World) (hBs : W.cell? ⟨Bs, 0, none⟩ = some (.slice none 0 0)) (h0 : J [] W) :
    CallsIn F n Try.prog 116 #[.func (.yield l) #[] #[], .pointer (some ⟨Bs, 0, none⟩)] W fun e W' => (∃ v, e = .returned v) ∧ J [] W' := by
  refine callsIn_of_wp Try.func116 rfl hF ?_ hro
  simp only [Try.ntmps116, List.size_toArray, List.length_cons, List.length_nil, Nat.reduceAdd, Nat.reduceSub, Array.replicate_succ, Array.replicate_zero, List.push_toArray, List.append_toArray, List.nil_append, List.cons_append]
  gi_wp2
  gi_loopw [3] (fun i wr => i = .int .i64 (-1) ∧ J [] wr) (fun _ _ => 0)
  case atStart => exact ⟨rfl, h0⟩
  case round =>
    obtain ⟨rfl, hJs⟩ := hrel
    gi_wp2
    go_end0
    exact ⟨⟨_, rfl⟩, hJs⟩
set_option maxHeartbeats 1000000 in
theorem backward_in (F : Fence) (n : Nat) (hF : F.fn 70) (hro : F.round = none) (a : Option Addr) (len cap : Nat) (w : World) :
    CallsIn F n Try.prog 70 #[.slice a len cap] w fun e w' => e = .returned (.func (.func 116) #[] #[.pointer (some ⟨w.heap.size, 0, none⟩)]) ∧ w' = w.alloc (.cells #[.slice a len cap] 75) := by
  refine callsIn_of_wp Try.func70 rfl hF ?_ hro
  simp only [Try.ntmps70, List.size_toArray, List.length_cons, List.length_nil, Nat.reduceAdd, Nat.reduceSub, Array.replicate_succ, Array.replicate_zero, List.push_toArray, List.append_toArray, List.nil_append, List.cons_append]
  gi_wp2
  go_ret
  exact ⟨rfl, rfl⟩
/-- the slice value holds the ints, in a block from g on; or it is nil and there are none -/
def IntsG (g : Nat) (W : World) (sv : Value) (zs : List Nat) : Prop :=
  (sv = .slice none 0 0 ∧ zs = []) ∨ ∃ b off cap, sv = .slice (some ⟨b, off, none⟩) zs.length cap ∧ g ≤ b ∧ ∀ j, j < zs.length → W.cell? ⟨b, off + j, none⟩ = some (.int .i64 ((zs[j]?.getD 0 : Nat) : Int))
theorem IntsG.keep {g : Nat} {X Y : World} (h : Below X.heap.size X Y) {sv : Value} {zs : List Nat} : IntsG g X sv zs → IntsG g Y sv zs
  | .inl e => .inl e
  | .inr ⟨b, off, cap, e, hb, hc⟩ => .inr ⟨b, off, cap, e, hb, fun j hj => (h.cell (block_lt_of_cell (hc j hj))).trans (hc j hj)⟩
theorem backward_stops (F : Fence) (n : Nat) (hF : F.fn 116) (hro : F.round = none) (hn : 1 ≤ n) (Bs g : Nat) (sv : Value) (zs : List Nat) (hreach : zs.length * 8 ≤ 140737488351232) (w : World) (hBg : g ≤ Bs)
    (hc : w.cell? ⟨Bs, 0, none⟩ = some sv) (hI : IntsG g w sv zs) :
    SeqStopsK F n Try.prog 116 #[.pointer (some ⟨Bs, 0, none⟩)] (fun x : Nat × Nat => #[Value.int .i64 (x.1 : Int), Value.int .i64 (x.2 : Int)]) (KG g) (fun ys => ys = uptoB (bwd zs) zs.length)
      (fun pre => ∃ k, k ≤ zs.length ∧ pre = uptoB (bwd zs) k) zs.length w := fun l J Jx W hW _ _ hY h0 => by
  have hc' := (hW.cell (block_lt_of_cell hc)).trans hc
  rcases hI.keep hW with ⟨rfl, rfl⟩ | ⟨b, off, cap, rfl, hb, hcs⟩
  · exact (backward1_nil F n hF hro l Bs J W hc' h0).mono fun e W' ⟨he, hj⟩ => ⟨he, .inl ⟨_, rfl, hj⟩⟩
  · exact backward1_in F n hF hro hn l Bs g b off cap zs hreach hb hBg J Jx hY W hc' hcs h0
/-- the numbers that came, the last one ahead -/
def lstP (pre : List (Nat × Nat)) : List Nat := (pre.map (·.2)).reverse
theorem lstP_snoc (pre : List (Nat × Nat)) (x : Nat × Nat) : lstP (pre ++ [x]) = x.2 :: lstP pre := by simp [lstP]
theorem lstP_all (zs : List Nat) : lstP (uptoB (bwd zs) zs.length) = zs := by
  apply List.ext_getElem
  · simp [lstP, uptoB]
  · intro i h1 h2
    simp only [lstP, uptoB, bwd, List.map_map, List.getElem_reverse, List.getElem_map, List.getElem_range, List.length_map, List.length_range, Function.comp]
    rw [show zs.length - 1 - (zs.length - 1 - i) = i by omega, List.getElem?_eq_getElem h2]
    rfl
theorem ints_of_row {W : World} {g : Nat} {v : Value} {l : List Nat} (h : W.ownsRow g 3 1 v l.length (icells l)) : ∃ a len cap, v = .slice a len cap ∧ IntsG g W v l := by
  obtain ⟨_, ⟨rfl, hn⟩ | ⟨b, cap, cur, rfl, hb, hcur, _, _, _, htake⟩⟩ := h
  · exact ⟨_, _, _, rfl, .inl ⟨rfl, List.length_eq_zero_iff.1 hn⟩⟩
  · refine ⟨_, _, _, rfl, .inr ⟨b, 0, cap, rfl, hb, fun j hj => ?_⟩⟩
    have e : cur.toList[j]? = (icells l)[j]? := by rw [← htake, List.getElem?_take_of_lt (by omega)]
    have e2 : cur[j]? = some (.int .i64 ((l[j]?.getD 0 : Nat) : Int)) := by
      rw [← Array.getElem?_toList, e]
      simp [icells, List.getElem?_eq_getElem hj]
    simp [World.cell?, hcur, e2]
end Go.Proofs.Ytfleomamhkeiiaa
