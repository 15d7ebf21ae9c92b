/- The writers of package strings' Builder. -/
import Derived.Test.YtgnfbhemkombaaaDoorE6
import Derived.Shelf.Strings.BuilderK
namespace Go.Proofs.YtgnfbhemkombaaaDoor
open Go.RowKit
set_option linter.unusedVariables false
set_option linter.unusedSimpArgs false
/-- block b holds a builder with these bytes, all of it in blocks from B on -/
def BU (B b : Nat) (l : List UInt8) (w : World) : Prop := Lib.IsBuilderF 51 5 B b (Lib.byteCells l) w
theorem BU.alloc {B b : Nat} {l : List UInt8} {w : World} (h : BU B b l w) (o : Obj) : BU B b l (w.alloc o) := Lib.IsBuilderF.alloc h o
theorem BU.lt {B b : Nat} {l : List UInt8} {w : World} (h : BU B b l w) : b < w.heap.size := Or.elim h Lib.BuilderAtF.lt Lib.BuilderAtF.lt
theorem BU.ge {B b : Nat} {l : List UInt8} {w : World} (h : BU B b l w) : B ≤ b := Or.elim h (fun x => x.1) (fun x => x.1)
/-- what writing into a builder leaves: all below B, all above but the builder and rows of bytes -/
structure KY (B b : Nat) (w w' : World) : Prop where
  below : Below B w w'
  oth : Lib.OthersKept 5 (some b) w w'
theorem KY.refl (B b : Nat) (w : World) : KY B b w w := ⟨Below.refl _ _, Lib.OthersKept.refl _ _ _⟩
theorem KY.trans {B b : Nat} {w w1 w2 : World} (h : KY B b w w1) (h' : KY B b w1 w2) : KY B b w w2 := ⟨h.below.trans h'.below, h.oth.trans h'.oth⟩
theorem KY.alloc {B b : Nat} {w w1 : World} (h : KY B b w w1) (hB : B ≤ w.heap.size) (o : Obj) : KY B b w (w1.alloc o) := ⟨h.below.alloc (Nat.le_trans hB h.below.size) o, h.oth.alloc o⟩
theorem KY.al {B b : Nat} {w : World} (hB : B ≤ w.heap.size) (o : Obj) : KY B b w (w.alloc o) := (KY.refl B b w).alloc hB o
theorem KY.box {B b : Nat} {w w' : World} (h : KY B b w w') {g : Nat} {x y z : Value} (hg : g ≠ b) (hb : Box3 w g x y z) : Box3 w' g x y z :=
  h.oth g _ hb (fun e => hg (Option.some.inj e)) (fun c fz e => by injection e with _ e2; exact absurd e2 (by decide))
theorem KY.size {B b : Nat} {w w' : World} (h : KY B b w w') : w.heap.size ≤ w'.heap.size := h.below.size
/-- what a writer answers -/
def WrI (w : World) (B b : Nat) (l : List UInt8) (e : Ending) (w' : World) : Prop := e = .returned (.tuple #[]) ∧ BU B b l w' ∧ KY B b w w'
theorem yinfoB : (Tryd.prog.info? 51).map (·.size) = some 2 := by kernel_rfl
theorem yliesB : liesAt Tryd.prog Tryd.prog.depth 51 (2 / Tryd.prog.cellsOf 51) 0 51 1 = true := by kernel_rfl
theorem yinfoU : (Tryd.prog.info? 5).map (fun i => (i.zero, i.size, i.bytes)) = some (some (.int .u8 0), 1, 1) := by kernel_rfl
set_option maxHeartbeats 1000000 in
set_option maxRecDepth 100000 in
/-- a builder that has been written to bears its own address -/
theorem ycheck_used (b : Nat) (w : World) (h0 : w.cell? ⟨b, 0, none⟩ = some (.pointer (some ⟨b, 0, none⟩))) :
    Calls Tryd.prog 93 #[.pointer (some ⟨b, 0, none⟩)] w fun e w' => e = .returned (.tuple #[]) ∧ w = w' := by
  obtain ⟨j, hj, _⟩ := Option.map_eq_some_iff.1 yinfoB
  go_enter Tryd.func93, Tryd.ntmps93
  go_wp2
  rw [Lib.run_neq_ptr_same w _ Tryd.underlying48 hj]
  go_wp2
  go_end0
  exact ⟨rfl, rfl⟩
set_option maxHeartbeats 1000000 in
set_option maxRecDepth 100000 in
/-- a fresh one lays it -/
theorem ycheck_fresh (b : Nat) (w : World) (h0 : w.cell? ⟨b, 0, none⟩ = some (.pointer none)) (hsh : w.shape? b = some (51, 2)) (hfz : w.frozen? ⟨b, 0, none⟩ = false) :
    Calls Tryd.prog 93 #[.pointer (some ⟨b, 0, none⟩)] w fun e w' => e = .returned (.tuple #[]) ∧ w' = w.setCell ⟨b, 0, none⟩ (.pointer (some ⟨b, 0, none⟩)) := by
  obtain ⟨j, hj, hjs⟩ := Option.map_eq_some_iff.1 yinfoB
  go_enter Tryd.func93, Tryd.ntmps93
  go_wp2
  rw [Lib.run_to_unsafe w ⟨b, 0, none⟩ Tryd.underlying48 Tryd.underlying133 hj (by rw [hjs]; decide) hsh (Nat.zero_lt_succ 1)]
  simp only [Result.andThen]
  rw [Oper.upon_value]
  go_wp2
  rw [run_callFunc_extern Tryd.func114 (by kernel_rfl) (by kernel_rfl) (by kernel_rfl) (e := Extern.AbiNoEscape.same) (by kernel_rfl)]
  rw [Lib.run_noEscape]
  simp only [Result.andThen]
  rw [Oper.upon_value]
  go_wp2
  rw [Lib.run_from_unsafe w ⟨b, 0, none⟩ Tryd.underlying133 Tryd.underlying48 hj hsh yliesB]
  simp only [Result.andThen]
  rw [Oper.upon_value]
  go_wp2
  go_end0
  exact ⟨rfl, rfl⟩
theorem ycheck (B b : Nat) (l : List UInt8) (w : World) (hu : BU B b l w) :
    Calls Tryd.prog 93 #[.pointer (some ⟨b, 0, none⟩)] w fun e w' => e = .returned (.tuple #[]) ∧ Lib.BuilderAtF 51 5 B b (.pointer (some ⟨b, 0, none⟩)) (Lib.byteCells l) w' ∧ KY B b w w' := by
  rcases hu with h | h
  · refine (ycheck_fresh b w h.cell0 h.shape h.frozen0).mono ?_
    rintro e w' ⟨rfl, rfl⟩
    exact ⟨rfl, h.used _, (Below.refl B w).setCell (p := ⟨b, 0, none⟩) h.1 _, (Lib.OthersKept.refl _ _ w).setCell ⟨b, 0, none⟩ rfl _⟩
  · refine (ycheck_used b w h.cell0).mono ?_
    rintro e w' ⟨rfl, rfl⟩
    exact ⟨rfl, h, KY.refl _ _ _⟩
theorem at_lt {T e : TypeId} {B b : Nat} {p : Value} {bs : List Value} {w : World} (h : Lib.BuilderAtF T e B b p bs w) : b < w.heap.size := Lib.BuilderAtF.lt h
set_option maxHeartbeats 2000000 in
set_option maxRecDepth 100000 in
theorem wbyte (B b : Nat) (l : List UInt8) (c : UInt8) (v : Int) (hv : v = (c.toNat : Int)) (w : World) (hu : BU B b l w) (hl : l.length ≤ 1000000) (hB : B ≤ w.heap.size) :
    Calls Tryd.prog 47 #[.pointer (some ⟨b, 0, none⟩), .int .u8 v] w fun e w' => e = .returned .nilIface ∧ BU B b (l ++ [c]) w' ∧ KY B b w w' := by
  obtain ⟨i0, hi, hz0, hz1, hz2⟩ := info_parts yinfoU
  have hbl : (Lib.byteCells l).length ≤ 1000000 := by rw [Lib.byteCells_length]; exact hl
  have BL := Lib.hid (show Lib.byteCells (l ++ [c]) = Lib.byteCells l ++ [.int .u8 v] by rw [Lib.byteCells_append, hv]; rfl)
  clear hv
  go_enter Tryd.func47, Tryd.ntmps47
  go_wp2_with fail
  refine (ycheck B b l _ hu).mono ?_
  rintro e w1 ⟨rfl, h1, k1⟩
  obtain ⟨hB1, x, hbk, hown, hne⟩ := h1
  have c0 : w1.cell? ⟨b, 0, none⟩ = some (.pointer (some ⟨b, 0, none⟩)) := by rw [Lib.cell_of_heap hbk]; rfl
  have c1 : w1.cell? ⟨b, 1, none⟩ = some x := by rw [Lib.cell_of_heap hbk]; rfl
  have z1 := k1.below.size
  go_wp2_with (at_builtin; refine wpList_append_ownF _ rfl _ _ 49 rfl B 5 i0 (.int .u8 0) 1 1 Tryd.underlying49 hi hz0 hz1 hz2 rfl (by decide) _ _ _ rfl (hown.alloc _) ⟨w1.heap.size, 0, none⟩ 1 1 [.int .u8 v] rfl rfl ?c1 ?c2 ?c3 ?c4 ?c5 ?_)
  case c1 =>
    intro j u hj
    match j, hj with
    | 0, hj => simp at hj; subst hj; simp [Addr.add]
  case c2 => intro u hu; simp at hu; subst hu; rfl
  case c3 => unfold maxLen; omega
  case c4 => omega
  case c5 => simp; omega
  intro v' w2 hown' hgrow _
  have hlt : b < w1.heap.size := (Array.getElem?_eq_some_iff.1 hbk).1
  have hb2 : w2.heap[b]? = some (.cells #[.pointer (some ⟨b, 0, none⟩), x] 51 (0, 0)) := by
    rw [hgrow.block b (by simp; omega) (fun e => hne e.symm), Lib.alloc_old w1 _ b hlt]
    exact hbk
  have d0 : w2.cell? ⟨b, 0, none⟩ = some (.pointer (some ⟨b, 0, none⟩)) := by rw [Lib.cell_of_heap hb2]; rfl
  have d1 : w2.cell? ⟨b, 1, none⟩ = some x := by rw [Lib.cell_of_heap hb2]; rfl
  have f1 : w2.frozen? ⟨b, 1, none⟩ = false := Lib.frozen_of_heap hb2 1
  obtain ⟨g, cap, rfl⟩ : ∃ g cap, v' = .slice (some ⟨g, 0, none⟩) ((Lib.byteCells l).length + 1) cap := by
    rcases hown'.2 with ⟨_, h0⟩ | ⟨g, cap, cur, fz, hv, _⟩
    · omega
    · exact ⟨g, cap, hv⟩
  go_wp2
  go_ret
  refine ⟨rfl, .inr ?_, ?_, ((k1.oth.alloc _).grown hgrow (Lib.ownsRowF_kind (hown.alloc _))).setCell ⟨b, 1, none⟩ rfl _⟩
  · rw [BL.out]
    exact Lib.BuilderAtF.put (T := 51) (e := 5) hB1 hb2 (bs' := Lib.byteCells l ++ [.int .u8 v]) (by simpa using hown') (by decide)
  · exact ((k1.below.alloc (by omega) _).grown hgrow (by simp; omega) (fun k hk => (hown.lt k hk).1)).setCell (p := ⟨b, 1, none⟩) hB1 _
set_option maxHeartbeats 2000000 in
set_option maxRecDepth 100000 in
theorem wstr (B b : Nat) (l s : List UInt8) (S : ByteArray) (hS : S = ⟨s.toArray⟩) (w : World) (hu : BU B b l w) (hl : l.length + s.length ≤ 1000000) (hB : B ≤ w.heap.size) :
    Calls Tryd.prog 81 #[.pointer (some ⟨b, 0, none⟩), .string S] w fun e w' => ∃ n, e = .returned (.tuple #[.int .i64 n, .nilIface]) ∧ BU B b (l ++ s) w' ∧ KY B b w w' := by
  obtain ⟨i0, hi, hz0, hz1, hz2⟩ := info_parts yinfoU
  have hbl : (Lib.byteCells l).length + S.size ≤ 1000000 := by
    have e : S.size = s.length := by rw [hS]; show s.toArray.size = _; simp
    rw [Lib.byteCells_length, e]
    exact hl
  have BL := Lib.hid (show Lib.byteCells (l ++ s) = Lib.byteCells l ++ Lib.strCells S by rw [Lib.byteCells_append, hS]; rfl)
  clear hS
  go_enter Tryd.func81, Tryd.ntmps81
  go_wp2_with fail
  refine (ycheck B b l _ hu).mono ?_
  rintro e w1 ⟨rfl, h1, k1⟩
  obtain ⟨hB1, x, hbk, hown, hne⟩ := h1
  have c0 : w1.cell? ⟨b, 0, none⟩ = some (.pointer (some ⟨b, 0, none⟩)) := by rw [Lib.cell_of_heap hbk]; rfl
  have c1 : w1.cell? ⟨b, 1, none⟩ = some x := by rw [Lib.cell_of_heap hbk]; rfl
  have z1 := k1.below.size
  go_wp2_with (at_builtin; refine Lib.wpList_append_own_stringF _ rfl _ _ 49 9 rfl B 5 i0 Tryd.underlying49 Tryd.underlying9 hi hz0 hz1 hz2 _ _ _ rfl hown S rfl ?c3 ?c4 ?c5 ?_)
  case c3 => unfold maxLen; omega
  case c4 => omega
  case c5 => omega
  intro v' w2 hown' hgrow _
  have hlt : b < w1.heap.size := (Array.getElem?_eq_some_iff.1 hbk).1
  have hb2 : w2.heap[b]? = some (.cells #[.pointer (some ⟨b, 0, none⟩), x] 51 (0, 0)) := by
    rw [hgrow.block b hlt (fun e => hne e.symm)]
    exact hbk
  have d0 : w2.cell? ⟨b, 0, none⟩ = some (.pointer (some ⟨b, 0, none⟩)) := by rw [Lib.cell_of_heap hb2]; rfl
  have d1 : w2.cell? ⟨b, 1, none⟩ = some x := by rw [Lib.cell_of_heap hb2]; rfl
  have f1 : w2.frozen? ⟨b, 1, none⟩ = false := Lib.frozen_of_heap hb2 1
  obtain ⟨ao, n', cap, rfl⟩ : ∃ ao n' cap, v' = .slice ao n' cap := by
    rcases hown'.2 with ⟨hv, _⟩ | ⟨g, cap, cur, fz, hv, _⟩
    · exact ⟨_, _, _, hv⟩
    · exact ⟨_, _, _, hv⟩
  go_wp2
  go_ret2
  refine ⟨_, rfl, .inr ?_, ?_, (k1.oth.grown hgrow (Lib.ownsRowF_kind hown)).setCell ⟨b, 1, none⟩ rfl _⟩
  · rw [BL.out]
    exact Lib.BuilderAtF.put (T := 51) (e := 5) hB1 hb2 (bs' := Lib.byteCells l ++ Lib.strCells S) (by simpa [Lib.strCells_length] using hown') (by decide)
  · exact (k1.below.grown hgrow (by omega) (fun k hk => (hown.lt k hk).1)).setCell (p := ⟨b, 1, none⟩) hB1 _
end Go.Proofs.YtgnfbhemkombaaaDoor
