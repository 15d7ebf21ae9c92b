/- At of package expr, and the document's. -/
import Derived.Test.YtgnfbhemkombaaaGreatE24
namespace Go.Proofs.YtgnfbhemkombaaaGreat
open Go.RowKit
/-- what At answers -/
def atN (t : Tr) (zs : List Int) : Tr × Nat := if rightN t = 0 then (match partAt t zs with | none => (zeroT, 24) | some q => (q, 0)) else (zeroT, rightN t)
/-- an answer: a tree in new memory, and a fault -/
def AnsPost (w : World) (x : Tr × Nat) (e : Ending) (w' : World) : Prop :=
  Below w.heap.size w w' ∧ ∃ A' c', OwnT w' w.heap.size w'.heap.size x.1 A' c' ∧ e = .returned (.tuple #[.agg #[.int .i64 x.1.k, .int .i64 x.1.i, .slice A' x.1.ks.length c'], .int .i64 ((x.2 : Nat) : Int)])
theorem ans_zero {w wr : World} {x : Tr × Nat} {f b : Nat} (hd : x = (zeroT, f)) (hbr : Below w.heap.size w wr) (hb : w.heap.size ≤ b) :
    AnsPost w x (.returned (.tuple #[.agg #[.int .i64 0, .int .i64 0, .slice none 0 0], .int .i64 ((f : Nat) : Int)])) (((wr.setCell ⟨b, 0, none⟩ (.int .i64 0)).setCell ⟨b, 1, none⟩ (.int .i64 0)).setCell ⟨b, 2, none⟩ (.slice none 0 0)) := by
  subst hd
  exact ⟨below_set3 hbr _ _ _ hb, none, 0, ownT_leaf _ _ _ (by have := hbr.size; simp; omega) _ rfl, rfl⟩
theorem ans_tree {w wr : World} {x : Tr × Nat} {t : Tr} {A : Option Addr} {c lo b : Nat} (hd : x = (t, 0)) (hbr : Below w.heap.size w wr) (ho : OwnT wr lo wr.heap.size t A c) (hb : w.heap.size ≤ b) (hlo : b < lo) :
    AnsPost w x (.returned (.tuple #[.agg #[.int .i64 t.k, .int .i64 t.i, .slice A t.ks.length c], .int .i64 0])) (((wr.setCell ⟨b, 0, none⟩ (.int .i64 t.k)).setCell ⟨b, 1, none⟩ (.int .i64 t.i)).setCell ⟨b, 2, none⟩ (.slice A t.ks.length c)) := by
  subst hd
  refine ⟨below_set3 hbr _ _ _ hb, A, c, ?_, rfl⟩
  have hs : SameIn lo wr.heap.size wr (((wr.setCell ⟨b, 0, none⟩ (.int .i64 t.k)).setCell ⟨b, 1, none⟩ (.int .i64 t.i)).setCell ⟨b, 2, none⟩ (.slice A t.ks.length c)) := same_set3 _ _ _ _ _ hlo
  have := (ho.same _ hs).lower (lo' := w.heap.size) (by omega)
  simpa using this
set_option maxRecDepth 100000 in
set_option maxHeartbeats 2000000 in
theorem at_any (t : Tr) (A : Option Addr) (c : Nat) (A1 : Option Addr) (n cap : Nat) (zs : List Int) (w : World) (ht : IsT w w.heap.size t A c) (hz : zs.length = n) (hn : n ≤ maxLen) (hr : Rd .i64 w w.heap.size A1 zs) :
    Calls Tryz.prog 29 #[.agg #[.int .i64 t.k, .int .i64 t.i, .slice A t.ks.length c], .slice A1 n cap] w (AnsPost w (atN t zs)) := by
  obtain ⟨e0, e1, hb0⟩ := two_boxes0 w (.int .i64 t.k) (.int .i64 t.i) (.slice A t.ks.length c) (.int .i64 0) (.int .i64 0) (.slice none 0 0)
  have HT := Lib.hid (ht.keep hb0 hb0.size)
  have HR := Lib.hid hr
  have E0 := Lib.hid e0
  have E1 := Lib.hid e1
  have HB0 := Lib.hid hb0
  clear ht hr e0 e1 hb0
  go_enter Tryz.func29, Tryz.ntmps29
  go_wp2_with fail
  refine (right_any t A c _ (by exact HT.out)).mono ?_
  rintro e w1 ⟨rfl, hb1⟩
  have X0 := Lib.hid (E0.out.keep hb1 E0.out.lt)
  have X1 := Lib.hid (E1.out.keep hb1 E1.out.lt)
  obtain ⟨x0, x1, x2⟩ := X0.out.cells
  obtain ⟨y0, y1, y2⟩ := X1.out.cells
  have f0 := X1.out.frozen 0
  have f1 := X1.out.frozen 1
  have f2 := X1.out.frozen 2
  have hbr : Below w.heap.size w w1 := HB0.out.trans (hb1.mono HB0.out.size)
  have HT1 := Lib.hid (HT.out.keep hb1 hb1.size)
  have hs1 := hb1.size
  simp only [World.size_alloc] at hs1
  obtain ⟨r, hrr⟩ : ∃ r, r = rightN t := ⟨_, rfl⟩
  have RR := Lib.hid hrr
  rw [← hrr]
  clear hb1 hrr
  by_cases h0 : r = 0
  · have R0 := Lib.hid (show rightN t = 0 by rw [← RR.out]; exact h0)
    subst h0
    clear y0 y1 y2 f0 f1 f2
    go_wp2_with fail
    refine (follow_any t A c A1 n cap zs w1 (by exact HT1.out) hz hn ((HR.out.keep hbr (Nat.le_refl _)).keep (Below.refl _ _) hbr.size)).mono ?_
    rintro e w2 ⟨hb2, hpost⟩
    have hs2 := hb2.size
    cases hp : partAt t zs with
    | none =>
      rw [hp] at hpost
      subst hpost
      have D := Lib.hid (show atN t zs = (zeroT, 24) by unfold atN; rw [if_pos R0.out, hp])
      have X2 := Lib.hid (fun o => (X1.out.keep hb2 X1.out.lt).keep ((Below.refl w2.heap.size w2).alloc (Nat.le_refl _) o) (by have := X1.out.lt; omega))
      have y0 := fun o => (X2.out o).cells.1
      have y1 := fun o => (X2.out o).cells.2.1
      have y2 := fun o => (X2.out o).cells.2.2
      have f0 := fun o => (X2.out o).frozen 0
      have f1 := fun o => (X2.out o).frozen 1
      have f2 := fun o => (X2.out o).frozen 2
      have BR := Lib.hid (fun o => (hbr.trans (hb2.mono hbr.size)).alloc (by have := hbr.size; omega) o)
      clear hb2 hp
      go_wp2_with fail
      exact bodyPost_ret (v := .tuple #[.agg #[.int .i64 0, .int .i64 0, .slice none 0 0], .int .i64 24]) (by simp [results, Tryz.results29, go_sem, y0, y1, y2]) rfl (ans_zero D.out (BR.out _) (by omega))
    | some q =>
      rw [hp] at hpost
      obtain ⟨A2, c2, rfl, hq⟩ := hpost
      have D := Lib.hid (show atN t zs = (q, 0) by unfold atN; rw [if_pos R0.out, hp])
      have hb3 : Below w2.heap.size w2 (w2.alloc (.cells #[.int .i64 q.k, .int .i64 q.i, .slice A2 q.ks.length c2] 24)) := (Below.refl _ _).alloc (Nat.le_refl _) _
      have IQ := Lib.hid ((hq.keep hb2 hb2.size).keep hb3 hb3.size)
      have HB2 := Lib.hid hb2
      have HB3 := Lib.hid hb3
      have BR := Lib.hid ((hbr.trans (hb2.mono hbr.size)).trans (hb3.mono (by have := hbr.size; omega)))
      clear hb2 hb3 hq hp
      go_wp2_with fail
      refine (clone_any q.sz q A2 c2 _ (Nat.le_refl _) (by exact IQ.out)).mono ?_
      rintro e w4 ⟨A3, c3, rfl, ho, hb4⟩
      have X4 := Lib.hid (((X1.out.keep HB2.out X1.out.lt).keep HB3.out (by have := X1.out.lt; omega)).keep hb4 (by have := X1.out.lt; simp; omega))
      obtain ⟨y0, y1, y2⟩ := X4.out.cells
      have f0 := X4.out.frozen 0
      have f1 := X4.out.frozen 1
      have f2 := X4.out.frozen 2
      have BR4 := Lib.hid (BR.out.trans (hb4.mono BR.out.size))
      have HO := Lib.hid ho
      clear ho hb4
      go_wp2_with fail
      exact bodyPost_ret (v := .tuple #[.agg #[.int .i64 q.k, .int .i64 q.i, .slice A3 q.ks.length c3], .int .i64 0]) (by simp [results, Tryz.results29, go_sem, y0, y1, y2]) rfl (ans_tree D.out BR4.out HO.out (by omega) (by simp; omega))
  · have D := Lib.hid (show atN t zs = (zeroT, r) by unfold atN; rw [if_neg (by rw [← RR.out]; exact h0), RR.out])
    have h1 : ((r : Int) != 0) = true := by rw [bne_iff_ne]; omega
    go_wp2_with fail
    exact bodyPost_ret (v := .tuple #[.agg #[.int .i64 0, .int .i64 0, .slice none 0 0], .int .i64 (r : Int)]) (by simp [results, Tryz.results29, go_sem, y0, y1, y2]) rfl (ans_zero D.out hbr (by omega))
end Go.Proofs.YtgnfbhemkombaaaGreat
