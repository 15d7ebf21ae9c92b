/- A list of kids that was made whole and is filled one by one. -/
import Derived.Test.YtgnfbhemkombaaaDoorE6
namespace Go.Proofs.YtgnfbhemkombaaaDoor
open Go.RowKit
def zr : Nat → List Value
  | 0 => []
  | j + 1 => .int .i64 0 :: .int .i64 0 :: .slice none 0 0 :: zr j
theorem zr_len (j : Nat) : (zr j).length = j * 3 := by
  induction j with
  | zero => rfl
  | succ j ih => simp only [zr, List.length_cons, ih]; omega
theorem zr_get (n : Nat) : ∀ j, (zr n)[j]? = if j < n * 3 then (#[Value.int .i64 0, .int .i64 0, .slice none 0 0] : Array Value)[j % 3]? else none := by
  induction n with
  | zero => intro j; simp [zr]
  | succ n ih =>
    intro j
    match j with
    | 0 => simp [zr]
    | 1 => simp [zr]; omega
    | 2 => simp [zr]; omega
    | j + 3 =>
      simp only [zr, List.getElem?_cons_succ, ih]
      rw [show (j + 3) % 3 = j % 3 by omega]
      by_cases h : j < n * 3
      · rw [if_pos h, if_pos (by omega)]
      · rw [if_neg h, if_neg (by omega)]
theorem made_zr (n : Nat) : (madeCells (Value.agg #[.int .i64 0, .int .i64 0, .slice none 0 0]).cells (n * 3)).toList = zr n := by
  apply List.ext_getElem?
  intro j
  rw [zr_get]
  by_cases h : j < n * 3
  · have h3 : j % 3 < 3 := Nat.mod_lt _ (by omega)
    rw [if_pos h]
    simp only [madeCells, Value.cells]
    simp [h]
    match j % 3, h3 with
    | 0, _ => rfl
    | 1, _ => rfl
    | 2, _ => rfl
  · rw [if_neg h]
    simp [madeCells, h]
theorem set3_zr (R : List Value) (m j : Nat) (hR : R.length = m * 3) (x y z : Value) : (((R ++ zr (j + 1)).set (m * 3) x).set (m * 3 + 1) y).set (m * 3 + 2) z = (R ++ [x, y, z]) ++ zr j := by
  rw [← hR]
  simp only [zr]
  rw [List.set_append_right _ _ (Nat.le_refl _), Nat.sub_self, List.set_cons_zero, List.set_append_right _ _ (by omega), List.set_append_right _ _ (by omega)]
  rw [show R.length + 1 - R.length = 1 by omega, show R.length + 2 - R.length = 2 by omega]
  simp
/-- m of the kids lie in the row g, which was made for n -/
structure Fill (wr : World) (lo g n : Nat) (ks : List Tr) (m : Nat) (cs : List (Option Addr × Nat)) : Prop where
  len : cs.length = m
  own : wr.ownsRow lo 24 3 (.slice (some ⟨g, 0, none⟩) n n) n (rowC (ks.take m) cs ++ zr (n - m))
  kids : OwnL wr (some g) lo wr.heap.size (ks.take m) cs
theorem Fill.start {w : World} {lo g n : Nat} {ks : List Tr} (h : w.ownsRow lo 24 3 (.slice (some ⟨g, 0, none⟩) n n) n (madeCells (Value.agg #[.int .i64 0, .int .i64 0, .slice none 0 0]).cells (n * 3)).toList) : Fill w lo g n ks 0 [] := by
  refine ⟨rfl, ?_, ?_⟩
  · rw [made_zr] at h
    simpa [rowC] using h
  · have := h.lt g rfl
    simp [OwnL]
    omega
theorem Fill.keep {wr w1 : World} {lo g n : Nat} {ks : List Tr} {m : Nat} {cs : List (Option Addr × Nat)} (h : Fill wr lo g n ks m cs) (hb : Below wr.heap.size wr w1) : Fill w1 lo g n ks m cs :=
  ⟨h.len, ownsRow_same (hi := wr.heap.size) h.own (SameIn.of_below hb (Nat.le_refl _)) (fun k hk => (h.own.lt k hk).2), (OwnL.same _ _ (fun b _ hb2 _ => hb.block b hb2) (fun _ _ _ _ ha => ha) h.kids).widen hb.size⟩
theorem Fill.cells {wr : World} {lo g n : Nat} {ks : List Tr} {m : Nat} {cs : List (Option Addr × Nat)} (h : Fill wr lo g n ks m cs) (hm : m < n) (hk : n = ks.length) :
    wr.cell? ⟨g, m * 3, none⟩ = some (.int .i64 0) ∧ wr.cell? ⟨g, m * 3 + 1, none⟩ = some (.int .i64 0) ∧ wr.cell? ⟨g, m * 3 + 2, none⟩ = some (.slice none 0 0) := by
  have hr : (rowC (ks.take m) cs).length = m * 3 := by rw [rowC_len _ _ (by rw [h.len]; simp; omega)]; simp; omega
  have e : ∀ d, (rowC (ks.take m) cs ++ zr (n - m))[m * 3 + d]? = (zr (n - m))[d]? := fun d => by rw [List.getElem?_append_right (by omega), hr]; congr 1; omega
  have hz : n - m = (n - m - 1) + 1 := by omega
  refine ⟨?_, ?_, ?_⟩
  · rw [h.own.cellAt (m * 3) (by omega)]; have := e 0; rw [Nat.add_zero] at this; rw [this, hz]; rfl
  · rw [h.own.cellAt (m * 3 + 1) (by omega), e 1, hz]; rfl
  · rw [h.own.cellAt (m * 3 + 2) (by omega), e 2, hz]; rfl
theorem Fill.frozen {wr : World} {lo g n : Nat} {ks : List Tr} {m : Nat} {cs : List (Option Addr × Nat)} (h : Fill wr lo g n ks m cs) (j : Nat) : wr.frozen? ⟨g, j, none⟩ = false := h.own.frozenAt j
theorem Fill.step {wr w1 : World} {lo g n : Nat} {ks : List Tr} {m : Nat} {cs : List (Option Addr × Nat)} (h : Fill wr lo g n ks m cs) (hm : m < ks.length) (hn : n = ks.length) (hb : Below wr.heap.size wr w1) {lo1 : Nat} (hl : wr.heap.size ≤ lo1) {A2 : Option Addr} {c2 : Nat} (hq : OwnT w1 lo1 w1.heap.size ks[m] A2 c2) :
    Fill (((w1.setCell ⟨g, m * 3, none⟩ (.int .i64 ks[m].k)).setCell ⟨g, m * 3 + 1, none⟩ (.int .i64 ks[m].i)).setCell ⟨g, m * 3 + 2, none⟩ (.slice A2 ks[m].ks.length c2)) lo g n ks (m + 1) (cs ++ [(A2, c2)]) := by
  have h1 := h.keep hb
  have hg := (h.own.lt g rfl).2
  have hr : (rowC (ks.take m) cs).length = m * 3 := by rw [rowC_len _ _ (by rw [h.len]; simp; omega)]; simp; omega
  have other : ∀ b, b ≠ g → (((w1.setCell ⟨g, m * 3, none⟩ (.int .i64 ks[m].k)).setCell ⟨g, m * 3 + 1, none⟩ (.int .i64 ks[m].i)).setCell ⟨g, m * 3 + 2, none⟩ (.slice A2 ks[m].ks.length c2)).heap[b]? = w1.heap[b]? := fun b hbg => by
    rw [heap_setCell_other _ _ _ _ hbg, heap_setCell_other _ _ _ _ hbg, heap_setCell_other _ _ _ _ hbg]
  refine ⟨by simp [h.len], ?_, ?_⟩
  · have o := (((h1.own.stored (m * 3) (.int .i64 ks[m].k)).1.stored (m * 3 + 1) (.int .i64 ks[m].i)).1.stored (m * 3 + 2) (.slice A2 ks[m].ks.length c2)).1
    rw [show n - m = (n - (m + 1)) + 1 by omega, set3_zr _ _ _ hr] at o
    rw [List.take_succ_eq_append_getElem hm, rowC_snoc _ _ _ _ _ (by rw [h.len]; simp; omega)]
    exact o
  · rw [List.take_succ_eq_append_getElem hm]
    have k1 : OwnL (((w1.setCell ⟨g, m * 3, none⟩ (.int .i64 ks[m].k)).setCell ⟨g, m * 3 + 1, none⟩ (.int .i64 ks[m].i)).setCell ⟨g, m * 3 + 2, none⟩ (.slice A2 ks[m].ks.length c2)) (some g) lo wr.heap.size (ks.take m) cs :=
      OwnL.same _ _ (fun b _ hb2 hne => by rw [other b (fun e => hne (by rw [e])), hb.block b hb2]) (fun _ _ _ _ ha => ha) h.kids
    have k2 : OwnT (((w1.setCell ⟨g, m * 3, none⟩ (.int .i64 ks[m].k)).setCell ⟨g, m * 3 + 1, none⟩ (.int .i64 ks[m].i)).setCell ⟨g, m * 3 + 2, none⟩ (.slice A2 ks[m].ks.length c2)) wr.heap.size w1.heap.size ks[m] A2 c2 :=
      OwnT.lower (OwnT.same _ (fun b b1 _ => other b (by omega)) hq) hl
    have := OwnL.snoc (by rw [h.len]; simp; omega) k1 hb.size (fun g' e hh => by cases e; omega) k2
    simpa using this
theorem Fill.done {wr : World} {lo g n : Nat} {t : Tr} {cs : List (Option Addr × Nat)} (h : Fill wr lo g n t.ks n cs) (hn : n = t.ks.length) : OwnT wr lo wr.heap.size t (some ⟨g, 0, none⟩) n := by
  subst hn
  have h1 := h.own
  have h2 := h.kids
  rw [List.take_length] at h1 h2
  rw [Nat.sub_self, show zr 0 = [] from rfl, List.append_nil] at h1
  exact ownT_eq.2 ⟨cs, h.len, h1, fun k e => (h1.lt k e).2, h2⟩
theorem ownT_leaf (w : World) (lo hi : Nat) (h : lo ≤ hi) (t : Tr) (ht : t.ks = []) : OwnT w lo hi t none 0 :=
  ownT_eq.2 ⟨[], by simp [ht], by simpa [ht, rowC] using World.ownsRow_nil _ _ _ _, (fun g e => by cases e), by simpa [ht, OwnL] using h⟩
end Go.Proofs.YtgnfbhemkombaaaDoor
