/- Encode of package expr, and the document's. -/
import Derived.Test.YthnbkojgoegmpaaE13
import Derived.Test.YthnbkojgoegmpaaR1
namespace Go.Proofs.Ythnbkojgoegmpaa
open Go.RowKit Go.Shelf
attribute [local go_sem] Oper.semAt_some
theorem KB.grown {B hi : Nat} {W W' : World} {row : Option Nat} (hg : W.grownBy W' row) (hB : B ≤ W.heap.size) (hrow : ∀ k, row = some k → B ≤ k ∧ ∃ cs e, W.heap[k]? = some (.cells cs e (0, 0)) ∧ e ≠ 24) : KB B hi W W' :=
  ⟨(Below.refl _ _).grown hg hB (fun k hk => (hrow k hk).1), fun k cs _ h0 => by
    refine (hg.block k (Array.getElem?_eq_some_iff.1 h0).1 (fun e => ?_)).trans h0
    obtain ⟨_, cs', e', h1, hne⟩ := hrow k e.symm
    rw [h1] at h0
    cases h0
    exact hne rfl⟩
theorem own_row {w : World} {B : Nat} {e : TypeId} {v : Value} {n : Nat} {xs : List Value} (h : w.ownsRow B e 1 v n xs) : ∀ k, v.ownBlock = some k → B ≤ k ∧ ∃ cs, w.heap[k]? = some (.cells cs e (0, 0)) := by
  intro k hk
  rcases h.2 with ⟨rfl, _⟩ | ⟨g, cap, cur, rfl, hB, hh, _⟩
  · cases hk
  · simp [Value.ownBlock] at hk
    subst hk
    exact ⟨hB, cur, hh⟩
theorem packE (t : Tr) (w : World) :
    Calls Try.prog 51 #[.int .i64 t.k, .int .i64 t.i, .int .i64 (t.ks.length : Nat)] w fun e w' => ∃ r : Int, e = .returned (.tuple #[.int .u32 ((headE t : Nat) : Int), .int .i64 r]) ∧ w = w' := by
  by_cases h : HeadOk t
  · have := pack_head t w h
    rw [show headE t = headN t by unfold headE; rw [if_pos h]]
    exact this.mono fun e w' ⟨h1, h2⟩ => ⟨0, h1, h2⟩
  · have := pack_out t.k t.i (t.ks.length : Nat) w h
    rw [show headE t = 0 by unfold headE; rw [if_neg h]]
    exact this.mono fun e w' ⟨h1, h2⟩ => ⟨1, h1, h2⟩
/-- what Encode answers: the bytes, in new memory, or none, and the fault -/
def EncPost (w : World) (t : Tr) (e : Ending) (w' : World) : Prop :=
  ∃ v l, e = .returned (.tuple #[v, .int .i64 (rightN t : Nat)]) ∧ l = (if rightN t = 0 then t.enc else []) ∧ w'.ownsRow w.heap.size 5 1 v l.length (bcells l) ∧ Below w.heap.size w w'
theorem right_zero (t : Tr) (h : rightN t = 0) : t.sz ≤ 1000 ∧ t.shp = true := by
  have := (ok_iff t).2 h
  simp only [okT, Bool.and_eq_true, decide_eq_true_eq] at this
  exact ⟨this.1.1, this.2⟩
theorem ret_v2 {v : Value} {a b : Int} (h : a = b) : Ending.returned (.tuple #[v, .int .i64 a]) = .returned (.tuple #[v, .int .i64 b]) := by rw [h]
set_option maxHeartbeats 1000000 in
theorem rencode_any (t : Tr) (A : Option Addr) (c : Nat) (w : World) (ht : IsT w w.heap.size t A c) :
    Calls Try.prog 29 #[.agg #[.int .i64 t.k, .int .i64 t.i, .slice A t.ks.length c]] w (EncPost w t) := by
  have hb0 : Below w.heap.size w (w.alloc (.cells #[.int .i64 t.k, .int .i64 t.i, .slice A t.ks.length c] 24)) := (Below.refl _ _).alloc (Nat.le_refl _) _
  have HT := Lib.hid (ht.keep hb0 hb0.size)
  clear ht
  go_enter Try.func29, Try.ntmps29
  go_wp2_with fail
  refine (rright_any t A c _ (by exact HT.out)).mono ?_
  rintro e w1 ⟨rfl, hb1⟩
  obtain ⟨f0, f1, f2⟩ := box_cells (hb1.mono (by simp))
  have hc1 : Below w.heap.size w w1 := hb0.trans (hb1.mono hb0.size)
  have HT1 := Lib.hid (HT.out.keep hb1 hb1.size)
  obtain ⟨r, hr⟩ : ∃ r, r = rightN t := ⟨_, rfl⟩
  have HR := Lib.hid hr
  rw [← hr]
  by_cases h : r = 0
  · have F := Lib.hid (right_zero t (by omega))
    clear hr
    subst h
    go_wp2_with fail
    refine (rbytes_any 1000 t A c _ F.out.1 (Nat.le_refl _) F.out.2 (by exact HT1.out)).mono ?_
    rintro e w2 ⟨v, rfl, o2, b2⟩
    have O := Lib.hid (own_mono o2 hc1.size)
    clear o2
    go_wp2_with fail
    go_ret2
    exact ⟨v, t.enc, ret_v2 (by rw [← HR.out]; rfl), by rw [← HR.out]; rfl, O.out, hc1.trans (b2.mono hc1.size)⟩
  · clear hr
    have h' : ((r : Int) != 0) = true := by rw [bne_iff_ne]; omega
    go_wp2_with fail
    refine (rright_any t A c _ (by exact HT1.out)).mono ?_
    rintro e w2 ⟨rfl, hb2⟩
    go_wp2_with fail
    go_ret2
    exact ⟨_, [], ret_v2 rfl, by rw [← HR.out, if_neg h], World.ownsRow_nil _ _ _ _, hc1.trans (hb2.mono hc1.size)⟩
end Go.Proofs.Ythnbkojgoegmpaa
