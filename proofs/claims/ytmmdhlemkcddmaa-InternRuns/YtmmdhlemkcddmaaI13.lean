/- Kids of one's own, written over; same of layer 6's laws. -/
import Derived.Test.YtmmdhlemkcddmaaI11
import Derived.Test.YtmmdhlemkcddmaaE32
import Derived.Test.YtmmdhlemkcddmaaLK
namespace Go.Proofs.Ytmmdhlemkcddmaa
open Go.RowKit
set_option linter.unusedVariables false
set_option linter.unusedSimpArgs false
structure Ovr (W wx : World) (lo hi : Nat) (A : Option Addr) (c n : Nat) : Prop where
  spo : Spo lo hi W wx
  own : ∃ xs, wx.ownsRow lo 24 3 (.slice A n c) n xs
  ob : ∀ g, (Value.slice A n c).ownBlock = some g → lo ≤ g ∧ g < hi
theorem Ovr.start {W : World} {lo hi : Nat} {t : Tr} {A : Option Addr} {c : Nat} (h : OwnT W lo hi t A c) : Ovr W W lo hi A c t.ks.length := by
  obtain ⟨cs, h1, h2, h3, h4⟩ := ownT_eq.1 h
  exact ⟨⟨Below.refl _ _, fun _ _ _ => rfl⟩, ⟨_, h2⟩, fun g e => ⟨(h2.lt g e).1, h3 g e⟩⟩
theorem Ovr.step {W wx : World} {lo hi : Nat} {A : Option Addr} {c n : Nat} (h : Ovr W wx lo hi A c n) (m : Nat) (hm : m < n) :
    ∃ g, A = some ⟨g, 0, none⟩ ∧ n ≤ c ∧ (∃ u0 u1 u2, wx.cell? ⟨g, m * 3, none⟩ = some u0 ∧ wx.cell? ⟨g, m * 3 + 1, none⟩ = some u1 ∧ wx.cell? ⟨g, m * 3 + 2, none⟩ = some u2) ∧ (∀ j, wx.frozen? ⟨g, j, none⟩ = false) ∧
      ∀ x y z : Value, Ovr W (((wx.setCell ⟨g, m * 3, none⟩ x).setCell ⟨g, m * 3 + 1, none⟩ y).setCell ⟨g, m * 3 + 2, none⟩ z) lo hi A c n := by
  obtain ⟨xs, ho⟩ := h.own
  have hxl : xs.length = n * 3 := ho.1
  rcases ho.2 with ⟨e, hn⟩ | ⟨g, cap, cur, e, hb, hcur, hcap, h3⟩
  · omega
  · obtain ⟨rfl, _, rfl⟩ := by simpa using e
    have hgo := h.ob g rfl
    refine ⟨g, rfl, hcap, ⟨xs[m * 3], xs[m * 3 + 1], xs[m * 3 + 2], ?_, ?_, ?_⟩, fun j => ho.frozenAt j, fun x y z => ⟨?_, ?_, h.ob⟩⟩
    · rw [ho.cellAt (m * 3) (by omega), List.getElem?_eq_getElem]
    · rw [ho.cellAt (m * 3 + 1) (by omega), List.getElem?_eq_getElem]
    · rw [ho.cellAt (m * 3 + 2) (by omega), List.getElem?_eq_getElem]
    · exact ((h.spo.set ⟨g, m * 3, none⟩ x hgo.1 (.inl hgo.2)).set ⟨g, m * 3 + 1, none⟩ y hgo.1 (.inl hgo.2)).set ⟨g, m * 3 + 2, none⟩ z hgo.1 (.inl hgo.2)
    · exact ⟨_, (((ho.stored (m * 3) x).1.stored (m * 3 + 1) y).1.stored (m * 3 + 2) z).1⟩
theorem Tab.spo {W W' : World} {lo P M room : Nat} {L : List Tr} {A : Option Addr} {c l h : Nat} (hT : Tab W lo P M room L A c) (hs : Spo l h W W') (hd : h ≤ lo ∨ W.heap.size ≤ l) : Tab W' lo P M room L A c :=
  hT.same fun k hk => hs.out (hT.lt k hk).2 (by have := hT.lt k hk; omega)
theorem likeB_me (a : Tr) : likeB a a = true := by unfold likeB; exact decide_eq_true (cmpT_self a)
theorem same06 (a b : Tr) (A A' : Option Addr) (c c' : Nat) (w : World) (ha : IsT w w.heap.size a A c) (hb : IsT w w.heap.size b A' c') :
    Calls Try.prog 55 #[.agg #[.int .i64 a.k, .int .i64 a.i, .slice A a.ks.length c], .agg #[.int .i64 b.k, .int .i64 b.i, .slice A' b.ks.length c']] w fun e w' => e = .returned (.bool (likeB a b)) ∧ Below w.heap.size w w' := by
  have T0 := Lib.hid (two_start ha hb)
  have b0 := T0.out.b0
  have b1 := T0.out.b1
  have b2 := T0.out.b2
  have d0 := T0.out.d0
  have d1 := T0.out.d1
  have d2 := T0.out.d2
  clear ha hb
  go_enter Try.func55, Try.ntmps55
  go_wp2_with fail
  refine (like_any a b A A' c c' _ (by exact T0.out.ta) (by exact T0.out.tb)).mono ?_
  rintro e w1 ⟨rfl, hb1⟩
  have T1 := Lib.hid (T0.out.keep hb1)
  clear hb1
  go_wp2_with fail
  go_ret
  exact ⟨rfl, T1.out.below⟩
end Go.Proofs.Ytmmdhlemkcddmaa
