/- Print of package unit; the law UnitPrints, walked. -/
import Derived.Test.YtgnfbhemkombaaaDoorN5
namespace Go.Proofs.YtgnfbhemkombaaaDoor
open Go.RowKit Go.Sort
set_option linter.unusedVariables false
set_option linter.unusedSimpArgs false
set_option maxHeartbeats 4000000 in
set_option maxRecDepth 100000 in
theorem uprint_any (u : Unt) (N : Option Addr) (nc : Nat) (A : Option Addr) (c : Nat) (S : Option Addr) (sc : Nat) (w : World) (hT : TB w) (hn : IsNs w w.heap.size u.cites N nc) (ht : IsT w w.heap.size u.states A c) (hs : IsSs w w.heap.size u.steps S sc) :
    Calls Tryd.prog 17 #[.agg #[.slice N u.cites.length nc, .int .i64 u.states.k, .int .i64 u.states.i, .slice A u.states.ks.length c, .slice S u.steps.length sc]] w
      fun e w' => e = .returned (.tuple #[.string ⟨(printU u).1.toArray⟩, .int .i64 ((printU u).2 : Nat)]) ∧ Below w.heap.size w w' := by
  have U0 := Lib.hid (OneU.new hn ht hs)
  have TT := Lib.hid (fun (W : World) (h : Below w.heap.size w W) => hT.keep h)
  obtain ⟨ra, hra⟩ : ∃ ra, ra = rightU u := ⟨_, rfl⟩
  have RR := Lib.hid (fun (W : World) (h : OneU w W u N nc A c S sc) => (show Calls Tryd.prog 38 #[.agg #[.slice N u.cites.length nc, .int .i64 u.states.k, .int .i64 u.states.i, .slice A u.states.ks.length c, .slice S u.steps.length sc]] W fun e w' => e = .returned (.int .i64 (ra : Nat)) ∧ Below W.heap.size W w' from hra ▸ uright_any u N nc A c S sc W h.names h.tree h.steps))
  obtain ⟨X, hX⟩ : ∃ X : ByteArray, X = ⟨(unitT u).toArray⟩ := ⟨_, rfl⟩
  have WW := Lib.hid (fun (h0 : ra = 0) (W : World) (h : OneU w W u N nc A c S sc) => (show Calls Tryd.prog 39 #[.agg #[.slice N u.cites.length nc, .int .i64 u.states.k, .int .i64 u.states.i, .slice A u.states.ks.length c, .slice S u.steps.length sc]] W fun e w' => e = .returned (.string X) ∧ Below W.heap.size W w' from hX ▸ written_any u N nc A c S sc W (hra.symm.trans h0) (TT.out W h.below) h.names h.tree h.steps))
  have hsz : X.size = (unitT u).length := by rw [hX, mk_size]
  obtain ⟨r1, hr1⟩ : ∃ r1 : ByteArray, r1 = ⟨(printU u).1.toArray⟩ := ⟨_, rfl⟩
  obtain ⟨r2, hr2⟩ : ∃ r2, r2 = (printU u).2 := ⟨_, rfl⟩
  rw [← hr1, ← hr2]
  have F0 := Lib.hid (show ¬ ra = 0 → r1 = ⟨#[]⟩ ∧ r2 = ra by
    intro h
    rw [hr1, hr2, hra]
    unfold printU
    rw [if_neg (fun e => h (hra.trans e))]
    exact ⟨rfl, rfl⟩)
  have F1 := Lib.hid (show ra = 0 → 20000 < X.size → r1 = ⟨#[]⟩ ∧ r2 = 2 by
    intro h h2
    rw [hsz] at h2
    rw [hr1, hr2]
    unfold printU
    rw [if_pos (hra.symm.trans h), if_pos h2]
    exact ⟨rfl, rfl⟩)
  have F2 := Lib.hid (show ra = 0 → ¬ 20000 < X.size → r1 = X ∧ r2 = 0 by
    intro h h2
    rw [hsz] at h2
    rw [hr1, hr2]
    unfold printU
    rw [if_pos (hra.symm.trans h), if_neg h2, hX]
    exact ⟨rfl, rfl⟩)
  clear hn ht hs hT hra hX hsz hr1 hr2
  obtain ⟨y0, y1, y2, y3, y4⟩ := U0.out.box.cells
  go_enter Tryd.func17, Tryd.ntmps17
  go_wp2_with fail
  refine (RR.out _ U0.out).mono ?_
  rintro e w1 ⟨rfl, hb1⟩
  have U1 := Lib.hid (U0.out.keep hb1)
  clear hb1 U0 y0 y1 y2 y3 y4
  obtain ⟨y0, y1, y2, y3, y4⟩ := U1.out.box.cells
  by_cases h0 : ra = 0
  · have G1 := Lib.hid (F1.out h0)
    have G2 := Lib.hid (F2.out h0)
    have WQ := Lib.hid (WW.out h0)
    clear F0 F1 F2 WW
    subst h0
    go_wp2_with fail
    refine (WQ.out _ U1.out).mono ?_
    rintro e w2 ⟨rfl, hb2⟩
    have U2 := Lib.hid (U1.out.keep hb2)
    clear hb2 y0 y1 y2 y3 y4
    by_cases hbig : 20000 < X.size
    · obtain ⟨e1, e2⟩ := G1.out hbig
      have hb : (20000 : Int) < (X.size : Int) := by omega
      clear hbig G1 G2
      subst e1 e2
      go_wp2_with fail
      go_ret2
      exact ⟨rfl, U2.out.below⟩
    · obtain ⟨e1, e2⟩ := G2.out hbig
      have hb : ¬ (20000 : Int) < (X.size : Int) := by omega
      clear hbig G1 G2
      subst e1 e2
      go_wp2_with fail
      go_ret2
      exact ⟨rfl, U2.out.below⟩
  · obtain ⟨e1, e2⟩ := F0.out h0
    have hb : ((ra : Int) != 0) = true := by rw [bne_iff_ne]; omega
    clear F0 F1 F2
    subst e1 e2
    go_wp2_with fail
    go_ret2
    exact ⟨rfl, U1.out.below⟩
set_option maxHeartbeats 4000000 in
set_option maxRecDepth 100000 in
theorem rprint9_any (u : Unt) (N : Option Addr) (nc : Nat) (A : Option Addr) (c : Nat) (S : Option Addr) (sc : Nat) (w : World) (hT : TB w) (hn : IsNs w w.heap.size u.cites N nc) (ht : IsT w w.heap.size u.states A c) (hs : IsSs w w.heap.size u.steps S sc) :
    Calls Tryd.prog 18 #[.agg #[.slice N u.cites.length nc, .int .i64 u.states.k, .int .i64 u.states.i, .slice A u.states.ks.length c, .slice S u.steps.length sc]] w
      fun e w' => e = .returned (.tuple #[.string ⟨(printU u).1.toArray⟩, .int .i64 ((printU u).2 : Nat)]) ∧ Below w.heap.size w w' := by
  by_cases hr : rightU u = 0
  · exact rprint_right u N nc A c S sc w hr hT hn ht hs
  · have U0 := Lib.hid (OneU.new hn ht hs)
    have hp : printU u = ([], rightU u) := if_neg hr
    rw [hp]
    obtain ⟨ra, hra⟩ : ∃ ra, ra = rightU u := ⟨_, rfl⟩
    have RR := Lib.hid (fun (W : World) (h : OneU w W u N nc A c S sc) => (show Calls Tryd.prog 40 #[.agg #[.slice N u.cites.length nc, .int .i64 u.states.k, .int .i64 u.states.i, .slice A u.states.ks.length c, .slice S u.steps.length sc]] W fun e w' => e = .returned (.int .i64 (ra : Nat)) ∧ Below W.heap.size W w' from hra ▸ rright9_any u N nc A c S sc W h.names h.tree h.steps))
    rw [← hra]
    have hb : ((ra : Int) != 0) = true := by rw [bne_iff_ne]; omega
    clear hn ht hs hT hra hp hr
    obtain ⟨y0, y1, y2, y3, y4⟩ := U0.out.box.cells
    go_enter Tryd.func18, Tryd.ntmps18
    go_wp2_with fail
    refine (RR.out _ U0.out).mono ?_
    rintro e w1 ⟨rfl, hb1⟩
    have U1 := Lib.hid (U0.out.keep hb1)
    clear hb1 U0 y0 y1 y2 y3 y4
    go_wp2_with fail
    go_ret2
    exact ⟨rfl, U1.out.below⟩
set_option maxHeartbeats 4000000 in
set_option maxRecDepth 100000 in
theorem prints9_law (u : Unt) (N : Option Addr) (nc : Nat) (A : Option Addr) (c : Nat) (S : Option Addr) (sc : Nat) (w : World) (hT : TB w) (hn : IsNs w w.heap.size u.cites N nc) (ht : IsT w w.heap.size u.states A c) (hs : IsSs w w.heap.size u.steps S sc) :
    Calls Tryd.prog 7 #[.agg #[.slice N u.cites.length nc, .int .i64 u.states.k, .int .i64 u.states.i, .slice A u.states.ks.length c, .slice S u.steps.length sc]] w
      fun e w' => e = .returned (.bool true) ∧ Below w.heap.size w w' := by
  have U0 := Lib.hid (OneU.new hn ht hs)
  obtain ⟨r1, hr1⟩ : ∃ r1 : ByteArray, r1 = ⟨(printU u).1.toArray⟩ := ⟨_, rfl⟩
  obtain ⟨r2, hr2⟩ : ∃ r2, r2 = (printU u).2 := ⟨_, rfl⟩
  have PA := Lib.hid (fun (W : World) (h : OneU w W u N nc A c S sc) => (show Calls Tryd.prog 17 #[.agg #[.slice N u.cites.length nc, .int .i64 u.states.k, .int .i64 u.states.i, .slice A u.states.ks.length c, .slice S u.steps.length sc]] W fun e w' => e = .returned (.tuple #[.string r1, .int .i64 (r2 : Nat)]) ∧ Below W.heap.size W w' from hr1 ▸ hr2 ▸ uprint_any u N nc A c S sc W (hT.keep h.below) h.names h.tree h.steps))
  have PB := Lib.hid (fun (W : World) (h : OneU w W u N nc A c S sc) => (show Calls Tryd.prog 18 #[.agg #[.slice N u.cites.length nc, .int .i64 u.states.k, .int .i64 u.states.i, .slice A u.states.ks.length c, .slice S u.steps.length sc]] W fun e w' => e = .returned (.tuple #[.string r1, .int .i64 (r2 : Nat)]) ∧ Below W.heap.size W w' from hr1 ▸ hr2 ▸ rprint9_any u N nc A c S sc W (hT.keep h.below) h.names h.tree h.steps))
  have s1 : (r1.toList == r1.toList) = true := by simp
  have s2 : ((r2 : Int) == (r2 : Int)) = true := by simp
  clear hn ht hs hT hr1 hr2
  obtain ⟨y0, y1, y2, y3, y4⟩ := U0.out.box.cells
  go_enter Tryd.func7, Tryd.ntmps7
  go_wp2_with fail
  refine (PA.out _ U0.out).mono ?_
  rintro e w1 ⟨rfl, hb1⟩
  have U1 := Lib.hid (U0.out.keep hb1)
  clear hb1 U0 y0 y1 y2 y3 y4
  obtain ⟨y0, y1, y2, y3, y4⟩ := U1.out.box.cells
  go_wp2_with fail
  refine (PB.out _ U1.out).mono ?_
  rintro e w2 ⟨rfl, hb2⟩
  have U2 := Lib.hid (U1.out.keep hb2)
  clear hb2 U1 y0 y1 y2 y3 y4
  go_wp2_with fail
  go_ret
  exact ⟨rfl, U2.out.below⟩
end Go.Proofs.YtgnfbhemkombaaaDoor
