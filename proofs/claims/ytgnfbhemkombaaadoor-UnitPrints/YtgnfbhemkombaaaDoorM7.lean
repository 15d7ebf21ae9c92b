/- Right of package unit and of the document's layer 9; the laws UnitNames and UnitRights. -/
import Derived.Test.YtgnfbhemkombaaaDoorM6
import Derived.Deep.RegionHeld3
namespace Go.Proofs.YtgnfbhemkombaaaDoor
open Go.RowKit
set_option linter.unusedVariables false
set_option linter.unusedSimpArgs false
/-- the error of the step behind i others -/
def ustepN (i : Nat) (s : Stp) : Nat := if 60 ≤ i then 2 else if reasonN s.why s.a s.b s.cite ≠ 0 then reasonN s.why s.a s.b s.cite else writN s.says
def ustepsF (i : Nat) : List Stp → Nat
  | [] => 0
  | s :: r => if ustepN i s ≠ 0 then ustepN i s else ustepsF (i + 1) r
/-- the error of a unit -/
def rightU (u : Unt) : Nat := if citesF [] u.cites ≠ 0 then citesF [] u.cites else if writN u.states ≠ 0 then writN u.states else if u.steps.length = 0 then 90 else ustepsF 0 u.steps
set_option maxHeartbeats 2000000 in
set_option maxRecDepth 100000 in
theorem ustep_any (s : Stp) (i : Nat) (A : Option Addr) (c : Nat) (w : World) (ht : IsT w w.heap.size s.says A c) (hi : i < 10000000000000) :
    Calls Tryd.prog 80 #[.agg #[.int .i64 s.says.k, .int .i64 s.says.i, .slice A s.says.ks.length c, .int .i64 s.why, .int .i64 s.a, .int .i64 s.b, .string s.cite], .int .i64 ((i : Int) + 1)] w
      fun e w' => e = .returned (.int .i64 (ustepN i s : Nat)) ∧ Below w.heap.size w w' := by
  obtain ⟨t, y, a, b, q⟩ := s
  have B0 := Lib.hid (BoxS.new w (.int .i64 t.k) (.int .i64 t.i) (.slice A t.ks.length c) (.int .i64 y) (.int .i64 a) (.int .i64 b) (.string q))
  have L0 := Lib.hid (show Below w.heap.size w (w.alloc (.cells #[.int .i64 t.k, .int .i64 t.i, .slice A t.ks.length c, .int .i64 y, .int .i64 a, .int .i64 b, .string q] 71)) from (Below.refl _ _).alloc (Nat.le_refl _) _)
  have HT := Lib.hid ht
  obtain ⟨y0, y1, y2, y3, y4, y5, y6⟩ := B0.out.cells
  clear ht
  by_cases hb : 60 ≤ i
  · have R := Lib.hid (show ustepN i ⟨t, y, a, b, q⟩ = 2 from if_pos hb)
    have e1 : (60 : Int) < (i : Int) + 1 := by omega
    go_enter Tryd.func80, Tryd.ntmps80
    go_wp2_with fail
    go_ret
    exact ⟨ret_intw (by rw [R.out]; rfl), L0.out⟩
  · have e1 : ¬ (60 : Int) < (i : Int) + 1 := by omega
    have R0 := Lib.hid (show ustepN i ⟨t, y, a, b, q⟩ = if reasonN y a b q ≠ 0 then reasonN y a b q else writN t from if_neg hb)
    clear hb
    go_enter Tryd.func80, Tryd.ntmps80
    go_wp2_with fail
    refine (ujust_any t.k t.i A t.ks.length c y a b q _).mono ?_
    rintro e w1 ⟨rfl, hb1⟩
    have B1 := Lib.hid (B0.out.keep hb1 B0.out.lt)
    have L1 := Lib.hid (L0.out.trans (hb1.mono L0.out.size))
    clear hb1 y0 y1 y2 y3 y4 y5 y6 B0 L0
    obtain ⟨y0, y1, y2, y3, y4, y5, y6⟩ := B1.out.cells
    cases hj : justB y a b q with
    | false =>
      have R := Lib.hid (show ustepN i ⟨t, y, a, b, q⟩ = 90 by rw [R0.out]; simp [reasonN, hj])
      go_wp2_with fail
      go_ret
      exact ⟨ret_intw (by rw [R.out]; rfl), L1.out⟩
    | true =>
      by_cases hy : y = 4
      · subst hy
        cases hM : nameN (bytesN q) with
        | false =>
          have R := Lib.hid (show ustepN i ⟨t, 4, a, b, q⟩ = 91 by rw [R0.out]; simp [reasonN, hj, hM])
          go_wp2_with (go_at_call 104; refine (uname_any _ _).mono ?_; rintro e w' ⟨rfl, rfl⟩; rw [hM])
          go_ret
          exact ⟨ret_intw (by rw [R.out]; rfl), L1.out⟩
        | true =>
          have R := Lib.hid (show ustepN i ⟨t, 4, a, b, q⟩ = writN t by rw [R0.out]; simp [reasonN, hj, hM])
          go_wp2_with (first | (go_at_call 104; refine (uname_any _ _).mono ?_; rintro e w' ⟨rfl, rfl⟩; rw [hM]) | fail)
          refine (uform_any t A c _ (by exact HT.out.keep L1.out L1.out.size)).mono ?_
          rintro e w2 ⟨rfl, hb2⟩
          go_wp2_with fail
          go_ret
          exact ⟨ret_intw (by rw [R.out]), L1.out.trans (hb2.mono L1.out.size)⟩
      · have ey : (y == 4) = false := by simpa using hy
        have R := Lib.hid (show ustepN i ⟨t, y, a, b, q⟩ = writN t by rw [R0.out]; simp [reasonN, hj, hy])
        clear hy
        go_wp2_with fail
        refine (uform_any t A c _ (by exact HT.out.keep L1.out L1.out.size)).mono ?_
        rintro e w2 ⟨rfl, hb2⟩
        go_wp2_with fail
        go_ret
        exact ⟨ret_intw (by rw [R.out]), L1.out.trans (hb2.mono L1.out.size)⟩
/-- a unit's box -/
structure BoxU (w : World) (b : Nat) (u : Unt) (N : Option Addr) (nc : Nat) (A : Option Addr) (c : Nat) (S : Option Addr) (sc : Nat) : Prop where
  blk : w.heap[b]? = some (.cells #[.slice N u.cites.length nc, .int .i64 u.states.k, .int .i64 u.states.i, .slice A u.states.ks.length c, .slice S u.steps.length sc] 45 (0, 0))
section
variable {w w' : World} {b B : Nat} {u : Unt} {N : Option Addr} {nc : Nat} {A : Option Addr} {c : Nat} {S : Option Addr} {sc : Nat}
theorem BoxU.cells (h : BoxU w b u N nc A c S sc) : w.cell? ⟨b, 0, none⟩ = some (.slice N u.cites.length nc) ∧ w.cell? ⟨b, 1, none⟩ = some (.int .i64 u.states.k) ∧ w.cell? ⟨b, 2, none⟩ = some (.int .i64 u.states.i) ∧ w.cell? ⟨b, 3, none⟩ = some (.slice A u.states.ks.length c) ∧ w.cell? ⟨b, 4, none⟩ = some (.slice S u.steps.length sc) := by
  unfold World.cell?
  rw [show w.heap[b]? = _ from h.blk]
  exact ⟨rfl, rfl, rfl, rfl, rfl⟩
theorem BoxU.lt (h : BoxU w b u N nc A c S sc) : b < w.heap.size := (Array.getElem?_eq_some_iff.1 h.blk).1
theorem BoxU.keep (h : BoxU w b u N nc A c S sc) (hb : Below B w w') (hB : b < B) : BoxU w' b u N nc A c S sc := ⟨(hb.block b hB).trans h.blk⟩
end
theorem BoxU.new (w : World) (u : Unt) (N : Option Addr) (nc : Nat) (A : Option Addr) (c : Nat) (S : Option Addr) (sc : Nat) :
    BoxU (w.alloc (.cells #[.slice N u.cites.length nc, .int .i64 u.states.k, .int .i64 u.states.i, .slice A u.states.ks.length c, .slice S u.steps.length sc] 45)) w.heap.size u N nc A c S sc := ⟨by show (w.heap.push _)[w.heap.size]? = _; simp⟩
/-- a unit that was handed in: its box, and what lies behind it, in a later world -/
structure OneU (w wr : World) (u : Unt) (N : Option Addr) (nc : Nat) (A : Option Addr) (c : Nat) (S : Option Addr) (sc : Nat) : Prop where
  box : BoxU wr w.heap.size u N nc A c S sc
  names : IsNs wr wr.heap.size u.cites N nc
  tree : IsT wr wr.heap.size u.states A c
  steps : IsSs wr wr.heap.size u.steps S sc
  below : Below w.heap.size w wr
section
variable {w wr w' : World} {u : Unt} {N : Option Addr} {nc : Nat} {A : Option Addr} {c : Nat} {S : Option Addr} {sc : Nat}
theorem OneU.new (hn : IsNs w w.heap.size u.cites N nc) (ht : IsT w w.heap.size u.states A c) (hs : IsSs w w.heap.size u.steps S sc) :
    OneU w (w.alloc (.cells #[.slice N u.cites.length nc, .int .i64 u.states.k, .int .i64 u.states.i, .slice A u.states.ks.length c, .slice S u.steps.length sc] 45)) u N nc A c S sc := by
  have hb : Below w.heap.size w (w.alloc (.cells #[.slice N u.cites.length nc, .int .i64 u.states.k, .int .i64 u.states.i, .slice A u.states.ks.length c, .slice S u.steps.length sc] 45)) := (Below.refl _ _).alloc (Nat.le_refl _) _
  exact ⟨BoxU.new w u N nc A c S sc, hn.keep hb hb.size, ht.keep hb hb.size, hs.keep hb hb.size, hb⟩
theorem OneU.keep (h : OneU w wr u N nc A c S sc) (hb : Below wr.heap.size wr w') : OneU w w' u N nc A c S sc :=
  ⟨h.box.keep hb h.box.lt, h.names.keep hb hb.size, h.tree.keep hb hb.size, h.steps.keep hb hb.size, h.below.trans (hb.mono h.below.size)⟩
end
set_option maxHeartbeats 4000000 in
set_option maxRecDepth 100000 in
theorem uright_any (u : Unt) (N : Option Addr) (nc : Nat) (A : Option Addr) (c : Nat) (S : Option Addr) (sc : Nat) (w : World) (hn : IsNs w w.heap.size u.cites N nc) (ht : IsT w w.heap.size u.states A c) (hs : IsSs w w.heap.size u.steps S sc) :
    Calls Tryd.prog 38 #[.agg #[.slice N u.cites.length nc, .int .i64 u.states.k, .int .i64 u.states.i, .slice A u.states.ks.length c, .slice S u.steps.length sc]] w
      fun e w' => e = .returned (.int .i64 (rightU u : Nat)) ∧ Below w.heap.size w w' := by
  have U0 := Lib.hid (OneU.new hn ht hs)
  have hcap := hs.cap
  have hle := hs.le
  clear hn ht hs
  obtain ⟨y0, y1, y2, y3, y4⟩ := U0.out.box.cells
  go_enter Tryd.func38, Tryd.ntmps38
  go_wp2_with fail
  refine (ucites_any u.cites N nc _ (by exact U0.out.names)).mono ?_
  rintro e w1 ⟨rfl, hw1⟩
  rw [← hw1]
  clear hw1
  by_cases h0 : citesF [] u.cites = 0
  · have R0 := Lib.hid (show rightU u = if writN u.states ≠ 0 then writN u.states else if u.steps.length = 0 then 90 else ustepsF 0 u.steps from if_neg (fun h => h h0))
    rw [h0]
    clear h0
    go_wp2_with fail
    refine (uform_any u.states A c _ (by exact U0.out.tree)).mono ?_
    rintro e w2 ⟨rfl, hb2⟩
    have U2 := Lib.hid (U0.out.keep hb2)
    clear hb2 U0 y0 y1 y2 y3 y4
    obtain ⟨y0, y1, y2, y3, y4⟩ := U2.out.box.cells
    by_cases h1 : writN u.states = 0
    · have R1 := Lib.hid (R0.out.trans (if_neg (fun h => h h1)))
      rw [h1]
      clear h1 R0
      by_cases h2 : u.steps.length = 0
      · have R := Lib.hid (R1.out.trans (if_pos h2))
        rw [h2] at y4
        go_wp2_with fail
        go_ret
        exact ⟨ret_intw (by rw [R.out]; rfl), U2.out.below⟩
      · have R2 := Lib.hid (R1.out.trans (if_neg h2))
        have e2 : ((u.steps.length : Int) == 0) = false := by simpa using h2
        clear R1
        go_wp2_with fail
        go_loopw [5, 7, 27] (fun _ _ i wr => ∃ k : Nat, k ≤ u.steps.length ∧ i = .int .i64 (k : Int) ∧ rightU u = ustepsF k (u.steps.drop k) ∧ OneU w wr u N nc A c S sc) (fun _ _ i _ => u.steps.length - (intOf i).toNat)
        case atStart => exact ⟨0, Nat.zero_le _, rfl, R2.out, U2.out⟩
        case round =>
          obtain ⟨k, hk, rfl, he, hU⟩ := hrel
          have HE := Lib.hid he
          have HU := Lib.hid hU
          clear he hU y0 y1 y2 y3 y4
          obtain ⟨y0, y1, y2, y3, y4⟩ := HU.out.box.cells
          by_cases hlt : k < u.steps.length
          · have ST := Lib.hid (show rightU u = if ustepN k u.steps[k] ≠ 0 then ustepN k u.steps[k] else ustepsF (k + 1) (u.steps.drop (k + 1)) by rw [HE.out, List.drop_eq_getElem_cons hlt]; rfl)
            obtain ⟨b, o, A', c', rfl, hb, k0, k1, k2, k3, k4, k5, k6, hq, hT⟩ := HU.out.steps.at_ k hlt
            obtain ⟨s, hs⟩ : ∃ s, s = u.steps[k] := ⟨_, rfl⟩
            rw [← hs] at ST k0 k1 k2 k3 k4 k5 k6 hT
            have HT := Lib.hid hT
            clear hs hT hq
            have B1 := Lib.hid (BoxS.new wr (.int .i64 s.says.k) (.int .i64 s.says.i) (.slice A' s.says.ks.length c') (.int .i64 s.why) (.int .i64 s.a) (.int .i64 s.b) (.string s.cite))
            have L1 := Lib.hid (show Below wr.heap.size wr (wr.alloc (.cells #[.int .i64 s.says.k, .int .i64 s.says.i, .slice A' s.says.ks.length c', .int .i64 s.why, .int .i64 s.a, .int .i64 s.b, .string s.cite] 71)) from (Below.refl _ _).alloc (Nat.le_refl _) _)
            have U1 := Lib.hid (HU.out.keep L1.out)
            have T1 := Lib.hid (HT.out.keep L1.out L1.out.size)
            obtain ⟨z0, z1, z2, z3, z4, z5, z6⟩ := B1.out.cells
            go_wp2_with fail
            refine (ustep_any s k A' c' _ (by exact T1.out) (by omega)).mono ?_
            rintro e w3 ⟨rfl, hb3⟩
            have U3 := Lib.hid (U1.out.keep hb3)
            clear hb3 z0 z1 z2 z3 z4 z5 z6
            by_cases hz : ustepN k s = 0
            · have R := Lib.hid (ST.out.trans (if_neg (fun h => h hz)))
              rw [hz]
              go_wp2_with fail
              go_roundw
              case rel => exact ⟨k + 1, by omega, by go_num, R.out, U3.out⟩
              case measure => simp [intOf]; omega
            · have R := Lib.hid (ST.out.trans (if_pos hz))
              have ez : ((ustepN k s : Int) != 0) = true := by rw [bne_iff_ne]; omega
              go_wp2_with fail
              go_ret
              exact ⟨ret_intw (by rw [R.out]), U3.out.below⟩
          · obtain rfl : k = u.steps.length := by omega
            have R := Lib.hid (show rightU u = 0 by rw [HE.out, List.drop_length, ustepsF])
            go_wp2_with fail
            go_ret
            exact ⟨ret_intw (by rw [R.out]; rfl), HU.out.below⟩
    · have R := Lib.hid (R0.out.trans (if_pos h1))
      have e1 : ((writN u.states : Int) != 0) = true := by rw [bne_iff_ne]; omega
      go_wp2_with fail
      go_ret
      exact ⟨ret_intw (by rw [R.out]), U2.out.below⟩
  · have R := Lib.hid (show rightU u = citesF [] u.cites from if_pos h0)
    have e0 : ((citesF [] u.cites : Int) != 0) = true := by rw [bne_iff_ne]; omega
    go_wp2_with fail
    go_ret
    exact ⟨ret_intw (by rw [R.out]), U0.out.below⟩
set_option maxHeartbeats 4000000 in
set_option maxRecDepth 100000 in
theorem rright9_any (u : Unt) (N : Option Addr) (nc : Nat) (A : Option Addr) (c : Nat) (S : Option Addr) (sc : Nat) (w : World) (hn : IsNs w w.heap.size u.cites N nc) (ht : IsT w w.heap.size u.states A c) (hs : IsSs w w.heap.size u.steps S sc) :
    Calls Tryd.prog 40 #[.agg #[.slice N u.cites.length nc, .int .i64 u.states.k, .int .i64 u.states.i, .slice A u.states.ks.length c, .slice S u.steps.length sc]] w
      fun e w' => e = .returned (.int .i64 (rightU u : Nat)) ∧ Below w.heap.size w w' := by
  have U0 := Lib.hid (OneU.new hn ht hs)
  have hcap := hs.cap
  have hle := hs.le
  clear hn ht hs
  obtain ⟨y0, y1, y2, y3, y4⟩ := U0.out.box.cells
  go_enter Tryd.func40, Tryd.ntmps40
  go_wp2_with fail
  refine (rnames_any u.cites N nc _ (by exact U0.out.names)).mono ?_
  rintro e w1 ⟨rfl, hw1⟩
  rw [← hw1]
  clear hw1
  by_cases h0 : citesF [] u.cites = 0
  · have R0 := Lib.hid (show rightU u = if writN u.states ≠ 0 then writN u.states else if u.steps.length = 0 then 90 else ustepsF 0 u.steps from if_neg (fun h => h h0))
    rw [h0]
    clear h0
    go_wp2_with fail
    refine (rwritten_any u.states A c _ (by exact U0.out.tree)).mono ?_
    rintro e w2 ⟨rfl, hb2⟩
    have U2 := Lib.hid (U0.out.keep hb2)
    clear hb2 U0 y0 y1 y2 y3 y4
    obtain ⟨y0, y1, y2, y3, y4⟩ := U2.out.box.cells
    by_cases h1 : writN u.states = 0
    · have R1 := Lib.hid (R0.out.trans (if_neg (fun h => h h1)))
      rw [h1]
      clear h1 R0
      by_cases h2 : u.steps.length = 0
      · have R := Lib.hid (R1.out.trans (if_pos h2))
        rw [h2] at y4
        go_wp2_with fail
        go_ret
        exact ⟨ret_intw (by rw [R.out]; rfl), U2.out.below⟩
      · have R2 := Lib.hid (R1.out.trans (if_neg h2))
        have e2 : ((u.steps.length : Int) == 0) = false := by simpa using h2
        clear R1
        go_wp2_with fail
        go_loopw [3, 4, 25] (fun _ _ i wr => ∃ k : Nat, k ≤ u.steps.length ∧ i = .int .i64 (k : Int) ∧ rightU u = ustepsF k (u.steps.drop k) ∧ OneU w wr u N nc A c S sc) (fun _ _ i _ => u.steps.length - (intOf i).toNat)
        case atStart => exact ⟨0, Nat.zero_le _, rfl, R2.out, U2.out⟩
        case round =>
          obtain ⟨k, hk, rfl, he, hU⟩ := hrel
          have HE := Lib.hid he
          have HU := Lib.hid hU
          clear he hU y0 y1 y2 y3 y4
          obtain ⟨y0, y1, y2, y3, y4⟩ := HU.out.box.cells
          by_cases hlt : k < u.steps.length
          · have ST := Lib.hid (show rightU u = if ustepN k u.steps[k] ≠ 0 then ustepN k u.steps[k] else ustepsF (k + 1) (u.steps.drop (k + 1)) by rw [HE.out, List.drop_eq_getElem_cons hlt]; rfl)
            obtain ⟨b, o, A', c', rfl, hb, k0, k1, k2, k3, k4, k5, k6, hq, hT⟩ := HU.out.steps.at_ k hlt
            obtain ⟨s, hs⟩ : ∃ s, s = u.steps[k] := ⟨_, rfl⟩
            rw [← hs] at ST k0 k1 k2 k3 k4 k5 k6 hT
            have HT := Lib.hid hT
            clear hs hT hq
            have B1 := Lib.hid (BoxS.new wr (.int .i64 s.says.k) (.int .i64 s.says.i) (.slice A' s.says.ks.length c') (.int .i64 s.why) (.int .i64 s.a) (.int .i64 s.b) (.string s.cite))
            have L1 := Lib.hid (show Below wr.heap.size wr (wr.alloc (.cells #[.int .i64 s.says.k, .int .i64 s.says.i, .slice A' s.says.ks.length c', .int .i64 s.why, .int .i64 s.a, .int .i64 s.b, .string s.cite] 71)) from (Below.refl _ _).alloc (Nat.le_refl _) _)
            have U1 := Lib.hid (HU.out.keep L1.out)
            have T1 := Lib.hid (HT.out.keep L1.out L1.out.size)
            obtain ⟨z0, z1, z2, z3, z4, z5, z6⟩ := B1.out.cells
            by_cases h60 : 60 ≤ k
            · have R := Lib.hid (show rightU u = 2 by rw [ST.out]; simp [ustepN, h60])
              have e60 : (60 : Int) ≤ (k : Int) := by omega
              go_wp2_with fail
              go_ret
              exact ⟨ret_intw (by rw [R.out]; rfl), U1.out.below⟩
            · have e60 : ¬ (60 : Int) ≤ (k : Int) := by omega
              have SN := Lib.hid (show ustepN k s = if reasonN s.why s.a s.b s.cite ≠ 0 then reasonN s.why s.a s.b s.cite else writN s.says from if_neg h60)
              clear h60
              go_wp2_with fail
              refine (rreason_any s.says.k s.says.i A' s.says.ks.length c' s.why s.a s.b s.cite _).mono ?_
              rintro e w3 ⟨rfl, hb3⟩
              have U3 := Lib.hid (U1.out.keep hb3)
              have B3 := Lib.hid (B1.out.keep hb3 B1.out.lt)
              have T3 := Lib.hid (T1.out.keep hb3 hb3.size)
              clear hb3 z0 z1 z2 z3 z4 z5 z6 y0 y1 y2 y3 y4 k0 k1 k2 k3 k4 k5 k6
              obtain ⟨z0, z1, z2, z3, z4, z5, z6⟩ := B3.out.cells
              by_cases hr : reasonN s.why s.a s.b s.cite = 0
              · have SN2 := Lib.hid (SN.out.trans (if_neg (fun h => h hr)))
                rw [hr]
                clear hr
                go_wp2_with fail
                refine (rwritten_any s.says A' c' _ (by exact T3.out)).mono ?_
                rintro e w4 ⟨rfl, hb4⟩
                have U4 := Lib.hid (U3.out.keep hb4)
                clear hb4
                rw [SN2.out] at ST
                by_cases hz : writN s.says = 0
                · have R := Lib.hid (ST.out.trans (if_neg (fun h => h hz)))
                  rw [hz]
                  go_wp2_with fail
                  go_roundw
                  case rel => exact ⟨k + 1, by omega, by go_num, R.out, U4.out⟩
                  case measure => simp [intOf]; omega
                · have R := Lib.hid (ST.out.trans (if_pos hz))
                  have ez : ((writN s.says : Int) != 0) = true := by rw [bne_iff_ne]; omega
                  go_wp2_with fail
                  go_ret
                  exact ⟨ret_intw (by rw [R.out]), U4.out.below⟩
              · have SN2 := Lib.hid (SN.out.trans (if_pos hr))
                rw [SN2.out] at ST
                have R := Lib.hid (ST.out.trans (if_pos hr))
                have ez : ((reasonN s.why s.a s.b s.cite : Int) != 0) = true := by rw [bne_iff_ne]; omega
                go_wp2_with fail
                go_ret
                exact ⟨ret_intw (by rw [R.out]), U3.out.below⟩
          · obtain rfl : k = u.steps.length := by omega
            have R := Lib.hid (show rightU u = 0 by rw [HE.out, List.drop_length, ustepsF])
            go_wp2_with fail
            go_ret
            exact ⟨ret_intw (by rw [R.out]; rfl), HU.out.below⟩
    · have R := Lib.hid (R0.out.trans (if_pos h1))
      have e1 : ((writN u.states : Int) != 0) = true := by rw [bne_iff_ne]; omega
      go_wp2_with fail
      go_ret
      exact ⟨ret_intw (by rw [R.out]), U2.out.below⟩
  · have R := Lib.hid (show rightU u = citesF [] u.cites from if_pos h0)
    have e0 : ((citesF [] u.cites : Int) != 0) = true := by rw [bne_iff_ne]; omega
    go_wp2_with fail
    go_ret
    exact ⟨ret_intw (by rw [R.out]), U0.out.below⟩
end Go.Proofs.YtgnfbhemkombaaaDoor
