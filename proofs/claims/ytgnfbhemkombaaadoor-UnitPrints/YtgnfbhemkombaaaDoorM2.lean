/- Units in memory; from what a row tells of an argument of type Unit to them. -/
import Derived.Test.YtgnfbhemkombaaaDoorL0
import Derived.Test.YtgnfbhemkombaaaDoorP2
import Derived.SliceStrings
namespace Go.Proofs.YtgnfbhemkombaaaDoor
open Go.RowKit Go.ChangeShapes
set_option linter.unusedVariables false
set_option linter.unusedSimpArgs false
/-- a step -/
structure Stp where
  says : Tr
  why : Int
  a : Int
  b : Int
  cite : ByteArray
instance : Inhabited Stp := ⟨⟨default, 0, 0, 0, ByteArray.empty⟩⟩
/-- a unit -/
structure Unt where
  cites : List ByteArray
  states : Tr
  steps : List Stp
/-- names in a row -/
structure IsNs (w : World) (B : Nat) (l : List ByteArray) (A : Option Addr) (c : Nat) : Prop where
  le : l.length ≤ c
  cap : l.length * 16 ≤ 140737488351232
  small : ∀ s ∈ l, s.size ≤ maxLen
  cell : ∀ m (h : m < l.length), ∃ b o, A = some ⟨b, o, none⟩ ∧ b < B ∧ w.cell? ⟨b, o + m, none⟩ = some (.string l[m])
theorem IsNs.keep {w w' : World} {B B' : Nat} (hb : Below B w w') (hB : B ≤ B') {l : List ByteArray} {A : Option Addr} {c : Nat} (h : IsNs w B l A c) : IsNs w' B' l A c :=
  ⟨h.le, h.cap, h.small, fun m hm => by
    obtain ⟨b, o, h1, h2, h3⟩ := h.cell m hm
    exact ⟨b, o, h1, by omega, (hb.cell h2).trans h3⟩⟩
/-- a step at place j of a row -/
def StpAt (w : World) (B : Nat) (A : Option Addr) (j : Nat) (s : Stp) : Prop :=
  ∃ b o A' c', A = some ⟨b, o, none⟩ ∧ b < B ∧ w.cell? ⟨b, o + j * 7, none⟩ = some (.int .i64 s.says.k) ∧ w.cell? ⟨b, o + j * 7 + 1, none⟩ = some (.int .i64 s.says.i) ∧
    w.cell? ⟨b, o + j * 7 + 2, none⟩ = some (.slice A' s.says.ks.length c') ∧ w.cell? ⟨b, o + j * 7 + 3, none⟩ = some (.int .i64 s.why) ∧ w.cell? ⟨b, o + j * 7 + 4, none⟩ = some (.int .i64 s.a) ∧
    w.cell? ⟨b, o + j * 7 + 5, none⟩ = some (.int .i64 s.b) ∧ w.cell? ⟨b, o + j * 7 + 6, none⟩ = some (.string s.cite) ∧ s.cite.size ≤ maxLen ∧ IsT w B s.says A' c'
theorem StpAt.keep {w w' : World} {B B' : Nat} (hb : Below B w w') (hB : B ≤ B') {A : Option Addr} {j : Nat} {s : Stp} (h : StpAt w B A j s) : StpAt w' B' A j s := by
  obtain ⟨b, o, A', c', h1, h2, k0, k1, k2, k3, k4, k5, k6, h3, h4⟩ := h
  exact ⟨b, o, A', c', h1, by omega, (hb.cell h2).trans k0, (hb.cell h2).trans k1, (hb.cell h2).trans k2, (hb.cell h2).trans k3, (hb.cell h2).trans k4, (hb.cell h2).trans k5, (hb.cell h2).trans k6, h3, h4.keep hb hB _⟩
structure IsSs (w : World) (B : Nat) (l : List Stp) (A : Option Addr) (c : Nat) : Prop where
  le : l.length ≤ c
  cap : l.length * 80 ≤ 140737488351232
  at_ : ∀ m (h : m < l.length), StpAt w B A m l[m]
theorem IsSs.keep {w w' : World} {B B' : Nat} (hb : Below B w w') (hB : B ≤ B') {l : List Stp} {A : Option Addr} {c : Nat} (h : IsSs w B l A c) : IsSs w' B' l A c :=
  ⟨h.le, h.cap, fun m hm => (h.at_ m hm).keep hb hB⟩
theorem Tryd.cellsStr : Tryd.prog.cellsOf 9 = 1 := by kernel_rfl
theorem Tryd.cellsStrs : Tryd.prog.cellsOf 42 = 1 := by kernel_rfl
theorem Tryd.bytesStr : Tryd.prog.bytesOf 9 = 16 := by kernel_rfl
theorem Tryd.cellsStep : Tryd.prog.cellsOf 71 = 7 := by kernel_rfl
theorem Tryd.bytesStep : Tryd.prog.bytesOf 71 = 80 := by kernel_rfl
theorem Tryd.cellsSteps : Tryd.prog.cellsOf 43 = 1 := by kernel_rfl
theorem Tryd.cellsUnit : Tryd.prog.cellsOf 45 = 5 := by kernel_rfl
theorem strs_length {H : Type} (l : List ByteArray) : (strs l : List (DataW H)).length = l.length := by simp [strs]
set_option maxRecDepth 100000 in
set_option maxHeartbeats 1000000 in
theorem open_names {H : Type} {enc : TypeId × Value → H} {W : World} {spare : Nat → Bool} {held : Bool} (hsp : ∀ b, spare b = true) (fuel : Nat) (cs : List Value) (x : DataW H × List MemPlace)
    (h : DataW.trod enc Tryd.prog W 0 spare held fuel 42 cs = some x) (hw : ∀ n, n ∈ DataW.weights Tryd.prog 42 x.1 → n ≤ reachBytes) :
    ∃ (l : List ByteArray) (A : Option Addr) (c : Nat), cs = [.slice A l.length c] ∧ IsNs W W.heap.size l A c := by
  rcases open_strings Tryd.underlying42 Tryd.underlying9 Tryd.cellsStr h with ⟨hcs, _⟩ | ⟨a, len, cap, ss, hcs, _, hl, hm, hlen, hx, hcell, hsz⟩
  · exact ⟨[], none, 0, hcs, ⟨Nat.le_refl _, by simp, by simp, fun m hm => by simp at hm⟩⟩
  · rw [hsp] at hlen
    simp only [if_true] at hlen
    have hx1 : x.1 = .slice (strs (ss.take len)) (strs (ss.drop len)) := by rw [hx]
    have hcap : len * 16 ≤ 140737488351232 := by
      have : ((ss.take len).length + (ss.drop len).length) * 16 ≤ reachBytes := by
        refine hw _ ?_
        rw [hx1]
        simp only [DataW.weights, Tryd.underlying42, Tryd.bytesStr, strs_length]
        exact List.mem_cons_self
      unfold reachBytes at this
      rw [List.length_take, List.length_drop] at this
      omega
    have hlt : (ss.take len).length = len := by rw [List.length_take]; omega
    refine ⟨ss.take len, some a, cap, by rw [hcs, hlt], ⟨by omega, by omega, fun s hs => hsz s (List.mem_of_mem_take hs), fun m hm => ?_⟩⟩
    rw [hlt] at hm
    have e := hcell m (by omega)
    have e2 : ss.getD m ByteArray.empty = (ss.take len)[m]'(by omega) := by
      rw [List.getElem_take, List.getD_eq_getElem?_getD, List.getElem?_eq_getElem (by omega)]
      rfl
    rw [e2] at e
    have hsp0 : a.spot = none := by
      have e0 := hcell 0 (by omega)
      exact spot_none (a := a) (by simpa [Addr.add] using e0)
    obtain ⟨b, o, sp⟩ := a
    obtain rfl : sp = none := hsp0
    rw [add_plain] at e
    exact ⟨b, o, rfl, block_lt_of_cell e, e⟩
set_option maxRecDepth 100000 in
set_option maxHeartbeats 1000000 in
theorem open_step {H : Type} {enc : TypeId × Value → H} {W : World} {spare : Nat → Bool} {held : Bool} (hsp : ∀ b, spare b = true) (fuel : Nat) (cs : List Value) (x : DataW H × List MemPlace)
    (h : DataW.trod enc Tryd.prog W 0 spare held fuel 71 cs = some x) (hw : ∀ n, n ∈ DataW.weights Tryd.prog 71 x.1 → n ≤ reachBytes) :
    ∃ (p : Stp) (A : Option Addr) (c : Nat), cs = [.int .i64 p.says.k, .int .i64 p.says.i, .slice A p.says.ks.length c, .int .i64 p.why, .int .i64 p.a, .int .i64 p.b, .string p.cite] ∧ p.cite.size ≤ maxLen ∧ IsT W W.heap.size p.says A c := by
  obtain ⟨xs, n, hn, hx, hlen, hxl, hf⟩ := DataW.trod_struct Tryd.underlying71 h
  rw [Tryd.cellsStep] at hlen
  match xs, hxl, cs, hlen with
  | [y0, y1, y2, y3, y4], _, [v0, v1, v2, v3, v4, v5, v6], _ =>
    have g0 := hf 0 _ rfl
    have g1 := hf 1 _ rfl
    have g2 := hf 2 _ rfl
    have g3 := hf 3 _ rfl
    have g4 := hf 4 _ rfl
    simp [Tryd.cells3, Tryd.cells24, Tryd.cellsStr] at g0 g1 g2 g3 g4
    obtain ⟨k1, e1, _, _⟩ := DataW.trod_int Tryd.underlying3 g1
    obtain ⟨k2, e2, _, _⟩ := DataW.trod_int Tryd.underlying3 g2
    obtain ⟨k3, e3, _, _⟩ := DataW.trod_int Tryd.underlying3 g3
    obtain ⟨s, e4, _, hs⟩ := DataW.trod_string Tryd.underlying9 g4
    simp only [List.cons.injEq, and_true] at e1 e2 e3 e4
    subst e1 e2 e3 e4
    obtain ⟨t, A, c, hcs, ht⟩ := open_expr hsp n _ _ g0 (fun m hm => hw m (by
      rw [hx]
      simp only [List.map_cons, List.map_nil, DataW.weights, Tryd.underlying71]
      exact DataW.weights_mem_each (j := 0) (ds := [y0.1, y1.1, y2.1, y3.1, y4.1]) rfl rfl m hm))
    simp only [List.cons.injEq, and_true] at hcs
    obtain ⟨rfl, rfl, rfl⟩ := hcs
    exact ⟨⟨t, k1, k2, k3, s⟩, A, c, rfl, hs, ht⟩
set_option maxRecDepth 100000 in
set_option maxHeartbeats 1000000 in
theorem open_steps {H : Type} {enc : TypeId × Value → H} {W : World} {spare : Nat → Bool} {held : Bool} (hsp : ∀ b, spare b = true) (fuel : Nat) (cs : List Value) (x : DataW H × List MemPlace)
    (h : DataW.trod enc Tryd.prog W 0 spare held fuel 43 cs = some x) (hw : ∀ n, n ∈ DataW.weights Tryd.prog 43 x.1 → n ≤ reachBytes) :
    ∃ (l : List Stp) (A : Option Addr) (c : Nat), cs = [.slice A l.length c] ∧ IsSs W W.heap.size l A c := by
  rcases DataW.trod_slice Tryd.underlying43 h with ⟨hcs, _⟩ | ⟨a, len, cap, elems, rest, n', hn', hcs, hy, _, hl, hm, hlen', hel, hsp', _⟩
  · exact ⟨[], none, 0, hcs, ⟨Nat.le_refl _, by simp, fun m hm => by simp at hm⟩⟩
  · obtain ⟨hrl, _⟩ := hsp' (hsp _)
    rw [Tryd.cellsStep] at hel
    have hy1 : x.1 = .slice (elems.map (·.1)) (rest.map (·.1)) := by rw [hy]
    have hcap : len * 80 ≤ 140737488351232 := by
      have : (elems.length + rest.length) * 80 ≤ reachBytes := by
        refine hw _ ?_
        rw [hy1]
        simp only [DataW.weights, Tryd.underlying43, Tryd.bytesStep, List.length_map]
        exact List.mem_cons_self
      unfold reachBytes at this
      omega
    have each0 : ∀ j, j < len → ∃ (p : Stp) (A : Option Addr) (c : Nat), (∃ cs', W.cells? 0 (a.add (j * 7)) 7 = some cs' ∧ cs' = [.int .i64 p.says.k, .int .i64 p.says.i, .slice A p.says.ks.length c, .int .i64 p.why, .int .i64 p.a, .int .i64 p.b, .string p.cite]) ∧ p.cite.size ≤ maxLen ∧ IsT W W.heap.size p.says A c := by
      intro j hj
      have h0 := hel j hj
      rw [List.getElem?_eq_getElem (by omega)] at h0
      obtain ⟨cs', h1, h2⟩ := Option.bind_eq_some_iff.1 h0
      obtain ⟨p, A, c, hcs', hs, ht⟩ := open_step hsp n' cs' _ h2 (fun n hn => hw n (by
        rw [hy1]
        simp only [DataW.weights, Tryd.underlying43]
        refine List.mem_cons_of_mem _ (List.mem_append_left _ (weightsAll_mem ?_ n hn))
        exact List.mem_map.2 ⟨elems[j], List.getElem_mem _, rfl⟩))
      exact ⟨p, A, c, ⟨cs', h1, hcs'⟩, hs, ht⟩
    have each : ∀ j, j < len → ∃ q : Stp × Option Addr × Nat, StpAt W W.heap.size (some a) j q.1 := by
      intro j hj
      obtain ⟨p, A, c, ⟨cs', h1, hcs'⟩, hs, ht⟩ := each0 j hj
      obtain ⟨_, _, hcell⟩ := World.cells?_some h1
      subst hcs'
      have e0 := hcell 0 (by omega)
      have e1 := hcell 1 (by omega)
      have e2 := hcell 2 (by omega)
      have e3 := hcell 3 (by omega)
      have e4 := hcell 4 (by omega)
      have e5 := hcell 5 (by omega)
      have e6 := hcell 6 (by omega)
      rw [Deep.add_add] at e0 e1 e2 e3 e4 e5 e6
      simp only [List.getElem?_cons_zero, List.getElem?_cons_succ] at e0 e1 e2 e3 e4 e5 e6
      have hsp0 : a.spot = none := by
        obtain ⟨p', A', c', ⟨cs2, h1', hcs2⟩, _⟩ := each0 0 (by omega)
        obtain ⟨_, _, hcell'⟩ := World.cells?_some h1'
        subst hcs2
        have e := hcell' 0 (by omega)
        rw [Deep.add_add] at e
        exact spot_none (a := a) (by simpa [Addr.add] using e)
      obtain ⟨b, o, sp⟩ := a
      obtain rfl : sp = none := hsp0
      rw [add_plain] at e0 e1 e2 e3 e4 e5 e6
      exact ⟨(p, A, c), b, o, A, c, rfl, block_lt_of_cell e0, by simpa using e0, by simpa [Nat.add_assoc] using e1, by simpa [Nat.add_assoc] using e2, by simpa [Nat.add_assoc] using e3, by simpa [Nat.add_assoc] using e4, by simpa [Nat.add_assoc] using e5, by simpa [Nat.add_assoc] using e6, hs, ht⟩
    obtain ⟨q, hq⟩ := Deep.choose_lt each
    refine ⟨(List.range len).map fun j => (q j).1, some a, cap, by simpa using hcs, ⟨by simpa using hl, by simpa using hcap, fun j hj => ?_⟩⟩
    have hj' : j < len := by simpa using hj
    have e : ((List.range len).map fun j => (q j).1)[j] = (q j).1 := by simp
    rw [e]
    exact hq j hj'
set_option maxRecDepth 100000 in
set_option maxHeartbeats 1000000 in
theorem open_unit {H : Type} {enc : TypeId × Value → H} {W : World} {spare : Nat → Bool} {held : Bool} (hsp : ∀ b, spare b = true) (fuel : Nat) (cs : List Value) (x : DataW H × List MemPlace)
    (h : DataW.trod enc Tryd.prog W 0 spare held fuel 45 cs = some x) (hw : ∀ n, n ∈ DataW.weights Tryd.prog 45 x.1 → n ≤ reachBytes) :
    ∃ (u : Unt) (N : Option Addr) (nc : Nat) (A : Option Addr) (c : Nat) (S : Option Addr) (sc : Nat), cs = [.slice N u.cites.length nc, .int .i64 u.states.k, .int .i64 u.states.i, .slice A u.states.ks.length c, .slice S u.steps.length sc] ∧
      IsNs W W.heap.size u.cites N nc ∧ IsT W W.heap.size u.states A c ∧ IsSs W W.heap.size u.steps S sc := by
  obtain ⟨xs, n, hn, hx, hlen, hxl, hf⟩ := DataW.trod_struct Tryd.underlying45 h
  rw [Tryd.cellsUnit] at hlen
  match xs, hxl, cs, hlen with
  | [y0, y1, y2], _, [v0, v1, v2, v3, v4], _ =>
    have g0 := hf 0 _ rfl
    have g1 := hf 1 _ rfl
    have g2 := hf 2 _ rfl
    simp [Tryd.cells24, Tryd.cellsStrs, Tryd.cellsSteps] at g0 g1 g2
    have hw' : ∀ (j : Nat) (ty : TypeId) (y : DataW H × List MemPlace), [42, 24, 43][j]? = some ty → [y0.1, y1.1, y2.1][j]? = some y.1 → ∀ m, m ∈ DataW.weights Tryd.prog ty y.1 → m ≤ reachBytes := fun j ty y h1 h2 m hm => hw m (by
      rw [hx]
      simp only [List.map_cons, List.map_nil, DataW.weights, Tryd.underlying45]
      exact DataW.weights_mem_each (j := j) (ds := [y0.1, y1.1, y2.1]) h1 h2 m hm)
    obtain ⟨l, N, nc, e0, hN⟩ := open_names hsp n _ _ g0 (hw' 0 _ _ rfl rfl)
    obtain ⟨t, A, c, e1, ht⟩ := open_expr hsp n _ _ g1 (hw' 1 _ _ rfl rfl)
    obtain ⟨s, S, sc, e2, hS⟩ := open_steps hsp n _ _ g2 (hw' 2 _ _ rfl rfl)
    simp only [List.cons.injEq, and_true] at e0 e1 e2
    obtain ⟨rfl, rfl, rfl⟩ := e1
    subst e0 e2
    exact ⟨⟨l, t, s⟩, N, nc, A, c, S, sc, rfl, hN, ht, hS⟩
end Go.Proofs.YtgnfbhemkombaaaDoor
