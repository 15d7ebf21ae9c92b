/- From what a row tells of an argument of type []Pair to pairs in memory. -/
import Derived.Test.YtkncchhalahpoaaL0
import Derived.Test.YtkncchhalahpoaaS1
namespace Go.Proofs.Ytkncchhalahpoaa
open Go.RowKit
set_option linter.unusedVariables false
set_option linter.unusedSimpArgs false
theorem Try.cells47 : Try.prog.cellsOf 47 = 4 := by kernel_rfl
theorem Try.bytes47 : Try.prog.bytesOf 47 = 48 := by kernel_rfl
set_option maxRecDepth 100000 in
set_option maxHeartbeats 1000000 in
theorem open_pair {H : Type} {enc : TypeId × Value → H} {W : World} {spare : Nat → Bool} {held : Bool} (hsp : ∀ b, spare b = true) (fuel : Nat) (cs : List Value) (x : DataW H × List MemPlace)
    (h : DataW.trod enc Try.prog W 0 spare held fuel 47 cs = some x) (hw : ∀ n, n ∈ DataW.weights Try.prog 47 x.1 → n ≤ reachBytes) :
    ∃ (p : Int × Tr) (A : Option Addr) (c : Nat), cs = [.int .i64 p.1, .int .i64 p.2.k, .int .i64 p.2.i, .slice A p.2.ks.length c] ∧ IsT W W.heap.size p.2 A c := by
  obtain ⟨xs, n, hn, hx, hlen, hxl, hf⟩ := DataW.trod_struct Try.underlying47 h
  rw [Try.cells47] at hlen
  match xs, hxl, cs, hlen with
  | [y0, y1], _, [v0, v1, v2, v3], _ =>
    have g0 := hf 0 _ rfl
    have g1 := hf 1 _ rfl
    simp [Try.cells3, Try.cells24] at g0 g1
    obtain ⟨k, e0, _, _⟩ := DataW.trod_int Try.underlying3 g0
    simp only [List.cons.injEq, and_true] at e0
    subst e0
    obtain ⟨t, A, c, hcs, ht⟩ := open_expr hsp n _ _ g1 (fun m hm => hw m (by
      rw [hx]
      simp only [List.map_cons, List.map_nil, DataW.weights, Try.underlying47]
      exact DataW.weights_mem_each (j := 1) (ds := [y0.1, y1.1]) rfl rfl m hm))
    refine ⟨(k, t), A, c, ?_, ht⟩
    rw [hcs]
set_option maxRecDepth 100000 in
set_option maxHeartbeats 1000000 in
theorem open_pairs {H : Type} {enc : TypeId × Value → H} {W : World} {spare : Nat → Bool} {held : Bool} (hsp : ∀ b, spare b = true) (fuel : Nat) (cs : List Value) (x : DataW H × List MemPlace)
    (h : DataW.trod enc Try.prog W 0 spare held fuel 30 cs = some x) (hw : ∀ n, n ∈ DataW.weights Try.prog 30 x.1 → n ≤ reachBytes) :
    ∃ (l : List (Int × Tr)) (A : Option Addr) (c : Nat), cs = [.slice A l.length c] ∧ IsP W W.heap.size l A c := by
  rcases DataW.trod_slice Try.underlying30 h with ⟨hcs, _⟩ | ⟨a, len, cap, elems, rest, n', hn', hcs, hy, _, hl, hm, hlen', hel, hsp', _⟩
  · exact ⟨[], none, 0, hcs, ⟨Nat.le_refl _, by simp, fun m hm => by simp at hm⟩⟩
  · obtain ⟨hrl, _⟩ := hsp' (hsp _)
    rw [Try.cells47] at hel
    have hy1 : x.1 = .slice (elems.map (·.1)) (rest.map (·.1)) := by rw [hy]
    have hcap : len * 48 ≤ 140737488351232 := by
      have : (elems.length + rest.length) * 48 ≤ reachBytes := by
        refine hw _ ?_
        rw [hy1]
        simp only [DataW.weights, Try.underlying30, Try.bytes47, List.length_map]
        exact List.mem_cons_self
      unfold reachBytes at this
      omega
    have each0 : ∀ j, j < len → ∃ (p : Int × Tr) (A : Option Addr) (c : Nat), (∃ cs', W.cells? 0 (a.add (j * 4)) 4 = some cs' ∧ cs' = [.int .i64 p.1, .int .i64 p.2.k, .int .i64 p.2.i, .slice A p.2.ks.length c]) ∧ IsT W W.heap.size p.2 A c := by
      intro j hj
      have h0 := hel j hj
      rw [List.getElem?_eq_getElem (by omega)] at h0
      obtain ⟨cs', h1, h2⟩ := Option.bind_eq_some_iff.1 h0
      obtain ⟨p, A, c, hcs', ht⟩ := open_pair hsp n' cs' _ h2 (fun n hn => hw n (by
        rw [hy1]
        simp only [DataW.weights, Try.underlying30]
        refine List.mem_cons_of_mem _ (List.mem_append_left _ (weightsAll_mem ?_ n hn))
        exact List.mem_map.2 ⟨elems[j], List.getElem_mem _, rfl⟩))
      exact ⟨p, A, c, ⟨cs', h1, hcs'⟩, ht⟩
    have each : ∀ j, j < len → ∃ q : (Int × Tr) × Option Addr × Nat, PairAt W W.heap.size (some a) j q.1 := by
      intro j hj
      obtain ⟨p, A, c, ⟨cs', h1, hcs'⟩, ht⟩ := each0 j hj
      obtain ⟨_, _, hcell⟩ := World.cells?_some h1
      subst hcs'
      have e0 := hcell 0 (by omega)
      have e1 := hcell 1 (by omega)
      have e2 := hcell 2 (by omega)
      have e3 := hcell 3 (by omega)
      rw [Deep.add_add] at e0 e1 e2 e3
      simp only [List.getElem?_cons_zero, List.getElem?_cons_succ] at e0 e1 e2 e3
      have hsp0 : a.spot = none := by
        obtain ⟨p', A', c', ⟨cs2, h1', hcs2⟩, _⟩ := each0 0 (by omega)
        obtain ⟨_, _, hcell'⟩ := World.cells?_some h1'
        subst hcs2
        have e := hcell' 0 (by omega)
        rw [Deep.add_add] at e
        exact spot_none (a := a) (by simpa [Addr.add] using e)
      obtain ⟨b, o, sp⟩ := a
      obtain rfl : sp = none := hsp0
      rw [add_plain] at e0 e1 e2 e3
      exact ⟨(p, A, c), b, o, A, c, rfl, block_lt_of_cell e0, by simpa using e0, by simpa [Nat.add_assoc] using e1, by simpa [Nat.add_assoc] using e2, by simpa [Nat.add_assoc] using e3, ht⟩
    obtain ⟨q, hq⟩ := Deep.choose_lt each
    refine ⟨(List.range len).map fun j => (q j).1, some a, cap, by simpa using hcs, ⟨by simpa using hl, by simpa using hcap, fun j hj => ?_⟩⟩
    have hj' : j < len := by simpa using hj
    have e : ((List.range len).map fun j => (q j).1)[j] = (q j).1 := by simp
    rw [e]
    exact hq j hj'
end Go.Proofs.Ytkncchhalahpoaa
