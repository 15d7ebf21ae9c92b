/- From what a row tells of an argument of type Expr to a tree in memory. -/
import Derived.Test.YtgnfbhemkombaaaDoorE5
import Derived.SizedLaws
import Derived.Deep.Slices
import Derived.ProofKit
import Derived.OpenShut
namespace Go.Proofs.YtgnfbhemkombaaaDoor
open Go.RowKit
theorem Tryd.cells24 : Tryd.prog.cellsOf 24 = 3 := by kernel_rfl
theorem Tryd.cells22 : Tryd.prog.cellsOf 22 = 1 := by kernel_rfl
theorem Tryd.cells3 : Tryd.prog.cellsOf 3 = 1 := by kernel_rfl
theorem Tryd.bytes24 : Tryd.prog.bytesOf 24 = 40 := by kernel_rfl
theorem weightsAll_mem {H : Type} {P : Program} {e : TypeId} : ∀ {l : List (DataW H)} {d : DataW H}, d ∈ l → ∀ n, n ∈ d.weights P e → n ∈ DataW.weightsAll P e l
  | x :: r, d, hd, n, hn => by
    rw [DataW.weightsAll]
    rcases List.mem_cons.1 hd with rfl | hd
    · exact List.mem_append_left _ hn
    · exact List.mem_append_right _ (weightsAll_mem hd n hn)
theorem spot_none {w : World} {a : Addr} {v : Value} (h : w.cell? a = some v) : a.spot = none := by
  unfold World.cell? at h
  split at h
  · cases hs : a.spot with
    | none => rfl
    | some x => rw [hs] at h; simp at h
  · cases h
theorem add_plain (b o m : Nat) : (⟨b, o, none⟩ : Addr).add m = ⟨b, o + m, none⟩ := by unfold Addr.add; split <;> simp_all
set_option maxRecDepth 100000 in
set_option maxHeartbeats 1000000 in
theorem open_expr {H : Type} {enc : TypeId × Value → H} {W : World} {spare : Nat → Bool} {held : Bool} (hsp : ∀ b, spare b = true) : ∀ (fuel : Nat) (cs : List Value) (x : DataW H × List MemPlace),
    DataW.trod enc Tryd.prog W 0 spare held fuel 24 cs = some x → (∀ n, n ∈ DataW.weights Tryd.prog 24 x.1 → n ≤ reachBytes) →
    ∃ t A c, cs = [.int .i64 t.k, .int .i64 t.i, .slice A t.ks.length c] ∧ IsT W W.heap.size t A c := by
  intro fuel
  induction fuel using Nat.strongRecOn with
  | ind fuel ih =>
    intro cs x h hw
    obtain ⟨xs, n, hn, hx, hlen, hxl, hf⟩ := DataW.trod_struct Tryd.underlying24 h
    rw [Tryd.cells24] at hlen
    match xs, hxl, cs, hlen with
    | [y0, y1, y2], _, [v0, v1, v2], _ =>
      have g0 := hf 0 _ rfl
      have g1 := hf 1 _ rfl
      have g2 := hf 2 _ rfl
      simp [Tryd.cells3, Tryd.cells22] at g0 g1 g2
      obtain ⟨k, e0, _, _⟩ := DataW.trod_int Tryd.underlying3 g0
      obtain ⟨i, e1, _, _⟩ := DataW.trod_int Tryd.underlying3 g1
      simp only [List.cons.injEq, and_true] at e0 e1
      subst e0 e1
      have hw2 : ∀ m, m ∈ DataW.weights Tryd.prog 22 y2.1 → m ≤ reachBytes := fun m hm => hw m (by
        rw [hx]
        simp only [List.map_cons, List.map_nil, DataW.weights, Tryd.underlying24]
        exact DataW.weights_mem_each (j := 2) (ds := [y0.1, y1.1, y2.1]) rfl rfl m hm)
      rcases DataW.trod_slice Tryd.underlying22 g2 with ⟨hcs, _⟩ | ⟨a, len, cap, elems, rest, n', hn', hcs, hy, _, hl, hm, hlen', hel, hsp', _⟩
      · simp only [List.cons.injEq, and_true] at hcs
        subst hcs
        exact ⟨.node k i [], none, 0, rfl, IsT.mk (t := .node k i []) (Nat.le_refl _) (by unfold Cap; simp [Tr.ks]) (fun m hm => absurd hm (by simp [Tr.ks]))⟩
      · simp only [List.cons.injEq, and_true] at hcs
        subst hcs
        obtain ⟨hrl, _⟩ := hsp' (hsp _)
        rw [Tryd.cells24] at hel
        have hy1 : y2.1 = .slice (elems.map (·.1)) (rest.map (·.1)) := by rw [hy]
        have hcap : len * 40 ≤ 140737488351232 := by
          have : (elems.length + rest.length) * 40 ≤ reachBytes := by
            refine hw2 _ ?_
            rw [hy1]
            simp only [DataW.weights, Tryd.underlying22, Tryd.bytes24, List.length_map]
            exact List.mem_cons_self
          unfold reachBytes at this
          omega
        have each : ∀ j, j < len → ∃ q : Tr × Option Addr × Nat, (∃ b o, some a = some (⟨b, o, none⟩ : Addr) ∧ b < W.heap.size ∧ W.cell? ⟨b, o + j * 3, none⟩ = some (.int .i64 q.1.k) ∧ W.cell? ⟨b, o + j * 3 + 1, none⟩ = some (.int .i64 q.1.i) ∧ W.cell? ⟨b, o + j * 3 + 2, none⟩ = some (.slice q.2.1 q.1.ks.length q.2.2)) ∧ IsT W W.heap.size q.1 q.2.1 q.2.2 := by
          intro j hj
          have h0 := hel j hj
          rw [List.getElem?_eq_getElem (by omega)] at h0
          obtain ⟨cs', h1, h2⟩ := Option.bind_eq_some_iff.1 h0
          obtain ⟨t, A, c, hcs', ht⟩ := ih n' (by omega) cs' _ h2 (fun n hn => hw2 n (by
            rw [hy1]
            simp only [DataW.weights, Tryd.underlying22]
            refine List.mem_cons_of_mem _ (List.mem_append_left _ (weightsAll_mem ?_ n hn))
            exact List.mem_map.2 ⟨elems[j], List.getElem_mem _, rfl⟩))
          obtain ⟨_, _, hcell⟩ := World.cells?_some h1
          subst hcs'
          have e0 := hcell 0 (by omega)
          have e1 := hcell 1 (by omega)
          have e2 := hcell 2 (by omega)
          rw [Deep.add_add] at e0 e1 e2
          simp only [List.getElem?_cons_zero, List.getElem?_cons_succ] at e0 e1 e2
          refine ⟨(t, A, c), ?_, ht⟩
          have hsp0 : a.spot = none := by
            have h0' := hel 0 (by omega)
            rw [List.getElem?_eq_getElem (by omega)] at h0'
            obtain ⟨cs2, h1', h2'⟩ := Option.bind_eq_some_iff.1 h0'
            obtain ⟨t', A', c', hcs2, _⟩ := ih n' (by omega) cs2 _ h2' (fun n hn => hw2 n (by
              rw [hy1]
              simp only [DataW.weights, Tryd.underlying22]
              refine List.mem_cons_of_mem _ (List.mem_append_left _ (weightsAll_mem ?_ n hn))
              exact List.mem_map.2 ⟨elems[0], List.getElem_mem _, rfl⟩))
            obtain ⟨_, _, hcell'⟩ := World.cells?_some h1'
            subst hcs2
            have e := hcell' 0 (by omega)
            rw [Deep.add_add] at e
            exact spot_none (a := a) (by simpa [Addr.add] using e)
          obtain ⟨b, o, sp⟩ := a
          obtain rfl : sp = none := hsp0
          rw [add_plain] at e0 e1 e2
          exact ⟨b, o, rfl, block_lt_of_cell e0, by simpa using e0, by simpa [Nat.add_assoc] using e1, by simpa [Nat.add_assoc] using e2⟩
        obtain ⟨q, hq⟩ := Deep.choose_lt each
        refine ⟨.node k i ((List.range len).map fun j => (q j).1), some a, cap, by simp [Tr.k, Tr.i, Tr.ks], ?_⟩
        refine IsT.mk (t := .node k i ((List.range len).map fun j => (q j).1)) (by simpa [Tr.ks] using hl) (by simpa [Tr.ks, Cap] using hcap) fun j hj => ?_
        have hj' : j < len := by simpa [Tr.ks] using hj
        obtain ⟨⟨b, o, h1, h2, h3, h4, h5⟩, h6⟩ := hq j hj'
        have e : (Tr.node k i ((List.range len).map fun j => (q j).1)).ks[j] = (q j).1 := by simp [Tr.ks]
        rw [e]
        exact ⟨b, o, _, _, h1, h2, h3, h4, h5, h6⟩
end Go.Proofs.YtgnfbhemkombaaaDoor
