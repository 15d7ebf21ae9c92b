/- The map of an intern.Table: nodes (six integers) to numbers. -/
import Derived.Test.YtmmdhlemkcddmaaE9
import Derived.Maps.OwnSet
import Derived.DeepKeys4
namespace Go.Proofs.Ytmmdhlemkcddmaa
open Go.RowKit
set_option linter.unusedVariables false
set_option linter.unusedSimpArgs false
theorem laidOutI : laidOutB Try.prog = true := by kernel_rfl
theorem rowKI : (112 : TypeId) < Try.prog.types.size := of_decide_eq_true (by kernel_rfl)
theorem undNodeF : (Try.prog.underlying 112).map (fun d => match d with | .struct fs => fs.toList.map (fun f => (f.type, f.offset, f.name != "_")) | _ => []) = some [(3, 0, true), (3, 1, true), (110, 2, true)] := by kernel_rfl
theorem undNodeS : (Try.prog.underlying 112).map (fun d => match d with | .struct _ => true | _ => false) = some true := by kernel_rfl
theorem undArr4 : Try.prog.underlying 110 = some (.array 4 3) := by kernel_rfl
theorem undIntI : Try.prog.underlying 3 = some (.int .i64) := by kernel_rfl
theorem undMapI : Try.prog.underlying 72 = some (.map 112 3) := by kernel_rfl
theorem cellsKI : Try.prog.cellsOf 112 = 6 := by kernel_rfl
theorem cellsA4 : Try.prog.cellsOf 110 = 4 := by kernel_rfl
theorem cellsI1 : Try.prog.cellsOf 3 = 1 := by kernel_rfl
theorem keyTyI : Try.prog.keyType 112 = true := by kernel_rfl
theorem undNode : ∃ fs, Try.prog.underlying 112 = some (.struct fs) := by
  have h := undNodeS
  cases hu : Try.prog.underlying 112 with
  | none => rw [hu] at h; simp at h
  | some u => rw [hu] at h; cases u <;> simp at h; exact ⟨_, rfl⟩
theorem keyTy4 : Try.prog.keyTypeAt 4 112 = true := by kernel_rfl
theorem lawI : Maps.Keyed Try.prog 112 := by
  obtain ⟨fs, h⟩ := undNode
  exact Maps.Keyed.of_law (deep_law_laid laidOutI (m := 4) (by omega) rowKI keyTy4 (by rw [h]))
/-- the cells of a node -/
def keyA (cs : List Int) : Array Value := (cs.map (Value.int .i64)).toArray
def GoodKey (cs : List Int) : Prop := cs.length = 6 ∧ ∀ x ∈ cs, (Lit.int .i64 x).wf = true
theorem keyA_inj {a b : List Int} (h : Value.agg (keyA a) = .agg (keyA b)) : a = b := by
  unfold keyA at h
  simp only [Value.agg.injEq, List.toArray_eq_toArray_eq, Array.mk.injEq] at h
  have h2 : a.map (Value.int .i64) = b.map (Value.int .i64) := by simpa using h
  exact (List.map_inj_right (fun x y e => by simpa using e)).1 h2
theorem keyN {cs : List Int} (h : GoodKey cs) : ∃ l, keyOf Try.prog 112 (.agg (keyA cs)) = some l := by
  obtain ⟨h6, hw⟩ := h
  match cs, h6, hw with
  | [a, b, c, d, e, f], _, hw =>
    have ha := hw a (by simp)
    have hb := hw b (by simp)
    have hc := hw c (by simp)
    have hd := hw d (by simp)
    have he := hw e (by simp)
    have hf := hw f (by simp)
    have h1 := undNodeF
    have h2 := undNodeS
    obtain ⟨s, hs⟩ : ∃ s, Try.prog.types.size + 1 = s + 3 := ⟨Try.prog.types.size - 2, by have : 2 < Try.prog.types.size := of_decide_eq_true (by kernel_rfl); omega⟩
    cases hu : Try.prog.underlying 112 with
    | none => rw [hu] at h1; simp at h1
    | some u =>
      rw [hu] at h1 h2
      cases u <;> simp only [Option.map_some, Option.some.injEq, reduceCtorEq] at h1 h2
      rename_i fs
      have hall : fs.all (·.name != "_") = true := by
        rw [← Array.all_toList]
        rw [List.all_eq_true]
        intro x hx
        have hm : (x.type, x.offset, x.name != "_") ∈ fs.toList.map (fun f => (f.type, f.offset, f.name != "_")) := List.mem_map.2 ⟨x, hx, rfl⟩
        rw [h1] at hm
        simp at hm
        rcases hm with ⟨_, _, h⟩ | ⟨_, _, h⟩ | ⟨_, _, h⟩ <;> simpa using h
      have hint : ∀ (dd : Nat) (x : Int), (Lit.int .i64 x).wf = true → Try.prog.keyLits (dd + 1) 3 [.int .i64 x] = some [.int .i64 x] := fun dd x hx => by simp [Program.keyLits, undIntI, hx]
      have hL : ∀ L : List Field, L.map (fun f => (f.type, f.offset, f.name != "_")) = [(3, 0, true), (3, 1, true), (110, 2, true)] → ∃ ls, L.mapM (fun fl => Try.prog.keyLits (s + 2) fl.type ((([a, b, c, d, e, f].map (Value.int .i64)).drop fl.offset).take (Try.prog.cellsOf fl.type))) = some ls := by
        intro L hL
        have hlen := congrArg List.length hL
        simp only [List.length_map, List.length_cons, List.length_nil] at hlen
        obtain ⟨x, y, z, rfl⟩ : ∃ x y z, L = [x, y, z] := by
          cases L with
          | nil => simp at hlen
          | cons x L => cases L with
            | nil => simp at hlen
            | cons y L => cases L with
              | nil => simp at hlen
              | cons z L => cases L with
                | nil => exact ⟨x, y, z, rfl⟩
                | cons _ _ => simp at hlen
        · simp only [List.map_cons, List.map_nil, List.cons.injEq, Prod.mk.injEq, and_true] at hL
          obtain ⟨⟨x1, x2, _⟩, ⟨y1, y2, _⟩, z1, z2, _⟩ := hL
          have hz : ∃ l4, Try.prog.keyLits (s + 2) 110 [.int .i64 c, .int .i64 d, .int .i64 e, .int .i64 f] = some l4 := by
            refine ⟨[.int .i64 c, .int .i64 d, .int .i64 e, .int .i64 f], ?_⟩
            unfold Program.keyLits
            simp only [undArr4, cellsA4, cellsI1]
            simp [List.range_succ, hint _ _ hc, hint _ _ hd, hint _ _ he, hint _ _ hf]
          obtain ⟨l4, h4⟩ := hz
          refine ⟨[[.int .i64 a], [.int .i64 b], l4], ?_⟩
          simp [List.mapM_cons, List.mapM_nil, x1, x2, y1, y2, z1, z2, cellsI1, cellsA4, hint _ _ ha, hint _ _ hb, h4]
      obtain ⟨ls, hls⟩ := hL fs.toList h1
      refine ⟨.string (keyBytes ls.flatten), ?_⟩
      unfold keyOf
      rw [hu]
      simp only
      have hform : (Value.agg (keyA [a, b, c, d, e, f])).formed Try.prog 112 = true := by simp [Value.formed, hu, cellsKI, keyA]
      rw [keyTyI, hform]
      simp only [Bool.and_true, if_true]
      have hk : Try.prog.keyLits (Try.prog.types.size + 1) 112 (Value.agg (keyA [a, b, c, d, e, f])).cells.toList = some ls.flatten := by
        rw [hs]
        unfold Program.keyLits
        simp only [hu, cellsKI, hall, Value.cells, keyA]
        rw [hls]
        simp
      rw [hk]
      rfl
/-- block M is the map of a table: n entries; f says which number each node has -/
def IsMp (w : World) (M n : Nat) (f : List Int → Nat) : Prop := ∃ D : DataW Unit, w.ownsMap Try.prog 112 (plainElem Try.prog 3) M n D ∧ Maps.size D = n ∧ ∀ cs l, GoodKey cs → keyOf Try.prog 112 (.agg (keyA cs)) = some l → D.atKey l (.lit (.int .i64 0)) = .lit (.int .i64 (f cs : Int)) ∧ Maps.has D l = decide (f cs ≠ 0)
theorem IsMp.lt {w : World} {M n : Nat} {f : List Int → Nat} (h : IsMp w M n f) : M < w.heap.size := by
  obtain ⟨D, h, _⟩ := h
  exact h.lt
theorem IsMp.isMap {w : World} {M n : Nat} {f : List Int → Nat} (h : IsMp w M n f) : ∃ es clock, w.heap[M]? = some (.map es clock) := by
  obtain ⟨D, ⟨es, clock, hb, _⟩, _⟩ := h
  exact ⟨es, clock, hb⟩
theorem IsMp.kept {w w' : World} {M n : Nat} {f : List Int → Nat} (h : IsMp w M n f) (hk : w'.heap[M]? = w.heap[M]?) : IsMp w' M n f := by
  obtain ⟨D, ⟨es, clock, hb, F, hs, hD⟩, h2⟩ := h
  exact ⟨D, ⟨es, clock, hk.trans hb, F, hs, hD⟩, h2⟩
theorem IsMp.made (w : World) : IsMp (w.alloc (.map #[] 0)) w.heap.size 0 (fun _ => 0) :=
  ⟨.map [], World.ownsMap_made w _ _ _, rfl, fun _ _ _ _ => ⟨rfl, rfl⟩⟩
theorem zeroRunInt (w : World) : (zeroValue 3).run Try.prog w = .ok (.int .i64 0) w := by
  have h : (Try.prog.info? 3).map (·.zero) = some (some (.int .i64 0)) := by kernel_rfl
  cases hq : Try.prog.info? 3 with
  | none => rw [hq] at h; simp at h
  | some i => rw [hq] at h; simp at h; simp [zeroValue, typeInfo, hq, h]
theorem IsMp.look {w : World} {M n : Nat} {f : List Int → Nat} (h : IsMp w M n f) {cs : List Int} (hg : GoodKey cs) : (Instr.lookup 72 (.map (some M)) (.agg (keyA cs)) false).run Try.prog w = .ok (.int .i64 (f cs : Int)) w := by
  obtain ⟨D, h, _, h2⟩ := h
  obtain ⟨l, hl⟩ := keyN hg
  obtain ⟨c, hrun, hat, _⟩ := h.lookup_int lawI undMapI undIntI (zeroRunInt w) hl
  rw [(h2 cs l hg hl).1] at hat
  simp at hat
  rw [hrun, hat]
theorem IsMp.put {w : World} {M n : Nat} {f : List Int → Nat} (h : IsMp w M n f) (hn : n < maxLen) {cs : List Int} (hg : GoodKey cs) (h0 : f cs = 0) (v : Nat) (hv0 : v ≠ 0) (hv : (Lit.int .i64 (v : Int)).wf = true) :
    ∃ w', (Instr.mapUpdate 72 (.map (some M)) (.agg (keyA cs)) (.int .i64 (v : Int))).run Try.prog w = .ok () w' ∧ IsMp w' M (n + 1) (fun c => if c = cs then v else f c) ∧ w.grownBy w' (some M) := by
  obtain ⟨D, h, hm, h2⟩ := h
  obtain ⟨l, hl⟩ := keyN hg
  have ht := h.tidy lawI
  obtain ⟨w', hrun, ho, hw⟩ := h.store lawI undMapI hn hl (plainElem_int (H := Unit) undIntI hv)
  refine ⟨w', hrun, ⟨_, ho, ?_, fun c l' hc hl' => ?_⟩, hw.grown⟩
  · rw [Maps.size_put ht, (h2 cs l hg hl).2, h0, hm]; rfl
  · by_cases e : c = cs
    · subst e
      rw [hl] at hl'
      cases hl'
      rw [Maps.atKey_put_same ht.isMap (lawI.key hl), Maps.has_put_same ht.isMap (lawI.key hl)]
      simp [hv0]
    · have hne : l' ≠ l := fun e2 => e (keyA_inj (lawI.inj (e2 ▸ hl') hl))
      rw [Maps.atKey_put_other hne, Maps.has_put_other hne]
      simp only [if_neg e]
      exact h2 c l' hc hl'
theorem IsMp.del {w : World} {M n : Nat} {f : List Int → Nat} (h : IsMp w M n f) {cs : List Int} (hg : GoodKey cs) (h0 : f cs ≠ 0) (ty : TypeId) :
    ∃ w', (Builtin.delete_ #[72, 112] ty #[.map (some M), .agg (keyA cs)]).run Try.prog w = .ok (.tuple #[]) w' ∧ IsMp w' M (n - 1) (fun c => if c = cs then 0 else f c) ∧ w.grownBy w' (some M) := by
  obtain ⟨D, h, hm, h2⟩ := h
  obtain ⟨l, hl⟩ := keyN hg
  have ht := h.tidy lawI
  obtain ⟨w', hrun, ho, hw⟩ := h.drop lawI undMapI hl ty
  have hsz : Maps.size (D.del l) = n - 1 := by
    have := Maps.size_del (k := l) ht
    rw [(h2 cs l hg hl).2] at this
    simp [h0] at this
    omega
  refine ⟨w', hrun, ⟨_, ?_, hsz, fun c l' hc hl' => ?_⟩, hw.grown⟩
  · obtain ⟨es, clock, hb, F, hs, hD⟩ := ho
    refine ⟨es, clock, hb, F, ?_, hD⟩
    rw [← hsz, hD]
    simp [Maps.size, length_sorted]
  · by_cases e : c = cs
    · subst e
      rw [hl] at hl'
      cases hl'
      rw [Maps.atKey_del_same, Maps.has_del_same]
      simp
    · have hne : l' ≠ l := fun e2 => e (keyA_inj (lawI.inj (e2 ▸ hl') hl))
      rw [Maps.atKey_del_other hne, Maps.has_del_other hne]
      simp only [if_neg e]
      exact h2 c l' hc hl'
end Go.Proofs.Ytmmdhlemkcddmaa
