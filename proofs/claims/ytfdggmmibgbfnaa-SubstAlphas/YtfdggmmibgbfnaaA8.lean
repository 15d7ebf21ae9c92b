/- A couple built out of its parts; a row of one couple. -/
import Derived.Test.YtfdggmmibgbfnaaA7
import Derived.Great.BuildSlice
namespace Go.Proofs.Ytfdggmmibgbfnaa
open Go.RowKit
set_option linter.unusedVariables false
set_option linter.unusedSimpArgs false
theorem fold_put : ∀ (vs P R : List Value) (off k : Nat), P.length = off + k → vs.length ≤ R.length →
    (vs.zipIdx k).foldl (fun (cs : Array Value) (x : Value × Nat) => cs.setIfInBounds (off + x.2) x.1) (P ++ R).toArray = ((P ++ vs) ++ R.drop vs.length).toArray
  | [], P, R, off, k, h, h2 => by simp
  | v :: vs, P, [], off, k, h, h2 => by simp at h2
  | v :: vs, P, r :: R, off, k, h, h2 => by
    have ih := fold_put vs (P ++ [v]) R off (k + 1) (by simp; omega) (by simpa using h2)
    rw [List.zipIdx_cons, List.foldl_cons]
    have e : ((P ++ r :: R).toArray).setIfInBounds (off + k) v = ((P ++ [v]) ++ R).toArray := by
      rw [← h]
      simp
    rw [e, ih]
    simp
theorem fold_putA (vs : Array Value) (P R : List Value) (h2 : vs.size ≤ R.length) :
    vs.zipIdx.foldl (fun (cs : Array Value) (x : Value × Nat) => cs.setIfInBounds (P.length + x.2) x.1) (P ++ R).toArray = ((P ++ vs.toList) ++ R.drop vs.size).toArray := by
  have := fold_put vs.toList P R P.length 0 (by simp) (by simpa using h2)
  rw [← Array.foldl_toList]
  simpa using this
/-- one part more, laid behind what is laid -/
theorem fill_step (place : Nat → Option (Nat × Nat)) (P R : List Value) (i : Nat) (v : Value) (rest : List (Nat × Value)) (hp : place i = some (P.length, v.cells.size)) (h2 : v.cells.size ≤ R.length) :
    Instr.fill place (P ++ R).toArray ((i, v) :: rest) = Instr.fill place ((P ++ v.cells.toList) ++ R.drop v.cells.size).toArray rest := by
  have e := fold_putA v.cells P R h2
  rw [Instr.fill]
  simp only [hp]
  rw [if_neg (by simp; omega)]
  congr 1
def placesCp : List (Nat × Nat) := [(0, 3), (3, 3), (6, 1), (7, 64), (71, 64)]
theorem fill_cp (Z : List Value) (hZ : Z.length = 135) (x y : Array Value) (d : Value) (F G : Array Value) (hx : x.size = 3) (hy : y.size = 3) (hd : d.cells = #[d]) (hF : F.size = 64) (hG : G.size = 64) :
    Instr.fill (placesCp.toArray[·]?) Z.toArray [(0, .agg x), (1, .agg y), (2, d), (3, .agg F), (4, .agg G)] = some (x.toList ++ y.toList ++ [d] ++ F.toList ++ G.toList).toArray := by
  have hx' : x.toList.length = 3 := by simpa using hx
  have hy' : y.toList.length = 3 := by simpa using hy
  have hF' : F.toList.length = 64 := by simpa using hF
  have hG' : G.toList.length = 64 := by simpa using hG
  have s1 := fill_step (placesCp.toArray[·]?) [] Z 0 (.agg x) [(1, .agg y), (2, d), (3, .agg F), (4, .agg G)] (by simp [placesCp, Value.cells, hx]) (by simp [Value.cells]; omega)
  rw [List.nil_append] at s1
  rw [s1]
  simp only [Value.cells, List.nil_append]
  rw [fill_step (placesCp.toArray[·]?) x.toList (Z.drop x.size) 1 (.agg y) _ (by simp [placesCp, Value.cells, hx, hy]) (by simp [Value.cells]; omega)]
  simp only [Value.cells]
  rw [fill_step (placesCp.toArray[·]?) (x.toList ++ y.toList) _ 2 d _ (by simp [placesCp, hd, hx, hy]) (by simp [hd]; omega)]
  rw [hd]
  rw [fill_step (placesCp.toArray[·]?) (x.toList ++ y.toList ++ [d]) _ 3 (.agg F) _ (by simp [placesCp, Value.cells, hx, hy, hF]) (by simp [Value.cells]; omega)]
  simp only [Value.cells]
  rw [fill_step (placesCp.toArray[·]?) (x.toList ++ y.toList ++ [d] ++ F.toList) _ 4 (.agg G) _ (by simp [placesCp, Value.cells, hx, hy, hF, hG]) (by simp [Value.cells]; omega)]
  rw [Instr.fill]
  simp only [Value.cells, List.drop_drop]
  rw [List.drop_eq_nil_of_le (by simp; omega), List.append_nil]
theorem zeroCp : (Try.prog.info? 120).map (fun i => (i.size, i.bytes, i.zero.map (fun z => z.cells.size))) = some (135, 1112, some 135) := by kernel_rfl
theorem fieldsCp : (Try.prog.underlying 120).map (fun d => match d with | .struct fs => fs.toList.mapM (fun f => (Try.prog.info? f.type).map fun i => (f.offset, i.size)) | _ => none) = some (some placesCp) := by kernel_rfl
theorem sliceCp : Try.prog.underlying 121 = some (.slice 120) := by kernel_rfl
theorem built_cp (s : Cp) (p : Pl) : Try.prog.built 120 [(0, .agg #[.int .i64 s.a.k, .int .i64 s.a.i, .slice p.A s.a.ks.length p.c]), (1, .agg #[.int .i64 s.b.k, .int .i64 s.b.i, .slice p.A' s.b.ks.length p.c']), (2, .int .i64 (s.d : Int)), (3, .agg (rowF s.f).toArray), (4, .agg (rowF s.g).toArray)] = some (s.row p).toArray := by
  have h1 := zeroCp
  have h2 := fieldsCp
  unfold Program.built
  cases hi : Try.prog.info? 120 with
  | none => rw [hi] at h1; simp at h1
  | some it =>
    rw [hi] at h1
    cases hz : it.zero with
    | none => simp [hz] at h1
    | some z =>
      simp [hz] at h1
      cases hu : Try.prog.underlying 120 with
      | none => rw [hu] at h2; simp at h2
      | some u =>
        rw [hu] at h2
        cases u <;> simp only [Option.map_some, Option.some.injEq, reduceCtorEq] at h2
        rename_i fs
        simp only [hz, h2]
        have := fill_cp z.cells.toList (by simpa using h1.2.2) #[.int .i64 s.a.k, .int .i64 s.a.i, .slice p.A s.a.ks.length p.c] #[.int .i64 s.b.k, .int .i64 s.b.i, .slice p.A' s.b.ks.length p.c'] (.int .i64 (s.d : Int)) (rowF s.f).toArray (rowF s.g).toArray rfl rfl rfl (by simp [rowF_len]) (by simp [rowF_len])
        rw [Array.toArray_toList] at this
        rw [this]
        simp [Cp.row, rowCp]
theorem build_cp (s : Cp) (p : Pl) (w : World) : (Instr.build 120 #[(0, .agg #[.int .i64 s.a.k, .int .i64 s.a.i, .slice p.A s.a.ks.length p.c]), (1, .agg #[.int .i64 s.b.k, .int .i64 s.b.i, .slice p.A' s.b.ks.length p.c']), (2, .int .i64 (s.d : Int)), (3, .agg (rowF s.f).toArray), (4, .agg (rowF s.g).toArray)]).run Try.prog w = .ok (.agg (s.row p).toArray) w :=
  run_build w _ _ _ (built_cp s p)
theorem buildSlice_cp (X : Array Value) (hX : X.size = 135) (w : World) : (Instr.buildSlice 121 1 #[(0, .agg X)]).run Try.prog w = .ok (.slice (some ⟨w.heap.size, 0, none⟩) 1 1) (w.alloc (.cells X 120)) := by
  have h1 := zeroCp
  cases hi : Try.prog.info? 120 with
  | none => rw [hi] at h1; simp at h1
  | some it =>
    rw [hi] at h1
    cases hz : it.zero with
    | none => simp [hz] at h1
    | some z =>
      simp [hz] at h1
      obtain ⟨e1, e2, e3⟩ := h1
      refine run_buildSlice w _ _ 1 _ X it z sliceCp hi hz (by rw [e1]; decide) (by rw [e1]; decide) ?_
      rw [e1]
      obtain ⟨R, hR, hl⟩ : ∃ R : List Value, ((Array.range (1 * 135)).map (z.cells[· % z.cells.size]!)) = R.toArray ∧ R.length = 135 := ⟨((Array.range (1 * 135)).map (z.cells[· % z.cells.size]!)).toList, (Array.toArray_toList).symm, by simp⟩
      rw [hR]
      have := fill_step (fun i => some (i * 135, 135)) [] R 0 (.agg X) [] (by simp [Value.cells, hX]) (by simp [Value.cells]; omega)
      rw [List.nil_append] at this
      rw [this, Instr.fill]
      simp only [Value.cells, List.nil_append]
      rw [List.drop_eq_nil_of_le (by omega), List.append_nil]
end Go.Proofs.Ytfdggmmibgbfnaa
