/- A build of a couple, a row of one couple: at the level of the whole operation (for equivalent of package subst). -/
import Derived.Test.YtfdggmmibgbfnaaA8
import Derived.Deep.RegionLaw
namespace Go.Proofs.Ytfdggmmibgbfnaa
open Go.RowKit
set_option linter.unusedVariables false
set_option linter.unusedSimpArgs false
/-- a build of five parts, at the level of the whole operation -/
theorem exec_build5 (ρ : Operand → Value) (dst : Option Tmp) (t : TypeId) (x0 x1 x2 x3 x4 : Operand) (ty : TypeId) (pos : String) (after : Array Edge) (guard : Option (Nat × Bool)) (w : World)
    (h : (Try.prog.built t [(0, ρ x0), (1, ρ x1), (2, ρ x2), (3, ρ x3), (4, ρ x4)]).isSome = true) :
    (execOp ρ ⟨dst, .build t #[(0, x0), (1, x1), (2, x2), (3, x3), (4, x4)], ty, pos, after, guard⟩).run Try.prog w = .ok (.value (.agg ((Try.prog.built t [(0, ρ x0), (1, ρ x1), (2, ρ x2), (3, ρ x3), (4, ρ x4)]).getD #[]))) w := by
  obtain ⟨X, hX⟩ := Option.isSome_iff_exists.1 h
  have hr := run_build (P := Try.prog) w t #[(0, ρ x0), (1, ρ x1), (2, ρ x2), (3, ρ x3), (4, ρ x4)] X hX
  unfold execOp
  simp only [List.map_toArray, List.map_cons, List.map_nil, Sem.run_bind, hr, Result.andThen_ok, hX, Option.getD_some]
  rfl
/-- a row of one couple, at the level of the whole operation -/
theorem exec_slice1 (ρ : Operand → Value) (dst : Option Tmp) (x : Operand) (ty : TypeId) (pos : String) (after : Array Edge) (guard : Option (Nat × Bool)) (w : World) (X : Array Value)
    (hx : ρ x = .agg X) (hX : X.size = 135) :
    (execOp ρ ⟨dst, .buildSlice 121 1 #[(0, x)], ty, pos, after, guard⟩).run Try.prog w = .ok (.value (.slice (some ⟨w.heap.size, 0, none⟩) 1 1)) (w.alloc (.cells X 120)) := by
  have hr := buildSlice_cp X hX w
  unfold execOp
  simp only [List.map_toArray, List.map_cons, List.map_nil, hx, Sem.run_bind, hr, Result.andThen_ok]
  rfl
/-- a whole row into the block that was made last, at a plain region's list -/
theorem wpList_store_new {P : Program} {ops : Array Oper} {rest : List Oper} {op : Oper} {a : Act} {w : World} {Q : Exit → Act → World → Prop} (hgd : op.guard = none) (ty : TypeId) (x y : Operand) (ho : op.op = .store ty x y)
    (c c' : Array Value) (hx : a.eval x = .pointer (some ⟨w.heap.size, 0, none⟩)) (hy : a.eval y = .agg c') (hi : (P.info? ty).map (·.size) = some c'.size) (hc : c.size = c'.size) (h1 : c'.all (·.oneCell') = true)
    (h : wpList P ops Q rest (a.put op.dst undef) (w.alloc (.cells c' ty))) : wpList P ops Q (op :: rest) a (w.alloc (.cells c ty)) :=
  wpList_plain hgd fun _ hK => by
    have hr := run_storeAt_new (P := P) w ty c c' hi hc h1
    unfold Oper.wp execOp
    simp only [ho, hx, hy, Sem.run_bind, hr, Result.andThen_ok]
    exact hK _ _ h
theorem rowCp_one (s : Cp) (p : Pl) : (s.row p).toArray.all (·.oneCell') = true := by
  refine all_oneCell_toArray fun v hv => ?_
  simp only [Cp.row, rowCp, rowF, List.mem_append, List.mem_map, List.mem_cons, List.not_mem_nil, or_false] at hv
  rcases hv with (rfl | rfl | rfl | rfl | rfl | rfl | rfl) | ⟨_, _, rfl⟩ | ⟨_, _, rfl⟩ <;> rfl
theorem zeroRunCp : ∃ Z : Array Value, Z.size = 135 ∧ ∀ w : World, (zeroValue 120).run Try.prog w = .ok (.agg Z) w := by
  have h : (Try.prog.info? 120).map (fun i => i.zero.map (fun z => match z with | .agg Z => some Z.size | _ => none)) = some (some (some 135)) := by kernel_rfl
  cases hq : Try.prog.info? 120 with
  | none => rw [hq] at h; simp at h
  | some i =>
    rw [hq] at h
    cases hz : i.zero with
    | none => simp [hz] at h
    | some z =>
      cases z <;> simp [hz] at h
      rename_i Z
      exact ⟨Z, h, fun w => by simp [zeroValue, typeInfo, hq, hz]⟩
end Go.Proofs.Ytfdggmmibgbfnaa
