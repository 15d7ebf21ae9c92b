/- RuleBuilds returns true for every two expressions and every number: what is put behind an if is detached again; of any other formula ahead of it nothing is; what is generalised has the variable free no more.
   Conditions: none beyond those of the given statement Rows.RuleBuildsSaid. -/
import Derived.Test.YtjdhmfpkhijkeaaRows
import Derived.Test.YtjdhmfpkhijkeaaKG
import Derived.Test.YtjdhmfpkhijkeaaL0
import Derived.WalkKit
import Derived.ProofKit
import Derived.OpenShut
import Derived.ShutString
import Derived.ChangeOld
import Derived.Below
import Derived.SizedLaws
namespace Go.Proofs.Ytjdhmfpkhijkeaa.ruleBuilds
open Go.ChangeShapes Go.WideShapes Go.ChangeAt Go.RowKit
set_option linter.unusedVariables false
theorem own : ownKnob Try.prog.godebug = none := by kernel_rfl
theorem laidOut : laidOutB Try.prog = true := by kernel_rfl
set_option maxRecDepth 100000 in
theorem lifted (os : Os) (started : os.Started) (H : Type) (enc : TypeId × Value → H) :
    ReturnsInHanded {} Try.checked os 13 .any (Rows.ruleBuildsSpec.pre6 enc Try.prog Try.f13 Rows.ruleBuildsRow.domain false) (Rows.ruleBuildsSpec.post enc Try.prog Try.f13 false true false false) := by
  refine returnsInHanded_of_change_sized (C := Try.checked) own started (by kernel_rfl) Try.func13
    (ChangeSpec.witness6 (enc := enc) (C := Try.checked) false ⟨#[], #[.agg #[.int .i64 0, .int .i64 0, .slice none 0 0], .agg #[.int .i64 0, .int .i64 0, .slice none 0 0], .int .i64 0], []⟩ 8 (by kernel_rfl) (by kernel_rfl) (by kernel_rfl) (by kernel_rfl)) ?_
  intro W base args ds gs before hval0 hW hcnd hsz0 _
  have hsz : (DataW.weightsEach Try.prog (Try.f13.params.toList ++ Rows.ruleBuildsSpec.plain.varTypes Try.prog) (ds ++ gs)).all (· ≤ reachBytes) = true := hsz0
  have hval : ∀ (j : Nat) t v, Try.f13.params[j]? = some t → args[j]? = some v → Value.okWide Try.prog W .any base t v := hval0
  have hW' := hW
  obtain ⟨p, q, hA0, hV, rfl, hfz, hnd⟩ := hW
  have hA : DataW.TrodAll enc Try.prog W 0 (fun _ => true) true Try.f13.params.toList args.toList ds p := hA0
  rw [Try.params13] at hA hval hsz
  obtain ⟨v0, vs0, d0, ds0, p0, q0, hargs0, rfl, rfl, h0, r0⟩ := trodAll_cons hA
  obtain ⟨v1, vs1, d1, ds1, p1, q1, hargs1, rfl, rfl, h1, r1⟩ := trodAll_cons r0
  obtain ⟨v2, vs2, d2, ds2, p2, q2, hargs2, rfl, rfl, h2, r2⟩ := trodAll_cons r1
  obtain ⟨rfl, rfl, rfl⟩ := trodAll_nil r2
  obtain rfl := hargs2
  obtain rfl := hargs1
  obtain rfl : args = #[v0, v1, v2] := by cases args; simp_all
  obtain ⟨rfl, rfl⟩ := trodVars_none hV
  have k0 := h0
  have lt0 : ∀ x ∈ p0, x.block < W.heap.size := by obtain ⟨m, hm⟩ := k0; exact DataW.trod_lt m _ _ _ hm
  obtain ⟨t0, A0, c0, e0, i0⟩ : ∃ t A c, v0 = .agg #[.int .i64 t.k, .int .i64 t.i, .slice A t.ks.length c] ∧ IsT W W.heap.size t A c := by
    obtain ⟨fuel, hf⟩ := h0
    have ok := hval 0 24 v0 rfl rfl
    simp only [Value.okWide, Try.underlying24] at ok
    obtain ⟨cs, rfl, _, _⟩ := ok
    obtain ⟨t, A, c, hcs, ht⟩ := open_expr (fun _ => rfl) fuel _ _ hf (fun m hm => by simpa using List.all_eq_true.1 hsz _ (DataW.weights_mem_each (j := 0) (t := 24) rfl rfl m hm))
    refine ⟨t, A, c, ?_, ht⟩
    simp only [Value.cells] at hcs
    obtain ⟨l⟩ := cs
    simp only at hcs
    rw [hcs]
  subst e0
  have k1 := h1
  have lt1 : ∀ x ∈ p1, x.block < W.heap.size := by obtain ⟨m, hm⟩ := k1; exact DataW.trod_lt m _ _ _ hm
  obtain ⟨t1, A1, c1, e1, i1⟩ : ∃ t A c, v1 = .agg #[.int .i64 t.k, .int .i64 t.i, .slice A t.ks.length c] ∧ IsT W W.heap.size t A c := by
    obtain ⟨fuel, hf⟩ := h1
    have ok := hval 1 24 v1 rfl rfl
    simp only [Value.okWide, Try.underlying24] at ok
    obtain ⟨cs, rfl, _, _⟩ := ok
    obtain ⟨t, A, c, hcs, ht⟩ := open_expr (fun _ => rfl) fuel _ _ hf (fun m hm => by simpa using List.all_eq_true.1 hsz _ (DataW.weights_mem_each (j := 1) (t := 24) rfl rfl m hm))
    refine ⟨t, A, c, ?_, ht⟩
    simp only [Value.cells] at hcs
    obtain ⟨l⟩ := cs
    simp only at hcs
    rw [hcs]
  subst e1
  have k2 := h2
  have lt2 : ∀ x ∈ p2, x.block < W.heap.size := by obtain ⟨m, hm⟩ := k2; exact DataW.trod_lt m _ _ _ hm
  obtain ⟨n2, rfl, rfl, rfl, w2⟩ := open_int Try.underlying3 (hval 2 3 v2 rfl rfl) h2
  clear hA0 hval0
  refine Calls.mono (builds8_law t0 t1 n2 A0 A1 c0 c1 W i0 i1) fun e W' ⟨he, bel⟩ => ?_
  subst he
  exact ⟨_, rfl, _, _, _, [], _, [], hW', trodAll_mk1 (shut_bool Try.underlying4 _), (trodAll_cons_mk (Below.trod laidOut (by kernel_rfl) (of_decide_eq_true (by kernel_rfl)) k0 bel lt0) (trodAll_cons_mk (Below.trod laidOut (by kernel_rfl) (of_decide_eq_true (by kernel_rfl)) k1 bel lt1) (trodAll_cons_mk (Below.trod laidOut (by kernel_rfl) (of_decide_eq_true (by kernel_rfl)) k2 bel lt2) trodAll_mk0))), rfl, bel.frame _, fun h => by cases h⟩

theorem over : Rows.ruleBuildsRow.holds Try.pinned (OpenSpec.ofChange Rows.ruleBuildsSpec) :=
  OpenClaim.holds_of_wide 13 Try.f13 rfl rfl rfl rfl rfl rfl rfl ⟨rfl, rfl, rfl, rfl, rfl⟩ rfl rfl rfl rfl rfl (by kernel_rfl) Try.func13 (by kernel_rfl)
    (of_decide_eq_true (by kernel_rfl)) (by unfold Func.isWrapper; first | (rw [if_pos (by decide +kernel)]; kernel_rfl) | (rw [if_neg (by decide +kernel)]; exact ⟨rfl, rfl⟩))
    (fun os started H enc _ => lifted os started H enc)

/-- the given statement -/
theorem proved : Rows.RuleBuildsSaid := over
#print axioms proved
end Go.Proofs.Ytjdhmfpkhijkeaa.ruleBuilds
