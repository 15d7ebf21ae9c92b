/- UnitRights returns true for every unit: whether it may be, or why not, is as the document says.
   Conditions: none beyond those of the given statement Rows.UnitRightsSaid. -/
import Derived.Test.YtcjfaajceipenaaRows
import Derived.Test.YtcjfaajceipenaaM7
import Derived.Test.YtcjfaajceipenaaL0
import Derived.WalkKit
import Derived.ProofKit
import Derived.OpenShut
import Derived.ShutString
import Derived.ChangeOld
import Derived.Below
import Derived.SizedLaws
namespace Go.Proofs.Ytcjfaajceipenaa.unitRights
open Go.ChangeShapes Go.WideShapes Go.ChangeAt Go.RowKit
set_option linter.unusedVariables false
theorem own : ownKnob Try.prog.godebug = none := by kernel_rfl
theorem laidOut : laidOutB Try.prog = true := by kernel_rfl
set_option maxRecDepth 100000 in
theorem lifted (os : Os) (started : os.Started) (H : Type) (enc : TypeId × Value → H) :
    ReturnsInHanded {} Try.checked os 9 .any (Rows.unitRightsSpec.pre6 enc Try.prog Try.f9 Rows.unitRightsRow.domain false) (Rows.unitRightsSpec.post enc Try.prog Try.f9 false true false false) := by
  refine returnsInHanded_of_change_sized (C := Try.checked) own started (by kernel_rfl) Try.func9
    (ChangeSpec.witness6 (enc := enc) (C := Try.checked) false ⟨#[], #[.agg #[.slice none 0 0, .int .i64 0, .int .i64 0, .slice none 0 0, .slice none 0 0]], []⟩ 8 (by kernel_rfl) (by kernel_rfl) (by kernel_rfl) (by kernel_rfl)) ?_
  intro W base args ds gs before hval0 hW hcnd hsz0 _
  have hsz : (DataW.weightsEach Try.prog (Try.f9.params.toList ++ Rows.unitRightsSpec.plain.varTypes Try.prog) (ds ++ gs)).all (· ≤ reachBytes) = true := hsz0
  have hval : ∀ (j : Nat) t v, Try.f9.params[j]? = some t → args[j]? = some v → Value.okWide Try.prog W .any base t v := hval0
  have hW' := hW
  obtain ⟨p, q, hA0, hV, rfl, hfz, hnd⟩ := hW
  have hA : DataW.TrodAll enc Try.prog W 0 (fun _ => true) true Try.f9.params.toList args.toList ds p := hA0
  rw [Try.params9] at hA hval hsz
  obtain ⟨v0, vs0, d0, ds0, p0, q0, hargs0, rfl, rfl, h0, r0⟩ := trodAll_cons hA
  obtain ⟨rfl, rfl, rfl⟩ := trodAll_nil r0
  obtain rfl : args = #[v0] := by cases args; simp_all
  obtain ⟨rfl, rfl⟩ := trodVars_none hV
  have k0 := h0
  have lt0 : ∀ x ∈ p0, x.block < W.heap.size := by obtain ⟨m, hm⟩ := k0; exact DataW.trod_lt m _ _ _ hm
  obtain ⟨u0, N0, nc0, A0, c0, S0, sc0, e0, hn0, ht0, hs0⟩ : ∃ (u : Unt) (N : Option Addr) (nc : Nat) (A : Option Addr) (c : Nat) (S : Option Addr) (sc : Nat), v0 = .agg #[.slice N u.cites.length nc, .int .i64 u.states.k, .int .i64 u.states.i, .slice A u.states.ks.length c, .slice S u.steps.length sc] ∧ IsNs W W.heap.size u.cites N nc ∧ IsT W W.heap.size u.states A c ∧ IsSs W W.heap.size u.steps S sc := by
    obtain ⟨fuel, hf⟩ := h0
    have ok := hval 0 47 v0 rfl rfl
    simp only [Value.okWide, Try.underlying47] at ok
    obtain ⟨cs, rfl, _, _⟩ := ok
    obtain ⟨u, N, nc, A, c, S, sc, hcs, ht⟩ := open_unit (fun _ => rfl) fuel _ _ hf (fun m hm => by simpa using List.all_eq_true.1 hsz _ (DataW.weights_mem_each (j := 0) (t := 47) rfl rfl m hm))
    refine ⟨u, N, nc, A, c, S, sc, ?_, ht⟩
    simp only [Value.cells] at hcs
    obtain ⟨l'⟩ := cs
    simp only at hcs
    rw [hcs]
  subst e0
  clear hA0 hval0
  refine Calls.mono (rights9_law u0 N0 nc0 A0 c0 S0 sc0 W hn0 ht0 hs0) fun e W' ⟨he, bel⟩ => ?_
  subst he
  exact ⟨_, rfl, _, _, _, [], _, [], hW', trodAll_mk1 (shut_bool Try.underlying4 _), (trodAll_cons_mk (Below.trod laidOut (by kernel_rfl) (of_decide_eq_true (by kernel_rfl)) k0 bel lt0) trodAll_mk0), rfl, bel.frame _, fun h => by cases h⟩

theorem over : Rows.unitRightsRow.holds Try.pinned (OpenSpec.ofChange Rows.unitRightsSpec) :=
  OpenClaim.holds_of_wide 9 Try.f9 rfl rfl rfl rfl rfl rfl rfl ⟨rfl, rfl, rfl, rfl, rfl⟩ rfl rfl rfl rfl rfl (by kernel_rfl) Try.func9 (by kernel_rfl)
    (of_decide_eq_true (by kernel_rfl)) (by unfold Func.isWrapper; first | (rw [if_pos (by decide +kernel)]; kernel_rfl) | (rw [if_neg (by decide +kernel)]; exact ⟨rfl, rfl⟩))
    (fun os started H enc _ => lifted os started H enc)

/-- the given statement -/
theorem proved : Rows.UnitRightsSaid := over
#print axioms proved
end Go.Proofs.Ytcjfaajceipenaa.unitRights
