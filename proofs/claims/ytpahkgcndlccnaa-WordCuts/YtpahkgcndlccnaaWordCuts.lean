/- WordCuts returns true for every uint64 and every number of bits: Cut answers, or refuses, as the document says, and one bit less is half of it.
   Conditions: none beyond those of the given statement Rows.WordCutsSaid. -/
import Derived.Test.YtpahkgcndlccnaaRows
import Derived.Test.YtpahkgcndlccnaaW1
import Derived.Test.YtpahkgcndlccnaaW2
import Derived.WalkKit
import Derived.ProofKit
import Derived.OpenShut
import Derived.ShutString
namespace Go.Proofs.Ytpahkgcndlccnaa.wordCuts
open Go.ChangeShapes Go.WideShapes Go.ChangeAt Go.RowKit
open Go.ChangeMaps (open_string shut_string)
set_option linter.unusedVariables false      -- a walk need not use every 'w<i>' (that an integer argument fits its kind)

theorem own : ownKnob Try.prog.godebug = none := by kernel_rfl

/-! ### STEP 1: THE WALK: the Go text returns true. 'Grown w w'': the world has at most new blocks (Derived/RowKit3.lean). Part the cases AHEAD of 'go_enter' where a test parts the walk; take each callee by a contract of your own. -/
theorem walk (a0 : Int) (a1 : Int) (w0 : (Lit.int .u64 a0).wf = true) (w1 : (Lit.int .i64 a1).wf = true) (w : World) :
    Calls Try.prog 16 #[.int .u64 a0, .int .i64 a1] w fun e w' => e = .returned (.bool true) ∧ Grown w w' := by
  obtain ⟨d, rfl⟩ := Int.eq_ofNat_of_zero_le (bounds_u64 w0).1
  have hd : U64 d := by have := (bounds_u64 w0).2; unfold U64; omega
  by_cases h : 0 ≤ a1 ∧ a1 ≤ 64
  · obtain ⟨h0, h1⟩ := h
    by_cases hz : 1 ≤ a1
    · have hh : (d / 2 ^ (64 - (a1 - 1)).toNat : Nat) = d / 2 ^ (64 - a1).toNat / 2 := by
        rw [Nat.div_div_eq_div_mul, ← Nat.pow_succ, show (64 - (a1 - 1)).toNat = (64 - a1).toNat + 1 from by omega]
      have hb : d / 2 ^ (64 - a1).toNat < 2 ^ 64 := Nat.lt_of_le_of_lt (Nat.div_le_self _ _) hd
      have hq : IntKind.u64.wrap (((d / 2 ^ (64 - a1).toNat : Nat) : Int) / 2) = ((d / 2 ^ (64 - (a1 - 1)).toNat : Nat) : Int) := by
        rw [hh, IntKind.wrap_u64]; generalize d / 2 ^ (64 - a1).toNat = x at hb ⊢; omega
      have Q := Lib.hid hq
      clear hh hb hq
      generalize hx : d / 2 ^ (64 - a1).toNat = x at *
      generalize hy : d / 2 ^ (64 - (a1 - 1)).toNat = y at *
      have X := Lib.hid hx
      have Y := Lib.hid hy
      clear hx hy
      go_enter Try.func16, Try.ntmps16
      go_wp2_with fail
      refine (cut_any _ _ _ h0 h1).mono ?_
      rintro e w' ⟨rfl, rfl⟩
      rw [X.out]
      go_wp2_with fail
      refine (rcut_any _ _ _ hd h0 h1).mono ?_
      rintro e w' ⟨rfl, rfl⟩
      rw [X.out]
      go_wp2_with fail
      refine (cut_any _ _ _ (by omega) (by omega)).mono ?_
      rintro e w' ⟨rfl, rfl⟩
      rw [Y.out]
      have q : IntKind.u64.wrap ((x : Int) / 2) = (y : Int) := Q.out
      go_wp2_with fail
      go_ret
      exact ⟨rfl, Grown.refl _⟩
    · go_enter Try.func16, Try.ntmps16
      go_wp2_with fail
      refine (cut_any _ _ _ h0 h1).mono ?_
      rintro e w' ⟨rfl, rfl⟩
      go_wp2_with fail
      refine (rcut_any _ _ _ hd h0 h1).mono ?_
      rintro e w' ⟨rfl, rfl⟩
      go_wp2_with fail
      go_ret
      exact ⟨rfl, Grown.refl _⟩
  · have h' : a1 < 0 ∨ 64 < a1 := by omega
    have H := Lib.hid h'
    clear h
    rcases h' with h' | h'
    all_goals
      go_enter Try.func16, Try.ntmps16
      go_wp2_with fail
      refine (cut_out _ _ _ H.out).mono ?_
      rintro e w' ⟨rfl, rfl⟩
      go_wp2_with fail
      refine (rcut_out _ _ _ H.out).mono ?_
      rintro e w' ⟨rfl, rfl⟩
      go_wp2_with fail
      go_ret
      exact ⟨rfl, Grown.refl _⟩

/-! ### THE ROW's STEP: WRITTEN OUT: LEAVE IT -/
set_option maxRecDepth 100000 in
theorem lifted (os : Os) (started : os.Started) (H : Type) (enc : TypeId × Value → H) :
    ReturnsInHanded {} Try.checked os 16 .any (Rows.wordCutsSpec.pre6 enc Try.prog Try.f16 Rows.wordCutsRow.domain false) (Rows.wordCutsSpec.post enc Try.prog Try.f16 false true false false) := by
  refine returnsInHanded_of_change (C := Try.checked) own started (by kernel_rfl) Try.func16
    (ChangeSpec.witness6 (enc := enc) (C := Try.checked) false ⟨#[], #[.int .u64 0, .int .i64 0], []⟩ 8 (by kernel_rfl) (by kernel_rfl) (by kernel_rfl) (by kernel_rfl)) ?_
  intro W base args ds gs before hval0 hW hcnd _
  have hval : ∀ (j : Nat) t v, Try.f16.params[j]? = some t → args[j]? = some v → Value.okWide Try.prog W .any base t v := hval0
  have hW' := hW
  obtain ⟨p, q, hA0, hV, rfl, hfz, hnd⟩ := hW
  have hA : DataW.TrodAll enc Try.prog W 0 (fun _ => true) true Try.f16.params.toList args.toList ds p := hA0
  rw [Try.params16] at hA hval
  obtain ⟨v0, vs0, d0, ds0, p0, q0, hargs, rfl, rfl, h0, r0⟩ := trodAll_cons hA
  obtain ⟨v1, vs1, d1, ds1, p1, q1, rfl, rfl, rfl, h1, r1⟩ := trodAll_cons r0
  obtain ⟨rfl, rfl, rfl⟩ := trodAll_nil r1
  obtain rfl : args = #[v0, v1] := by cases args; simp_all
  obtain ⟨rfl, rfl⟩ := trodVars_none hV
  obtain ⟨a0, rfl, rfl, rfl, w0⟩ := open_int Try.underlying23 (hval 0 23 v0 rfl rfl) h0
  obtain ⟨a1, rfl, rfl, rfl, w1⟩ := open_int Try.underlying3 (hval 1 3 v1 rfl rfl) h1
  clear hA0 hval0
  simp only [List.append_nil] at hW'
  refine (walk a0 a1 w0 w1 W).mono fun e W' ⟨he, hg⟩ => ?_
  subst he
  exact ⟨_, rfl, post_of_same (pa := []) (pv := []) hW' (fun _ _ _ => (trodAll_cons_mk (shut_bool Try.underlying4 _) trodAll_mk0)) (fun sp _ => (trodAll_cons_mk (shut_int Try.underlying23 w0) (trodAll_cons_mk (shut_int Try.underlying3 w1) trodAll_mk0))) (fun _ _ => rfl) rfl
    (hg.frame _) hg.2.1 (ok_one (by kernel_rfl) rfl (okWide_bool_mk Try.underlying4 _))⟩

theorem over : Rows.wordCutsRow.holds Try.pinned (OpenSpec.ofChange Rows.wordCutsSpec) :=
  OpenClaim.holds_of_wide 16 Try.f16 rfl rfl rfl rfl rfl rfl rfl ⟨rfl, rfl, rfl, rfl, rfl⟩ rfl rfl rfl rfl rfl (by kernel_rfl) Try.func16 (by kernel_rfl)
    (of_decide_eq_true (by kernel_rfl)) (by unfold Func.isWrapper; first | (rw [if_pos (by decide +kernel)]; kernel_rfl) | (rw [if_neg (by decide +kernel)]; exact ⟨rfl, rfl⟩))
    (fun os started H enc _ => lifted os started H enc)

/-- the given statement -/
theorem proved : Rows.WordCutsSaid :=
  over
#print axioms proved
end Go.Proofs.Ytpahkgcndlccnaa.wordCuts
