/-
  NARROWER THAN 'FOR EVERY INPUT', by the rows' own cells (each row's printed sentence says how): SubstSafes: loops · SubstAlphas: loops · SubstCanons: loops · SubstNames: loops · SubstSafely: loops · SubstOwn: loops · InternRuns: loops · InternParts: loops · InternFull: loops · InternOwn: loops.
  DERIVED. THE GIVEN ROWS OF THIS SEAT. 10 by the template 'for every input the law returns true; each argument reads behind the call as it read before'; 0 by the template 'total and deterministic' (their statements: YtfdggmmibgbfnaaTotals.lean).
  GIVEN WITH THE SEED: the statements are not yours to turn. If you find one false, say at which input.
  Laid BY PROGRAM, IN A SANDBOX (cutbox-rows.mjs): the forced cells as the released guide's own fill.sh prints them over the translation 78853323fa4ffc0f… (all of the seat's roots in one cut). By AI agents, Wed Nov 11 2026. No macro, syntax, notation, axiom, sorry.
-/
import Derived.Test.YtfdggmmibgbfnaaChecked
import GoSem.Claim
import GoSem.ClaimJoined
import GoSem.ClaimMapViews
import Derived.JoinedTies
import Derived.KernelRfl
namespace Go.Proofs.Ytfdggmmibgbfnaa
/- THE CELL 'sum', in the pinned program and in every row, IS THE sha256 OF THE DUMP (.gsa) THAT YtfdggmmibgbfnaaProg.lean LOADS. Nothing in Lean hashes anything: it is a label: what it is worth is what the hold of that sum in a sandbox is worth. -/
noncomputable def Try.pinned : Pinned := { name := "ytfdggmmibgbfnaa", sum := "78853323fa4ffc0f5a94a29d61d01e208e55200151cadd2ae1ec34d9a8db938a", checked := Try.checked }
namespace Rows
def none {H : Type} : Left H := { results := [], args := [] }

/-- 'organonlaw05.SubstSafes': WHATEVER THE INPUT: true; the input reads as it did. -/
def substSafesSpec : ChangeSpec := { name := "substSafes", fn := fun _ => fun
  | [d1, d2, d3] => { results := [.lit (.bool true)], args := [d1, d2, d3] }
  | _ => none }
def substSafesRow : OpenClaim := { program := "ytfdggmmibgbfnaa", sum := "78853323fa4ffc0f5a94a29d61d01e208e55200151cadd2ae1ec34d9a8db938a", func := "organon/organonlaw05.SubstSafes", spec := "substSafes", unfollowed := true, recurses := true, loops := true, plainKeys := false, apart := false }
def SubstSafesSaid : Prop := substSafesRow.holds Try.pinned (OpenSpec.ofChange substSafesSpec)

/-- ITS FALSE NEIGHBOUR: 'it returns false'. Refute it at one input. -/
def substSafesWrong : ChangeSpec := { name := "substSafes", fn := fun _ => fun
  | [d1, d2, d3] => { results := [.lit (.bool false)], args := [d1, d2, d3] }
  | _ => none }
def SubstSafesWrongFalsely : Prop := substSafesRow.holds Try.pinned (OpenSpec.ofChange substSafesWrong)

/-- 'organonlaw05.SubstAlphas': WHATEVER THE INPUT: true; the input reads as it did. -/
def substAlphasSpec : ChangeSpec := { name := "substAlphas", fn := fun _ => fun
  | [d1, d2] => { results := [.lit (.bool true)], args := [d1, d2] }
  | _ => none }
def substAlphasRow : OpenClaim := { program := "ytfdggmmibgbfnaa", sum := "78853323fa4ffc0f5a94a29d61d01e208e55200151cadd2ae1ec34d9a8db938a", func := "organon/organonlaw05.SubstAlphas", spec := "substAlphas", unfollowed := true, recurses := true, loops := true, plainKeys := false, apart := false }
def SubstAlphasSaid : Prop := substAlphasRow.holds Try.pinned (OpenSpec.ofChange substAlphasSpec)

/-- ITS FALSE NEIGHBOUR: 'it returns false'. Refute it at one input. -/
def substAlphasWrong : ChangeSpec := { name := "substAlphas", fn := fun _ => fun
  | [d1, d2] => { results := [.lit (.bool false)], args := [d1, d2] }
  | _ => none }
def SubstAlphasWrongFalsely : Prop := substAlphasRow.holds Try.pinned (OpenSpec.ofChange substAlphasWrong)

/-- 'organonlaw05.SubstCanons': WHATEVER THE INPUT: true; the input reads as it did. -/
def substCanonsSpec : ChangeSpec := { name := "substCanons", fn := fun _ => fun
  | [d] => { results := [.lit (.bool true)], args := [d] }
  | _ => none }
def substCanonsRow : OpenClaim := { program := "ytfdggmmibgbfnaa", sum := "78853323fa4ffc0f5a94a29d61d01e208e55200151cadd2ae1ec34d9a8db938a", func := "organon/organonlaw05.SubstCanons", spec := "substCanons", unfollowed := true, recurses := true, loops := true, plainKeys := false, apart := false }
def SubstCanonsSaid : Prop := substCanonsRow.holds Try.pinned (OpenSpec.ofChange substCanonsSpec)

/-- ITS FALSE NEIGHBOUR: 'it returns false'. Refute it at one input. -/
def substCanonsWrong : ChangeSpec := { name := "substCanons", fn := fun _ => fun
  | [d] => { results := [.lit (.bool false)], args := [d] }
  | _ => none }
def SubstCanonsWrongFalsely : Prop := substCanonsRow.holds Try.pinned (OpenSpec.ofChange substCanonsWrong)

/-- 'organonlaw05.SubstNames': WHATEVER THE INPUT: true; the input reads as it did. -/
def substNamesSpec : ChangeSpec := { name := "substNames", fn := fun _ => fun
  | [d1, d2] => { results := [.lit (.bool true)], args := [d1, d2] }
  | _ => none }
def substNamesRow : OpenClaim := { program := "ytfdggmmibgbfnaa", sum := "78853323fa4ffc0f5a94a29d61d01e208e55200151cadd2ae1ec34d9a8db938a", func := "organon/organonlaw05.SubstNames", spec := "substNames", unfollowed := true, recurses := true, loops := true, plainKeys := false, apart := false }
def SubstNamesSaid : Prop := substNamesRow.holds Try.pinned (OpenSpec.ofChange substNamesSpec)

/-- ITS FALSE NEIGHBOUR: 'it returns false'. Refute it at one input. -/
def substNamesWrong : ChangeSpec := { name := "substNames", fn := fun _ => fun
  | [d1, d2] => { results := [.lit (.bool false)], args := [d1, d2] }
  | _ => none }
def SubstNamesWrongFalsely : Prop := substNamesRow.holds Try.pinned (OpenSpec.ofChange substNamesWrong)

/-- 'organonlaw05.SubstSafely': WHATEVER THE INPUT: true; the input reads as it did. -/
def substSafelySpec : ChangeSpec := { name := "substSafely", fn := fun _ => fun
  | [d1, d2, d3] => { results := [.lit (.bool true)], args := [d1, d2, d3] }
  | _ => none }
def substSafelyRow : OpenClaim := { program := "ytfdggmmibgbfnaa", sum := "78853323fa4ffc0f5a94a29d61d01e208e55200151cadd2ae1ec34d9a8db938a", func := "organon/organonlaw05.SubstSafely", spec := "substSafely", unfollowed := true, recurses := true, loops := true, plainKeys := false, apart := false }
def SubstSafelySaid : Prop := substSafelyRow.holds Try.pinned (OpenSpec.ofChange substSafelySpec)

/-- ITS FALSE NEIGHBOUR: 'it returns false'. Refute it at one input. -/
def substSafelyWrong : ChangeSpec := { name := "substSafely", fn := fun _ => fun
  | [d1, d2, d3] => { results := [.lit (.bool false)], args := [d1, d2, d3] }
  | _ => none }
def SubstSafelyWrongFalsely : Prop := substSafelyRow.holds Try.pinned (OpenSpec.ofChange substSafelyWrong)

/-- 'organonlaw05.SubstOwn': WHATEVER THE INPUT: true; the input reads as it did. -/
def substOwnSpec : ChangeSpec := { name := "substOwn", fn := fun _ => fun
  | [d1, d2, d3] => { results := [.lit (.bool true)], args := [d1, d2, d3] }
  | _ => none }
def substOwnRow : OpenClaim := { program := "ytfdggmmibgbfnaa", sum := "78853323fa4ffc0f5a94a29d61d01e208e55200151cadd2ae1ec34d9a8db938a", func := "organon/organonlaw05.SubstOwn", spec := "substOwn", unfollowed := true, recurses := true, loops := true, plainKeys := false, apart := false }
def SubstOwnSaid : Prop := substOwnRow.holds Try.pinned (OpenSpec.ofChange substOwnSpec)

/-- ITS FALSE NEIGHBOUR: 'it returns false'. Refute it at one input. -/
def substOwnWrong : ChangeSpec := { name := "substOwn", fn := fun _ => fun
  | [d1, d2, d3] => { results := [.lit (.bool false)], args := [d1, d2, d3] }
  | _ => none }
def SubstOwnWrongFalsely : Prop := substOwnRow.holds Try.pinned (OpenSpec.ofChange substOwnWrong)

/-- 'organonlaw06.InternRuns': WHATEVER THE INPUT: true; the input reads as it did. -/
def internRunsSpec : ChangeSpec := { name := "internRuns", fn := fun _ => fun
  | [d1, d2] => { results := [.lit (.bool true)], args := [d1, d2] }
  | _ => none }
def internRunsRow : OpenClaim := { program := "ytfdggmmibgbfnaa", sum := "78853323fa4ffc0f5a94a29d61d01e208e55200151cadd2ae1ec34d9a8db938a", func := "organon/organonlaw06.InternRuns", spec := "internRuns", unfollowed := true, recurses := true, loops := true, plainKeys := false, apart := false }
def InternRunsSaid : Prop := internRunsRow.holds Try.pinned (OpenSpec.ofChange internRunsSpec)

/-- ITS FALSE NEIGHBOUR: 'it returns false'. Refute it at one input. -/
def internRunsWrong : ChangeSpec := { name := "internRuns", fn := fun _ => fun
  | [d1, d2] => { results := [.lit (.bool false)], args := [d1, d2] }
  | _ => none }
def InternRunsWrongFalsely : Prop := internRunsRow.holds Try.pinned (OpenSpec.ofChange internRunsWrong)

/-- 'organonlaw06.InternParts': WHATEVER THE INPUT: true; the input reads as it did. -/
def internPartsSpec : ChangeSpec := { name := "internParts", fn := fun _ => fun
  | [d] => { results := [.lit (.bool true)], args := [d] }
  | _ => none }
def internPartsRow : OpenClaim := { program := "ytfdggmmibgbfnaa", sum := "78853323fa4ffc0f5a94a29d61d01e208e55200151cadd2ae1ec34d9a8db938a", func := "organon/organonlaw06.InternParts", spec := "internParts", unfollowed := true, recurses := true, loops := true, plainKeys := false, apart := false }
def InternPartsSaid : Prop := internPartsRow.holds Try.pinned (OpenSpec.ofChange internPartsSpec)

/-- ITS FALSE NEIGHBOUR: 'it returns false'. Refute it at one input. -/
def internPartsWrong : ChangeSpec := { name := "internParts", fn := fun _ => fun
  | [d] => { results := [.lit (.bool false)], args := [d] }
  | _ => none }
def InternPartsWrongFalsely : Prop := internPartsRow.holds Try.pinned (OpenSpec.ofChange internPartsWrong)

/-- 'organonlaw06.InternFull': WHATEVER THE INPUT: true; the input reads as it did. -/
def internFullSpec : ChangeSpec := { name := "internFull", fn := fun _ => fun
  | [d1, d2, d3] => { results := [.lit (.bool true)], args := [d1, d2, d3] }
  | _ => none }
def internFullRow : OpenClaim := { program := "ytfdggmmibgbfnaa", sum := "78853323fa4ffc0f5a94a29d61d01e208e55200151cadd2ae1ec34d9a8db938a", func := "organon/organonlaw06.InternFull", spec := "internFull", unfollowed := true, recurses := true, loops := true, plainKeys := false, apart := false }
def InternFullSaid : Prop := internFullRow.holds Try.pinned (OpenSpec.ofChange internFullSpec)

/-- ITS FALSE NEIGHBOUR: 'it returns false'. Refute it at one input. -/
def internFullWrong : ChangeSpec := { name := "internFull", fn := fun _ => fun
  | [d1, d2, d3] => { results := [.lit (.bool false)], args := [d1, d2, d3] }
  | _ => none }
def InternFullWrongFalsely : Prop := internFullRow.holds Try.pinned (OpenSpec.ofChange internFullWrong)

/-- 'organonlaw06.InternOwn': WHATEVER THE INPUT: true; the input reads as it did. -/
def internOwnSpec : ChangeSpec := { name := "internOwn", fn := fun _ => fun
  | [d] => { results := [.lit (.bool true)], args := [d] }
  | _ => none }
def internOwnRow : OpenClaim := { program := "ytfdggmmibgbfnaa", sum := "78853323fa4ffc0f5a94a29d61d01e208e55200151cadd2ae1ec34d9a8db938a", func := "organon/organonlaw06.InternOwn", spec := "internOwn", unfollowed := true, recurses := true, loops := true, plainKeys := false, apart := false }
def InternOwnSaid : Prop := internOwnRow.holds Try.pinned (OpenSpec.ofChange internOwnSpec)

/-- ITS FALSE NEIGHBOUR: 'it returns false'. Refute it at one input. -/
def internOwnWrong : ChangeSpec := { name := "internOwn", fn := fun _ => fun
  | [d] => { results := [.lit (.bool false)], args := [d] }
  | _ => none }
def InternOwnWrongFalsely : Prop := internOwnRow.holds Try.pinned (OpenSpec.ofChange internOwnWrong)

/- THE SECOND FORM. 'bulk': how many values and letters a reading holds, each counted each time it is reached (what is shared counts as often as it is met; a slice's spare places count too). A statement '..UptoSaid' is the law's where the arguments, and the package variables that the reading takes, are together of bulk at most 1048576: NARROWER than '..Said'. Prove '..Said' where nothing that the law and all that it calls make is longer than what came in: it says more and counts as full. Else prove '..UptoSaid'. A law counts once. -/
mutual
def uptoBulk {H : Type} : DataW H → Nat
  | .lit (.string bytes) => bytes.length + 1
  | .lit _ => 1
  | .nil => 1
  | .ptr d => uptoBulk d + 1
  | .slice elems spare => uptoBulkAll elems + uptoBulkAll spare + 1
  | .agg parts => uptoBulkAll parts + 1
  | .iface _ d => uptoBulk d + 1
  | .map entries => uptoBulkEntries entries + 1
  | .held _ => 1
def uptoBulkAll {H : Type} : List (DataW H) → Nat
  | [] => 0
  | d :: r => uptoBulk d + uptoBulkAll r
def uptoBulkEntries {H : Type} : List (Lit × DataW H) → Nat
  | [] => 0
  | x :: r => uptoBulkEntry x + uptoBulkEntries r
def uptoBulkEntry {H : Type} : Lit × DataW H → Nat
  | (.string bytes, d) => bytes.length + uptoBulk d + 1
  | (_, d) => uptoBulk d + 1
 end
def uptoSmall : (H : Type) → List (DataW H) → Bool := fun _ ds => decide (uptoBulkAll ds ≤ 1048576)
def OpenSpec.upto (s : _root_.Go.ChangeSpec) : _root_.Go.OpenSpec := { _root_.Go.OpenSpec.ofChange s with cond := some uptoSmall }

/-- 'organonlaw05.SubstSafes', WHERE WHAT IT READS IS OF BULK AT MOST 1048576: true; the input reads as it did. -/
def substSafesUptoRow : OpenClaim := { program := "ytfdggmmibgbfnaa", sum := "78853323fa4ffc0f5a94a29d61d01e208e55200151cadd2ae1ec34d9a8db938a", func := "organon/organonlaw05.SubstSafes", spec := "substSafes", unfollowed := true, recurses := true, loops := true, plainKeys := false, apart := false, narrowed := true }
def SubstSafesUptoSaid : Prop := substSafesUptoRow.holds Try.pinned (OpenSpec.upto substSafesSpec)

/-- 'organonlaw05.SubstAlphas', WHERE WHAT IT READS IS OF BULK AT MOST 1048576: true; the input reads as it did. -/
def substAlphasUptoRow : OpenClaim := { program := "ytfdggmmibgbfnaa", sum := "78853323fa4ffc0f5a94a29d61d01e208e55200151cadd2ae1ec34d9a8db938a", func := "organon/organonlaw05.SubstAlphas", spec := "substAlphas", unfollowed := true, recurses := true, loops := true, plainKeys := false, apart := false, narrowed := true }
def SubstAlphasUptoSaid : Prop := substAlphasUptoRow.holds Try.pinned (OpenSpec.upto substAlphasSpec)

/-- 'organonlaw05.SubstCanons', WHERE WHAT IT READS IS OF BULK AT MOST 1048576: true; the input reads as it did. -/
def substCanonsUptoRow : OpenClaim := { program := "ytfdggmmibgbfnaa", sum := "78853323fa4ffc0f5a94a29d61d01e208e55200151cadd2ae1ec34d9a8db938a", func := "organon/organonlaw05.SubstCanons", spec := "substCanons", unfollowed := true, recurses := true, loops := true, plainKeys := false, apart := false, narrowed := true }
def SubstCanonsUptoSaid : Prop := substCanonsUptoRow.holds Try.pinned (OpenSpec.upto substCanonsSpec)

/-- 'organonlaw05.SubstNames', WHERE WHAT IT READS IS OF BULK AT MOST 1048576: true; the input reads as it did. -/
def substNamesUptoRow : OpenClaim := { program := "ytfdggmmibgbfnaa", sum := "78853323fa4ffc0f5a94a29d61d01e208e55200151cadd2ae1ec34d9a8db938a", func := "organon/organonlaw05.SubstNames", spec := "substNames", unfollowed := true, recurses := true, loops := true, plainKeys := false, apart := false, narrowed := true }
def SubstNamesUptoSaid : Prop := substNamesUptoRow.holds Try.pinned (OpenSpec.upto substNamesSpec)

/-- 'organonlaw05.SubstSafely', WHERE WHAT IT READS IS OF BULK AT MOST 1048576: true; the input reads as it did. -/
def substSafelyUptoRow : OpenClaim := { program := "ytfdggmmibgbfnaa", sum := "78853323fa4ffc0f5a94a29d61d01e208e55200151cadd2ae1ec34d9a8db938a", func := "organon/organonlaw05.SubstSafely", spec := "substSafely", unfollowed := true, recurses := true, loops := true, plainKeys := false, apart := false, narrowed := true }
def SubstSafelyUptoSaid : Prop := substSafelyUptoRow.holds Try.pinned (OpenSpec.upto substSafelySpec)

/-- 'organonlaw05.SubstOwn', WHERE WHAT IT READS IS OF BULK AT MOST 1048576: true; the input reads as it did. -/
def substOwnUptoRow : OpenClaim := { program := "ytfdggmmibgbfnaa", sum := "78853323fa4ffc0f5a94a29d61d01e208e55200151cadd2ae1ec34d9a8db938a", func := "organon/organonlaw05.SubstOwn", spec := "substOwn", unfollowed := true, recurses := true, loops := true, plainKeys := false, apart := false, narrowed := true }
def SubstOwnUptoSaid : Prop := substOwnUptoRow.holds Try.pinned (OpenSpec.upto substOwnSpec)

/-- 'organonlaw06.InternRuns', WHERE WHAT IT READS IS OF BULK AT MOST 1048576: true; the input reads as it did. -/
def internRunsUptoRow : OpenClaim := { program := "ytfdggmmibgbfnaa", sum := "78853323fa4ffc0f5a94a29d61d01e208e55200151cadd2ae1ec34d9a8db938a", func := "organon/organonlaw06.InternRuns", spec := "internRuns", unfollowed := true, recurses := true, loops := true, plainKeys := false, apart := false, narrowed := true }
def InternRunsUptoSaid : Prop := internRunsUptoRow.holds Try.pinned (OpenSpec.upto internRunsSpec)

/-- 'organonlaw06.InternParts', WHERE WHAT IT READS IS OF BULK AT MOST 1048576: true; the input reads as it did. -/
def internPartsUptoRow : OpenClaim := { program := "ytfdggmmibgbfnaa", sum := "78853323fa4ffc0f5a94a29d61d01e208e55200151cadd2ae1ec34d9a8db938a", func := "organon/organonlaw06.InternParts", spec := "internParts", unfollowed := true, recurses := true, loops := true, plainKeys := false, apart := false, narrowed := true }
def InternPartsUptoSaid : Prop := internPartsUptoRow.holds Try.pinned (OpenSpec.upto internPartsSpec)

/-- 'organonlaw06.InternFull', WHERE WHAT IT READS IS OF BULK AT MOST 1048576: true; the input reads as it did. -/
def internFullUptoRow : OpenClaim := { program := "ytfdggmmibgbfnaa", sum := "78853323fa4ffc0f5a94a29d61d01e208e55200151cadd2ae1ec34d9a8db938a", func := "organon/organonlaw06.InternFull", spec := "internFull", unfollowed := true, recurses := true, loops := true, plainKeys := false, apart := false, narrowed := true }
def InternFullUptoSaid : Prop := internFullUptoRow.holds Try.pinned (OpenSpec.upto internFullSpec)

/-- 'organonlaw06.InternOwn', WHERE WHAT IT READS IS OF BULK AT MOST 1048576: true; the input reads as it did. -/
def internOwnUptoRow : OpenClaim := { program := "ytfdggmmibgbfnaa", sum := "78853323fa4ffc0f5a94a29d61d01e208e55200151cadd2ae1ec34d9a8db938a", func := "organon/organonlaw06.InternOwn", spec := "internOwn", unfollowed := true, recurses := true, loops := true, plainKeys := false, apart := false, narrowed := true }
def InternOwnUptoSaid : Prop := internOwnUptoRow.holds Try.pinned (OpenSpec.upto internOwnSpec)

end Rows
end Go.Proofs.Ytfdggmmibgbfnaa
