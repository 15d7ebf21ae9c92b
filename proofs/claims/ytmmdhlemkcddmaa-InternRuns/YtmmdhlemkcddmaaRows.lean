/-
  NARROWER THAN 'FOR EVERY INPUT', by the rows' own cells (each row's printed sentence says how): SchemaSwaps: loops · SchemaTurned: loops · SchemaPuts: loops · InternRuns: loops · SubstSafes: loops · SubstCanons: loops · SubstNames: loops · SubstSafely: loops · SubstOwn: loops.
  DERIVED. THE GIVEN ROWS OF THIS SEAT. 9 by the template 'for every input the law returns true; each argument reads behind the call as it read before'; 0 by the template 'total and deterministic' (their statements: YtmmdhlemkcddmaaTotals.lean).
  GIVEN WITH THE SEED: the statements are not yours to turn. If you find one false, say at which input.
  Laid BY PROGRAM, IN A SANDBOX (cutbox-rows.mjs): the forced cells as the released guide's own fill.sh prints them over the translation 9187a40523064bf2… (all of the seat's roots in one cut). By AI agents, Wed Nov 11 2026. No macro, syntax, notation, axiom, sorry.
-/
import Derived.Test.YtmmdhlemkcddmaaChecked
import GoSem.Claim
import GoSem.ClaimJoined
import GoSem.ClaimMapViews
import Derived.JoinedTies
import Derived.KernelRfl
namespace Go.Proofs.Ytmmdhlemkcddmaa
/- THE CELL 'sum', in the pinned program and in every row, IS THE sha256 OF THE DUMP (.gsa) THAT YtmmdhlemkcddmaaProg.lean LOADS. Nothing in Lean hashes anything: it is a label: what it is worth is what the hold of that sum in a sandbox is worth. -/
noncomputable def Try.pinned : Pinned := { name := "ytmmdhlemkcddmaa", sum := "9187a40523064bf28e56f042fafbb0483b0d2c90ab64120403f9aab809c25789", checked := Try.checked }
namespace Rows
def none {H : Type} : Left H := { results := [], args := [] }

/-- 'organonlaw07.SchemaSwaps': WHATEVER THE INPUT: true; the input reads as it did. -/
def schemaSwapsSpec : ChangeSpec := { name := "schemaSwaps", fn := fun _ => fun
  | [d1, d2, d3, d4] => { results := [.lit (.bool true)], args := [d1, d2, d3, d4] }
  | _ => none }
def schemaSwapsRow : OpenClaim := { program := "ytmmdhlemkcddmaa", sum := "9187a40523064bf28e56f042fafbb0483b0d2c90ab64120403f9aab809c25789", func := "organon/organonlaw07.SchemaSwaps", spec := "schemaSwaps", unfollowed := true, recurses := true, loops := true, plainKeys := false, apart := false }
def SchemaSwapsSaid : Prop := schemaSwapsRow.holds Try.pinned (OpenSpec.ofChange schemaSwapsSpec)

/-- ITS FALSE NEIGHBOUR: 'it returns false'. Refute it at one input. -/
def schemaSwapsWrong : ChangeSpec := { name := "schemaSwaps", fn := fun _ => fun
  | [d1, d2, d3, d4] => { results := [.lit (.bool false)], args := [d1, d2, d3, d4] }
  | _ => none }
def SchemaSwapsWrongFalsely : Prop := schemaSwapsRow.holds Try.pinned (OpenSpec.ofChange schemaSwapsWrong)

/-- 'organonlaw07.SchemaTurned': WHATEVER THE INPUT: true; the input reads as it did. -/
def schemaTurnedSpec : ChangeSpec := { name := "schemaTurned", fn := fun _ => fun
  | [d1, d2, d3, d4] => { results := [.lit (.bool true)], args := [d1, d2, d3, d4] }
  | _ => none }
def schemaTurnedRow : OpenClaim := { program := "ytmmdhlemkcddmaa", sum := "9187a40523064bf28e56f042fafbb0483b0d2c90ab64120403f9aab809c25789", func := "organon/organonlaw07.SchemaTurned", spec := "schemaTurned", unfollowed := true, recurses := true, loops := true, plainKeys := false, apart := false }
def SchemaTurnedSaid : Prop := schemaTurnedRow.holds Try.pinned (OpenSpec.ofChange schemaTurnedSpec)

/-- ITS FALSE NEIGHBOUR: 'it returns false'. Refute it at one input. -/
def schemaTurnedWrong : ChangeSpec := { name := "schemaTurned", fn := fun _ => fun
  | [d1, d2, d3, d4] => { results := [.lit (.bool false)], args := [d1, d2, d3, d4] }
  | _ => none }
def SchemaTurnedWrongFalsely : Prop := schemaTurnedRow.holds Try.pinned (OpenSpec.ofChange schemaTurnedWrong)

/-- 'organonlaw07.SchemaPuts': WHATEVER THE INPUT: true; the input reads as it did. -/
def schemaPutsSpec : ChangeSpec := { name := "schemaPuts", fn := fun _ => fun
  | [d1, d2, d3, d4] => { results := [.lit (.bool true)], args := [d1, d2, d3, d4] }
  | _ => none }
def schemaPutsRow : OpenClaim := { program := "ytmmdhlemkcddmaa", sum := "9187a40523064bf28e56f042fafbb0483b0d2c90ab64120403f9aab809c25789", func := "organon/organonlaw07.SchemaPuts", spec := "schemaPuts", unfollowed := true, recurses := true, loops := true, plainKeys := false, apart := false }
def SchemaPutsSaid : Prop := schemaPutsRow.holds Try.pinned (OpenSpec.ofChange schemaPutsSpec)

/-- ITS FALSE NEIGHBOUR: 'it returns false'. Refute it at one input. -/
def schemaPutsWrong : ChangeSpec := { name := "schemaPuts", fn := fun _ => fun
  | [d1, d2, d3, d4] => { results := [.lit (.bool false)], args := [d1, d2, d3, d4] }
  | _ => none }
def SchemaPutsWrongFalsely : Prop := schemaPutsRow.holds Try.pinned (OpenSpec.ofChange schemaPutsWrong)

/-- 'organonlaw06.InternRuns': WHATEVER THE INPUT: true; the input reads as it did. -/
def internRunsSpec : ChangeSpec := { name := "internRuns", fn := fun _ => fun
  | [d1, d2] => { results := [.lit (.bool true)], args := [d1, d2] }
  | _ => none }
def internRunsRow : OpenClaim := { program := "ytmmdhlemkcddmaa", sum := "9187a40523064bf28e56f042fafbb0483b0d2c90ab64120403f9aab809c25789", func := "organon/organonlaw06.InternRuns", spec := "internRuns", unfollowed := true, recurses := true, loops := true, plainKeys := false, apart := false }
def InternRunsSaid : Prop := internRunsRow.holds Try.pinned (OpenSpec.ofChange internRunsSpec)

/-- ITS FALSE NEIGHBOUR: 'it returns false'. Refute it at one input. -/
def internRunsWrong : ChangeSpec := { name := "internRuns", fn := fun _ => fun
  | [d1, d2] => { results := [.lit (.bool false)], args := [d1, d2] }
  | _ => none }
def InternRunsWrongFalsely : Prop := internRunsRow.holds Try.pinned (OpenSpec.ofChange internRunsWrong)

/-- 'organonlaw05.SubstSafes': WHATEVER THE INPUT: true; the input reads as it did. -/
def substSafesSpec : ChangeSpec := { name := "substSafes", fn := fun _ => fun
  | [d1, d2, d3] => { results := [.lit (.bool true)], args := [d1, d2, d3] }
  | _ => none }
def substSafesRow : OpenClaim := { program := "ytmmdhlemkcddmaa", sum := "9187a40523064bf28e56f042fafbb0483b0d2c90ab64120403f9aab809c25789", func := "organon/organonlaw05.SubstSafes", spec := "substSafes", unfollowed := true, recurses := true, loops := true, plainKeys := false, apart := false }
def SubstSafesSaid : Prop := substSafesRow.holds Try.pinned (OpenSpec.ofChange substSafesSpec)

/-- ITS FALSE NEIGHBOUR: 'it returns false'. Refute it at one input. -/
def substSafesWrong : ChangeSpec := { name := "substSafes", fn := fun _ => fun
  | [d1, d2, d3] => { results := [.lit (.bool false)], args := [d1, d2, d3] }
  | _ => none }
def SubstSafesWrongFalsely : Prop := substSafesRow.holds Try.pinned (OpenSpec.ofChange substSafesWrong)

/-- 'organonlaw05.SubstCanons': WHATEVER THE INPUT: true; the input reads as it did. -/
def substCanonsSpec : ChangeSpec := { name := "substCanons", fn := fun _ => fun
  | [d] => { results := [.lit (.bool true)], args := [d] }
  | _ => none }
def substCanonsRow : OpenClaim := { program := "ytmmdhlemkcddmaa", sum := "9187a40523064bf28e56f042fafbb0483b0d2c90ab64120403f9aab809c25789", func := "organon/organonlaw05.SubstCanons", spec := "substCanons", unfollowed := true, recurses := true, loops := true, plainKeys := false, apart := false }
def SubstCanonsSaid : Prop := substCanonsRow.holds Try.pinned (OpenSpec.ofChange substCanonsSpec)

/-- ITS FALSE NEIGHBOUR: 'it returns false'. Refute it at one input. -/
def substCanonsWrong : ChangeSpec := { name := "substCanons", fn := fun _ => fun
  | [d] => { results := [.lit (.bool false)], args := [d] }
  | _ => none }
def SubstCanonsWrongFalsely : Prop := substCanonsRow.holds Try.pinned (OpenSpec.ofChange substCanonsWrong)

/-- 'organonlaw05.SubstNames': WHATEVER THE INPUT: true; the input reads as it did. -/
def substNamesSpec : ChangeSpec := { name := "substNames", fn := fun _ => fun
  | [d1, d2] => { results := [.lit (.bool true)], args := [d1, d2] }
  | _ => none }
def substNamesRow : OpenClaim := { program := "ytmmdhlemkcddmaa", sum := "9187a40523064bf28e56f042fafbb0483b0d2c90ab64120403f9aab809c25789", func := "organon/organonlaw05.SubstNames", spec := "substNames", unfollowed := true, recurses := true, loops := true, plainKeys := false, apart := false }
def SubstNamesSaid : Prop := substNamesRow.holds Try.pinned (OpenSpec.ofChange substNamesSpec)

/-- ITS FALSE NEIGHBOUR: 'it returns false'. Refute it at one input. -/
def substNamesWrong : ChangeSpec := { name := "substNames", fn := fun _ => fun
  | [d1, d2] => { results := [.lit (.bool false)], args := [d1, d2] }
  | _ => none }
def SubstNamesWrongFalsely : Prop := substNamesRow.holds Try.pinned (OpenSpec.ofChange substNamesWrong)

/-- 'organonlaw05.SubstSafely': WHATEVER THE INPUT: true; the input reads as it did. -/
def substSafelySpec : ChangeSpec := { name := "substSafely", fn := fun _ => fun
  | [d1, d2, d3] => { results := [.lit (.bool true)], args := [d1, d2, d3] }
  | _ => none }
def substSafelyRow : OpenClaim := { program := "ytmmdhlemkcddmaa", sum := "9187a40523064bf28e56f042fafbb0483b0d2c90ab64120403f9aab809c25789", func := "organon/organonlaw05.SubstSafely", spec := "substSafely", unfollowed := true, recurses := true, loops := true, plainKeys := false, apart := false }
def SubstSafelySaid : Prop := substSafelyRow.holds Try.pinned (OpenSpec.ofChange substSafelySpec)

/-- ITS FALSE NEIGHBOUR: 'it returns false'. Refute it at one input. -/
def substSafelyWrong : ChangeSpec := { name := "substSafely", fn := fun _ => fun
  | [d1, d2, d3] => { results := [.lit (.bool false)], args := [d1, d2, d3] }
  | _ => none }
def SubstSafelyWrongFalsely : Prop := substSafelyRow.holds Try.pinned (OpenSpec.ofChange substSafelyWrong)

/-- 'organonlaw05.SubstOwn': WHATEVER THE INPUT: true; the input reads as it did. -/
def substOwnSpec : ChangeSpec := { name := "substOwn", fn := fun _ => fun
  | [d1, d2, d3] => { results := [.lit (.bool true)], args := [d1, d2, d3] }
  | _ => none }
def substOwnRow : OpenClaim := { program := "ytmmdhlemkcddmaa", sum := "9187a40523064bf28e56f042fafbb0483b0d2c90ab64120403f9aab809c25789", func := "organon/organonlaw05.SubstOwn", spec := "substOwn", unfollowed := true, recurses := true, loops := true, plainKeys := false, apart := false }
def SubstOwnSaid : Prop := substOwnRow.holds Try.pinned (OpenSpec.ofChange substOwnSpec)

/-- ITS FALSE NEIGHBOUR: 'it returns false'. Refute it at one input. -/
def substOwnWrong : ChangeSpec := { name := "substOwn", fn := fun _ => fun
  | [d1, d2, d3] => { results := [.lit (.bool false)], args := [d1, d2, d3] }
  | _ => none }
def SubstOwnWrongFalsely : Prop := substOwnRow.holds Try.pinned (OpenSpec.ofChange substOwnWrong)

/- THE SECOND FORM. 'bulk': how many values and letters a reading holds, each counted each time it is reached (what is shared counts as often as it is met; a slice's spare places count too). A statement '..UptoSaid' is the law's where the arguments, and the package variables that the reading takes, are together of bulk at most 1048576: NARROWER than '..Said'. Prove '..Said' where nothing that the law and all that it calls make is longer than what came in: it says more and counts as full. Else prove '..UptoSaid'. A law counts once. -/
mutual
def uptoBulk {H : Type} : DataW H → Nat
  | .lit (.string bytes) => bytes.length + 1
  | .lit _ => 1
  | .nil => 1
  | .ptr d => uptoBulk d + 1
  | .slice elems spare => uptoBulkAll elems + uptoBulkAll spare + 1
  | .agg parts => uptoBulkAll parts + 1
  | .iface _ d => uptoBulk d + 1
  | .map entries => uptoBulkEntries entries + 1
  | .held _ => 1
def uptoBulkAll {H : Type} : List (DataW H) → Nat
  | [] => 0
  | d :: r => uptoBulk d + uptoBulkAll r
def uptoBulkEntries {H : Type} : List (Lit × DataW H) → Nat
  | [] => 0
  | x :: r => uptoBulkEntry x + uptoBulkEntries r
def uptoBulkEntry {H : Type} : Lit × DataW H → Nat
  | (.string bytes, d) => bytes.length + uptoBulk d + 1
  | (_, d) => uptoBulk d + 1
 end
def uptoSmall : (H : Type) → List (DataW H) → Bool := fun _ ds => decide (uptoBulkAll ds ≤ 1048576)
def OpenSpec.upto (s : _root_.Go.ChangeSpec) : _root_.Go.OpenSpec := { _root_.Go.OpenSpec.ofChange s with cond := some uptoSmall }

/-- 'organonlaw07.SchemaSwaps', WHERE WHAT IT READS IS OF BULK AT MOST 1048576: true; the input reads as it did. -/
def schemaSwapsUptoRow : OpenClaim := { program := "ytmmdhlemkcddmaa", sum := "9187a40523064bf28e56f042fafbb0483b0d2c90ab64120403f9aab809c25789", func := "organon/organonlaw07.SchemaSwaps", spec := "schemaSwaps", unfollowed := true, recurses := true, loops := true, plainKeys := false, apart := false, narrowed := true }
def SchemaSwapsUptoSaid : Prop := schemaSwapsUptoRow.holds Try.pinned (OpenSpec.upto schemaSwapsSpec)

/-- 'organonlaw07.SchemaTurned', WHERE WHAT IT READS IS OF BULK AT MOST 1048576: true; the input reads as it did. -/
def schemaTurnedUptoRow : OpenClaim := { program := "ytmmdhlemkcddmaa", sum := "9187a40523064bf28e56f042fafbb0483b0d2c90ab64120403f9aab809c25789", func := "organon/organonlaw07.SchemaTurned", spec := "schemaTurned", unfollowed := true, recurses := true, loops := true, plainKeys := false, apart := false, narrowed := true }
def SchemaTurnedUptoSaid : Prop := schemaTurnedUptoRow.holds Try.pinned (OpenSpec.upto schemaTurnedSpec)

/-- 'organonlaw07.SchemaPuts', WHERE WHAT IT READS IS OF BULK AT MOST 1048576: true; the input reads as it did. -/
def schemaPutsUptoRow : OpenClaim := { program := "ytmmdhlemkcddmaa", sum := "9187a40523064bf28e56f042fafbb0483b0d2c90ab64120403f9aab809c25789", func := "organon/organonlaw07.SchemaPuts", spec := "schemaPuts", unfollowed := true, recurses := true, loops := true, plainKeys := false, apart := false, narrowed := true }
def SchemaPutsUptoSaid : Prop := schemaPutsUptoRow.holds Try.pinned (OpenSpec.upto schemaPutsSpec)

/-- 'organonlaw06.InternRuns', WHERE WHAT IT READS IS OF BULK AT MOST 1048576: true; the input reads as it did. -/
def internRunsUptoRow : OpenClaim := { program := "ytmmdhlemkcddmaa", sum := "9187a40523064bf28e56f042fafbb0483b0d2c90ab64120403f9aab809c25789", func := "organon/organonlaw06.InternRuns", spec := "internRuns", unfollowed := true, recurses := true, loops := true, plainKeys := false, apart := false, narrowed := true }
def InternRunsUptoSaid : Prop := internRunsUptoRow.holds Try.pinned (OpenSpec.upto internRunsSpec)

/-- 'organonlaw05.SubstSafes', WHERE WHAT IT READS IS OF BULK AT MOST 1048576: true; the input reads as it did. -/
def substSafesUptoRow : OpenClaim := { program := "ytmmdhlemkcddmaa", sum := "9187a40523064bf28e56f042fafbb0483b0d2c90ab64120403f9aab809c25789", func := "organon/organonlaw05.SubstSafes", spec := "substSafes", unfollowed := true, recurses := true, loops := true, plainKeys := false, apart := false, narrowed := true }
def SubstSafesUptoSaid : Prop := substSafesUptoRow.holds Try.pinned (OpenSpec.upto substSafesSpec)

/-- 'organonlaw05.SubstCanons', WHERE WHAT IT READS IS OF BULK AT MOST 1048576: true; the input reads as it did. -/
def substCanonsUptoRow : OpenClaim := { program := "ytmmdhlemkcddmaa", sum := "9187a40523064bf28e56f042fafbb0483b0d2c90ab64120403f9aab809c25789", func := "organon/organonlaw05.SubstCanons", spec := "substCanons", unfollowed := true, recurses := true, loops := true, plainKeys := false, apart := false, narrowed := true }
def SubstCanonsUptoSaid : Prop := substCanonsUptoRow.holds Try.pinned (OpenSpec.upto substCanonsSpec)

/-- 'organonlaw05.SubstNames', WHERE WHAT IT READS IS OF BULK AT MOST 1048576: true; the input reads as it did. -/
def substNamesUptoRow : OpenClaim := { program := "ytmmdhlemkcddmaa", sum := "9187a40523064bf28e56f042fafbb0483b0d2c90ab64120403f9aab809c25789", func := "organon/organonlaw05.SubstNames", spec := "substNames", unfollowed := true, recurses := true, loops := true, plainKeys := false, apart := false, narrowed := true }
def SubstNamesUptoSaid : Prop := substNamesUptoRow.holds Try.pinned (OpenSpec.upto substNamesSpec)

/-- 'organonlaw05.SubstSafely', WHERE WHAT IT READS IS OF BULK AT MOST 1048576: true; the input reads as it did. -/
def substSafelyUptoRow : OpenClaim := { program := "ytmmdhlemkcddmaa", sum := "9187a40523064bf28e56f042fafbb0483b0d2c90ab64120403f9aab809c25789", func := "organon/organonlaw05.SubstSafely", spec := "substSafely", unfollowed := true, recurses := true, loops := true, plainKeys := false, apart := false, narrowed := true }
def SubstSafelyUptoSaid : Prop := substSafelyUptoRow.holds Try.pinned (OpenSpec.upto substSafelySpec)

/-- 'organonlaw05.SubstOwn', WHERE WHAT IT READS IS OF BULK AT MOST 1048576: true; the input reads as it did. -/
def substOwnUptoRow : OpenClaim := { program := "ytmmdhlemkcddmaa", sum := "9187a40523064bf28e56f042fafbb0483b0d2c90ab64120403f9aab809c25789", func := "organon/organonlaw05.SubstOwn", spec := "substOwn", unfollowed := true, recurses := true, loops := true, plainKeys := false, apart := false, narrowed := true }
def SubstOwnUptoSaid : Prop := substOwnUptoRow.holds Try.pinned (OpenSpec.upto substOwnSpec)

end Rows
end Go.Proofs.Ytmmdhlemkcddmaa
