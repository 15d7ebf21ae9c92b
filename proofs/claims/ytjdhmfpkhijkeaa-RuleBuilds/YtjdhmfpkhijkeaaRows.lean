/-
  NARROWER THAN 'FOR EVERY INPUT', by the rows' own cells (each row's printed sentence says how): SubstSafes: loops · SubstCanons: loops · SubstNames: loops · SubstSafely: loops · SubstOwn: loops · RulePlains: loops · RuleEquals: loops · RuleDetaches: loops · RuleGens: loops · RuleSettles: loops · RuleBuilds: loops.
  DERIVED. THE GIVEN ROWS OF THIS SEAT. 11 by the template 'for every input the law returns true; each argument reads behind the call as it read before'; 0 by the template 'total and deterministic' (their statements: YtjdhmfpkhijkeaaTotals.lean).
  GIVEN WITH THE SEED: the statements are not yours to turn. If you find one false, say at which input.
  Laid BY PROGRAM, IN A SANDBOX (cutbox-rows.mjs): the forced cells as the released guide's own fill.sh prints them over the translation 95d4faceb5daa494… (all of the seat's roots in one cut). By AI agents, Wed Nov 11 2026. No macro, syntax, notation, axiom, sorry.
-/
import Derived.Test.YtjdhmfpkhijkeaaChecked
import GoSem.Claim
import GoSem.ClaimJoined
import GoSem.ClaimMapViews
import Derived.JoinedTies
import Derived.KernelRfl
namespace Go.Proofs.Ytjdhmfpkhijkeaa
/- THE CELL 'sum', in the pinned program and in every row, IS THE sha256 OF THE DUMP (.gsa) THAT YtjdhmfpkhijkeaaProg.lean LOADS. Nothing in Lean hashes anything: it is a label: what it is worth is what the hold of that sum in a sandbox is worth. -/
noncomputable def Try.pinned : Pinned := { name := "ytjdhmfpkhijkeaa", sum := "95d4faceb5daa4940d54ad936661b038b3d64d0648f9714ecc17920f248ff1a7", checked := Try.checked }
namespace Rows
def none {H : Type} : Left H := { results := [], args := [] }

/-- 'organonlaw05.SubstSafes': WHATEVER THE INPUT: true; the input reads as it did. -/
def substSafesSpec : ChangeSpec := { name := "substSafes", fn := fun _ => fun
  | [d1, d2, d3] => { results := [.lit (.bool true)], args := [d1, d2, d3] }
  | _ => none }
def substSafesRow : OpenClaim := { program := "ytjdhmfpkhijkeaa", sum := "95d4faceb5daa4940d54ad936661b038b3d64d0648f9714ecc17920f248ff1a7", func := "organon/organonlaw05.SubstSafes", spec := "substSafes", unfollowed := true, recurses := true, loops := true, plainKeys := false, apart := false }
def SubstSafesSaid : Prop := substSafesRow.holds Try.pinned (OpenSpec.ofChange substSafesSpec)

/-- ITS FALSE NEIGHBOUR: 'it returns false'. Refute it at one input. -/
def substSafesWrong : ChangeSpec := { name := "substSafes", fn := fun _ => fun
  | [d1, d2, d3] => { results := [.lit (.bool false)], args := [d1, d2, d3] }
  | _ => none }
def SubstSafesWrongFalsely : Prop := substSafesRow.holds Try.pinned (OpenSpec.ofChange substSafesWrong)

/-- 'organonlaw05.SubstCanons': WHATEVER THE INPUT: true; the input reads as it did. -/
def substCanonsSpec : ChangeSpec := { name := "substCanons", fn := fun _ => fun
  | [d] => { results := [.lit (.bool true)], args := [d] }
  | _ => none }
def substCanonsRow : OpenClaim := { program := "ytjdhmfpkhijkeaa", sum := "95d4faceb5daa4940d54ad936661b038b3d64d0648f9714ecc17920f248ff1a7", func := "organon/organonlaw05.SubstCanons", spec := "substCanons", unfollowed := true, recurses := true, loops := true, plainKeys := false, apart := false }
def SubstCanonsSaid : Prop := substCanonsRow.holds Try.pinned (OpenSpec.ofChange substCanonsSpec)

/-- ITS FALSE NEIGHBOUR: 'it returns false'. Refute it at one input. -/
def substCanonsWrong : ChangeSpec := { name := "substCanons", fn := fun _ => fun
  | [d] => { results := [.lit (.bool false)], args := [d] }
  | _ => none }
def SubstCanonsWrongFalsely : Prop := substCanonsRow.holds Try.pinned (OpenSpec.ofChange substCanonsWrong)

/-- 'organonlaw05.SubstNames': WHATEVER THE INPUT: true; the input reads as it did. -/
def substNamesSpec : ChangeSpec := { name := "substNames", fn := fun _ => fun
  | [d1, d2] => { results := [.lit (.bool true)], args := [d1, d2] }
  | _ => none }
def substNamesRow : OpenClaim := { program := "ytjdhmfpkhijkeaa", sum := "95d4faceb5daa4940d54ad936661b038b3d64d0648f9714ecc17920f248ff1a7", func := "organon/organonlaw05.SubstNames", spec := "substNames", unfollowed := true, recurses := true, loops := true, plainKeys := false, apart := false }
def SubstNamesSaid : Prop := substNamesRow.holds Try.pinned (OpenSpec.ofChange substNamesSpec)

/-- ITS FALSE NEIGHBOUR: 'it returns false'. Refute it at one input. -/
def substNamesWrong : ChangeSpec := { name := "substNames", fn := fun _ => fun
  | [d1, d2] => { results := [.lit (.bool false)], args := [d1, d2] }
  | _ => none }
def SubstNamesWrongFalsely : Prop := substNamesRow.holds Try.pinned (OpenSpec.ofChange substNamesWrong)

/-- 'organonlaw05.SubstSafely': WHATEVER THE INPUT: true; the input reads as it did. -/
def substSafelySpec : ChangeSpec := { name := "substSafely", fn := fun _ => fun
  | [d1, d2, d3] => { results := [.lit (.bool true)], args := [d1, d2, d3] }
  | _ => none }
def substSafelyRow : OpenClaim := { program := "ytjdhmfpkhijkeaa", sum := "95d4faceb5daa4940d54ad936661b038b3d64d0648f9714ecc17920f248ff1a7", func := "organon/organonlaw05.SubstSafely", spec := "substSafely", unfollowed := true, recurses := true, loops := true, plainKeys := false, apart := false }
def SubstSafelySaid : Prop := substSafelyRow.holds Try.pinned (OpenSpec.ofChange substSafelySpec)

/-- ITS FALSE NEIGHBOUR: 'it returns false'. Refute it at one input. -/
def substSafelyWrong : ChangeSpec := { name := "substSafely", fn := fun _ => fun
  | [d1, d2, d3] => { results := [.lit (.bool false)], args := [d1, d2, d3] }
  | _ => none }
def SubstSafelyWrongFalsely : Prop := substSafelyRow.holds Try.pinned (OpenSpec.ofChange substSafelyWrong)

/-- 'organonlaw05.SubstOwn': WHATEVER THE INPUT: true; the input reads as it did. -/
def substOwnSpec : ChangeSpec := { name := "substOwn", fn := fun _ => fun
  | [d1, d2, d3] => { results := [.lit (.bool true)], args := [d1, d2, d3] }
  | _ => none }
def substOwnRow : OpenClaim := { program := "ytjdhmfpkhijkeaa", sum := "95d4faceb5daa4940d54ad936661b038b3d64d0648f9714ecc17920f248ff1a7", func := "organon/organonlaw05.SubstOwn", spec := "substOwn", unfollowed := true, recurses := true, loops := true, plainKeys := false, apart := false }
def SubstOwnSaid : Prop := substOwnRow.holds Try.pinned (OpenSpec.ofChange substOwnSpec)

/-- ITS FALSE NEIGHBOUR: 'it returns false'. Refute it at one input. -/
def substOwnWrong : ChangeSpec := { name := "substOwn", fn := fun _ => fun
  | [d1, d2, d3] => { results := [.lit (.bool false)], args := [d1, d2, d3] }
  | _ => none }
def SubstOwnWrongFalsely : Prop := substOwnRow.holds Try.pinned (OpenSpec.ofChange substOwnWrong)

/-- 'organonlaw08.RulePlains': WHATEVER THE INPUT: true; the input reads as it did. -/
def rulePlainsSpec : ChangeSpec := { name := "rulePlains", fn := fun _ => fun
  | [d] => { results := [.lit (.bool true)], args := [d] }
  | _ => none }
def rulePlainsRow : OpenClaim := { program := "ytjdhmfpkhijkeaa", sum := "95d4faceb5daa4940d54ad936661b038b3d64d0648f9714ecc17920f248ff1a7", func := "organon/organonlaw08.RulePlains", spec := "rulePlains", unfollowed := true, recurses := true, loops := true, plainKeys := false, apart := false }
def RulePlainsSaid : Prop := rulePlainsRow.holds Try.pinned (OpenSpec.ofChange rulePlainsSpec)

/-- ITS FALSE NEIGHBOUR: 'it returns false'. Refute it at one input. -/
def rulePlainsWrong : ChangeSpec := { name := "rulePlains", fn := fun _ => fun
  | [d] => { results := [.lit (.bool false)], args := [d] }
  | _ => none }
def RulePlainsWrongFalsely : Prop := rulePlainsRow.holds Try.pinned (OpenSpec.ofChange rulePlainsWrong)

/-- 'organonlaw08.RuleEquals': WHATEVER THE INPUT: true; the input reads as it did. -/
def ruleEqualsSpec : ChangeSpec := { name := "ruleEquals", fn := fun _ => fun
  | [d1, d2] => { results := [.lit (.bool true)], args := [d1, d2] }
  | _ => none }
def ruleEqualsRow : OpenClaim := { program := "ytjdhmfpkhijkeaa", sum := "95d4faceb5daa4940d54ad936661b038b3d64d0648f9714ecc17920f248ff1a7", func := "organon/organonlaw08.RuleEquals", spec := "ruleEquals", unfollowed := true, recurses := true, loops := true, plainKeys := false, apart := false }
def RuleEqualsSaid : Prop := ruleEqualsRow.holds Try.pinned (OpenSpec.ofChange ruleEqualsSpec)

/-- ITS FALSE NEIGHBOUR: 'it returns false'. Refute it at one input. -/
def ruleEqualsWrong : ChangeSpec := { name := "ruleEquals", fn := fun _ => fun
  | [d1, d2] => { results := [.lit (.bool false)], args := [d1, d2] }
  | _ => none }
def RuleEqualsWrongFalsely : Prop := ruleEqualsRow.holds Try.pinned (OpenSpec.ofChange ruleEqualsWrong)

/-- 'organonlaw08.RuleDetaches': WHATEVER THE INPUT: true; the input reads as it did. -/
def ruleDetachesSpec : ChangeSpec := { name := "ruleDetaches", fn := fun _ => fun
  | [d1, d2] => { results := [.lit (.bool true)], args := [d1, d2] }
  | _ => none }
def ruleDetachesRow : OpenClaim := { program := "ytjdhmfpkhijkeaa", sum := "95d4faceb5daa4940d54ad936661b038b3d64d0648f9714ecc17920f248ff1a7", func := "organon/organonlaw08.RuleDetaches", spec := "ruleDetaches", unfollowed := true, recurses := true, loops := true, plainKeys := false, apart := false }
def RuleDetachesSaid : Prop := ruleDetachesRow.holds Try.pinned (OpenSpec.ofChange ruleDetachesSpec)

/-- ITS FALSE NEIGHBOUR: 'it returns false'. Refute it at one input. -/
def ruleDetachesWrong : ChangeSpec := { name := "ruleDetaches", fn := fun _ => fun
  | [d1, d2] => { results := [.lit (.bool false)], args := [d1, d2] }
  | _ => none }
def RuleDetachesWrongFalsely : Prop := ruleDetachesRow.holds Try.pinned (OpenSpec.ofChange ruleDetachesWrong)

/-- 'organonlaw08.RuleGens': WHATEVER THE INPUT: true; the input reads as it did. -/
def ruleGensSpec : ChangeSpec := { name := "ruleGens", fn := fun _ => fun
  | [d1, d2] => { results := [.lit (.bool true)], args := [d1, d2] }
  | _ => none }
def ruleGensRow : OpenClaim := { program := "ytjdhmfpkhijkeaa", sum := "95d4faceb5daa4940d54ad936661b038b3d64d0648f9714ecc17920f248ff1a7", func := "organon/organonlaw08.RuleGens", spec := "ruleGens", unfollowed := true, recurses := true, loops := true, plainKeys := false, apart := false }
def RuleGensSaid : Prop := ruleGensRow.holds Try.pinned (OpenSpec.ofChange ruleGensSpec)

/-- ITS FALSE NEIGHBOUR: 'it returns false'. Refute it at one input. -/
def ruleGensWrong : ChangeSpec := { name := "ruleGens", fn := fun _ => fun
  | [d1, d2] => { results := [.lit (.bool false)], args := [d1, d2] }
  | _ => none }
def RuleGensWrongFalsely : Prop := ruleGensRow.holds Try.pinned (OpenSpec.ofChange ruleGensWrong)

/-- 'organonlaw08.RuleSettles': WHATEVER THE INPUT: true; the input reads as it did. -/
def ruleSettlesSpec : ChangeSpec := { name := "ruleSettles", fn := fun _ => fun
  | [d] => { results := [.lit (.bool true)], args := [d] }
  | _ => none }
def ruleSettlesRow : OpenClaim := { program := "ytjdhmfpkhijkeaa", sum := "95d4faceb5daa4940d54ad936661b038b3d64d0648f9714ecc17920f248ff1a7", func := "organon/organonlaw08.RuleSettles", spec := "ruleSettles", unfollowed := true, recurses := true, loops := true, plainKeys := false, apart := false }
def RuleSettlesSaid : Prop := ruleSettlesRow.holds Try.pinned (OpenSpec.ofChange ruleSettlesSpec)

/-- ITS FALSE NEIGHBOUR: 'it returns false'. Refute it at one input. -/
def ruleSettlesWrong : ChangeSpec := { name := "ruleSettles", fn := fun _ => fun
  | [d] => { results := [.lit (.bool false)], args := [d] }
  | _ => none }
def RuleSettlesWrongFalsely : Prop := ruleSettlesRow.holds Try.pinned (OpenSpec.ofChange ruleSettlesWrong)

/-- 'organonlaw08.RuleBuilds': WHATEVER THE INPUT: true; the input reads as it did. -/
def ruleBuildsSpec : ChangeSpec := { name := "ruleBuilds", fn := fun _ => fun
  | [d1, d2, d3] => { results := [.lit (.bool true)], args := [d1, d2, d3] }
  | _ => none }
def ruleBuildsRow : OpenClaim := { program := "ytjdhmfpkhijkeaa", sum := "95d4faceb5daa4940d54ad936661b038b3d64d0648f9714ecc17920f248ff1a7", func := "organon/organonlaw08.RuleBuilds", spec := "ruleBuilds", unfollowed := true, recurses := true, loops := true, plainKeys := false, apart := false }
def RuleBuildsSaid : Prop := ruleBuildsRow.holds Try.pinned (OpenSpec.ofChange ruleBuildsSpec)

/-- ITS FALSE NEIGHBOUR: 'it returns false'. Refute it at one input. -/
def ruleBuildsWrong : ChangeSpec := { name := "ruleBuilds", fn := fun _ => fun
  | [d1, d2, d3] => { results := [.lit (.bool false)], args := [d1, d2, d3] }
  | _ => none }
def RuleBuildsWrongFalsely : Prop := ruleBuildsRow.holds Try.pinned (OpenSpec.ofChange ruleBuildsWrong)

/- THE SECOND FORM. 'bulk': how many values and letters a reading holds, each counted each time it is reached (what is shared counts as often as it is met; a slice's spare places count too). A statement '..UptoSaid' is the law's where the arguments, and the package variables that the reading takes, are together of bulk at most 1048576: NARROWER than '..Said'. Prove '..Said' where nothing that the law and all that it calls make is longer than what came in: it says more and counts as full. Else prove '..UptoSaid'. A law counts once. -/
mutual
def uptoBulk {H : Type} : DataW H → Nat
  | .lit (.string bytes) => bytes.length + 1
  | .lit _ => 1
  | .nil => 1
  | .ptr d => uptoBulk d + 1
  | .slice elems spare => uptoBulkAll elems + uptoBulkAll spare + 1
  | .agg parts => uptoBulkAll parts + 1
  | .iface _ d => uptoBulk d + 1
  | .map entries => uptoBulkEntries entries + 1
  | .held _ => 1
def uptoBulkAll {H : Type} : List (DataW H) → Nat
  | [] => 0
  | d :: r => uptoBulk d + uptoBulkAll r
def uptoBulkEntries {H : Type} : List (Lit × DataW H) → Nat
  | [] => 0
  | x :: r => uptoBulkEntry x + uptoBulkEntries r
def uptoBulkEntry {H : Type} : Lit × DataW H → Nat
  | (.string bytes, d) => bytes.length + uptoBulk d + 1
  | (_, d) => uptoBulk d + 1
 end
def uptoSmall : (H : Type) → List (DataW H) → Bool := fun _ ds => decide (uptoBulkAll ds ≤ 1048576)
def OpenSpec.upto (s : _root_.Go.ChangeSpec) : _root_.Go.OpenSpec := { _root_.Go.OpenSpec.ofChange s with cond := some uptoSmall }

/-- 'organonlaw05.SubstSafes', WHERE WHAT IT READS IS OF BULK AT MOST 1048576: true; the input reads as it did. -/
def substSafesUptoRow : OpenClaim := { program := "ytjdhmfpkhijkeaa", sum := "95d4faceb5daa4940d54ad936661b038b3d64d0648f9714ecc17920f248ff1a7", func := "organon/organonlaw05.SubstSafes", spec := "substSafes", unfollowed := true, recurses := true, loops := true, plainKeys := false, apart := false, narrowed := true }
def SubstSafesUptoSaid : Prop := substSafesUptoRow.holds Try.pinned (OpenSpec.upto substSafesSpec)

/-- 'organonlaw05.SubstCanons', WHERE WHAT IT READS IS OF BULK AT MOST 1048576: true; the input reads as it did. -/
def substCanonsUptoRow : OpenClaim := { program := "ytjdhmfpkhijkeaa", sum := "95d4faceb5daa4940d54ad936661b038b3d64d0648f9714ecc17920f248ff1a7", func := "organon/organonlaw05.SubstCanons", spec := "substCanons", unfollowed := true, recurses := true, loops := true, plainKeys := false, apart := false, narrowed := true }
def SubstCanonsUptoSaid : Prop := substCanonsUptoRow.holds Try.pinned (OpenSpec.upto substCanonsSpec)

/-- 'organonlaw05.SubstNames', WHERE WHAT IT READS IS OF BULK AT MOST 1048576: true; the input reads as it did. -/
def substNamesUptoRow : OpenClaim := { program := "ytjdhmfpkhijkeaa", sum := "95d4faceb5daa4940d54ad936661b038b3d64d0648f9714ecc17920f248ff1a7", func := "organon/organonlaw05.SubstNames", spec := "substNames", unfollowed := true, recurses := true, loops := true, plainKeys := false, apart := false, narrowed := true }
def SubstNamesUptoSaid : Prop := substNamesUptoRow.holds Try.pinned (OpenSpec.upto substNamesSpec)

/-- 'organonlaw05.SubstSafely', WHERE WHAT IT READS IS OF BULK AT MOST 1048576: true; the input reads as it did. -/
def substSafelyUptoRow : OpenClaim := { program := "ytjdhmfpkhijkeaa", sum := "95d4faceb5daa4940d54ad936661b038b3d64d0648f9714ecc17920f248ff1a7", func := "organon/organonlaw05.SubstSafely", spec := "substSafely", unfollowed := true, recurses := true, loops := true, plainKeys := false, apart := false, narrowed := true }
def SubstSafelyUptoSaid : Prop := substSafelyUptoRow.holds Try.pinned (OpenSpec.upto substSafelySpec)

/-- 'organonlaw05.SubstOwn', WHERE WHAT IT READS IS OF BULK AT MOST 1048576: true; the input reads as it did. -/
def substOwnUptoRow : OpenClaim := { program := "ytjdhmfpkhijkeaa", sum := "95d4faceb5daa4940d54ad936661b038b3d64d0648f9714ecc17920f248ff1a7", func := "organon/organonlaw05.SubstOwn", spec := "substOwn", unfollowed := true, recurses := true, loops := true, plainKeys := false, apart := false, narrowed := true }
def SubstOwnUptoSaid : Prop := substOwnUptoRow.holds Try.pinned (OpenSpec.upto substOwnSpec)

/-- 'organonlaw08.RulePlains', WHERE WHAT IT READS IS OF BULK AT MOST 1048576: true; the input reads as it did. -/
def rulePlainsUptoRow : OpenClaim := { program := "ytjdhmfpkhijkeaa", sum := "95d4faceb5daa4940d54ad936661b038b3d64d0648f9714ecc17920f248ff1a7", func := "organon/organonlaw08.RulePlains", spec := "rulePlains", unfollowed := true, recurses := true, loops := true, plainKeys := false, apart := false, narrowed := true }
def RulePlainsUptoSaid : Prop := rulePlainsUptoRow.holds Try.pinned (OpenSpec.upto rulePlainsSpec)

/-- 'organonlaw08.RuleEquals', WHERE WHAT IT READS IS OF BULK AT MOST 1048576: true; the input reads as it did. -/
def ruleEqualsUptoRow : OpenClaim := { program := "ytjdhmfpkhijkeaa", sum := "95d4faceb5daa4940d54ad936661b038b3d64d0648f9714ecc17920f248ff1a7", func := "organon/organonlaw08.RuleEquals", spec := "ruleEquals", unfollowed := true, recurses := true, loops := true, plainKeys := false, apart := false, narrowed := true }
def RuleEqualsUptoSaid : Prop := ruleEqualsUptoRow.holds Try.pinned (OpenSpec.upto ruleEqualsSpec)

/-- 'organonlaw08.RuleDetaches', WHERE WHAT IT READS IS OF BULK AT MOST 1048576: true; the input reads as it did. -/
def ruleDetachesUptoRow : OpenClaim := { program := "ytjdhmfpkhijkeaa", sum := "95d4faceb5daa4940d54ad936661b038b3d64d0648f9714ecc17920f248ff1a7", func := "organon/organonlaw08.RuleDetaches", spec := "ruleDetaches", unfollowed := true, recurses := true, loops := true, plainKeys := false, apart := false, narrowed := true }
def RuleDetachesUptoSaid : Prop := ruleDetachesUptoRow.holds Try.pinned (OpenSpec.upto ruleDetachesSpec)

/-- 'organonlaw08.RuleGens', WHERE WHAT IT READS IS OF BULK AT MOST 1048576: true; the input reads as it did. -/
def ruleGensUptoRow : OpenClaim := { program := "ytjdhmfpkhijkeaa", sum := "95d4faceb5daa4940d54ad936661b038b3d64d0648f9714ecc17920f248ff1a7", func := "organon/organonlaw08.RuleGens", spec := "ruleGens", unfollowed := true, recurses := true, loops := true, plainKeys := false, apart := false, narrowed := true }
def RuleGensUptoSaid : Prop := ruleGensUptoRow.holds Try.pinned (OpenSpec.upto ruleGensSpec)

/-- 'organonlaw08.RuleSettles', WHERE WHAT IT READS IS OF BULK AT MOST 1048576: true; the input reads as it did. -/
def ruleSettlesUptoRow : OpenClaim := { program := "ytjdhmfpkhijkeaa", sum := "95d4faceb5daa4940d54ad936661b038b3d64d0648f9714ecc17920f248ff1a7", func := "organon/organonlaw08.RuleSettles", spec := "ruleSettles", unfollowed := true, recurses := true, loops := true, plainKeys := false, apart := false, narrowed := true }
def RuleSettlesUptoSaid : Prop := ruleSettlesUptoRow.holds Try.pinned (OpenSpec.upto ruleSettlesSpec)

/-- 'organonlaw08.RuleBuilds', WHERE WHAT IT READS IS OF BULK AT MOST 1048576: true; the input reads as it did. -/
def ruleBuildsUptoRow : OpenClaim := { program := "ytjdhmfpkhijkeaa", sum := "95d4faceb5daa4940d54ad936661b038b3d64d0648f9714ecc17920f248ff1a7", func := "organon/organonlaw08.RuleBuilds", spec := "ruleBuilds", unfollowed := true, recurses := true, loops := true, plainKeys := false, apart := false, narrowed := true }
def RuleBuildsUptoSaid : Prop := ruleBuildsUptoRow.holds Try.pinned (OpenSpec.upto ruleBuildsSpec)

end Rows
end Go.Proofs.Ytjdhmfpkhijkeaa
