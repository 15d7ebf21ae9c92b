/-
  NARROWER THAN 'FOR EVERY INPUT', by the rows' own cells (each row's printed sentence says how): SubstSafes: loops · SubstCanons: loops · SubstNames: loops · SubstSafely: loops · SubstOwn: loops · UnitRights: loops.
  DERIVED. THE GIVEN ROWS OF THIS SEAT. 7 by the template 'for every input the law returns true; each argument reads behind the call as it read before'; 0 by the template 'total and deterministic' (their statements: YtcjfaajceipenaaTotals.lean).
  GIVEN WITH THE SEED: the statements are not yours to turn. If you find one false, say at which input.
  Laid BY PROGRAM, IN A SANDBOX (cutbox-rows.mjs): the forced cells as the released guide's own fill.sh prints them over the translation fa368fe0ba2fdecb… (all of the seat's roots in one cut). By AI agents, Wed Nov 11 2026. No macro, syntax, notation, axiom, sorry.
-/
import Derived.Test.YtcjfaajceipenaaChecked
import GoSem.Claim
import GoSem.ClaimJoined
import GoSem.ClaimMapViews
import Derived.JoinedTies
import Derived.KernelRfl
namespace Go.Proofs.Ytcjfaajceipenaa
/- THE CELL 'sum', in the pinned program and in every row, IS THE sha256 OF THE DUMP (.gsa) THAT YtcjfaajceipenaaProg.lean LOADS. Nothing in Lean hashes anything: it is a label: what it is worth is what the hold of that sum in a sandbox is worth. -/
noncomputable def Try.pinned : Pinned := { name := "ytcjfaajceipenaa", sum := "fa368fe0ba2fdecb996a49bb8c4e23bfedc16b4e7f1c3fda6dcd5463eb4e75e7", checked := Try.checked }
namespace Rows
def none {H : Type} : Left H := { results := [], args := [] }

/-- 'organonlaw05.SubstSafes': WHATEVER THE INPUT: true; the input reads as it did. -/
def substSafesSpec : ChangeSpec := { name := "substSafes", fn := fun _ => fun
  | [d1, d2, d3] => { results := [.lit (.bool true)], args := [d1, d2, d3] }
  | _ => none }
def substSafesRow : OpenClaim := { program := "ytcjfaajceipenaa", sum := "fa368fe0ba2fdecb996a49bb8c4e23bfedc16b4e7f1c3fda6dcd5463eb4e75e7", func := "organon/organonlaw05.SubstSafes", spec := "substSafes", unfollowed := true, recurses := true, loops := true, plainKeys := false, apart := false }
def SubstSafesSaid : Prop := substSafesRow.holds Try.pinned (OpenSpec.ofChange substSafesSpec)

/-- ITS FALSE NEIGHBOUR: 'it returns false'. Refute it at one input. -/
def substSafesWrong : ChangeSpec := { name := "substSafes", fn := fun _ => fun
  | [d1, d2, d3] => { results := [.lit (.bool false)], args := [d1, d2, d3] }
  | _ => none }
def SubstSafesWrongFalsely : Prop := substSafesRow.holds Try.pinned (OpenSpec.ofChange substSafesWrong)

/-- 'organonlaw05.SubstCanons': WHATEVER THE INPUT: true; the input reads as it did. -/
def substCanonsSpec : ChangeSpec := { name := "substCanons", fn := fun _ => fun
  | [d] => { results := [.lit (.bool true)], args := [d] }
  | _ => none }
def substCanonsRow : OpenClaim := { program := "ytcjfaajceipenaa", sum := "fa368fe0ba2fdecb996a49bb8c4e23bfedc16b4e7f1c3fda6dcd5463eb4e75e7", func := "organon/organonlaw05.SubstCanons", spec := "substCanons", unfollowed := true, recurses := true, loops := true, plainKeys := false, apart := false }
def SubstCanonsSaid : Prop := substCanonsRow.holds Try.pinned (OpenSpec.ofChange substCanonsSpec)

/-- ITS FALSE NEIGHBOUR: 'it returns false'. Refute it at one input. -/
def substCanonsWrong : ChangeSpec := { name := "substCanons", fn := fun _ => fun
  | [d] => { results := [.lit (.bool false)], args := [d] }
  | _ => none }
def SubstCanonsWrongFalsely : Prop := substCanonsRow.holds Try.pinned (OpenSpec.ofChange substCanonsWrong)

/-- 'organonlaw05.SubstNames': WHATEVER THE INPUT: true; the input reads as it did. -/
def substNamesSpec : ChangeSpec := { name := "substNames", fn := fun _ => fun
  | [d1, d2] => { results := [.lit (.bool true)], args := [d1, d2] }
  | _ => none }
def substNamesRow : OpenClaim := { program := "ytcjfaajceipenaa", sum := "fa368fe0ba2fdecb996a49bb8c4e23bfedc16b4e7f1c3fda6dcd5463eb4e75e7", func := "organon/organonlaw05.SubstNames", spec := "substNames", unfollowed := true, recurses := true, loops := true, plainKeys := false, apart := false }
def SubstNamesSaid : Prop := substNamesRow.holds Try.pinned (OpenSpec.ofChange substNamesSpec)

/-- ITS FALSE NEIGHBOUR: 'it returns false'. Refute it at one input. -/
def substNamesWrong : ChangeSpec := { name := "substNames", fn := fun _ => fun
  | [d1, d2] => { results := [.lit (.bool false)], args := [d1, d2] }
  | _ => none }
def SubstNamesWrongFalsely : Prop := substNamesRow.holds Try.pinned (OpenSpec.ofChange substNamesWrong)

/-- 'organonlaw05.SubstSafely': WHATEVER THE INPUT: true; the input reads as it did. -/
def substSafelySpec : ChangeSpec := { name := "substSafely", fn := fun _ => fun
  | [d1, d2, d3] => { results := [.lit (.bool true)], args := [d1, d2, d3] }
  | _ => none }
def substSafelyRow : OpenClaim := { program := "ytcjfaajceipenaa", sum := "fa368fe0ba2fdecb996a49bb8c4e23bfedc16b4e7f1c3fda6dcd5463eb4e75e7", func := "organon/organonlaw05.SubstSafely", spec := "substSafely", unfollowed := true, recurses := true, loops := true, plainKeys := false, apart := false }
def SubstSafelySaid : Prop := substSafelyRow.holds Try.pinned (OpenSpec.ofChange substSafelySpec)

/-- ITS FALSE NEIGHBOUR: 'it returns false'. Refute it at one input. -/
def substSafelyWrong : ChangeSpec := { name := "substSafely", fn := fun _ => fun
  | [d1, d2, d3] => { results := [.lit (.bool false)], args := [d1, d2, d3] }
  | _ => none }
def SubstSafelyWrongFalsely : Prop := substSafelyRow.holds Try.pinned (OpenSpec.ofChange substSafelyWrong)

/-- 'organonlaw05.SubstOwn': WHATEVER THE INPUT: true; the input reads as it did. -/
def substOwnSpec : ChangeSpec := { name := "substOwn", fn := fun _ => fun
  | [d1, d2, d3] => { results := [.lit (.bool true)], args := [d1, d2, d3] }
  | _ => none }
def substOwnRow : OpenClaim := { program := "ytcjfaajceipenaa", sum := "fa368fe0ba2fdecb996a49bb8c4e23bfedc16b4e7f1c3fda6dcd5463eb4e75e7", func := "organon/organonlaw05.SubstOwn", spec := "substOwn", unfollowed := true, recurses := true, loops := true, plainKeys := false, apart := false }
def SubstOwnSaid : Prop := substOwnRow.holds Try.pinned (OpenSpec.ofChange substOwnSpec)

/-- ITS FALSE NEIGHBOUR: 'it returns false'. Refute it at one input. -/
def substOwnWrong : ChangeSpec := { name := "substOwn", fn := fun _ => fun
  | [d1, d2, d3] => { results := [.lit (.bool false)], args := [d1, d2, d3] }
  | _ => none }
def SubstOwnWrongFalsely : Prop := substOwnRow.holds Try.pinned (OpenSpec.ofChange substOwnWrong)

/-- 'organonlaw09.UnitNames': WHATEVER THE INPUT: true; the input reads as it did. -/
def unitNamesSpec : ChangeSpec := { name := "unitNames", fn := fun _ => fun
  | [d] => { results := [.lit (.bool true)], args := [d] }
  | _ => none }
def unitNamesRow : OpenClaim := { program := "ytcjfaajceipenaa", sum := "fa368fe0ba2fdecb996a49bb8c4e23bfedc16b4e7f1c3fda6dcd5463eb4e75e7", func := "organon/organonlaw09.UnitNames", spec := "unitNames", plainKeys := false, apart := false }
def UnitNamesSaid : Prop := unitNamesRow.holds Try.pinned (OpenSpec.ofChange unitNamesSpec)

/-- ITS FALSE NEIGHBOUR: 'it returns false'. Refute it at one input. -/
def unitNamesWrong : ChangeSpec := { name := "unitNames", fn := fun _ => fun
  | [d] => { results := [.lit (.bool false)], args := [d] }
  | _ => none }
def UnitNamesWrongFalsely : Prop := unitNamesRow.holds Try.pinned (OpenSpec.ofChange unitNamesWrong)

/-- 'organonlaw09.UnitRights': WHATEVER THE INPUT: true; the input reads as it did. -/
def unitRightsSpec : ChangeSpec := { name := "unitRights", fn := fun _ => fun
  | [d] => { results := [.lit (.bool true)], args := [d] }
  | _ => none }
def unitRightsRow : OpenClaim := { program := "ytcjfaajceipenaa", sum := "fa368fe0ba2fdecb996a49bb8c4e23bfedc16b4e7f1c3fda6dcd5463eb4e75e7", func := "organon/organonlaw09.UnitRights", spec := "unitRights", unfollowed := true, recurses := true, loops := true, plainKeys := false, apart := false }
def UnitRightsSaid : Prop := unitRightsRow.holds Try.pinned (OpenSpec.ofChange unitRightsSpec)

/-- ITS FALSE NEIGHBOUR: 'it returns false'. Refute it at one input. -/
def unitRightsWrong : ChangeSpec := { name := "unitRights", fn := fun _ => fun
  | [d] => { results := [.lit (.bool false)], args := [d] }
  | _ => none }
def UnitRightsWrongFalsely : Prop := unitRightsRow.holds Try.pinned (OpenSpec.ofChange unitRightsWrong)

/- THE SECOND FORM. 'bulk': how many values and letters a reading holds, each counted each time it is reached (what is shared counts as often as it is met; a slice's spare places count too). A statement '..UptoSaid' is the law's where the arguments, and the package variables that the reading takes, are together of bulk at most 1048576: NARROWER than '..Said'. Prove '..Said' where nothing that the law and all that it calls make is longer than what came in: it says more and counts as full. Else prove '..UptoSaid'. A law counts once. -/
mutual
def uptoBulk {H : Type} : DataW H → Nat
  | .lit (.string bytes) => bytes.length + 1
  | .lit _ => 1
  | .nil => 1
  | .ptr d => uptoBulk d + 1
  | .slice elems spare => uptoBulkAll elems + uptoBulkAll spare + 1
  | .agg parts => uptoBulkAll parts + 1
  | .iface _ d => uptoBulk d + 1
  | .map entries => uptoBulkEntries entries + 1
  | .held _ => 1
def uptoBulkAll {H : Type} : List (DataW H) → Nat
  | [] => 0
  | d :: r => uptoBulk d + uptoBulkAll r
def uptoBulkEntries {H : Type} : List (Lit × DataW H) → Nat
  | [] => 0
  | x :: r => uptoBulkEntry x + uptoBulkEntries r
def uptoBulkEntry {H : Type} : Lit × DataW H → Nat
  | (.string bytes, d) => bytes.length + uptoBulk d + 1
  | (_, d) => uptoBulk d + 1
 end
def uptoSmall : (H : Type) → List (DataW H) → Bool := fun _ ds => decide (uptoBulkAll ds ≤ 1048576)
def OpenSpec.upto (s : _root_.Go.ChangeSpec) : _root_.Go.OpenSpec := { _root_.Go.OpenSpec.ofChange s with cond := some uptoSmall }

/-- 'organonlaw05.SubstSafes', WHERE WHAT IT READS IS OF BULK AT MOST 1048576: true; the input reads as it did. -/
def substSafesUptoRow : OpenClaim := { program := "ytcjfaajceipenaa", sum := "fa368fe0ba2fdecb996a49bb8c4e23bfedc16b4e7f1c3fda6dcd5463eb4e75e7", func := "organon/organonlaw05.SubstSafes", spec := "substSafes", unfollowed := true, recurses := true, loops := true, plainKeys := false, apart := false, narrowed := true }
def SubstSafesUptoSaid : Prop := substSafesUptoRow.holds Try.pinned (OpenSpec.upto substSafesSpec)

/-- 'organonlaw05.SubstCanons', WHERE WHAT IT READS IS OF BULK AT MOST 1048576: true; the input reads as it did. -/
def substCanonsUptoRow : OpenClaim := { program := "ytcjfaajceipenaa", sum := "fa368fe0ba2fdecb996a49bb8c4e23bfedc16b4e7f1c3fda6dcd5463eb4e75e7", func := "organon/organonlaw05.SubstCanons", spec := "substCanons", unfollowed := true, recurses := true, loops := true, plainKeys := false, apart := false, narrowed := true }
def SubstCanonsUptoSaid : Prop := substCanonsUptoRow.holds Try.pinned (OpenSpec.upto substCanonsSpec)

/-- 'organonlaw05.SubstNames', WHERE WHAT IT READS IS OF BULK AT MOST 1048576: true; the input reads as it did. -/
def substNamesUptoRow : OpenClaim := { program := "ytcjfaajceipenaa", sum := "fa368fe0ba2fdecb996a49bb8c4e23bfedc16b4e7f1c3fda6dcd5463eb4e75e7", func := "organon/organonlaw05.SubstNames", spec := "substNames", unfollowed := true, recurses := true, loops := true, plainKeys := false, apart := false, narrowed := true }
def SubstNamesUptoSaid : Prop := substNamesUptoRow.holds Try.pinned (OpenSpec.upto substNamesSpec)

/-- 'organonlaw05.SubstSafely', WHERE WHAT IT READS IS OF BULK AT MOST 1048576: true; the input reads as it did. -/
def substSafelyUptoRow : OpenClaim := { program := "ytcjfaajceipenaa", sum := "fa368fe0ba2fdecb996a49bb8c4e23bfedc16b4e7f1c3fda6dcd5463eb4e75e7", func := "organon/organonlaw05.SubstSafely", spec := "substSafely", unfollowed := true, recurses := true, loops := true, plainKeys := false, apart := false, narrowed := true }
def SubstSafelyUptoSaid : Prop := substSafelyUptoRow.holds Try.pinned (OpenSpec.upto substSafelySpec)

/-- 'organonlaw05.SubstOwn', WHERE WHAT IT READS IS OF BULK AT MOST 1048576: true; the input reads as it did. -/
def substOwnUptoRow : OpenClaim := { program := "ytcjfaajceipenaa", sum := "fa368fe0ba2fdecb996a49bb8c4e23bfedc16b4e7f1c3fda6dcd5463eb4e75e7", func := "organon/organonlaw05.SubstOwn", spec := "substOwn", unfollowed := true, recurses := true, loops := true, plainKeys := false, apart := false, narrowed := true }
def SubstOwnUptoSaid : Prop := substOwnUptoRow.holds Try.pinned (OpenSpec.upto substOwnSpec)

/-- 'organonlaw09.UnitNames', WHERE WHAT IT READS IS OF BULK AT MOST 1048576: true; the input reads as it did. -/
def unitNamesUptoRow : OpenClaim := { program := "ytcjfaajceipenaa", sum := "fa368fe0ba2fdecb996a49bb8c4e23bfedc16b4e7f1c3fda6dcd5463eb4e75e7", func := "organon/organonlaw09.UnitNames", spec := "unitNames", plainKeys := false, apart := false, narrowed := true }
def UnitNamesUptoSaid : Prop := unitNamesUptoRow.holds Try.pinned (OpenSpec.upto unitNamesSpec)

/-- 'organonlaw09.UnitRights', WHERE WHAT IT READS IS OF BULK AT MOST 1048576: true; the input reads as it did. -/
def unitRightsUptoRow : OpenClaim := { program := "ytcjfaajceipenaa", sum := "fa368fe0ba2fdecb996a49bb8c4e23bfedc16b4e7f1c3fda6dcd5463eb4e75e7", func := "organon/organonlaw09.UnitRights", spec := "unitRights", unfollowed := true, recurses := true, loops := true, plainKeys := false, apart := false, narrowed := true }
def UnitRightsUptoSaid : Prop := unitRightsUptoRow.holds Try.pinned (OpenSpec.upto unitRightsSpec)

end Rows
end Go.Proofs.Ytcjfaajceipenaa
