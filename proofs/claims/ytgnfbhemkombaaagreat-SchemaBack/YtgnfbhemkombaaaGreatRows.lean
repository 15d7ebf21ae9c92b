/-
  NARROWER THAN 'FOR EVERY INPUT', by the rows' own cells (each row's printed sentence says how): SchemaWhich: loops · SchemaBack: loops · SchemaOwn: loops.
  DERIVED. THE GIVEN ROWS OF THIS SEAT. 3 by the template 'for every input the law returns true; each argument reads behind the call as it read before'; 0 by the template 'total and deterministic' (their statements: YtgnfbhemkombaaaGreatTotals.lean).
  GIVEN WITH THE SEED: the statements are not yours to turn. If you find one false, say at which input.
  Laid BY PROGRAM, IN A SANDBOX (cutbox-rows.mjs): the forced cells as the released guide's own fill.sh prints them over the translation a3cfb8d2cc630f38… (all of the seat's roots in one cut). By AI agents, Wed Nov 11 2026. No macro, syntax, notation, axiom, sorry.
-/
import Derived.Test.YtgnfbhemkombaaaGreatChecked
import GoSem.Claim
import GoSem.ClaimJoined
import GoSem.ClaimMapViews
import Derived.JoinedTies
import Derived.KernelRfl
namespace Go.Proofs.YtgnfbhemkombaaaGreat
/- THE CELL 'sum', in the pinned program and in every row, IS THE sha256 OF THE DUMP (.gsa) THAT YtgnfbhemkombaaaGreatProg.lean LOADS. Nothing in Lean hashes anything: it is a label: what it is worth is what the hold of that sum in a sandbox is worth. -/
noncomputable def Tryz.pinned : Pinned := { name := "ytgnfbhemkombaaagreat", sum := "a3cfb8d2cc630f3856342dc60b0742f28de3a59b52c6ea6b1cd50031d13d91d7", checked := Tryz.checked }
namespace Rows
def none {H : Type} : Left H := { results := [], args := [] }

/-- 'organonlaw07.SchemaWhich': WHATEVER THE INPUT: true; the input reads as it did. -/
def schemaWhichSpec : ChangeSpec := { name := "schemaWhich", fn := fun _ => fun
  | [d] => { results := [.lit (.bool true)], args := [d] }
  | _ => none }
def schemaWhichRow : OpenClaim := { program := "ytgnfbhemkombaaagreat", sum := "a3cfb8d2cc630f3856342dc60b0742f28de3a59b52c6ea6b1cd50031d13d91d7", func := "organon/organonlaw07.SchemaWhich", spec := "schemaWhich", unfollowed := true, recurses := true, loops := true, plainKeys := false, apart := false }
def SchemaWhichSaid : Prop := schemaWhichRow.holds Tryz.pinned (OpenSpec.ofChange schemaWhichSpec)

/-- ITS FALSE NEIGHBOUR: 'it returns false'. Refute it at one input. -/
def schemaWhichWrong : ChangeSpec := { name := "schemaWhich", fn := fun _ => fun
  | [d] => { results := [.lit (.bool false)], args := [d] }
  | _ => none }
def SchemaWhichWrongFalsely : Prop := schemaWhichRow.holds Tryz.pinned (OpenSpec.ofChange schemaWhichWrong)

/-- 'organonlaw07.SchemaBack': WHATEVER THE INPUT: true; the input reads as it did. -/
def schemaBackSpec : ChangeSpec := { name := "schemaBack", fn := fun _ => fun
  | [d1, d2] => { results := [.lit (.bool true)], args := [d1, d2] }
  | _ => none }
def schemaBackRow : OpenClaim := { program := "ytgnfbhemkombaaagreat", sum := "a3cfb8d2cc630f3856342dc60b0742f28de3a59b52c6ea6b1cd50031d13d91d7", func := "organon/organonlaw07.SchemaBack", spec := "schemaBack", unfollowed := true, recurses := true, loops := true, plainKeys := false, apart := false }
def SchemaBackSaid : Prop := schemaBackRow.holds Tryz.pinned (OpenSpec.ofChange schemaBackSpec)

/-- ITS FALSE NEIGHBOUR: 'it returns false'. Refute it at one input. -/
def schemaBackWrong : ChangeSpec := { name := "schemaBack", fn := fun _ => fun
  | [d1, d2] => { results := [.lit (.bool false)], args := [d1, d2] }
  | _ => none }
def SchemaBackWrongFalsely : Prop := schemaBackRow.holds Tryz.pinned (OpenSpec.ofChange schemaBackWrong)

/-- 'organonlaw07.SchemaOwn': WHATEVER THE INPUT: true; the input reads as it did. -/
def schemaOwnSpec : ChangeSpec := { name := "schemaOwn", fn := fun _ => fun
  | [d1, d2] => { results := [.lit (.bool true)], args := [d1, d2] }
  | _ => none }
def schemaOwnRow : OpenClaim := { program := "ytgnfbhemkombaaagreat", sum := "a3cfb8d2cc630f3856342dc60b0742f28de3a59b52c6ea6b1cd50031d13d91d7", func := "organon/organonlaw07.SchemaOwn", spec := "schemaOwn", unfollowed := true, recurses := true, loops := true, plainKeys := false, apart := false }
def SchemaOwnSaid : Prop := schemaOwnRow.holds Tryz.pinned (OpenSpec.ofChange schemaOwnSpec)

/-- ITS FALSE NEIGHBOUR: 'it returns false'. Refute it at one input. -/
def schemaOwnWrong : ChangeSpec := { name := "schemaOwn", fn := fun _ => fun
  | [d1, d2] => { results := [.lit (.bool false)], args := [d1, d2] }
  | _ => none }
def SchemaOwnWrongFalsely : Prop := schemaOwnRow.holds Tryz.pinned (OpenSpec.ofChange schemaOwnWrong)

/- THE SECOND FORM. 'bulk': how many values and letters a reading holds, each counted each time it is reached (what is shared counts as often as it is met; a slice's spare places count too). A statement '..UptoSaid' is the law's where the arguments, and the package variables that the reading takes, are together of bulk at most 1048576: NARROWER than '..Said'. Prove '..Said' where nothing that the law and all that it calls make is longer than what came in: it says more and counts as full. Else prove '..UptoSaid'. A law counts once. -/
mutual
def uptoBulk {H : Type} : DataW H → Nat
  | .lit (.string bytes) => bytes.length + 1
  | .lit _ => 1
  | .nil => 1
  | .ptr d => uptoBulk d + 1
  | .slice elems spare => uptoBulkAll elems + uptoBulkAll spare + 1
  | .agg parts => uptoBulkAll parts + 1
  | .iface _ d => uptoBulk d + 1
  | .map entries => uptoBulkEntries entries + 1
  | .held _ => 1
def uptoBulkAll {H : Type} : List (DataW H) → Nat
  | [] => 0
  | d :: r => uptoBulk d + uptoBulkAll r
def uptoBulkEntries {H : Type} : List (Lit × DataW H) → Nat
  | [] => 0
  | x :: r => uptoBulkEntry x + uptoBulkEntries r
def uptoBulkEntry {H : Type} : Lit × DataW H → Nat
  | (.string bytes, d) => bytes.length + uptoBulk d + 1
  | (_, d) => uptoBulk d + 1
 end
def uptoSmall : (H : Type) → List (DataW H) → Bool := fun _ ds => decide (uptoBulkAll ds ≤ 1048576)
def OpenSpec.upto (s : _root_.Go.ChangeSpec) : _root_.Go.OpenSpec := { _root_.Go.OpenSpec.ofChange s with cond := some uptoSmall }

/-- 'organonlaw07.SchemaWhich', WHERE WHAT IT READS IS OF BULK AT MOST 1048576: true; the input reads as it did. -/
def schemaWhichUptoRow : OpenClaim := { program := "ytgnfbhemkombaaagreat", sum := "a3cfb8d2cc630f3856342dc60b0742f28de3a59b52c6ea6b1cd50031d13d91d7", func := "organon/organonlaw07.SchemaWhich", spec := "schemaWhich", unfollowed := true, recurses := true, loops := true, plainKeys := false, apart := false, narrowed := true }
def SchemaWhichUptoSaid : Prop := schemaWhichUptoRow.holds Tryz.pinned (OpenSpec.upto schemaWhichSpec)

/-- 'organonlaw07.SchemaBack', WHERE WHAT IT READS IS OF BULK AT MOST 1048576: true; the input reads as it did. -/
def schemaBackUptoRow : OpenClaim := { program := "ytgnfbhemkombaaagreat", sum := "a3cfb8d2cc630f3856342dc60b0742f28de3a59b52c6ea6b1cd50031d13d91d7", func := "organon/organonlaw07.SchemaBack", spec := "schemaBack", unfollowed := true, recurses := true, loops := true, plainKeys := false, apart := false, narrowed := true }
def SchemaBackUptoSaid : Prop := schemaBackUptoRow.holds Tryz.pinned (OpenSpec.upto schemaBackSpec)

/-- 'organonlaw07.SchemaOwn', WHERE WHAT IT READS IS OF BULK AT MOST 1048576: true; the input reads as it did. -/
def schemaOwnUptoRow : OpenClaim := { program := "ytgnfbhemkombaaagreat", sum := "a3cfb8d2cc630f3856342dc60b0742f28de3a59b52c6ea6b1cd50031d13d91d7", func := "organon/organonlaw07.SchemaOwn", spec := "schemaOwn", unfollowed := true, recurses := true, loops := true, plainKeys := false, apart := false, narrowed := true }
def SchemaOwnUptoSaid : Prop := schemaOwnUptoRow.holds Tryz.pinned (OpenSpec.upto schemaOwnSpec)

end Rows
end Go.Proofs.YtgnfbhemkombaaaGreat
