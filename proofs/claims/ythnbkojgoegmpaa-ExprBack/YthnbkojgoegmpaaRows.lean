/-
  NARROWER THAN 'FOR EVERY INPUT', by the rows' own cells (each row's printed sentence says how): ExprRights: loops · ExprSames: loops · ExprOrders: loops · ExprBytes: loops · ExprBack: loops · ExprParts: loops · ExprPuts: loops · ExprOwn: loops.
  DERIVED. THE GIVEN ROWS OF THIS SEAT. 10 by the template 'for every input the law returns true; each argument reads behind the call as it read before'; 0 by the template 'total and deterministic' (their statements: YthnbkojgoegmpaaTotals.lean).
  GIVEN WITH THE SEED: the statements are not yours to turn. If you find one false, say at which input.
  Laid BY PROGRAM, IN A SANDBOX (cutbox-rows.mjs): the forced cells as the released guide's own fill.sh prints them over the translation 27d80a69495f0937… (all of the seat's roots in one cut). By AI agents, Wed Nov 11 2026. No macro, syntax, notation, axiom, sorry.
-/
import Derived.Test.YthnbkojgoegmpaaChecked
import GoSem.Claim
import GoSem.ClaimJoined
import GoSem.ClaimMapViews
import Derived.JoinedTies
import Derived.KernelRfl
namespace Go.Proofs.Ythnbkojgoegmpaa
/- THE CELL 'sum', in the pinned program and in every row, IS THE sha256 OF THE DUMP (.gsa) THAT YthnbkojgoegmpaaProg.lean LOADS. Nothing in Lean hashes anything: it is a label: what it is worth is what the hold of that sum in a sandbox is worth. -/
noncomputable def Try.pinned : Pinned := { name := "ythnbkojgoegmpaa", sum := "27d80a69495f0937985219884d2e292dcd3883d049af0c039e45bea876c5cb00", checked := Try.checked }
namespace Rows
def none {H : Type} : Left H := { results := [], args := [] }

/-- 'organonlaw02.ExprRights': WHATEVER THE INPUT: true; the input reads as it did. -/
def exprRightsSpec : ChangeSpec := { name := "exprRights", fn := fun _ => fun
  | [d] => { results := [.lit (.bool true)], args := [d] }
  | _ => none }
def exprRightsRow : OpenClaim := { program := "ythnbkojgoegmpaa", sum := "27d80a69495f0937985219884d2e292dcd3883d049af0c039e45bea876c5cb00", func := "organon/organonlaw02.ExprRights", spec := "exprRights", unfollowed := true, recurses := true, loops := true, plainKeys := false, apart := false }
def ExprRightsSaid : Prop := exprRightsRow.holds Try.pinned (OpenSpec.ofChange exprRightsSpec)

/-- ITS FALSE NEIGHBOUR: 'it returns false'. Refute it at one input. -/
def exprRightsWrong : ChangeSpec := { name := "exprRights", fn := fun _ => fun
  | [d] => { results := [.lit (.bool false)], args := [d] }
  | _ => none }
def ExprRightsWrongFalsely : Prop := exprRightsRow.holds Try.pinned (OpenSpec.ofChange exprRightsWrong)

/-- 'organonlaw02.ExprSames': WHATEVER THE INPUT: true; the input reads as it did. -/
def exprSamesSpec : ChangeSpec := { name := "exprSames", fn := fun _ => fun
  | [d1, d2] => { results := [.lit (.bool true)], args := [d1, d2] }
  | _ => none }
def exprSamesRow : OpenClaim := { program := "ythnbkojgoegmpaa", sum := "27d80a69495f0937985219884d2e292dcd3883d049af0c039e45bea876c5cb00", func := "organon/organonlaw02.ExprSames", spec := "exprSames", unfollowed := true, recurses := true, loops := true, plainKeys := false, apart := false }
def ExprSamesSaid : Prop := exprSamesRow.holds Try.pinned (OpenSpec.ofChange exprSamesSpec)

/-- ITS FALSE NEIGHBOUR: 'it returns false'. Refute it at one input. -/
def exprSamesWrong : ChangeSpec := { name := "exprSames", fn := fun _ => fun
  | [d1, d2] => { results := [.lit (.bool false)], args := [d1, d2] }
  | _ => none }
def ExprSamesWrongFalsely : Prop := exprSamesRow.holds Try.pinned (OpenSpec.ofChange exprSamesWrong)

/-- 'organonlaw02.ExprOrders': WHATEVER THE INPUT: true; the input reads as it did. -/
def exprOrdersSpec : ChangeSpec := { name := "exprOrders", fn := fun _ => fun
  | [d1, d2, d3] => { results := [.lit (.bool true)], args := [d1, d2, d3] }
  | _ => none }
def exprOrdersRow : OpenClaim := { program := "ythnbkojgoegmpaa", sum := "27d80a69495f0937985219884d2e292dcd3883d049af0c039e45bea876c5cb00", func := "organon/organonlaw02.ExprOrders", spec := "exprOrders", unfollowed := true, recurses := true, loops := true, plainKeys := false, apart := false }
def ExprOrdersSaid : Prop := exprOrdersRow.holds Try.pinned (OpenSpec.ofChange exprOrdersSpec)

/-- ITS FALSE NEIGHBOUR: 'it returns false'. Refute it at one input. -/
def exprOrdersWrong : ChangeSpec := { name := "exprOrders", fn := fun _ => fun
  | [d1, d2, d3] => { results := [.lit (.bool false)], args := [d1, d2, d3] }
  | _ => none }
def ExprOrdersWrongFalsely : Prop := exprOrdersRow.holds Try.pinned (OpenSpec.ofChange exprOrdersWrong)

/-- 'organonlaw02.ExprBytes': WHATEVER THE INPUT: true; the input reads as it did. -/
def exprBytesSpec : ChangeSpec := { name := "exprBytes", fn := fun _ => fun
  | [d] => { results := [.lit (.bool true)], args := [d] }
  | _ => none }
def exprBytesRow : OpenClaim := { program := "ythnbkojgoegmpaa", sum := "27d80a69495f0937985219884d2e292dcd3883d049af0c039e45bea876c5cb00", func := "organon/organonlaw02.ExprBytes", spec := "exprBytes", unfollowed := true, recurses := true, loops := true, plainKeys := false, apart := false }
def ExprBytesSaid : Prop := exprBytesRow.holds Try.pinned (OpenSpec.ofChange exprBytesSpec)

/-- ITS FALSE NEIGHBOUR: 'it returns false'. Refute it at one input. -/
def exprBytesWrong : ChangeSpec := { name := "exprBytes", fn := fun _ => fun
  | [d] => { results := [.lit (.bool false)], args := [d] }
  | _ => none }
def ExprBytesWrongFalsely : Prop := exprBytesRow.holds Try.pinned (OpenSpec.ofChange exprBytesWrong)

/-- 'organonlaw02.ExprDecodes': WHATEVER THE INPUT: true; the input reads as it did. -/
def exprDecodesSpec : ChangeSpec := { name := "exprDecodes", fn := fun _ => fun
  | [d] => { results := [.lit (.bool true)], args := [d] }
  | _ => none }
def exprDecodesRow : OpenClaim := { program := "ythnbkojgoegmpaa", sum := "27d80a69495f0937985219884d2e292dcd3883d049af0c039e45bea876c5cb00", func := "organon/organonlaw02.ExprDecodes", spec := "exprDecodes", unfollowed := true, recurses := true, plainKeys := false, apart := false }
def ExprDecodesSaid : Prop := exprDecodesRow.holds Try.pinned (OpenSpec.ofChange exprDecodesSpec)

/-- ITS FALSE NEIGHBOUR: 'it returns false'. Refute it at one input. -/
def exprDecodesWrong : ChangeSpec := { name := "exprDecodes", fn := fun _ => fun
  | [d] => { results := [.lit (.bool false)], args := [d] }
  | _ => none }
def ExprDecodesWrongFalsely : Prop := exprDecodesRow.holds Try.pinned (OpenSpec.ofChange exprDecodesWrong)

/-- 'organonlaw02.ExprBack': WHATEVER THE INPUT: true; the input reads as it did. -/
def exprBackSpec : ChangeSpec := { name := "exprBack", fn := fun _ => fun
  | [d1, d2] => { results := [.lit (.bool true)], args := [d1, d2] }
  | _ => none }
def exprBackRow : OpenClaim := { program := "ythnbkojgoegmpaa", sum := "27d80a69495f0937985219884d2e292dcd3883d049af0c039e45bea876c5cb00", func := "organon/organonlaw02.ExprBack", spec := "exprBack", unfollowed := true, recurses := true, loops := true, plainKeys := false, apart := false }
def ExprBackSaid : Prop := exprBackRow.holds Try.pinned (OpenSpec.ofChange exprBackSpec)

/-- ITS FALSE NEIGHBOUR: 'it returns false'. Refute it at one input. -/
def exprBackWrong : ChangeSpec := { name := "exprBack", fn := fun _ => fun
  | [d1, d2] => { results := [.lit (.bool false)], args := [d1, d2] }
  | _ => none }
def ExprBackWrongFalsely : Prop := exprBackRow.holds Try.pinned (OpenSpec.ofChange exprBackWrong)

/-- 'organonlaw02.ExprReads': WHATEVER THE INPUT: true; the input reads as it did. -/
def exprReadsSpec : ChangeSpec := { name := "exprReads", fn := fun _ => fun
  | [d] => { results := [.lit (.bool true)], args := [d] }
  | _ => none }
def exprReadsRow : OpenClaim := { program := "ythnbkojgoegmpaa", sum := "27d80a69495f0937985219884d2e292dcd3883d049af0c039e45bea876c5cb00", func := "organon/organonlaw02.ExprReads", spec := "exprReads", unfollowed := true, recurses := true, plainKeys := false, apart := false }
def ExprReadsSaid : Prop := exprReadsRow.holds Try.pinned (OpenSpec.ofChange exprReadsSpec)

/-- ITS FALSE NEIGHBOUR: 'it returns false'. Refute it at one input. -/
def exprReadsWrong : ChangeSpec := { name := "exprReads", fn := fun _ => fun
  | [d] => { results := [.lit (.bool false)], args := [d] }
  | _ => none }
def ExprReadsWrongFalsely : Prop := exprReadsRow.holds Try.pinned (OpenSpec.ofChange exprReadsWrong)

/-- 'organonlaw02.ExprParts': WHATEVER THE INPUT: true; the input reads as it did. -/
def exprPartsSpec : ChangeSpec := { name := "exprParts", fn := fun _ => fun
  | [d1, d2, d3] => { results := [.lit (.bool true)], args := [d1, d2, d3] }
  | _ => none }
def exprPartsRow : OpenClaim := { program := "ythnbkojgoegmpaa", sum := "27d80a69495f0937985219884d2e292dcd3883d049af0c039e45bea876c5cb00", func := "organon/organonlaw02.ExprParts", spec := "exprParts", unfollowed := true, recurses := true, loops := true, plainKeys := false, apart := false }
def ExprPartsSaid : Prop := exprPartsRow.holds Try.pinned (OpenSpec.ofChange exprPartsSpec)

/-- ITS FALSE NEIGHBOUR: 'it returns false'. Refute it at one input. -/
def exprPartsWrong : ChangeSpec := { name := "exprParts", fn := fun _ => fun
  | [d1, d2, d3] => { results := [.lit (.bool false)], args := [d1, d2, d3] }
  | _ => none }
def ExprPartsWrongFalsely : Prop := exprPartsRow.holds Try.pinned (OpenSpec.ofChange exprPartsWrong)

/-- 'organonlaw02.ExprPuts': WHATEVER THE INPUT: true; the input reads as it did. -/
def exprPutsSpec : ChangeSpec := { name := "exprPuts", fn := fun _ => fun
  | [d1, d2, d3, d4] => { results := [.lit (.bool true)], args := [d1, d2, d3, d4] }
  | _ => none }
def exprPutsRow : OpenClaim := { program := "ythnbkojgoegmpaa", sum := "27d80a69495f0937985219884d2e292dcd3883d049af0c039e45bea876c5cb00", func := "organon/organonlaw02.ExprPuts", spec := "exprPuts", unfollowed := true, recurses := true, loops := true, plainKeys := false, apart := false }
def ExprPutsSaid : Prop := exprPutsRow.holds Try.pinned (OpenSpec.ofChange exprPutsSpec)

/-- ITS FALSE NEIGHBOUR: 'it returns false'. Refute it at one input. -/
def exprPutsWrong : ChangeSpec := { name := "exprPuts", fn := fun _ => fun
  | [d1, d2, d3, d4] => { results := [.lit (.bool false)], args := [d1, d2, d3, d4] }
  | _ => none }
def ExprPutsWrongFalsely : Prop := exprPutsRow.holds Try.pinned (OpenSpec.ofChange exprPutsWrong)

/-- 'organonlaw02.ExprOwn': WHATEVER THE INPUT: true; the input reads as it did. -/
def exprOwnSpec : ChangeSpec := { name := "exprOwn", fn := fun _ => fun
  | [d1, d2, d3] => { results := [.lit (.bool true)], args := [d1, d2, d3] }
  | _ => none }
def exprOwnRow : OpenClaim := { program := "ythnbkojgoegmpaa", sum := "27d80a69495f0937985219884d2e292dcd3883d049af0c039e45bea876c5cb00", func := "organon/organonlaw02.ExprOwn", spec := "exprOwn", unfollowed := true, recurses := true, loops := true, plainKeys := false, apart := false }
def ExprOwnSaid : Prop := exprOwnRow.holds Try.pinned (OpenSpec.ofChange exprOwnSpec)

/-- ITS FALSE NEIGHBOUR: 'it returns false'. Refute it at one input. -/
def exprOwnWrong : ChangeSpec := { name := "exprOwn", fn := fun _ => fun
  | [d1, d2, d3] => { results := [.lit (.bool false)], args := [d1, d2, d3] }
  | _ => none }
def ExprOwnWrongFalsely : Prop := exprOwnRow.holds Try.pinned (OpenSpec.ofChange exprOwnWrong)

/- THE SECOND FORM. 'bulk': how many values and letters a reading holds, each counted each time it is reached (what is shared counts as often as it is met; a slice's spare places count too). A statement '..UptoSaid' is the law's where the arguments, and the package variables that the reading takes, are together of bulk at most 1048576: NARROWER than '..Said'. Prove '..Said' where nothing that the law and all that it calls make is longer than what came in: it says more and counts as full. Else prove '..UptoSaid'. A law counts once. -/
mutual
def uptoBulk {H : Type} : DataW H → Nat
  | .lit (.string bytes) => bytes.length + 1
  | .lit _ => 1
  | .nil => 1
  | .ptr d => uptoBulk d + 1
  | .slice elems spare => uptoBulkAll elems + uptoBulkAll spare + 1
  | .agg parts => uptoBulkAll parts + 1
  | .iface _ d => uptoBulk d + 1
  | .map entries => uptoBulkEntries entries + 1
  | .held _ => 1
def uptoBulkAll {H : Type} : List (DataW H) → Nat
  | [] => 0
  | d :: r => uptoBulk d + uptoBulkAll r
def uptoBulkEntries {H : Type} : List (Lit × DataW H) → Nat
  | [] => 0
  | x :: r => uptoBulkEntry x + uptoBulkEntries r
def uptoBulkEntry {H : Type} : Lit × DataW H → Nat
  | (.string bytes, d) => bytes.length + uptoBulk d + 1
  | (_, d) => uptoBulk d + 1
 end
def uptoSmall : (H : Type) → List (DataW H) → Bool := fun _ ds => decide (uptoBulkAll ds ≤ 1048576)
def OpenSpec.upto (s : _root_.Go.ChangeSpec) : _root_.Go.OpenSpec := { _root_.Go.OpenSpec.ofChange s with cond := some uptoSmall }

/-- 'organonlaw02.ExprRights', WHERE WHAT IT READS IS OF BULK AT MOST 1048576: true; the input reads as it did. -/
def exprRightsUptoRow : OpenClaim := { program := "ythnbkojgoegmpaa", sum := "27d80a69495f0937985219884d2e292dcd3883d049af0c039e45bea876c5cb00", func := "organon/organonlaw02.ExprRights", spec := "exprRights", unfollowed := true, recurses := true, loops := true, plainKeys := false, apart := false, narrowed := true }
def ExprRightsUptoSaid : Prop := exprRightsUptoRow.holds Try.pinned (OpenSpec.upto exprRightsSpec)

/-- 'organonlaw02.ExprSames', WHERE WHAT IT READS IS OF BULK AT MOST 1048576: true; the input reads as it did. -/
def exprSamesUptoRow : OpenClaim := { program := "ythnbkojgoegmpaa", sum := "27d80a69495f0937985219884d2e292dcd3883d049af0c039e45bea876c5cb00", func := "organon/organonlaw02.ExprSames", spec := "exprSames", unfollowed := true, recurses := true, loops := true, plainKeys := false, apart := false, narrowed := true }
def ExprSamesUptoSaid : Prop := exprSamesUptoRow.holds Try.pinned (OpenSpec.upto exprSamesSpec)

/-- 'organonlaw02.ExprOrders', WHERE WHAT IT READS IS OF BULK AT MOST 1048576: true; the input reads as it did. -/
def exprOrdersUptoRow : OpenClaim := { program := "ythnbkojgoegmpaa", sum := "27d80a69495f0937985219884d2e292dcd3883d049af0c039e45bea876c5cb00", func := "organon/organonlaw02.ExprOrders", spec := "exprOrders", unfollowed := true, recurses := true, loops := true, plainKeys := false, apart := false, narrowed := true }
def ExprOrdersUptoSaid : Prop := exprOrdersUptoRow.holds Try.pinned (OpenSpec.upto exprOrdersSpec)

/-- 'organonlaw02.ExprBytes', WHERE WHAT IT READS IS OF BULK AT MOST 1048576: true; the input reads as it did. -/
def exprBytesUptoRow : OpenClaim := { program := "ythnbkojgoegmpaa", sum := "27d80a69495f0937985219884d2e292dcd3883d049af0c039e45bea876c5cb00", func := "organon/organonlaw02.ExprBytes", spec := "exprBytes", unfollowed := true, recurses := true, loops := true, plainKeys := false, apart := false, narrowed := true }
def ExprBytesUptoSaid : Prop := exprBytesUptoRow.holds Try.pinned (OpenSpec.upto exprBytesSpec)

/-- 'organonlaw02.ExprDecodes', WHERE WHAT IT READS IS OF BULK AT MOST 1048576: true; the input reads as it did. -/
def exprDecodesUptoRow : OpenClaim := { program := "ythnbkojgoegmpaa", sum := "27d80a69495f0937985219884d2e292dcd3883d049af0c039e45bea876c5cb00", func := "organon/organonlaw02.ExprDecodes", spec := "exprDecodes", unfollowed := true, recurses := true, plainKeys := false, apart := false, narrowed := true }
def ExprDecodesUptoSaid : Prop := exprDecodesUptoRow.holds Try.pinned (OpenSpec.upto exprDecodesSpec)

/-- 'organonlaw02.ExprBack', WHERE WHAT IT READS IS OF BULK AT MOST 1048576: true; the input reads as it did. -/
def exprBackUptoRow : OpenClaim := { program := "ythnbkojgoegmpaa", sum := "27d80a69495f0937985219884d2e292dcd3883d049af0c039e45bea876c5cb00", func := "organon/organonlaw02.ExprBack", spec := "exprBack", unfollowed := true, recurses := true, loops := true, plainKeys := false, apart := false, narrowed := true }
def ExprBackUptoSaid : Prop := exprBackUptoRow.holds Try.pinned (OpenSpec.upto exprBackSpec)

/-- 'organonlaw02.ExprReads', WHERE WHAT IT READS IS OF BULK AT MOST 1048576: true; the input reads as it did. -/
def exprReadsUptoRow : OpenClaim := { program := "ythnbkojgoegmpaa", sum := "27d80a69495f0937985219884d2e292dcd3883d049af0c039e45bea876c5cb00", func := "organon/organonlaw02.ExprReads", spec := "exprReads", unfollowed := true, recurses := true, plainKeys := false, apart := false, narrowed := true }
def ExprReadsUptoSaid : Prop := exprReadsUptoRow.holds Try.pinned (OpenSpec.upto exprReadsSpec)

/-- 'organonlaw02.ExprParts', WHERE WHAT IT READS IS OF BULK AT MOST 1048576: true; the input reads as it did. -/
def exprPartsUptoRow : OpenClaim := { program := "ythnbkojgoegmpaa", sum := "27d80a69495f0937985219884d2e292dcd3883d049af0c039e45bea876c5cb00", func := "organon/organonlaw02.ExprParts", spec := "exprParts", unfollowed := true, recurses := true, loops := true, plainKeys := false, apart := false, narrowed := true }
def ExprPartsUptoSaid : Prop := exprPartsUptoRow.holds Try.pinned (OpenSpec.upto exprPartsSpec)

/-- 'organonlaw02.ExprPuts', WHERE WHAT IT READS IS OF BULK AT MOST 1048576: true; the input reads as it did. -/
def exprPutsUptoRow : OpenClaim := { program := "ythnbkojgoegmpaa", sum := "27d80a69495f0937985219884d2e292dcd3883d049af0c039e45bea876c5cb00", func := "organon/organonlaw02.ExprPuts", spec := "exprPuts", unfollowed := true, recurses := true, loops := true, plainKeys := false, apart := false, narrowed := true }
def ExprPutsUptoSaid : Prop := exprPutsUptoRow.holds Try.pinned (OpenSpec.upto exprPutsSpec)

/-- 'organonlaw02.ExprOwn', WHERE WHAT IT READS IS OF BULK AT MOST 1048576: true; the input reads as it did. -/
def exprOwnUptoRow : OpenClaim := { program := "ythnbkojgoegmpaa", sum := "27d80a69495f0937985219884d2e292dcd3883d049af0c039e45bea876c5cb00", func := "organon/organonlaw02.ExprOwn", spec := "exprOwn", unfollowed := true, recurses := true, loops := true, plainKeys := false, apart := false, narrowed := true }
def ExprOwnUptoSaid : Prop := exprOwnUptoRow.holds Try.pinned (OpenSpec.upto exprOwnSpec)

end Rows
end Go.Proofs.Ythnbkojgoegmpaa
