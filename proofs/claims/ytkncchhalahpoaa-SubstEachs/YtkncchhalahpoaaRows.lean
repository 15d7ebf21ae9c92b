/-
  NARROWER THAN 'FOR EVERY INPUT', by the rows' own cells (each row's printed sentence says how): SubstPuts: loops · SubstSafes: loops · SubstEachs: loops · SubstAlphas: loops · SubstCanons: loops · SubstNames: loops · SubstRests: loops · SubstSafely: loops · SubstTurns: loops · SubstLemma: loops · SubstOnce: loops · SubstOwn: loops.
  DERIVED. THE GIVEN ROWS OF THIS SEAT. 12 by the template 'for every input the law returns true; each argument reads behind the call as it read before'; 0 by the template 'total and deterministic' (their statements: YtkncchhalahpoaaTotals.lean).
  GIVEN WITH THE SEED: the statements are not yours to turn. If you find one false, say at which input.
  Laid BY PROGRAM, IN A SANDBOX (cutbox-rows.mjs): the forced cells as the released guide's own fill.sh prints them over the translation 75d2e2a4877a3141… (all of the seat's roots in one cut). By AI agents, Wed Nov 11 2026. No macro, syntax, notation, axiom, sorry.
-/
import Derived.Test.YtkncchhalahpoaaChecked
import GoSem.Claim
import GoSem.ClaimJoined
import GoSem.ClaimMapViews
import Derived.JoinedTies
import Derived.KernelRfl
namespace Go.Proofs.Ytkncchhalahpoaa
/- THE CELL 'sum', in the pinned program and in every row, IS THE sha256 OF THE DUMP (.gsa) THAT YtkncchhalahpoaaProg.lean LOADS. Nothing in Lean hashes anything: it is a label: what it is worth is what the hold of that sum in a sandbox is worth. -/
noncomputable def Try.pinned : Pinned := { name := "ytkncchhalahpoaa", sum := "75d2e2a4877a31411f22881692acb4cc2a8a91ee7b0185412e30e556fd2cf7b9", checked := Try.checked }
namespace Rows
def none {H : Type} : Left H := { results := [], args := [] }

/-- 'organonlaw05.SubstPuts': WHATEVER THE INPUT: true; the input reads as it did. -/
def substPutsSpec : ChangeSpec := { name := "substPuts", fn := fun _ => fun
  | [d1, d2, d3] => { results := [.lit (.bool true)], args := [d1, d2, d3] }
  | _ => none }
def substPutsRow : OpenClaim := { program := "ytkncchhalahpoaa", sum := "75d2e2a4877a31411f22881692acb4cc2a8a91ee7b0185412e30e556fd2cf7b9", func := "organon/organonlaw05.SubstPuts", spec := "substPuts", unfollowed := true, recurses := true, loops := true, plainKeys := false, apart := false }
def SubstPutsSaid : Prop := substPutsRow.holds Try.pinned (OpenSpec.ofChange substPutsSpec)

/-- ITS FALSE NEIGHBOUR: 'it returns false'. Refute it at one input. -/
def substPutsWrong : ChangeSpec := { name := "substPuts", fn := fun _ => fun
  | [d1, d2, d3] => { results := [.lit (.bool false)], args := [d1, d2, d3] }
  | _ => none }
def SubstPutsWrongFalsely : Prop := substPutsRow.holds Try.pinned (OpenSpec.ofChange substPutsWrong)

/-- 'organonlaw05.SubstSafes': WHATEVER THE INPUT: true; the input reads as it did. -/
def substSafesSpec : ChangeSpec := { name := "substSafes", fn := fun _ => fun
  | [d1, d2, d3] => { results := [.lit (.bool true)], args := [d1, d2, d3] }
  | _ => none }
def substSafesRow : OpenClaim := { program := "ytkncchhalahpoaa", sum := "75d2e2a4877a31411f22881692acb4cc2a8a91ee7b0185412e30e556fd2cf7b9", func := "organon/organonlaw05.SubstSafes", spec := "substSafes", unfollowed := true, recurses := true, loops := true, plainKeys := false, apart := false }
def SubstSafesSaid : Prop := substSafesRow.holds Try.pinned (OpenSpec.ofChange substSafesSpec)

/-- ITS FALSE NEIGHBOUR: 'it returns false'. Refute it at one input. -/
def substSafesWrong : ChangeSpec := { name := "substSafes", fn := fun _ => fun
  | [d1, d2, d3] => { results := [.lit (.bool false)], args := [d1, d2, d3] }
  | _ => none }
def SubstSafesWrongFalsely : Prop := substSafesRow.holds Try.pinned (OpenSpec.ofChange substSafesWrong)

/-- 'organonlaw05.SubstEachs': WHATEVER THE INPUT: true; the input reads as it did. -/
def substEachsSpec : ChangeSpec := { name := "substEachs", fn := fun _ => fun
  | [d1, d2] => { results := [.lit (.bool true)], args := [d1, d2] }
  | _ => none }
def substEachsRow : OpenClaim := { program := "ytkncchhalahpoaa", sum := "75d2e2a4877a31411f22881692acb4cc2a8a91ee7b0185412e30e556fd2cf7b9", func := "organon/organonlaw05.SubstEachs", spec := "substEachs", unfollowed := true, recurses := true, loops := true, plainKeys := false, apart := false }
def SubstEachsSaid : Prop := substEachsRow.holds Try.pinned (OpenSpec.ofChange substEachsSpec)

/-- ITS FALSE NEIGHBOUR: 'it returns false'. Refute it at one input. -/
def substEachsWrong : ChangeSpec := { name := "substEachs", fn := fun _ => fun
  | [d1, d2] => { results := [.lit (.bool false)], args := [d1, d2] }
  | _ => none }
def SubstEachsWrongFalsely : Prop := substEachsRow.holds Try.pinned (OpenSpec.ofChange substEachsWrong)

/-- 'organonlaw05.SubstAlphas': WHATEVER THE INPUT: true; the input reads as it did. -/
def substAlphasSpec : ChangeSpec := { name := "substAlphas", fn := fun _ => fun
  | [d1, d2] => { results := [.lit (.bool true)], args := [d1, d2] }
  | _ => none }
def substAlphasRow : OpenClaim := { program := "ytkncchhalahpoaa", sum := "75d2e2a4877a31411f22881692acb4cc2a8a91ee7b0185412e30e556fd2cf7b9", func := "organon/organonlaw05.SubstAlphas", spec := "substAlphas", unfollowed := true, recurses := true, loops := true, plainKeys := false, apart := false }
def SubstAlphasSaid : Prop := substAlphasRow.holds Try.pinned (OpenSpec.ofChange substAlphasSpec)

/-- ITS FALSE NEIGHBOUR: 'it returns false'. Refute it at one input. -/
def substAlphasWrong : ChangeSpec := { name := "substAlphas", fn := fun _ => fun
  | [d1, d2] => { results := [.lit (.bool false)], args := [d1, d2] }
  | _ => none }
def SubstAlphasWrongFalsely : Prop := substAlphasRow.holds Try.pinned (OpenSpec.ofChange substAlphasWrong)

/-- 'organonlaw05.SubstCanons': WHATEVER THE INPUT: true; the input reads as it did. -/
def substCanonsSpec : ChangeSpec := { name := "substCanons", fn := fun _ => fun
  | [d] => { results := [.lit (.bool true)], args := [d] }
  | _ => none }
def substCanonsRow : OpenClaim := { program := "ytkncchhalahpoaa", sum := "75d2e2a4877a31411f22881692acb4cc2a8a91ee7b0185412e30e556fd2cf7b9", func := "organon/organonlaw05.SubstCanons", spec := "substCanons", unfollowed := true, recurses := true, loops := true, plainKeys := false, apart := false }
def SubstCanonsSaid : Prop := substCanonsRow.holds Try.pinned (OpenSpec.ofChange substCanonsSpec)

/-- ITS FALSE NEIGHBOUR: 'it returns false'. Refute it at one input. -/
def substCanonsWrong : ChangeSpec := { name := "substCanons", fn := fun _ => fun
  | [d] => { results := [.lit (.bool false)], args := [d] }
  | _ => none }
def SubstCanonsWrongFalsely : Prop := substCanonsRow.holds Try.pinned (OpenSpec.ofChange substCanonsWrong)

/-- 'organonlaw05.SubstNames': WHATEVER THE INPUT: true; the input reads as it did. -/
def substNamesSpec : ChangeSpec := { name := "substNames", fn := fun _ => fun
  | [d1, d2] => { results := [.lit (.bool true)], args := [d1, d2] }
  | _ => none }
def substNamesRow : OpenClaim := { program := "ytkncchhalahpoaa", sum := "75d2e2a4877a31411f22881692acb4cc2a8a91ee7b0185412e30e556fd2cf7b9", func := "organon/organonlaw05.SubstNames", spec := "substNames", unfollowed := true, recurses := true, loops := true, plainKeys := false, apart := false }
def SubstNamesSaid : Prop := substNamesRow.holds Try.pinned (OpenSpec.ofChange substNamesSpec)

/-- ITS FALSE NEIGHBOUR: 'it returns false'. Refute it at one input. -/
def substNamesWrong : ChangeSpec := { name := "substNames", fn := fun _ => fun
  | [d1, d2] => { results := [.lit (.bool false)], args := [d1, d2] }
  | _ => none }
def SubstNamesWrongFalsely : Prop := substNamesRow.holds Try.pinned (OpenSpec.ofChange substNamesWrong)

/-- 'organonlaw05.SubstRests': WHATEVER THE INPUT: true; the input reads as it did. -/
def substRestsSpec : ChangeSpec := { name := "substRests", fn := fun _ => fun
  | [d1, d2, d3] => { results := [.lit (.bool true)], args := [d1, d2, d3] }
  | _ => none }
def substRestsRow : OpenClaim := { program := "ytkncchhalahpoaa", sum := "75d2e2a4877a31411f22881692acb4cc2a8a91ee7b0185412e30e556fd2cf7b9", func := "organon/organonlaw05.SubstRests", spec := "substRests", unfollowed := true, recurses := true, loops := true, plainKeys := false, apart := false }
def SubstRestsSaid : Prop := substRestsRow.holds Try.pinned (OpenSpec.ofChange substRestsSpec)

/-- ITS FALSE NEIGHBOUR: 'it returns false'. Refute it at one input. -/
def substRestsWrong : ChangeSpec := { name := "substRests", fn := fun _ => fun
  | [d1, d2, d3] => { results := [.lit (.bool false)], args := [d1, d2, d3] }
  | _ => none }
def SubstRestsWrongFalsely : Prop := substRestsRow.holds Try.pinned (OpenSpec.ofChange substRestsWrong)

/-- 'organonlaw05.SubstSafely': WHATEVER THE INPUT: true; the input reads as it did. -/
def substSafelySpec : ChangeSpec := { name := "substSafely", fn := fun _ => fun
  | [d1, d2, d3] => { results := [.lit (.bool true)], args := [d1, d2, d3] }
  | _ => none }
def substSafelyRow : OpenClaim := { program := "ytkncchhalahpoaa", sum := "75d2e2a4877a31411f22881692acb4cc2a8a91ee7b0185412e30e556fd2cf7b9", func := "organon/organonlaw05.SubstSafely", spec := "substSafely", unfollowed := true, recurses := true, loops := true, plainKeys := false, apart := false }
def SubstSafelySaid : Prop := substSafelyRow.holds Try.pinned (OpenSpec.ofChange substSafelySpec)

/-- ITS FALSE NEIGHBOUR: 'it returns false'. Refute it at one input. -/
def substSafelyWrong : ChangeSpec := { name := "substSafely", fn := fun _ => fun
  | [d1, d2, d3] => { results := [.lit (.bool false)], args := [d1, d2, d3] }
  | _ => none }
def SubstSafelyWrongFalsely : Prop := substSafelyRow.holds Try.pinned (OpenSpec.ofChange substSafelyWrong)

/-- 'organonlaw05.SubstTurns': WHATEVER THE INPUT: true; the input reads as it did. -/
def substTurnsSpec : ChangeSpec := { name := "substTurns", fn := fun _ => fun
  | [d1, d2, d3] => { results := [.lit (.bool true)], args := [d1, d2, d3] }
  | _ => none }
def substTurnsRow : OpenClaim := { program := "ytkncchhalahpoaa", sum := "75d2e2a4877a31411f22881692acb4cc2a8a91ee7b0185412e30e556fd2cf7b9", func := "organon/organonlaw05.SubstTurns", spec := "substTurns", unfollowed := true, recurses := true, loops := true, plainKeys := false, apart := false }
def SubstTurnsSaid : Prop := substTurnsRow.holds Try.pinned (OpenSpec.ofChange substTurnsSpec)

/-- ITS FALSE NEIGHBOUR: 'it returns false'. Refute it at one input. -/
def substTurnsWrong : ChangeSpec := { name := "substTurns", fn := fun _ => fun
  | [d1, d2, d3] => { results := [.lit (.bool false)], args := [d1, d2, d3] }
  | _ => none }
def SubstTurnsWrongFalsely : Prop := substTurnsRow.holds Try.pinned (OpenSpec.ofChange substTurnsWrong)

/-- 'organonlaw05.SubstLemma': WHATEVER THE INPUT: true; the input reads as it did. -/
def substLemmaSpec : ChangeSpec := { name := "substLemma", fn := fun _ => fun
  | [d1, d2, d3] => { results := [.lit (.bool true)], args := [d1, d2, d3] }
  | _ => none }
def substLemmaRow : OpenClaim := { program := "ytkncchhalahpoaa", sum := "75d2e2a4877a31411f22881692acb4cc2a8a91ee7b0185412e30e556fd2cf7b9", func := "organon/organonlaw05.SubstLemma", spec := "substLemma", unfollowed := true, recurses := true, loops := true, plainKeys := false, apart := false }
def SubstLemmaSaid : Prop := substLemmaRow.holds Try.pinned (OpenSpec.ofChange substLemmaSpec)

/-- ITS FALSE NEIGHBOUR: 'it returns false'. Refute it at one input. -/
def substLemmaWrong : ChangeSpec := { name := "substLemma", fn := fun _ => fun
  | [d1, d2, d3] => { results := [.lit (.bool false)], args := [d1, d2, d3] }
  | _ => none }
def SubstLemmaWrongFalsely : Prop := substLemmaRow.holds Try.pinned (OpenSpec.ofChange substLemmaWrong)

/-- 'organonlaw05.SubstOnce': WHATEVER THE INPUT: true; the input reads as it did. -/
def substOnceSpec : ChangeSpec := { name := "substOnce", fn := fun _ => fun
  | [d1, d2, d3] => { results := [.lit (.bool true)], args := [d1, d2, d3] }
  | _ => none }
def substOnceRow : OpenClaim := { program := "ytkncchhalahpoaa", sum := "75d2e2a4877a31411f22881692acb4cc2a8a91ee7b0185412e30e556fd2cf7b9", func := "organon/organonlaw05.SubstOnce", spec := "substOnce", unfollowed := true, recurses := true, loops := true, plainKeys := false, apart := false }
def SubstOnceSaid : Prop := substOnceRow.holds Try.pinned (OpenSpec.ofChange substOnceSpec)

/-- ITS FALSE NEIGHBOUR: 'it returns false'. Refute it at one input. -/
def substOnceWrong : ChangeSpec := { name := "substOnce", fn := fun _ => fun
  | [d1, d2, d3] => { results := [.lit (.bool false)], args := [d1, d2, d3] }
  | _ => none }
def SubstOnceWrongFalsely : Prop := substOnceRow.holds Try.pinned (OpenSpec.ofChange substOnceWrong)

/-- 'organonlaw05.SubstOwn': WHATEVER THE INPUT: true; the input reads as it did. -/
def substOwnSpec : ChangeSpec := { name := "substOwn", fn := fun _ => fun
  | [d1, d2, d3] => { results := [.lit (.bool true)], args := [d1, d2, d3] }
  | _ => none }
def substOwnRow : OpenClaim := { program := "ytkncchhalahpoaa", sum := "75d2e2a4877a31411f22881692acb4cc2a8a91ee7b0185412e30e556fd2cf7b9", func := "organon/organonlaw05.SubstOwn", spec := "substOwn", unfollowed := true, recurses := true, loops := true, plainKeys := false, apart := false }
def SubstOwnSaid : Prop := substOwnRow.holds Try.pinned (OpenSpec.ofChange substOwnSpec)

/-- ITS FALSE NEIGHBOUR: 'it returns false'. Refute it at one input. -/
def substOwnWrong : ChangeSpec := { name := "substOwn", fn := fun _ => fun
  | [d1, d2, d3] => { results := [.lit (.bool false)], args := [d1, d2, d3] }
  | _ => none }
def SubstOwnWrongFalsely : Prop := substOwnRow.holds Try.pinned (OpenSpec.ofChange substOwnWrong)

/- THE SECOND FORM. 'bulk': how many values and letters a reading holds, each counted each time it is reached (what is shared counts as often as it is met; a slice's spare places count too). A statement '..UptoSaid' is the law's where the arguments, and the package variables that the reading takes, are together of bulk at most 1048576: NARROWER than '..Said'. Prove '..Said' where nothing that the law and all that it calls make is longer than what came in: it says more and counts as full. Else prove '..UptoSaid'. A law counts once. -/
mutual
def uptoBulk {H : Type} : DataW H → Nat
  | .lit (.string bytes) => bytes.length + 1
  | .lit _ => 1
  | .nil => 1
  | .ptr d => uptoBulk d + 1
  | .slice elems spare => uptoBulkAll elems + uptoBulkAll spare + 1
  | .agg parts => uptoBulkAll parts + 1
  | .iface _ d => uptoBulk d + 1
  | .map entries => uptoBulkEntries entries + 1
  | .held _ => 1
def uptoBulkAll {H : Type} : List (DataW H) → Nat
  | [] => 0
  | d :: r => uptoBulk d + uptoBulkAll r
def uptoBulkEntries {H : Type} : List (Lit × DataW H) → Nat
  | [] => 0
  | x :: r => uptoBulkEntry x + uptoBulkEntries r
def uptoBulkEntry {H : Type} : Lit × DataW H → Nat
  | (.string bytes, d) => bytes.length + uptoBulk d + 1
  | (_, d) => uptoBulk d + 1
 end
def uptoSmall : (H : Type) → List (DataW H) → Bool := fun _ ds => decide (uptoBulkAll ds ≤ 1048576)
def OpenSpec.upto (s : _root_.Go.ChangeSpec) : _root_.Go.OpenSpec := { _root_.Go.OpenSpec.ofChange s with cond := some uptoSmall }

/-- 'organonlaw05.SubstPuts', WHERE WHAT IT READS IS OF BULK AT MOST 1048576: true; the input reads as it did. -/
def substPutsUptoRow : OpenClaim := { program := "ytkncchhalahpoaa", sum := "75d2e2a4877a31411f22881692acb4cc2a8a91ee7b0185412e30e556fd2cf7b9", func := "organon/organonlaw05.SubstPuts", spec := "substPuts", unfollowed := true, recurses := true, loops := true, plainKeys := false, apart := false, narrowed := true }
def SubstPutsUptoSaid : Prop := substPutsUptoRow.holds Try.pinned (OpenSpec.upto substPutsSpec)

/-- 'organonlaw05.SubstSafes', WHERE WHAT IT READS IS OF BULK AT MOST 1048576: true; the input reads as it did. -/
def substSafesUptoRow : OpenClaim := { program := "ytkncchhalahpoaa", sum := "75d2e2a4877a31411f22881692acb4cc2a8a91ee7b0185412e30e556fd2cf7b9", func := "organon/organonlaw05.SubstSafes", spec := "substSafes", unfollowed := true, recurses := true, loops := true, plainKeys := false, apart := false, narrowed := true }
def SubstSafesUptoSaid : Prop := substSafesUptoRow.holds Try.pinned (OpenSpec.upto substSafesSpec)

/-- 'organonlaw05.SubstEachs', WHERE WHAT IT READS IS OF BULK AT MOST 1048576: true; the input reads as it did. -/
def substEachsUptoRow : OpenClaim := { program := "ytkncchhalahpoaa", sum := "75d2e2a4877a31411f22881692acb4cc2a8a91ee7b0185412e30e556fd2cf7b9", func := "organon/organonlaw05.SubstEachs", spec := "substEachs", unfollowed := true, recurses := true, loops := true, plainKeys := false, apart := false, narrowed := true }
def SubstEachsUptoSaid : Prop := substEachsUptoRow.holds Try.pinned (OpenSpec.upto substEachsSpec)

/-- 'organonlaw05.SubstAlphas', WHERE WHAT IT READS IS OF BULK AT MOST 1048576: true; the input reads as it did. -/
def substAlphasUptoRow : OpenClaim := { program := "ytkncchhalahpoaa", sum := "75d2e2a4877a31411f22881692acb4cc2a8a91ee7b0185412e30e556fd2cf7b9", func := "organon/organonlaw05.SubstAlphas", spec := "substAlphas", unfollowed := true, recurses := true, loops := true, plainKeys := false, apart := false, narrowed := true }
def SubstAlphasUptoSaid : Prop := substAlphasUptoRow.holds Try.pinned (OpenSpec.upto substAlphasSpec)

/-- 'organonlaw05.SubstCanons', WHERE WHAT IT READS IS OF BULK AT MOST 1048576: true; the input reads as it did. -/
def substCanonsUptoRow : OpenClaim := { program := "ytkncchhalahpoaa", sum := "75d2e2a4877a31411f22881692acb4cc2a8a91ee7b0185412e30e556fd2cf7b9", func := "organon/organonlaw05.SubstCanons", spec := "substCanons", unfollowed := true, recurses := true, loops := true, plainKeys := false, apart := false, narrowed := true }
def SubstCanonsUptoSaid : Prop := substCanonsUptoRow.holds Try.pinned (OpenSpec.upto substCanonsSpec)

/-- 'organonlaw05.SubstNames', WHERE WHAT IT READS IS OF BULK AT MOST 1048576: true; the input reads as it did. -/
def substNamesUptoRow : OpenClaim := { program := "ytkncchhalahpoaa", sum := "75d2e2a4877a31411f22881692acb4cc2a8a91ee7b0185412e30e556fd2cf7b9", func := "organon/organonlaw05.SubstNames", spec := "substNames", unfollowed := true, recurses := true, loops := true, plainKeys := false, apart := false, narrowed := true }
def SubstNamesUptoSaid : Prop := substNamesUptoRow.holds Try.pinned (OpenSpec.upto substNamesSpec)

/-- 'organonlaw05.SubstRests', WHERE WHAT IT READS IS OF BULK AT MOST 1048576: true; the input reads as it did. -/
def substRestsUptoRow : OpenClaim := { program := "ytkncchhalahpoaa", sum := "75d2e2a4877a31411f22881692acb4cc2a8a91ee7b0185412e30e556fd2cf7b9", func := "organon/organonlaw05.SubstRests", spec := "substRests", unfollowed := true, recurses := true, loops := true, plainKeys := false, apart := false, narrowed := true }
def SubstRestsUptoSaid : Prop := substRestsUptoRow.holds Try.pinned (OpenSpec.upto substRestsSpec)

/-- 'organonlaw05.SubstSafely', WHERE WHAT IT READS IS OF BULK AT MOST 1048576: true; the input reads as it did. -/
def substSafelyUptoRow : OpenClaim := { program := "ytkncchhalahpoaa", sum := "75d2e2a4877a31411f22881692acb4cc2a8a91ee7b0185412e30e556fd2cf7b9", func := "organon/organonlaw05.SubstSafely", spec := "substSafely", unfollowed := true, recurses := true, loops := true, plainKeys := false, apart := false, narrowed := true }
def SubstSafelyUptoSaid : Prop := substSafelyUptoRow.holds Try.pinned (OpenSpec.upto substSafelySpec)

/-- 'organonlaw05.SubstTurns', WHERE WHAT IT READS IS OF BULK AT MOST 1048576: true; the input reads as it did. -/
def substTurnsUptoRow : OpenClaim := { program := "ytkncchhalahpoaa", sum := "75d2e2a4877a31411f22881692acb4cc2a8a91ee7b0185412e30e556fd2cf7b9", func := "organon/organonlaw05.SubstTurns", spec := "substTurns", unfollowed := true, recurses := true, loops := true, plainKeys := false, apart := false, narrowed := true }
def SubstTurnsUptoSaid : Prop := substTurnsUptoRow.holds Try.pinned (OpenSpec.upto substTurnsSpec)

/-- 'organonlaw05.SubstLemma', WHERE WHAT IT READS IS OF BULK AT MOST 1048576: true; the input reads as it did. -/
def substLemmaUptoRow : OpenClaim := { program := "ytkncchhalahpoaa", sum := "75d2e2a4877a31411f22881692acb4cc2a8a91ee7b0185412e30e556fd2cf7b9", func := "organon/organonlaw05.SubstLemma", spec := "substLemma", unfollowed := true, recurses := true, loops := true, plainKeys := false, apart := false, narrowed := true }
def SubstLemmaUptoSaid : Prop := substLemmaUptoRow.holds Try.pinned (OpenSpec.upto substLemmaSpec)

/-- 'organonlaw05.SubstOnce', WHERE WHAT IT READS IS OF BULK AT MOST 1048576: true; the input reads as it did. -/
def substOnceUptoRow : OpenClaim := { program := "ytkncchhalahpoaa", sum := "75d2e2a4877a31411f22881692acb4cc2a8a91ee7b0185412e30e556fd2cf7b9", func := "organon/organonlaw05.SubstOnce", spec := "substOnce", unfollowed := true, recurses := true, loops := true, plainKeys := false, apart := false, narrowed := true }
def SubstOnceUptoSaid : Prop := substOnceUptoRow.holds Try.pinned (OpenSpec.upto substOnceSpec)

/-- 'organonlaw05.SubstOwn', WHERE WHAT IT READS IS OF BULK AT MOST 1048576: true; the input reads as it did. -/
def substOwnUptoRow : OpenClaim := { program := "ytkncchhalahpoaa", sum := "75d2e2a4877a31411f22881692acb4cc2a8a91ee7b0185412e30e556fd2cf7b9", func := "organon/organonlaw05.SubstOwn", spec := "substOwn", unfollowed := true, recurses := true, loops := true, plainKeys := false, apart := false, narrowed := true }
def SubstOwnUptoSaid : Prop := substOwnUptoRow.holds Try.pinned (OpenSpec.upto substOwnSpec)

end Rows
end Go.Proofs.Ytkncchhalahpoaa
