/-
  NARROWER THAN 'FOR EVERY INPUT', by the rows' own cells (each row's printed sentence says how): FreeSets: loops · FreeAsks: loops · FreeCatches: loops · FreeCloses: loops · FreeClosed: loops · FreeBuilds: loops · FreeSafe: loops.
  DERIVED. THE GIVEN ROWS OF THIS SEAT. 10 by the template 'for every input the law returns true; each argument reads behind the call as it read before'; 0 by the template 'total and deterministic' (their statements: YtfleomamhkeiiaaTotals.lean).
  GIVEN WITH THE SEED: the statements are not yours to turn. If you find one false, say at which input.
  Laid BY PROGRAM, IN A SANDBOX (cutbox-rows.mjs): the forced cells as the released guide's own fill.sh prints them over the translation 2eb14ce837bfa432… (all of the seat's roots in one cut). By AI agents, Wed Nov 11 2026. No macro, syntax, notation, axiom, sorry.
-/
import Derived.Test.YtfleomamhkeiiaaChecked
import GoSem.Claim
import GoSem.ClaimJoined
import GoSem.ClaimMapViews
import Derived.JoinedTies
import Derived.KernelRfl
namespace Go.Proofs.Ytfleomamhkeiiaa
/- THE CELL 'sum', in the pinned program and in every row, IS THE sha256 OF THE DUMP (.gsa) THAT YtfleomamhkeiiaaProg.lean LOADS. Nothing in Lean hashes anything: it is a label: what it is worth is what the hold of that sum in a sandbox is worth. -/
noncomputable def Try.pinned : Pinned := { name := "ytfleomamhkeiiaa", sum := "2eb14ce837bfa432852ac450a94563d97629dcd4376c0159e9ad1df3c61de8ca", checked := Try.checked }
namespace Rows
def none {H : Type} : Left H := { results := [], args := [] }

/-- 'organonlaw03.ParseFormulas': WHATEVER THE INPUT: true; the input reads as it did. -/
def parseFormulasSpec : ChangeSpec := { name := "parseFormulas", fn := fun _ => fun
  | [d] => { results := [.lit (.bool true)], args := [d] }
  | _ => none }
def parseFormulasRow : OpenClaim := { program := "ytfleomamhkeiiaa", sum := "2eb14ce837bfa432852ac450a94563d97629dcd4376c0159e9ad1df3c61de8ca", func := "organon/organonlaw03.ParseFormulas", spec := "parseFormulas", inPlace := ["internal/bytealg.IndexByteString", "internal/bytealg.IndexString"], unfollowed := true, recurses := true, named := ["internal/bytealg.MaxLen"], plainKeys := false, apart := false }
def ParseFormulasSaid : Prop := parseFormulasRow.holds Try.pinned (OpenSpec.ofChange parseFormulasSpec)

/-- ITS FALSE NEIGHBOUR: 'it returns false'. Refute it at one input. -/
def parseFormulasWrong : ChangeSpec := { name := "parseFormulas", fn := fun _ => fun
  | [d] => { results := [.lit (.bool false)], args := [d] }
  | _ => none }
def ParseFormulasWrongFalsely : Prop := parseFormulasRow.holds Try.pinned (OpenSpec.ofChange parseFormulasWrong)

/-- 'organonlaw03.ParseTerms': WHATEVER THE INPUT: true; the input reads as it did. -/
def parseTermsSpec : ChangeSpec := { name := "parseTerms", fn := fun _ => fun
  | [d] => { results := [.lit (.bool true)], args := [d] }
  | _ => none }
def parseTermsRow : OpenClaim := { program := "ytfleomamhkeiiaa", sum := "2eb14ce837bfa432852ac450a94563d97629dcd4376c0159e9ad1df3c61de8ca", func := "organon/organonlaw03.ParseTerms", spec := "parseTerms", inPlace := ["internal/bytealg.IndexByteString", "internal/bytealg.IndexString"], unfollowed := true, recurses := true, named := ["internal/bytealg.MaxLen"], plainKeys := false, apart := false }
def ParseTermsSaid : Prop := parseTermsRow.holds Try.pinned (OpenSpec.ofChange parseTermsSpec)

/-- ITS FALSE NEIGHBOUR: 'it returns false'. Refute it at one input. -/
def parseTermsWrong : ChangeSpec := { name := "parseTerms", fn := fun _ => fun
  | [d] => { results := [.lit (.bool false)], args := [d] }
  | _ => none }
def ParseTermsWrongFalsely : Prop := parseTermsRow.holds Try.pinned (OpenSpec.ofChange parseTermsWrong)

/-- 'organonlaw03.ParsePlaces': WHATEVER THE INPUT: true; the input reads as it did. -/
def parsePlacesSpec : ChangeSpec := { name := "parsePlaces", fn := fun _ => fun
  | [d] => { results := [.lit (.bool true)], args := [d] }
  | _ => none }
def parsePlacesRow : OpenClaim := { program := "ytfleomamhkeiiaa", sum := "2eb14ce837bfa432852ac450a94563d97629dcd4376c0159e9ad1df3c61de8ca", func := "organon/organonlaw03.ParsePlaces", spec := "parsePlaces", inPlace := ["internal/bytealg.IndexByteString", "internal/bytealg.IndexString"], unfollowed := true, recurses := true, named := ["internal/bytealg.MaxLen"], plainKeys := false, apart := false }
def ParsePlacesSaid : Prop := parsePlacesRow.holds Try.pinned (OpenSpec.ofChange parsePlacesSpec)

/-- ITS FALSE NEIGHBOUR: 'it returns false'. Refute it at one input. -/
def parsePlacesWrong : ChangeSpec := { name := "parsePlaces", fn := fun _ => fun
  | [d] => { results := [.lit (.bool false)], args := [d] }
  | _ => none }
def ParsePlacesWrongFalsely : Prop := parsePlacesRow.holds Try.pinned (OpenSpec.ofChange parsePlacesWrong)

/-- 'organonlaw04.FreeSets': WHATEVER THE INPUT: true; the input reads as it did. -/
def freeSetsSpec : ChangeSpec := { name := "freeSets", fn := fun _ => fun
  | [d] => { results := [.lit (.bool true)], args := [d] }
  | _ => none }
def freeSetsRow : OpenClaim := { program := "ytfleomamhkeiiaa", sum := "2eb14ce837bfa432852ac450a94563d97629dcd4376c0159e9ad1df3c61de8ca", func := "organon/organonlaw04.FreeSets", spec := "freeSets", unfollowed := true, recurses := true, loops := true, plainKeys := false, apart := false }
def FreeSetsSaid : Prop := freeSetsRow.holds Try.pinned (OpenSpec.ofChange freeSetsSpec)

/-- ITS FALSE NEIGHBOUR: 'it returns false'. Refute it at one input. -/
def freeSetsWrong : ChangeSpec := { name := "freeSets", fn := fun _ => fun
  | [d] => { results := [.lit (.bool false)], args := [d] }
  | _ => none }
def FreeSetsWrongFalsely : Prop := freeSetsRow.holds Try.pinned (OpenSpec.ofChange freeSetsWrong)

/-- 'organonlaw04.FreeAsks': WHATEVER THE INPUT: true; the input reads as it did. -/
def freeAsksSpec : ChangeSpec := { name := "freeAsks", fn := fun _ => fun
  | [d1, d2] => { results := [.lit (.bool true)], args := [d1, d2] }
  | _ => none }
def freeAsksRow : OpenClaim := { program := "ytfleomamhkeiiaa", sum := "2eb14ce837bfa432852ac450a94563d97629dcd4376c0159e9ad1df3c61de8ca", func := "organon/organonlaw04.FreeAsks", spec := "freeAsks", unfollowed := true, recurses := true, loops := true, plainKeys := false, apart := false }
def FreeAsksSaid : Prop := freeAsksRow.holds Try.pinned (OpenSpec.ofChange freeAsksSpec)

/-- ITS FALSE NEIGHBOUR: 'it returns false'. Refute it at one input. -/
def freeAsksWrong : ChangeSpec := { name := "freeAsks", fn := fun _ => fun
  | [d1, d2] => { results := [.lit (.bool false)], args := [d1, d2] }
  | _ => none }
def FreeAsksWrongFalsely : Prop := freeAsksRow.holds Try.pinned (OpenSpec.ofChange freeAsksWrong)

/-- 'organonlaw04.FreeCatches': WHATEVER THE INPUT: true; the input reads as it did. -/
def freeCatchesSpec : ChangeSpec := { name := "freeCatches", fn := fun _ => fun
  | [d1, d2, d3] => { results := [.lit (.bool true)], args := [d1, d2, d3] }
  | _ => none }
def freeCatchesRow : OpenClaim := { program := "ytfleomamhkeiiaa", sum := "2eb14ce837bfa432852ac450a94563d97629dcd4376c0159e9ad1df3c61de8ca", func := "organon/organonlaw04.FreeCatches", spec := "freeCatches", unfollowed := true, recurses := true, loops := true, plainKeys := false, apart := false }
def FreeCatchesSaid : Prop := freeCatchesRow.holds Try.pinned (OpenSpec.ofChange freeCatchesSpec)

/-- ITS FALSE NEIGHBOUR: 'it returns false'. Refute it at one input. -/
def freeCatchesWrong : ChangeSpec := { name := "freeCatches", fn := fun _ => fun
  | [d1, d2, d3] => { results := [.lit (.bool false)], args := [d1, d2, d3] }
  | _ => none }
def FreeCatchesWrongFalsely : Prop := freeCatchesRow.holds Try.pinned (OpenSpec.ofChange freeCatchesWrong)

/-- 'organonlaw04.FreeCloses': WHATEVER THE INPUT: true; the input reads as it did. -/
def freeClosesSpec : ChangeSpec := { name := "freeCloses", fn := fun _ => fun
  | [d] => { results := [.lit (.bool true)], args := [d] }
  | _ => none }
def freeClosesRow : OpenClaim := { program := "ytfleomamhkeiiaa", sum := "2eb14ce837bfa432852ac450a94563d97629dcd4376c0159e9ad1df3c61de8ca", func := "organon/organonlaw04.FreeCloses", spec := "freeCloses", unfollowed := true, recurses := true, loops := true, plainKeys := false, apart := false }
def FreeClosesSaid : Prop := freeClosesRow.holds Try.pinned (OpenSpec.ofChange freeClosesSpec)

/-- ITS FALSE NEIGHBOUR: 'it returns false'. Refute it at one input. -/
def freeClosesWrong : ChangeSpec := { name := "freeCloses", fn := fun _ => fun
  | [d] => { results := [.lit (.bool false)], args := [d] }
  | _ => none }
def FreeClosesWrongFalsely : Prop := freeClosesRow.holds Try.pinned (OpenSpec.ofChange freeClosesWrong)

/-- 'organonlaw04.FreeClosed': WHATEVER THE INPUT: true; the input reads as it did. -/
def freeClosedSpec : ChangeSpec := { name := "freeClosed", fn := fun _ => fun
  | [d] => { results := [.lit (.bool true)], args := [d] }
  | _ => none }
def freeClosedRow : OpenClaim := { program := "ytfleomamhkeiiaa", sum := "2eb14ce837bfa432852ac450a94563d97629dcd4376c0159e9ad1df3c61de8ca", func := "organon/organonlaw04.FreeClosed", spec := "freeClosed", unfollowed := true, recurses := true, loops := true, plainKeys := false, apart := false }
def FreeClosedSaid : Prop := freeClosedRow.holds Try.pinned (OpenSpec.ofChange freeClosedSpec)

/-- ITS FALSE NEIGHBOUR: 'it returns false'. Refute it at one input. -/
def freeClosedWrong : ChangeSpec := { name := "freeClosed", fn := fun _ => fun
  | [d] => { results := [.lit (.bool false)], args := [d] }
  | _ => none }
def FreeClosedWrongFalsely : Prop := freeClosedRow.holds Try.pinned (OpenSpec.ofChange freeClosedWrong)

/-- 'organonlaw04.FreeBuilds': WHATEVER THE INPUT: true; the input reads as it did. -/
def freeBuildsSpec : ChangeSpec := { name := "freeBuilds", fn := fun _ => fun
  | [d1, d2, d3] => { results := [.lit (.bool true)], args := [d1, d2, d3] }
  | _ => none }
def freeBuildsRow : OpenClaim := { program := "ytfleomamhkeiiaa", sum := "2eb14ce837bfa432852ac450a94563d97629dcd4376c0159e9ad1df3c61de8ca", func := "organon/organonlaw04.FreeBuilds", spec := "freeBuilds", unfollowed := true, recurses := true, loops := true, plainKeys := false, apart := false }
def FreeBuildsSaid : Prop := freeBuildsRow.holds Try.pinned (OpenSpec.ofChange freeBuildsSpec)

/-- ITS FALSE NEIGHBOUR: 'it returns false'. Refute it at one input. -/
def freeBuildsWrong : ChangeSpec := { name := "freeBuilds", fn := fun _ => fun
  | [d1, d2, d3] => { results := [.lit (.bool false)], args := [d1, d2, d3] }
  | _ => none }
def FreeBuildsWrongFalsely : Prop := freeBuildsRow.holds Try.pinned (OpenSpec.ofChange freeBuildsWrong)

/-- 'organonlaw04.FreeSafe': WHATEVER THE INPUT: true; the input reads as it did. -/
def freeSafeSpec : ChangeSpec := { name := "freeSafe", fn := fun _ => fun
  | [d1, d2, d3] => { results := [.lit (.bool true)], args := [d1, d2, d3] }
  | _ => none }
def freeSafeRow : OpenClaim := { program := "ytfleomamhkeiiaa", sum := "2eb14ce837bfa432852ac450a94563d97629dcd4376c0159e9ad1df3c61de8ca", func := "organon/organonlaw04.FreeSafe", spec := "freeSafe", unfollowed := true, recurses := true, loops := true, plainKeys := false, apart := false }
def FreeSafeSaid : Prop := freeSafeRow.holds Try.pinned (OpenSpec.ofChange freeSafeSpec)

/-- ITS FALSE NEIGHBOUR: 'it returns false'. Refute it at one input. -/
def freeSafeWrong : ChangeSpec := { name := "freeSafe", fn := fun _ => fun
  | [d1, d2, d3] => { results := [.lit (.bool false)], args := [d1, d2, d3] }
  | _ => none }
def FreeSafeWrongFalsely : Prop := freeSafeRow.holds Try.pinned (OpenSpec.ofChange freeSafeWrong)

/- THE SECOND FORM. 'bulk': how many values and letters a reading holds, each counted each time it is reached (what is shared counts as often as it is met; a slice's spare places count too). A statement '..UptoSaid' is the law's where the arguments, and the package variables that the reading takes, are together of bulk at most 1048576: NARROWER than '..Said'. Prove '..Said' where nothing that the law and all that it calls make is longer than what came in: it says more and counts as full. Else prove '..UptoSaid'. A law counts once. -/
mutual
def uptoBulk {H : Type} : DataW H → Nat
  | .lit (.string bytes) => bytes.length + 1
  | .lit _ => 1
  | .nil => 1
  | .ptr d => uptoBulk d + 1
  | .slice elems spare => uptoBulkAll elems + uptoBulkAll spare + 1
  | .agg parts => uptoBulkAll parts + 1
  | .iface _ d => uptoBulk d + 1
  | .map entries => uptoBulkEntries entries + 1
  | .held _ => 1
def uptoBulkAll {H : Type} : List (DataW H) → Nat
  | [] => 0
  | d :: r => uptoBulk d + uptoBulkAll r
def uptoBulkEntries {H : Type} : List (Lit × DataW H) → Nat
  | [] => 0
  | x :: r => uptoBulkEntry x + uptoBulkEntries r
def uptoBulkEntry {H : Type} : Lit × DataW H → Nat
  | (.string bytes, d) => bytes.length + uptoBulk d + 1
  | (_, d) => uptoBulk d + 1
 end
def uptoSmall : (H : Type) → List (DataW H) → Bool := fun _ ds => decide (uptoBulkAll ds ≤ 1048576)
def OpenSpec.upto (s : _root_.Go.ChangeSpec) : _root_.Go.OpenSpec := { _root_.Go.OpenSpec.ofChange s with cond := some uptoSmall }

/-- 'organonlaw03.ParseFormulas', WHERE WHAT IT READS IS OF BULK AT MOST 1048576: true; the input reads as it did. -/
def parseFormulasUptoRow : OpenClaim := { program := "ytfleomamhkeiiaa", sum := "2eb14ce837bfa432852ac450a94563d97629dcd4376c0159e9ad1df3c61de8ca", func := "organon/organonlaw03.ParseFormulas", spec := "parseFormulas", inPlace := ["internal/bytealg.IndexByteString", "internal/bytealg.IndexString"], unfollowed := true, recurses := true, named := ["internal/bytealg.MaxLen"], plainKeys := false, apart := false, narrowed := true }
def ParseFormulasUptoSaid : Prop := parseFormulasUptoRow.holds Try.pinned (OpenSpec.upto parseFormulasSpec)

/-- 'organonlaw03.ParseTerms', WHERE WHAT IT READS IS OF BULK AT MOST 1048576: true; the input reads as it did. -/
def parseTermsUptoRow : OpenClaim := { program := "ytfleomamhkeiiaa", sum := "2eb14ce837bfa432852ac450a94563d97629dcd4376c0159e9ad1df3c61de8ca", func := "organon/organonlaw03.ParseTerms", spec := "parseTerms", inPlace := ["internal/bytealg.IndexByteString", "internal/bytealg.IndexString"], unfollowed := true, recurses := true, named := ["internal/bytealg.MaxLen"], plainKeys := false, apart := false, narrowed := true }
def ParseTermsUptoSaid : Prop := parseTermsUptoRow.holds Try.pinned (OpenSpec.upto parseTermsSpec)

/-- 'organonlaw03.ParsePlaces', WHERE WHAT IT READS IS OF BULK AT MOST 1048576: true; the input reads as it did. -/
def parsePlacesUptoRow : OpenClaim := { program := "ytfleomamhkeiiaa", sum := "2eb14ce837bfa432852ac450a94563d97629dcd4376c0159e9ad1df3c61de8ca", func := "organon/organonlaw03.ParsePlaces", spec := "parsePlaces", inPlace := ["internal/bytealg.IndexByteString", "internal/bytealg.IndexString"], unfollowed := true, recurses := true, named := ["internal/bytealg.MaxLen"], plainKeys := false, apart := false, narrowed := true }
def ParsePlacesUptoSaid : Prop := parsePlacesUptoRow.holds Try.pinned (OpenSpec.upto parsePlacesSpec)

/-- 'organonlaw04.FreeSets', WHERE WHAT IT READS IS OF BULK AT MOST 1048576: true; the input reads as it did. -/
def freeSetsUptoRow : OpenClaim := { program := "ytfleomamhkeiiaa", sum := "2eb14ce837bfa432852ac450a94563d97629dcd4376c0159e9ad1df3c61de8ca", func := "organon/organonlaw04.FreeSets", spec := "freeSets", unfollowed := true, recurses := true, loops := true, plainKeys := false, apart := false, narrowed := true }
def FreeSetsUptoSaid : Prop := freeSetsUptoRow.holds Try.pinned (OpenSpec.upto freeSetsSpec)

/-- 'organonlaw04.FreeAsks', WHERE WHAT IT READS IS OF BULK AT MOST 1048576: true; the input reads as it did. -/
def freeAsksUptoRow : OpenClaim := { program := "ytfleomamhkeiiaa", sum := "2eb14ce837bfa432852ac450a94563d97629dcd4376c0159e9ad1df3c61de8ca", func := "organon/organonlaw04.FreeAsks", spec := "freeAsks", unfollowed := true, recurses := true, loops := true, plainKeys := false, apart := false, narrowed := true }
def FreeAsksUptoSaid : Prop := freeAsksUptoRow.holds Try.pinned (OpenSpec.upto freeAsksSpec)

/-- 'organonlaw04.FreeCatches', WHERE WHAT IT READS IS OF BULK AT MOST 1048576: true; the input reads as it did. -/
def freeCatchesUptoRow : OpenClaim := { program := "ytfleomamhkeiiaa", sum := "2eb14ce837bfa432852ac450a94563d97629dcd4376c0159e9ad1df3c61de8ca", func := "organon/organonlaw04.FreeCatches", spec := "freeCatches", unfollowed := true, recurses := true, loops := true, plainKeys := false, apart := false, narrowed := true }
def FreeCatchesUptoSaid : Prop := freeCatchesUptoRow.holds Try.pinned (OpenSpec.upto freeCatchesSpec)

/-- 'organonlaw04.FreeCloses', WHERE WHAT IT READS IS OF BULK AT MOST 1048576: true; the input reads as it did. -/
def freeClosesUptoRow : OpenClaim := { program := "ytfleomamhkeiiaa", sum := "2eb14ce837bfa432852ac450a94563d97629dcd4376c0159e9ad1df3c61de8ca", func := "organon/organonlaw04.FreeCloses", spec := "freeCloses", unfollowed := true, recurses := true, loops := true, plainKeys := false, apart := false, narrowed := true }
def FreeClosesUptoSaid : Prop := freeClosesUptoRow.holds Try.pinned (OpenSpec.upto freeClosesSpec)

/-- 'organonlaw04.FreeClosed', WHERE WHAT IT READS IS OF BULK AT MOST 1048576: true; the input reads as it did. -/
def freeClosedUptoRow : OpenClaim := { program := "ytfleomamhkeiiaa", sum := "2eb14ce837bfa432852ac450a94563d97629dcd4376c0159e9ad1df3c61de8ca", func := "organon/organonlaw04.FreeClosed", spec := "freeClosed", unfollowed := true, recurses := true, loops := true, plainKeys := false, apart := false, narrowed := true }
def FreeClosedUptoSaid : Prop := freeClosedUptoRow.holds Try.pinned (OpenSpec.upto freeClosedSpec)

/-- 'organonlaw04.FreeBuilds', WHERE WHAT IT READS IS OF BULK AT MOST 1048576: true; the input reads as it did. -/
def freeBuildsUptoRow : OpenClaim := { program := "ytfleomamhkeiiaa", sum := "2eb14ce837bfa432852ac450a94563d97629dcd4376c0159e9ad1df3c61de8ca", func := "organon/organonlaw04.FreeBuilds", spec := "freeBuilds", unfollowed := true, recurses := true, loops := true, plainKeys := false, apart := false, narrowed := true }
def FreeBuildsUptoSaid : Prop := freeBuildsUptoRow.holds Try.pinned (OpenSpec.upto freeBuildsSpec)

/-- 'organonlaw04.FreeSafe', WHERE WHAT IT READS IS OF BULK AT MOST 1048576: true; the input reads as it did. -/
def freeSafeUptoRow : OpenClaim := { program := "ytfleomamhkeiiaa", sum := "2eb14ce837bfa432852ac450a94563d97629dcd4376c0159e9ad1df3c61de8ca", func := "organon/organonlaw04.FreeSafe", spec := "freeSafe", unfollowed := true, recurses := true, loops := true, plainKeys := false, apart := false, narrowed := true }
def FreeSafeUptoSaid : Prop := freeSafeUptoRow.holds Try.pinned (OpenSpec.upto freeSafeSpec)

end Rows
end Go.Proofs.Ytfleomamhkeiiaa
