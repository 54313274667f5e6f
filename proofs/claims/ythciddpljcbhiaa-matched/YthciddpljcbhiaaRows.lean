/-
  No cell of these rows narrows 'for every input' (looked for: loops, veiled, ifaces, maps, wideKeys, modest, calm, conditions, laid).
  DERIVED. THE GIVEN ROWS OF THIS SEAT. 9 by the template 'for every input the law returns true; each argument reads behind the call as it read before'; 0 by the template 'total and deterministic' (their statements: YthciddpljcbhiaaTotals.lean).
  GIVEN WITH THE SEED: the statements are not yours to turn. If you find one false, say at which input.
  Laid BY PROGRAM, IN A SANDBOX (cutbox-rows.mjs): the forced cells as the released guide's own fill.sh prints them over the translation 36cf10cd2d6bb182… (all of the seat's roots in one cut). By AI agents, Wed Nov 11 2026. No macro, syntax, notation, axiom, sorry.
-/
import Derived.Test.YthciddpljcbhiaaChecked
import GoSem.Claim
import GoSem.ClaimJoined
import GoSem.ClaimMapViews
import Derived.JoinedTies
import Derived.KernelRfl
namespace Go.Proofs.Ythciddpljcbhiaa
/- THE CELL 'sum', in the pinned program and in every row, IS THE sha256 OF THE DUMP (.gsa) THAT YthciddpljcbhiaaProg.lean LOADS. Nothing in Lean hashes anything: it is a label: what it is worth is what the hold of that sum in a sandbox is worth. -/
noncomputable def Try.pinned : Pinned := { name := "ythciddpljcbhiaa", sum := "36cf10cd2d6bb182a48cdefaa25849f228d1ba8288acb8d6409e6959cf82e20c", checked := Try.checked }
namespace Rows
def none {H : Type} : Left H := { results := [], args := [] }

/-- 'garnerlaw.Rules': WHATEVER THE INPUT: true; the input reads as it did. -/
def rulesSpec : ChangeSpec := { name := "rules", fn := fun _ => fun
  | [d1, d2, d3] => { results := [.lit (.bool true)], args := [d1, d2, d3] }
  | _ => none }
def rulesRow : OpenClaim := { program := "ythciddpljcbhiaa", sum := "36cf10cd2d6bb182a48cdefaa25849f228d1ba8288acb8d6409e6959cf82e20c", func := "garner/garnerlaw.Rules", spec := "rules", apart := false }
def RulesSaid : Prop := rulesRow.holds Try.pinned (OpenSpec.ofChange rulesSpec)

/-- ITS FALSE NEIGHBOUR: 'it returns false'. Refute it at one input. -/
def rulesWrong : ChangeSpec := { name := "rules", fn := fun _ => fun
  | [d1, d2, d3] => { results := [.lit (.bool false)], args := [d1, d2, d3] }
  | _ => none }
def RulesWrongFalsely : Prop := rulesRow.holds Try.pinned (OpenSpec.ofChange rulesWrong)

/-- 'garnerlaw.Records': WHATEVER THE INPUT: true; the input reads as it did. -/
def recordsSpec : ChangeSpec := { name := "records", fn := fun _ => fun
  | [d] => { results := [.lit (.bool true)], args := [d] }
  | _ => none }
def recordsRow : OpenClaim := { program := "ythciddpljcbhiaa", sum := "36cf10cd2d6bb182a48cdefaa25849f228d1ba8288acb8d6409e6959cf82e20c", func := "garner/garnerlaw.Records", spec := "records", apart := false }
def RecordsSaid : Prop := recordsRow.holds Try.pinned (OpenSpec.ofChange recordsSpec)

/-- ITS FALSE NEIGHBOUR: 'it returns false'. Refute it at one input. -/
def recordsWrong : ChangeSpec := { name := "records", fn := fun _ => fun
  | [d] => { results := [.lit (.bool false)], args := [d] }
  | _ => none }
def RecordsWrongFalsely : Prop := recordsRow.holds Try.pinned (OpenSpec.ofChange recordsWrong)

/-- 'garnerlaw.Unrecords': WHATEVER THE INPUT: true; the input reads as it did. -/
def unrecordsSpec : ChangeSpec := { name := "unrecords", fn := fun _ => fun
  | [d] => { results := [.lit (.bool true)], args := [d] }
  | _ => none }
def unrecordsRow : OpenClaim := { program := "ythciddpljcbhiaa", sum := "36cf10cd2d6bb182a48cdefaa25849f228d1ba8288acb8d6409e6959cf82e20c", func := "garner/garnerlaw.Unrecords", spec := "unrecords", apart := false }
def UnrecordsSaid : Prop := unrecordsRow.holds Try.pinned (OpenSpec.ofChange unrecordsSpec)

/-- ITS FALSE NEIGHBOUR: 'it returns false'. Refute it at one input. -/
def unrecordsWrong : ChangeSpec := { name := "unrecords", fn := fun _ => fun
  | [d] => { results := [.lit (.bool false)], args := [d] }
  | _ => none }
def UnrecordsWrongFalsely : Prop := unrecordsRow.holds Try.pinned (OpenSpec.ofChange unrecordsWrong)

/-- 'garnerkeep.Whole': WHATEVER THE INPUT: true; the input reads as it did. -/
def wholeSpec : ChangeSpec := { name := "whole", fn := fun _ => fun
  | [d1, d2, d3, d4] => { results := [.lit (.bool true)], args := [d1, d2, d3, d4] }
  | _ => none }
def wholeRow : OpenClaim := { program := "ythciddpljcbhiaa", sum := "36cf10cd2d6bb182a48cdefaa25849f228d1ba8288acb8d6409e6959cf82e20c", func := "garner/garnerkeep.Whole", spec := "whole", apart := false }
def WholeSaid : Prop := wholeRow.holds Try.pinned (OpenSpec.ofChange wholeSpec)

/-- ITS FALSE NEIGHBOUR: 'it returns false'. Refute it at one input. -/
def wholeWrong : ChangeSpec := { name := "whole", fn := fun _ => fun
  | [d1, d2, d3, d4] => { results := [.lit (.bool false)], args := [d1, d2, d3, d4] }
  | _ => none }
def WholeWrongFalsely : Prop := wholeRow.holds Try.pinned (OpenSpec.ofChange wholeWrong)

/-- 'garnerkeep.Told': WHATEVER THE INPUT: true; the input reads as it did. -/
def toldSpec : ChangeSpec := { name := "told", fn := fun _ => fun
  | [d1, d2] => { results := [.lit (.bool true)], args := [d1, d2] }
  | _ => none }
def toldRow : OpenClaim := { program := "ythciddpljcbhiaa", sum := "36cf10cd2d6bb182a48cdefaa25849f228d1ba8288acb8d6409e6959cf82e20c", func := "garner/garnerkeep.Told", spec := "told", apart := false }
def ToldSaid : Prop := toldRow.holds Try.pinned (OpenSpec.ofChange toldSpec)

/-- ITS FALSE NEIGHBOUR: 'it returns false'. Refute it at one input. -/
def toldWrong : ChangeSpec := { name := "told", fn := fun _ => fun
  | [d1, d2] => { results := [.lit (.bool false)], args := [d1, d2] }
  | _ => none }
def ToldWrongFalsely : Prop := toldRow.holds Try.pinned (OpenSpec.ofChange toldWrong)

/-- 'garnerkeep.Grouped': WHATEVER THE INPUT: true; the input reads as it did. -/
def groupedSpec : ChangeSpec := { name := "grouped", fn := fun _ => fun
  | [d1, d2] => { results := [.lit (.bool true)], args := [d1, d2] }
  | _ => none }
def groupedRow : OpenClaim := { program := "ythciddpljcbhiaa", sum := "36cf10cd2d6bb182a48cdefaa25849f228d1ba8288acb8d6409e6959cf82e20c", func := "garner/garnerkeep.Grouped", spec := "grouped", apart := false }
def GroupedSaid : Prop := groupedRow.holds Try.pinned (OpenSpec.ofChange groupedSpec)

/-- ITS FALSE NEIGHBOUR: 'it returns false'. Refute it at one input. -/
def groupedWrong : ChangeSpec := { name := "grouped", fn := fun _ => fun
  | [d1, d2] => { results := [.lit (.bool false)], args := [d1, d2] }
  | _ => none }
def GroupedWrongFalsely : Prop := groupedRow.holds Try.pinned (OpenSpec.ofChange groupedWrong)

/-- 'garnerkeep.Matched': WHATEVER THE INPUT: true; the input reads as it did. -/
def matchedSpec : ChangeSpec := { name := "matched", fn := fun _ => fun
  | [d1, d2] => { results := [.lit (.bool true)], args := [d1, d2] }
  | _ => none }
def matchedRow : OpenClaim := { program := "ythciddpljcbhiaa", sum := "36cf10cd2d6bb182a48cdefaa25849f228d1ba8288acb8d6409e6959cf82e20c", func := "garner/garnerkeep.Matched", spec := "matched", apart := false }
def MatchedSaid : Prop := matchedRow.holds Try.pinned (OpenSpec.ofChange matchedSpec)

/-- ITS FALSE NEIGHBOUR: 'it returns false'. Refute it at one input. -/
def matchedWrong : ChangeSpec := { name := "matched", fn := fun _ => fun
  | [d1, d2] => { results := [.lit (.bool false)], args := [d1, d2] }
  | _ => none }
def MatchedWrongFalsely : Prop := matchedRow.holds Try.pinned (OpenSpec.ofChange matchedWrong)

/-- 'garnerkeep.Coarser': WHATEVER THE INPUT: true; the input reads as it did. -/
def coarserSpec : ChangeSpec := { name := "coarser", fn := fun _ => fun
  | [d1, d2] => { results := [.lit (.bool true)], args := [d1, d2] }
  | _ => none }
def coarserRow : OpenClaim := { program := "ythciddpljcbhiaa", sum := "36cf10cd2d6bb182a48cdefaa25849f228d1ba8288acb8d6409e6959cf82e20c", func := "garner/garnerkeep.Coarser", spec := "coarser", apart := false }
def CoarserSaid : Prop := coarserRow.holds Try.pinned (OpenSpec.ofChange coarserSpec)

/-- ITS FALSE NEIGHBOUR: 'it returns false'. Refute it at one input. -/
def coarserWrong : ChangeSpec := { name := "coarser", fn := fun _ => fun
  | [d1, d2] => { results := [.lit (.bool false)], args := [d1, d2] }
  | _ => none }
def CoarserWrongFalsely : Prop := coarserRow.holds Try.pinned (OpenSpec.ofChange coarserWrong)

/-- 'garnerkeep.Roomy': WHATEVER THE INPUT: true; the input reads as it did. -/
def roomySpec : ChangeSpec := { name := "roomy", fn := fun _ => fun
  | [d1, d2] => { results := [.lit (.bool true)], args := [d1, d2] }
  | _ => none }
def roomyRow : OpenClaim := { program := "ythciddpljcbhiaa", sum := "36cf10cd2d6bb182a48cdefaa25849f228d1ba8288acb8d6409e6959cf82e20c", func := "garner/garnerkeep.Roomy", spec := "roomy", apart := false }
def RoomySaid : Prop := roomyRow.holds Try.pinned (OpenSpec.ofChange roomySpec)

/-- ITS FALSE NEIGHBOUR: 'it returns false'. Refute it at one input. -/
def roomyWrong : ChangeSpec := { name := "roomy", fn := fun _ => fun
  | [d1, d2] => { results := [.lit (.bool false)], args := [d1, d2] }
  | _ => none }
def RoomyWrongFalsely : Prop := roomyRow.holds Try.pinned (OpenSpec.ofChange roomyWrong)

/- THE SECOND FORM. 'bulk': how many values and letters a reading holds, each counted each time it is reached (what is shared counts as often as it is met; a slice's spare places count too). A statement '..UptoSaid' is the law's where the arguments, and the package variables that the reading takes, are together of bulk at most 1048576: NARROWER than '..Said'. Prove '..Said' where nothing that the law and all that it calls make is longer than what came in: it says more and counts as full. Else prove '..UptoSaid'. A law counts once. -/
mutual
def uptoBulk {H : Type} : DataW H → Nat
  | .lit (.string bytes) => bytes.length + 1
  | .lit _ => 1
  | .nil => 1
  | .ptr d => uptoBulk d + 1
  | .slice elems spare => uptoBulkAll elems + uptoBulkAll spare + 1
  | .agg parts => uptoBulkAll parts + 1
  | .iface _ d => uptoBulk d + 1
  | .map entries => uptoBulkEntries entries + 1
  | .held _ => 1
def uptoBulkAll {H : Type} : List (DataW H) → Nat
  | [] => 0
  | d :: r => uptoBulk d + uptoBulkAll r
def uptoBulkEntries {H : Type} : List (Lit × DataW H) → Nat
  | [] => 0
  | x :: r => uptoBulkEntry x + uptoBulkEntries r
def uptoBulkEntry {H : Type} : Lit × DataW H → Nat
  | (.string bytes, d) => bytes.length + uptoBulk d + 1
  | (_, d) => uptoBulk d + 1
 end
def uptoSmall : (H : Type) → List (DataW H) → Bool := fun _ ds => decide (uptoBulkAll ds ≤ 1048576)
def OpenSpec.upto (s : _root_.Go.ChangeSpec) : _root_.Go.OpenSpec := { _root_.Go.OpenSpec.ofChange s with cond := some uptoSmall }

/-- 'garnerlaw.Rules', WHERE WHAT IT READS IS OF BULK AT MOST 1048576: true; the input reads as it did. -/
def rulesUptoRow : OpenClaim := { program := "ythciddpljcbhiaa", sum := "36cf10cd2d6bb182a48cdefaa25849f228d1ba8288acb8d6409e6959cf82e20c", func := "garner/garnerlaw.Rules", spec := "rules", apart := false, narrowed := true }
def RulesUptoSaid : Prop := rulesUptoRow.holds Try.pinned (OpenSpec.upto rulesSpec)

/-- 'garnerlaw.Records', WHERE WHAT IT READS IS OF BULK AT MOST 1048576: true; the input reads as it did. -/
def recordsUptoRow : OpenClaim := { program := "ythciddpljcbhiaa", sum := "36cf10cd2d6bb182a48cdefaa25849f228d1ba8288acb8d6409e6959cf82e20c", func := "garner/garnerlaw.Records", spec := "records", apart := false, narrowed := true }
def RecordsUptoSaid : Prop := recordsUptoRow.holds Try.pinned (OpenSpec.upto recordsSpec)

/-- 'garnerlaw.Unrecords', WHERE WHAT IT READS IS OF BULK AT MOST 1048576: true; the input reads as it did. -/
def unrecordsUptoRow : OpenClaim := { program := "ythciddpljcbhiaa", sum := "36cf10cd2d6bb182a48cdefaa25849f228d1ba8288acb8d6409e6959cf82e20c", func := "garner/garnerlaw.Unrecords", spec := "unrecords", apart := false, narrowed := true }
def UnrecordsUptoSaid : Prop := unrecordsUptoRow.holds Try.pinned (OpenSpec.upto unrecordsSpec)

/-- 'garnerkeep.Whole', WHERE WHAT IT READS IS OF BULK AT MOST 1048576: true; the input reads as it did. -/
def wholeUptoRow : OpenClaim := { program := "ythciddpljcbhiaa", sum := "36cf10cd2d6bb182a48cdefaa25849f228d1ba8288acb8d6409e6959cf82e20c", func := "garner/garnerkeep.Whole", spec := "whole", apart := false, narrowed := true }
def WholeUptoSaid : Prop := wholeUptoRow.holds Try.pinned (OpenSpec.upto wholeSpec)

/-- 'garnerkeep.Told', WHERE WHAT IT READS IS OF BULK AT MOST 1048576: true; the input reads as it did. -/
def toldUptoRow : OpenClaim := { program := "ythciddpljcbhiaa", sum := "36cf10cd2d6bb182a48cdefaa25849f228d1ba8288acb8d6409e6959cf82e20c", func := "garner/garnerkeep.Told", spec := "told", apart := false, narrowed := true }
def ToldUptoSaid : Prop := toldUptoRow.holds Try.pinned (OpenSpec.upto toldSpec)

/-- 'garnerkeep.Grouped', WHERE WHAT IT READS IS OF BULK AT MOST 1048576: true; the input reads as it did. -/
def groupedUptoRow : OpenClaim := { program := "ythciddpljcbhiaa", sum := "36cf10cd2d6bb182a48cdefaa25849f228d1ba8288acb8d6409e6959cf82e20c", func := "garner/garnerkeep.Grouped", spec := "grouped", apart := false, narrowed := true }
def GroupedUptoSaid : Prop := groupedUptoRow.holds Try.pinned (OpenSpec.upto groupedSpec)

/-- 'garnerkeep.Matched', WHERE WHAT IT READS IS OF BULK AT MOST 1048576: true; the input reads as it did. -/
def matchedUptoRow : OpenClaim := { program := "ythciddpljcbhiaa", sum := "36cf10cd2d6bb182a48cdefaa25849f228d1ba8288acb8d6409e6959cf82e20c", func := "garner/garnerkeep.Matched", spec := "matched", apart := false, narrowed := true }
def MatchedUptoSaid : Prop := matchedUptoRow.holds Try.pinned (OpenSpec.upto matchedSpec)

/-- 'garnerkeep.Coarser', WHERE WHAT IT READS IS OF BULK AT MOST 1048576: true; the input reads as it did. -/
def coarserUptoRow : OpenClaim := { program := "ythciddpljcbhiaa", sum := "36cf10cd2d6bb182a48cdefaa25849f228d1ba8288acb8d6409e6959cf82e20c", func := "garner/garnerkeep.Coarser", spec := "coarser", apart := false, narrowed := true }
def CoarserUptoSaid : Prop := coarserUptoRow.holds Try.pinned (OpenSpec.upto coarserSpec)

/-- 'garnerkeep.Roomy', WHERE WHAT IT READS IS OF BULK AT MOST 1048576: true; the input reads as it did. -/
def roomyUptoRow : OpenClaim := { program := "ythciddpljcbhiaa", sum := "36cf10cd2d6bb182a48cdefaa25849f228d1ba8288acb8d6409e6959cf82e20c", func := "garner/garnerkeep.Roomy", spec := "roomy", apart := false, narrowed := true }
def RoomyUptoSaid : Prop := roomyUptoRow.holds Try.pinned (OpenSpec.upto roomySpec)

end Rows
end Go.Proofs.Ythciddpljcbhiaa
