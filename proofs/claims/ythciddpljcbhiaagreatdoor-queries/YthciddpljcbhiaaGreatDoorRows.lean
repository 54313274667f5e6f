/-
  NARROWER THAN 'FOR EVERY INPUT', by the rows' own cells (each row's printed sentence says how): Writes: laid · Queries: laid · Sizes: laid.
  DERIVED. THE GIVEN ROWS OF THIS SEAT. 3 by the template 'for every input the law returns true; each argument reads behind the call as it read before'; 0 by the template 'total and deterministic' (their statements: YthciddpljcbhiaaGreatDoorTotals.lean).
  GIVEN WITH THE SEED: the statements are not yours to turn. If you find one false, say at which input.
  Laid BY PROGRAM, IN A SANDBOX (cutbox-rows.mjs): the forced cells as the released guide's own fill.sh prints them over the translation 9bca143b30fa7f40… (all of the seat's roots in one cut). By AI agents, Wed Nov 11 2026. No macro, syntax, notation, axiom, sorry.
-/
import Derived.Test.YthciddpljcbhiaaGreatDoorChecked
import GoSem.Claim
import GoSem.ClaimJoined
import GoSem.ClaimMapViews
import Derived.JoinedTies
import Derived.KernelRfl
namespace Go.Proofs.YthciddpljcbhiaaGreatDoor
/- THE CELL 'sum', in the pinned program and in every row, IS THE sha256 OF THE DUMP (.gsa) THAT YthciddpljcbhiaaGreatDoorProg.lean LOADS. Nothing in Lean hashes anything: it is a label: what it is worth is what the hold of that sum in a sandbox is worth. -/
noncomputable def Tryz.pinned : Pinned := { name := "ythciddpljcbhiaagreatdoor", sum := "9bca143b30fa7f4014808ecc3ebd2a5e6b0991bac17475a3a531082a0ebd0369", checked := Tryz.checked }
namespace Rows
def none {H : Type} : Left H := { results := [], args := [] }

/- WHAT THE LISTED PACKAGE-LEVEL VARIABLES READ AS WHEN THE CALL BEGINS. Each datum BY PROGRAM (the guide's laid-datum.mjs) off the statement by which the dump's own 'gosem.cut.vars' lays the variable. In a bare row this is a premise. The card (YthciddpljcbhiaaGreatDoorCards.lean) ties it to the program's text. -/
def laid_garner_garnerref_over {H : Type} : DataW H := .agg [.lit (.int .u8 42), .lit (.int .u8 42), .lit (.int .u8 42)]

/-- 'garnerlaw.Writes': WHATEVER THE INPUT: true; the input reads as it did. -/
def writesSpec : ChangeSpec := { name := "writes", fn := fun _ => fun
  | [d] => { results := [.lit (.bool true)], args := [d] }
  | _ => none }
def writesRow : OpenClaim := { program := "ythciddpljcbhiaagreatdoor", sum := "9bca143b30fa7f4014808ecc3ebd2a5e6b0991bac17475a3a531082a0ebd0369", func := "garner/garnerlaw.Writes", spec := "writes", named := ["garner/garnerref.over"], apart := false, laid := [("garner/garnerref.over", laid_garner_garnerref_over)] }
def WritesSaid : Prop := writesRow.holds Tryz.pinned (OpenSpec.ofChange writesSpec)

/-- ITS FALSE NEIGHBOUR: 'it returns false'. Refute it at one input. -/
def writesWrong : ChangeSpec := { name := "writes", fn := fun _ => fun
  | [d] => { results := [.lit (.bool false)], args := [d] }
  | _ => none }
def WritesWrongFalsely : Prop := writesRow.holds Tryz.pinned (OpenSpec.ofChange writesWrong)

/-- 'garnerlaw.Queries': WHATEVER THE INPUT: true; the input reads as it did. -/
def queriesSpec : ChangeSpec := { name := "queries", fn := fun _ => fun
  | [d] => { results := [.lit (.bool true)], args := [d] }
  | _ => none }
def queriesRow : OpenClaim := { program := "ythciddpljcbhiaagreatdoor", sum := "9bca143b30fa7f4014808ecc3ebd2a5e6b0991bac17475a3a531082a0ebd0369", func := "garner/garnerlaw.Queries", spec := "queries", named := ["garner/garnerref.over"], apart := false, laid := [("garner/garnerref.over", laid_garner_garnerref_over)] }
def QueriesSaid : Prop := queriesRow.holds Tryz.pinned (OpenSpec.ofChange queriesSpec)

/-- ITS FALSE NEIGHBOUR: 'it returns false'. Refute it at one input. -/
def queriesWrong : ChangeSpec := { name := "queries", fn := fun _ => fun
  | [d] => { results := [.lit (.bool false)], args := [d] }
  | _ => none }
def QueriesWrongFalsely : Prop := queriesRow.holds Tryz.pinned (OpenSpec.ofChange queriesWrong)

/-- 'garnerlaw.Sizes': WHATEVER THE INPUT: true; the input reads as it did. -/
def sizesSpec : ChangeSpec := { name := "sizes", fn := fun _ => fun
  | [d] => { results := [.lit (.bool true)], args := [d] }
  | _ => none }
def sizesRow : OpenClaim := { program := "ythciddpljcbhiaagreatdoor", sum := "9bca143b30fa7f4014808ecc3ebd2a5e6b0991bac17475a3a531082a0ebd0369", func := "garner/garnerlaw.Sizes", spec := "sizes", named := ["garner/garnerref.over"], apart := false, laid := [("garner/garnerref.over", laid_garner_garnerref_over)] }
def SizesSaid : Prop := sizesRow.holds Tryz.pinned (OpenSpec.ofChange sizesSpec)

/-- ITS FALSE NEIGHBOUR: 'it returns false'. Refute it at one input. -/
def sizesWrong : ChangeSpec := { name := "sizes", fn := fun _ => fun
  | [d] => { results := [.lit (.bool false)], args := [d] }
  | _ => none }
def SizesWrongFalsely : Prop := sizesRow.holds Tryz.pinned (OpenSpec.ofChange sizesWrong)

/- THE SECOND FORM. 'bulk': how many values and letters a reading holds, each counted each time it is reached (what is shared counts as often as it is met; a slice's spare places count too). A statement '..UptoSaid' is the law's where the arguments, and the package variables that the reading takes, are together of bulk at most 1048576: NARROWER than '..Said'. Prove '..Said' where nothing that the law and all that it calls make is longer than what came in: it says more and counts as full. Else prove '..UptoSaid'. A law counts once. -/
mutual
def uptoBulk {H : Type} : DataW H → Nat
  | .lit (.string bytes) => bytes.length + 1
  | .lit _ => 1
  | .nil => 1
  | .ptr d => uptoBulk d + 1
  | .slice elems spare => uptoBulkAll elems + uptoBulkAll spare + 1
  | .agg parts => uptoBulkAll parts + 1
  | .iface _ d => uptoBulk d + 1
  | .map entries => uptoBulkEntries entries + 1
  | .held _ => 1
def uptoBulkAll {H : Type} : List (DataW H) → Nat
  | [] => 0
  | d :: r => uptoBulk d + uptoBulkAll r
def uptoBulkEntries {H : Type} : List (Lit × DataW H) → Nat
  | [] => 0
  | x :: r => uptoBulkEntry x + uptoBulkEntries r
def uptoBulkEntry {H : Type} : Lit × DataW H → Nat
  | (.string bytes, d) => bytes.length + uptoBulk d + 1
  | (_, d) => uptoBulk d + 1
 end
def uptoSmall : (H : Type) → List (DataW H) → Bool := fun _ ds => decide (uptoBulkAll ds ≤ 1048576)
def OpenSpec.upto (s : _root_.Go.ChangeSpec) : _root_.Go.OpenSpec := { _root_.Go.OpenSpec.ofChange s with cond := some uptoSmall }

/-- 'garnerlaw.Writes', WHERE WHAT IT READS IS OF BULK AT MOST 1048576: true; the input reads as it did. -/
def writesUptoRow : OpenClaim := { program := "ythciddpljcbhiaagreatdoor", sum := "9bca143b30fa7f4014808ecc3ebd2a5e6b0991bac17475a3a531082a0ebd0369", func := "garner/garnerlaw.Writes", spec := "writes", named := ["garner/garnerref.over"], apart := false, laid := [("garner/garnerref.over", laid_garner_garnerref_over)], narrowed := true }
def WritesUptoSaid : Prop := writesUptoRow.holds Tryz.pinned (OpenSpec.upto writesSpec)

/-- 'garnerlaw.Queries', WHERE WHAT IT READS IS OF BULK AT MOST 1048576: true; the input reads as it did. -/
def queriesUptoRow : OpenClaim := { program := "ythciddpljcbhiaagreatdoor", sum := "9bca143b30fa7f4014808ecc3ebd2a5e6b0991bac17475a3a531082a0ebd0369", func := "garner/garnerlaw.Queries", spec := "queries", named := ["garner/garnerref.over"], apart := false, laid := [("garner/garnerref.over", laid_garner_garnerref_over)], narrowed := true }
def QueriesUptoSaid : Prop := queriesUptoRow.holds Tryz.pinned (OpenSpec.upto queriesSpec)

/-- 'garnerlaw.Sizes', WHERE WHAT IT READS IS OF BULK AT MOST 1048576: true; the input reads as it did. -/
def sizesUptoRow : OpenClaim := { program := "ythciddpljcbhiaagreatdoor", sum := "9bca143b30fa7f4014808ecc3ebd2a5e6b0991bac17475a3a531082a0ebd0369", func := "garner/garnerlaw.Sizes", spec := "sizes", named := ["garner/garnerref.over"], apart := false, laid := [("garner/garnerref.over", laid_garner_garnerref_over)], narrowed := true }
def SizesUptoSaid : Prop := sizesUptoRow.holds Tryz.pinned (OpenSpec.upto sizesSpec)

end Rows
end Go.Proofs.YthciddpljcbhiaaGreatDoor
