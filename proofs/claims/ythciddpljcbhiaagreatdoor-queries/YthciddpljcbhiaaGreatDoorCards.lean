/-
  DERIVED. GIVEN WITH THE SEED: THE CARDS: each row of YthciddpljcbhiaaGreatDoorRows.lean that lists a variable, with what it lists TIED to the program's text (the seventh form; the later family's looks); each row that meets fmt, with fmt's text TOLD by the authors' own Lean function (tested against real Go, not proved from fmt's source: count such statements apart). THE CARD IS WHAT COUNTS. Prove the row's statement (the work); the ties are given (YthciddpljcbhiaaGreatDoorTie.lean); close each card by the builder's one call (the guide's Derived/Test/ToyasCard.lean, 'card_holds'). Laid BY PROGRAM, IN A SANDBOX (cutbox-door.mjs). By AI agents, Wed Nov 11 2026. No macro, syntax, notation, axiom, sorry.
-/
import Derived.Test.YthciddpljcbhiaaGreatDoorRows
import GoSem.ClaimSeven
namespace Go.Proofs.YthciddpljcbhiaaGreatDoor
namespace Rows

/-- THE TIED CARD OF 'garnerlaw.Writes'. -/
def writesCard : Claim7 := { stood := { row := writesRow, standIns := [], harness := (true, "ec88daa8b13769da7fbe0d4f2cafd4961ae39d0f578b9251853f99c8ffbd624f"), looks := false }, kinds := [], alts := [], laidByText := true, laidKinds := [.data], laidTests := true, laidLooks := .later }
def WritesCardSaid : Prop := Claim7.holds Tryz.pinned (.plain (OpenSpec.ofChange writesSpec)) writesCard

/-- THE TIED CARD OF 'garnerlaw.Queries'. -/
def queriesCard : Claim7 := { stood := { row := queriesRow, standIns := [], harness := (true, "ec88daa8b13769da7fbe0d4f2cafd4961ae39d0f578b9251853f99c8ffbd624f"), looks := false }, kinds := [], alts := [], laidByText := true, laidKinds := [.data], laidTests := true, laidLooks := .later }
def QueriesCardSaid : Prop := Claim7.holds Tryz.pinned (.plain (OpenSpec.ofChange queriesSpec)) queriesCard

/-- THE TIED CARD OF 'garnerlaw.Sizes'. -/
def sizesCard : Claim7 := { stood := { row := sizesRow, standIns := [], harness := (true, "ec88daa8b13769da7fbe0d4f2cafd4961ae39d0f578b9251853f99c8ffbd624f"), looks := false }, kinds := [], alts := [], laidByText := true, laidKinds := [.data], laidTests := true, laidLooks := .later }
def SizesCardSaid : Prop := Claim7.holds Tryz.pinned (.plain (OpenSpec.ofChange sizesSpec)) sizesCard

/-- THE SECOND FORM's CARD OF 'garnerlaw.Writes'. -/
def writesUptoCard : Claim7 := { stood := { row := writesUptoRow, standIns := [], harness := (true, "ec88daa8b13769da7fbe0d4f2cafd4961ae39d0f578b9251853f99c8ffbd624f"), looks := false }, kinds := [], alts := [], laidByText := true, laidKinds := [.data], laidTests := true, laidLooks := .later }
def WritesUptoCardSaid : Prop := Claim7.holds Tryz.pinned (.plain (OpenSpec.upto writesSpec)) writesUptoCard

/-- THE SECOND FORM's CARD OF 'garnerlaw.Queries'. -/
def queriesUptoCard : Claim7 := { stood := { row := queriesUptoRow, standIns := [], harness := (true, "ec88daa8b13769da7fbe0d4f2cafd4961ae39d0f578b9251853f99c8ffbd624f"), looks := false }, kinds := [], alts := [], laidByText := true, laidKinds := [.data], laidTests := true, laidLooks := .later }
def QueriesUptoCardSaid : Prop := Claim7.holds Tryz.pinned (.plain (OpenSpec.upto queriesSpec)) queriesUptoCard

/-- THE SECOND FORM's CARD OF 'garnerlaw.Sizes'. -/
def sizesUptoCard : Claim7 := { stood := { row := sizesUptoRow, standIns := [], harness := (true, "ec88daa8b13769da7fbe0d4f2cafd4961ae39d0f578b9251853f99c8ffbd624f"), looks := false }, kinds := [], alts := [], laidByText := true, laidKinds := [.data], laidTests := true, laidLooks := .later }
def SizesUptoCardSaid : Prop := Claim7.holds Tryz.pinned (.plain (OpenSpec.upto sizesSpec)) sizesUptoCard
end Rows
end Go.Proofs.YthciddpljcbhiaaGreatDoor
