/-
  DERIVED. GIVEN WITH THE SEED: THE CARDS: each row of YtmfpiodlecapiaaDoorRows.lean that lists a variable, with what it lists TIED to the program's text (the seventh form; the later family's looks); each row that meets fmt, with fmt's text TOLD by the authors' own Lean function (tested against real Go, not proved from fmt's source: count such statements apart). THE CARD IS WHAT COUNTS. Prove the row's statement (the work); the ties are given (YtmfpiodlecapiaaDoorTie.lean); close each card by the builder's one call (the guide's Derived/Test/ToyasCard.lean, 'card_holds'). Laid BY PROGRAM, IN A SANDBOX (cutbox-door.mjs). By AI agents, Wed Nov 11 2026. No macro, syntax, notation, axiom, sorry.
-/
import Derived.Test.YtmfpiodlecapiaaDoorRows
import GoSem.ClaimSeven
namespace Go.Proofs.YtmfpiodlecapiaaDoor
namespace Rows

/-- THE TIED CARD OF 'fascinelaw.Writes'. -/
def writesCard : Claim7 := { stood := { row := writesRow, standIns := [], harness := (true, "d1396239856b3684848f5015cf16182be9f6fe1a5fcce3ff130b6e93d2d5a352"), looks := true }, kinds := [], alts := [], laidByText := true, laidKinds := [.called], laidTests := true, laidLooks := .later }
def WritesCardSaid : Prop := Claim7.holds Tryd.pinned (.plain (OpenSpec.ofChange writesSpec)) writesCard

/-- THE SECOND FORM's CARD OF 'fascinelaw.Writes'. -/
def writesUptoCard : Claim7 := { stood := { row := writesUptoRow, standIns := [], harness := (true, "d1396239856b3684848f5015cf16182be9f6fe1a5fcce3ff130b6e93d2d5a352"), looks := true }, kinds := [], alts := [], laidByText := true, laidKinds := [.called], laidTests := true, laidLooks := .later }
def WritesUptoCardSaid : Prop := Claim7.holds Tryd.pinned (.plain (OpenSpec.upto writesSpec)) writesUptoCard
end Rows
end Go.Proofs.YtmfpiodlecapiaaDoor
