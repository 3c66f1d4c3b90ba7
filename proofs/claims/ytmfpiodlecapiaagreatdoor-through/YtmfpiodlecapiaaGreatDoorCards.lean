/-
  DERIVED. GIVEN WITH THE SEED: THE CARDS: each row of YtmfpiodlecapiaaGreatDoorRows.lean that lists a variable, with what it lists TIED to the program's text (the seventh form; the later family's looks); each row that meets fmt, with fmt's text TOLD by the authors' own Lean function (tested against real Go, not proved from fmt's source: count such statements apart). THE CARD IS WHAT COUNTS. Prove the row's statement (the work); the ties are given (YtmfpiodlecapiaaGreatDoorTie.lean); close each card by the builder's one call (the guide's Derived/Test/ToyasCard.lean, 'card_holds'). Laid BY PROGRAM, IN A SANDBOX (cutbox-door.mjs). By AI agents, Wed Nov 11 2026. No macro, syntax, notation, axiom, sorry.
-/
import Derived.Test.YtmfpiodlecapiaaGreatDoorRows
import GoSem.ClaimSeven
namespace Go.Proofs.YtmfpiodlecapiaaGreatDoor
namespace Rows

/-- THE TIED CARD OF 'fascinelaw.Hears'. -/
def hearsCard : Claim7 := { stood := { row := hearsRow, standIns := [], harness := (true, "3e2c85565402876060949af1815ff970a513668c364e62b22d14a71bd9017b17"), looks := true }, kinds := [], alts := [], goes := true, laidByText := true, laidKinds := [.data, .called, .pinned], laidTests := true, laidLooks := .later }
def HearsCardSaid : Prop := Claim7.holds Tryz.pinned (.plain (OpenSpec.ofChange hearsSpec)) hearsCard

/-- THE TIED CARD OF 'fascinekeep.Any'. -/
def anyCard : Claim7 := { stood := { row := anyRow, standIns := [], harness := (true, "3e2c85565402876060949af1815ff970a513668c364e62b22d14a71bd9017b17"), looks := true }, kinds := [], alts := [], goes := true, laidByText := true, laidKinds := [.data, .called, .pinned], laidTests := true, laidLooks := .later }
def AnyCardSaid : Prop := Claim7.holds Tryz.pinned (.plain (OpenSpec.ofChange anySpec)) anyCard

/-- THE TIED CARD OF 'fascinekeep.Through'. -/
def throughCard : Claim7 := { stood := { row := throughRow, standIns := [], harness := (true, "3e2c85565402876060949af1815ff970a513668c364e62b22d14a71bd9017b17"), looks := true }, kinds := [], alts := [], goes := true, laidByText := true, laidKinds := [.data, .called, .pinned], laidTests := true, laidLooks := .later }
def ThroughCardSaid : Prop := Claim7.holds Tryz.pinned (.plain (OpenSpec.ofChange throughSpec)) throughCard

/-- THE TIED CARD OF 'fascinelaw.All'. -/
def allCard : Claim7 := { stood := { row := allRow, standIns := [], harness := (true, "3e2c85565402876060949af1815ff970a513668c364e62b22d14a71bd9017b17"), looks := true }, kinds := [], alts := [], goes := true, laidByText := true, laidKinds := [.data, .called, .pinned], laidTests := true, laidLooks := .later }
def AllCardSaid : Prop := Claim7.holds Tryz.pinned (.plain (OpenSpec.ofChange allSpec)) allCard

/-- THE SECOND FORM's CARD OF 'fascinelaw.Hears'. -/
def hearsUptoCard : Claim7 := { stood := { row := hearsUptoRow, standIns := [], harness := (true, "3e2c85565402876060949af1815ff970a513668c364e62b22d14a71bd9017b17"), looks := true }, kinds := [], alts := [], goes := true, laidByText := true, laidKinds := [.data, .called, .pinned], laidTests := true, laidLooks := .later }
def HearsUptoCardSaid : Prop := Claim7.holds Tryz.pinned (.plain (OpenSpec.upto hearsSpec)) hearsUptoCard

/-- THE SECOND FORM's CARD OF 'fascinekeep.Any'. -/
def anyUptoCard : Claim7 := { stood := { row := anyUptoRow, standIns := [], harness := (true, "3e2c85565402876060949af1815ff970a513668c364e62b22d14a71bd9017b17"), looks := true }, kinds := [], alts := [], goes := true, laidByText := true, laidKinds := [.data, .called, .pinned], laidTests := true, laidLooks := .later }
def AnyUptoCardSaid : Prop := Claim7.holds Tryz.pinned (.plain (OpenSpec.upto anySpec)) anyUptoCard

/-- THE SECOND FORM's CARD OF 'fascinekeep.Through'. -/
def throughUptoCard : Claim7 := { stood := { row := throughUptoRow, standIns := [], harness := (true, "3e2c85565402876060949af1815ff970a513668c364e62b22d14a71bd9017b17"), looks := true }, kinds := [], alts := [], goes := true, laidByText := true, laidKinds := [.data, .called, .pinned], laidTests := true, laidLooks := .later }
def ThroughUptoCardSaid : Prop := Claim7.holds Tryz.pinned (.plain (OpenSpec.upto throughSpec)) throughUptoCard

/-- THE SECOND FORM's CARD OF 'fascinelaw.All'. -/
def allUptoCard : Claim7 := { stood := { row := allUptoRow, standIns := [], harness := (true, "3e2c85565402876060949af1815ff970a513668c364e62b22d14a71bd9017b17"), looks := true }, kinds := [], alts := [], goes := true, laidByText := true, laidKinds := [.data, .called, .pinned], laidTests := true, laidLooks := .later }
def AllUptoCardSaid : Prop := Claim7.holds Tryz.pinned (.plain (OpenSpec.upto allSpec)) allUptoCard
end Rows
end Go.Proofs.YtmfpiodlecapiaaGreatDoor
