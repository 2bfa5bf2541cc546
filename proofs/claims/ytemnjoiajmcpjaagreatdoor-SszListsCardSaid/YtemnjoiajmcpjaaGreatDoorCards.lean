/-
  DERIVED. GIVEN WITH THE SEED: THE CARDS: each row of YtemnjoiajmcpjaaGreatDoorRows.lean that lists a variable, with what it lists TIED to the program's text (the seventh form; the later family's looks); each row that meets fmt, with fmt's text TOLD by the authors' own Lean function (tested against real Go, not proved from fmt's source: count such statements apart). THE CARD IS WHAT COUNTS. Prove the row's statement (the work); the ties are given (YtemnjoiajmcpjaaGreatDoorTie.lean); close each card by the builder's one call (the guide's Derived/Test/ToyasCard.lean, 'card_holds'). Laid BY PROGRAM, IN A SANDBOX (cutbox-door.mjs). By AI agents, Wed Nov 11 2026. No macro, syntax, notation, axiom, sorry.
-/
import Derived.Test.YtemnjoiajmcpjaaGreatDoorRows
import GoSem.ClaimSeven
namespace Go.Proofs.YtemnjoiajmcpjaaGreatDoor
namespace Rows

/-- THE TIED CARD OF 'rescriptlaw08.SszPuts'. -/
def sszPutsCard : Claim7 := { stood := { row := sszPutsRow, standIns := [], harness := (true, "b2898e66cafd2a497133b16d863eee54fbccb72446b473954dd3d5b31e7c4109"), looks := true }, kinds := [], alts := [], laidByText := true, laidKinds := [.data, .pinned], laidTests := true, laidLooks := .later }
def SszPutsCardSaid : Prop := Claim7.holds Tryz.pinned (.plain (OpenSpec.ofChange sszPutsSpec)) sszPutsCard

/-- THE TIED CARD OF 'rescriptlaw08.SszGets'. -/
def sszGetsCard : Claim7 := { stood := { row := sszGetsRow, standIns := [], harness := (true, "b2898e66cafd2a497133b16d863eee54fbccb72446b473954dd3d5b31e7c4109"), looks := true }, kinds := [], alts := [], laidByText := true, laidKinds := [.data, .pinned], laidTests := true, laidLooks := .later }
def SszGetsCardSaid : Prop := Claim7.holds Tryz.pinned (.plain (OpenSpec.ofChange sszGetsSpec)) sszGetsCard

/-- THE TIED CARD OF 'rescriptlaw08.SszBack'. -/
def sszBackCard : Claim7 := { stood := { row := sszBackRow, standIns := [], harness := (true, "b2898e66cafd2a497133b16d863eee54fbccb72446b473954dd3d5b31e7c4109"), looks := true }, kinds := [], alts := [], laidByText := true, laidKinds := [.data, .pinned], laidTests := true, laidLooks := .later }
def SszBackCardSaid : Prop := Claim7.holds Tryz.pinned (.plain (OpenSpec.ofChange sszBackSpec)) sszBackCard

/-- THE TIED CARD OF 'rescriptlaw08.SszOnly'. -/
def sszOnlyCard : Claim7 := { stood := { row := sszOnlyRow, standIns := [], harness := (true, "b2898e66cafd2a497133b16d863eee54fbccb72446b473954dd3d5b31e7c4109"), looks := true }, kinds := [], alts := [], laidByText := true, laidKinds := [.data, .pinned], laidTests := true, laidLooks := .later }
def SszOnlyCardSaid : Prop := Claim7.holds Tryz.pinned (.plain (OpenSpec.ofChange sszOnlySpec)) sszOnlyCard

/-- THE TIED CARD OF 'rescriptlaw08.SszApart'. -/
def sszApartCard : Claim7 := { stood := { row := sszApartRow, standIns := [], harness := (true, "b2898e66cafd2a497133b16d863eee54fbccb72446b473954dd3d5b31e7c4109"), looks := true }, kinds := [], alts := [], laidByText := true, laidKinds := [.data, .pinned], laidTests := true, laidLooks := .later }
def SszApartCardSaid : Prop := Claim7.holds Tryz.pinned (.plain (OpenSpec.ofChange sszApartSpec)) sszApartCard

/-- THE TIED CARD OF 'rescriptlaw08.SszLists'. -/
def sszListsCard : Claim7 := { stood := { row := sszListsRow, standIns := [], harness := (true, "b2898e66cafd2a497133b16d863eee54fbccb72446b473954dd3d5b31e7c4109"), looks := true }, kinds := [], alts := [], laidByText := true, laidKinds := [.data, .pinned], laidTests := true, laidLooks := .later }
def SszListsCardSaid : Prop := Claim7.holds Tryz.pinned (.plain (OpenSpec.ofChange sszListsSpec)) sszListsCard

/-- THE SECOND FORM's CARD OF 'rescriptlaw08.SszPuts'. -/
def sszPutsUptoCard : Claim7 := { stood := { row := sszPutsUptoRow, standIns := [], harness := (true, "b2898e66cafd2a497133b16d863eee54fbccb72446b473954dd3d5b31e7c4109"), looks := true }, kinds := [], alts := [], laidByText := true, laidKinds := [.data, .pinned], laidTests := true, laidLooks := .later }
def SszPutsUptoCardSaid : Prop := Claim7.holds Tryz.pinned (.plain (OpenSpec.upto sszPutsSpec)) sszPutsUptoCard

/-- THE SECOND FORM's CARD OF 'rescriptlaw08.SszGets'. -/
def sszGetsUptoCard : Claim7 := { stood := { row := sszGetsUptoRow, standIns := [], harness := (true, "b2898e66cafd2a497133b16d863eee54fbccb72446b473954dd3d5b31e7c4109"), looks := true }, kinds := [], alts := [], laidByText := true, laidKinds := [.data, .pinned], laidTests := true, laidLooks := .later }
def SszGetsUptoCardSaid : Prop := Claim7.holds Tryz.pinned (.plain (OpenSpec.upto sszGetsSpec)) sszGetsUptoCard

/-- THE SECOND FORM's CARD OF 'rescriptlaw08.SszBack'. -/
def sszBackUptoCard : Claim7 := { stood := { row := sszBackUptoRow, standIns := [], harness := (true, "b2898e66cafd2a497133b16d863eee54fbccb72446b473954dd3d5b31e7c4109"), looks := true }, kinds := [], alts := [], laidByText := true, laidKinds := [.data, .pinned], laidTests := true, laidLooks := .later }
def SszBackUptoCardSaid : Prop := Claim7.holds Tryz.pinned (.plain (OpenSpec.upto sszBackSpec)) sszBackUptoCard

/-- THE SECOND FORM's CARD OF 'rescriptlaw08.SszOnly'. -/
def sszOnlyUptoCard : Claim7 := { stood := { row := sszOnlyUptoRow, standIns := [], harness := (true, "b2898e66cafd2a497133b16d863eee54fbccb72446b473954dd3d5b31e7c4109"), looks := true }, kinds := [], alts := [], laidByText := true, laidKinds := [.data, .pinned], laidTests := true, laidLooks := .later }
def SszOnlyUptoCardSaid : Prop := Claim7.holds Tryz.pinned (.plain (OpenSpec.upto sszOnlySpec)) sszOnlyUptoCard

/-- THE SECOND FORM's CARD OF 'rescriptlaw08.SszApart'. -/
def sszApartUptoCard : Claim7 := { stood := { row := sszApartUptoRow, standIns := [], harness := (true, "b2898e66cafd2a497133b16d863eee54fbccb72446b473954dd3d5b31e7c4109"), looks := true }, kinds := [], alts := [], laidByText := true, laidKinds := [.data, .pinned], laidTests := true, laidLooks := .later }
def SszApartUptoCardSaid : Prop := Claim7.holds Tryz.pinned (.plain (OpenSpec.upto sszApartSpec)) sszApartUptoCard

/-- THE SECOND FORM's CARD OF 'rescriptlaw08.SszLists'. -/
def sszListsUptoCard : Claim7 := { stood := { row := sszListsUptoRow, standIns := [], harness := (true, "b2898e66cafd2a497133b16d863eee54fbccb72446b473954dd3d5b31e7c4109"), looks := true }, kinds := [], alts := [], laidByText := true, laidKinds := [.data, .pinned], laidTests := true, laidLooks := .later }
def SszListsUptoCardSaid : Prop := Claim7.holds Tryz.pinned (.plain (OpenSpec.upto sszListsSpec)) sszListsUptoCard
end Rows
end Go.Proofs.YtemnjoiajmcpjaaGreatDoor
