/-
  DERIVED. GIVEN WITH THE SEED: THE CARDS: each row of YtebjhbeaknokkaaGreatDoorRows.lean that lists a variable, with what it lists TIED to the program's text (the seventh form; the later family's looks); each row that meets fmt, with fmt's text TOLD by the authors' own Lean function (tested against real Go, not proved from fmt's source: count such statements apart). THE CARD IS WHAT COUNTS. Prove the row's statement (the work); the ties are given (YtebjhbeaknokkaaGreatDoorTie.lean); close each card by the builder's one call (the guide's Derived/Test/ToyasCard.lean, 'card_holds'). Laid BY PROGRAM, IN A SANDBOX (cutbox-door.mjs). By AI agents, Wed Nov 11 2026. No macro, syntax, notation, axiom, sorry.
-/
import Derived.Test.YtebjhbeaknokkaaGreatDoorRows
import GoSem.ClaimSeven
namespace Go.Proofs.YtebjhbeaknokkaaGreatDoor
namespace Rows

/-- THE TIED CARD OF 'rescriptlaw11.ReceiptEncodes'. -/
def receiptEncodesCard : Claim7 := { stood := { row := receiptEncodesRow, standIns := [], harness := (true, "cddb87dc68996a33eedd09dbfa9b229db863f312da756b2e492cf670a9a2d93a"), looks := true }, kinds := [], alts := [], laidByText := true, laidKinds := [.data, .handle, .pinned], laidTests := true, laidLooks := .later }
def ReceiptEncodesCardSaid : Prop := Claim7.holds Tryz.pinned (.plain (OpenSpec.ofChange receiptEncodesSpec)) receiptEncodesCard

/-- THE TIED CARD OF 'rescriptlaw11.ReceiptDecodes'. -/
def receiptDecodesCard : Claim7 := { stood := { row := receiptDecodesRow, standIns := [], harness := (true, "cddb87dc68996a33eedd09dbfa9b229db863f312da756b2e492cf670a9a2d93a"), looks := true }, kinds := [], alts := [], laidByText := true, laidKinds := [.data, .handle, .pinned], laidTests := true, laidLooks := .later }
def ReceiptDecodesCardSaid : Prop := Claim7.holds Tryz.pinned (.plain (OpenSpec.ofChange receiptDecodesSpec)) receiptDecodesCard

/-- THE SECOND FORM's CARD OF 'rescriptlaw11.ReceiptEncodes'. -/
def receiptEncodesUptoCard : Claim7 := { stood := { row := receiptEncodesUptoRow, standIns := [], harness := (true, "cddb87dc68996a33eedd09dbfa9b229db863f312da756b2e492cf670a9a2d93a"), looks := true }, kinds := [], alts := [], laidByText := true, laidKinds := [.data, .handle, .pinned], laidTests := true, laidLooks := .later }
def ReceiptEncodesUptoCardSaid : Prop := Claim7.holds Tryz.pinned (.plain (OpenSpec.upto receiptEncodesSpec)) receiptEncodesUptoCard

/-- THE SECOND FORM's CARD OF 'rescriptlaw11.ReceiptDecodes'. -/
def receiptDecodesUptoCard : Claim7 := { stood := { row := receiptDecodesUptoRow, standIns := [], harness := (true, "cddb87dc68996a33eedd09dbfa9b229db863f312da756b2e492cf670a9a2d93a"), looks := true }, kinds := [], alts := [], laidByText := true, laidKinds := [.data, .handle, .pinned], laidTests := true, laidLooks := .later }
def ReceiptDecodesUptoCardSaid : Prop := Claim7.holds Tryz.pinned (.plain (OpenSpec.upto receiptDecodesSpec)) receiptDecodesUptoCard
end Rows
end Go.Proofs.YtebjhbeaknokkaaGreatDoor
