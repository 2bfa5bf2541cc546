/-
  DERIVED. GIVEN WITH THE SEED: THE CARDS: each row of YtmcchfgblecgoaaDoorRows.lean that lists a variable, with what it lists TIED to the program's text (the seventh form; the later family's looks); each row that meets fmt, with fmt's text TOLD by the authors' own Lean function (tested against real Go, not proved from fmt's source: count such statements apart). THE CARD IS WHAT COUNTS. Prove the row's statement (the work); the ties are given (YtmcchfgblecgoaaDoorTie.lean); close each card by the builder's one call (the guide's Derived/Test/ToyasCard.lean, 'card_holds'). Laid BY PROGRAM, IN A SANDBOX (cutbox-door.mjs). By AI agents, Wed Nov 11 2026. No macro, syntax, notation, axiom, sorry.
-/
import Derived.Test.YtmcchfgblecgoaaDoorRows
import GoSem.ClaimSeven
namespace Go.Proofs.YtmcchfgblecgoaaDoor
namespace Rows

/-- THE TIED CARD OF 'rescriptlaw02.NumWrites'. -/
def numWritesCard : Claim7 := { stood := { row := numWritesRow, standIns := [], harness := (true, "141a6b28367e4c402ddaad9430e2af5bf28e2ae4a354e443e8c115e26d0c4ba7"), looks := false }, kinds := [], alts := [], laidByText := true, laidKinds := [.data, .pinned], laidTests := true, laidLooks := .later }
def NumWritesCardSaid : Prop := Claim7.holds Tryd.pinned (.plain (OpenSpec.ofChange numWritesSpec)) numWritesCard

/-- THE TIED CARD OF 'rescriptlaw02.NumBack'. -/
def numBackCard : Claim7 := { stood := { row := numBackRow, standIns := [], harness := (true, "141a6b28367e4c402ddaad9430e2af5bf28e2ae4a354e443e8c115e26d0c4ba7"), looks := false }, kinds := [], alts := [], laidByText := true, laidKinds := [.data, .pinned], laidTests := true, laidLooks := .later }
def NumBackCardSaid : Prop := Claim7.holds Tryd.pinned (.plain (OpenSpec.ofChange numBackSpec)) numBackCard

/-- THE TIED CARD OF 'rescriptlaw02.NumOnly'. -/
def numOnlyCard : Claim7 := { stood := { row := numOnlyRow, standIns := [], harness := (true, "141a6b28367e4c402ddaad9430e2af5bf28e2ae4a354e443e8c115e26d0c4ba7"), looks := false }, kinds := [], alts := [], laidByText := true, laidKinds := [.data, .pinned], laidTests := true, laidLooks := .later }
def NumOnlyCardSaid : Prop := Claim7.holds Tryd.pinned (.plain (OpenSpec.ofChange numOnlySpec)) numOnlyCard

/-- THE TIED CARD OF 'rescriptlaw02.NumApart'. -/
def numApartCard : Claim7 := { stood := { row := numApartRow, standIns := [], harness := (true, "141a6b28367e4c402ddaad9430e2af5bf28e2ae4a354e443e8c115e26d0c4ba7"), looks := false }, kinds := [], alts := [], laidByText := true, laidKinds := [.data, .pinned], laidTests := true, laidLooks := .later }
def NumApartCardSaid : Prop := Claim7.holds Tryd.pinned (.plain (OpenSpec.ofChange numApartSpec)) numApartCard

/-- THE SECOND FORM's CARD OF 'rescriptlaw02.NumWrites'. -/
def numWritesUptoCard : Claim7 := { stood := { row := numWritesUptoRow, standIns := [], harness := (true, "141a6b28367e4c402ddaad9430e2af5bf28e2ae4a354e443e8c115e26d0c4ba7"), looks := false }, kinds := [], alts := [], laidByText := true, laidKinds := [.data, .pinned], laidTests := true, laidLooks := .later }
def NumWritesUptoCardSaid : Prop := Claim7.holds Tryd.pinned (.plain (OpenSpec.upto numWritesSpec)) numWritesUptoCard

/-- THE SECOND FORM's CARD OF 'rescriptlaw02.NumBack'. -/
def numBackUptoCard : Claim7 := { stood := { row := numBackUptoRow, standIns := [], harness := (true, "141a6b28367e4c402ddaad9430e2af5bf28e2ae4a354e443e8c115e26d0c4ba7"), looks := false }, kinds := [], alts := [], laidByText := true, laidKinds := [.data, .pinned], laidTests := true, laidLooks := .later }
def NumBackUptoCardSaid : Prop := Claim7.holds Tryd.pinned (.plain (OpenSpec.upto numBackSpec)) numBackUptoCard

/-- THE SECOND FORM's CARD OF 'rescriptlaw02.NumOnly'. -/
def numOnlyUptoCard : Claim7 := { stood := { row := numOnlyUptoRow, standIns := [], harness := (true, "141a6b28367e4c402ddaad9430e2af5bf28e2ae4a354e443e8c115e26d0c4ba7"), looks := false }, kinds := [], alts := [], laidByText := true, laidKinds := [.data, .pinned], laidTests := true, laidLooks := .later }
def NumOnlyUptoCardSaid : Prop := Claim7.holds Tryd.pinned (.plain (OpenSpec.upto numOnlySpec)) numOnlyUptoCard

/-- THE SECOND FORM's CARD OF 'rescriptlaw02.NumApart'. -/
def numApartUptoCard : Claim7 := { stood := { row := numApartUptoRow, standIns := [], harness := (true, "141a6b28367e4c402ddaad9430e2af5bf28e2ae4a354e443e8c115e26d0c4ba7"), looks := false }, kinds := [], alts := [], laidByText := true, laidKinds := [.data, .pinned], laidTests := true, laidLooks := .later }
def NumApartUptoCardSaid : Prop := Claim7.holds Tryd.pinned (.plain (OpenSpec.upto numApartSpec)) numApartUptoCard
end Rows
end Go.Proofs.YtmcchfgblecgoaaDoor
