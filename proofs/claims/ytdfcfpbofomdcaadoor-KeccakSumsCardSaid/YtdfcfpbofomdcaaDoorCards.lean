/-
  DERIVED. GIVEN WITH THE SEED: THE CARDS: each row of YtdfcfpbofomdcaaDoorRows.lean that lists a variable, with what it lists TIED to the program's text (the seventh form; the later family's looks); each row that meets fmt, with fmt's text TOLD by the authors' own Lean function (tested against real Go, not proved from fmt's source: count such statements apart). THE CARD IS WHAT COUNTS. Prove the row's statement (the work); the ties are given (YtdfcfpbofomdcaaDoorTie.lean); close each card by the builder's one call (the guide's Derived/Test/ToyasCard.lean, 'card_holds'). Laid BY PROGRAM, IN A SANDBOX (cutbox-door.mjs). By AI agents, Wed Nov 11 2026. No macro, syntax, notation, axiom, sorry.
-/
import Derived.Test.YtdfcfpbofomdcaaDoorRows
import GoSem.ClaimSeven
namespace Go.Proofs.YtdfcfpbofomdcaaDoor
namespace Rows

/-- THE TIED CARD OF 'rescriptlaw03.KeccakPermutes'. -/
def keccakPermutesCard : Claim7 := { stood := { row := keccakPermutesRow, standIns := [], harness := (true, "7151c0a6a806ad02e6b5c86118153fb0dc70a255cecf4debe38578cde307bd76"), looks := false }, kinds := [], alts := [], laidByText := true, laidKinds := [.data, .data], laidTests := true, laidLooks := .later }
def KeccakPermutesCardSaid : Prop := Claim7.holds Tryd.pinned (.plain (OpenSpec.ofChange keccakPermutesSpec)) keccakPermutesCard

/-- THE TIED CARD OF 'rescriptlaw03.KeccakSums'. -/
def keccakSumsCard : Claim7 := { stood := { row := keccakSumsRow, standIns := [], harness := (true, "7151c0a6a806ad02e6b5c86118153fb0dc70a255cecf4debe38578cde307bd76"), looks := false }, kinds := [], alts := [], laidByText := true, laidKinds := [.data, .data], laidTests := true, laidLooks := .later }
def KeccakSumsCardSaid : Prop := Claim7.holds Tryd.pinned (.plain (OpenSpec.ofChange keccakSumsSpec)) keccakSumsCard

/-- THE TIED CARD OF 'rescriptlaw03.KeccakApart'. -/
def keccakApartCard : Claim7 := { stood := { row := keccakApartRow, standIns := [], harness := (true, "7151c0a6a806ad02e6b5c86118153fb0dc70a255cecf4debe38578cde307bd76"), looks := false }, kinds := [], alts := [], laidByText := true, laidKinds := [.data, .data], laidTests := true, laidLooks := .later }
def KeccakApartCardSaid : Prop := Claim7.holds Tryd.pinned (.plain (OpenSpec.ofChange keccakApartSpec)) keccakApartCard

/-- THE TIED CARD OF 'rescriptlaw03.KeccakSponge'. -/
def keccakSpongeCard : Claim7 := { stood := { row := keccakSpongeRow, standIns := [], harness := (true, "7151c0a6a806ad02e6b5c86118153fb0dc70a255cecf4debe38578cde307bd76"), looks := false }, kinds := [], alts := [], laidByText := true, laidKinds := [.data, .data], laidTests := true, laidLooks := .later }
def KeccakSpongeCardSaid : Prop := Claim7.holds Tryd.pinned (.plain (OpenSpec.ofChange keccakSpongeSpec)) keccakSpongeCard

/-- THE TIED CARD OF 'rescriptlaw03.KeccakPads'. -/
def keccakPadsCard : Claim7 := { stood := { row := keccakPadsRow, standIns := [], harness := (true, "7151c0a6a806ad02e6b5c86118153fb0dc70a255cecf4debe38578cde307bd76"), looks := false }, kinds := [], alts := [], laidByText := true, laidKinds := [.data, .data], laidTests := true, laidLooks := .later }
def KeccakPadsCardSaid : Prop := Claim7.holds Tryd.pinned (.plain (OpenSpec.ofChange keccakPadsSpec)) keccakPadsCard

/-- THE SECOND FORM's CARD OF 'rescriptlaw03.KeccakPermutes'. -/
def keccakPermutesUptoCard : Claim7 := { stood := { row := keccakPermutesUptoRow, standIns := [], harness := (true, "7151c0a6a806ad02e6b5c86118153fb0dc70a255cecf4debe38578cde307bd76"), looks := false }, kinds := [], alts := [], laidByText := true, laidKinds := [.data, .data], laidTests := true, laidLooks := .later }
def KeccakPermutesUptoCardSaid : Prop := Claim7.holds Tryd.pinned (.plain (OpenSpec.upto keccakPermutesSpec)) keccakPermutesUptoCard

/-- THE SECOND FORM's CARD OF 'rescriptlaw03.KeccakSums'. -/
def keccakSumsUptoCard : Claim7 := { stood := { row := keccakSumsUptoRow, standIns := [], harness := (true, "7151c0a6a806ad02e6b5c86118153fb0dc70a255cecf4debe38578cde307bd76"), looks := false }, kinds := [], alts := [], laidByText := true, laidKinds := [.data, .data], laidTests := true, laidLooks := .later }
def KeccakSumsUptoCardSaid : Prop := Claim7.holds Tryd.pinned (.plain (OpenSpec.upto keccakSumsSpec)) keccakSumsUptoCard

/-- THE SECOND FORM's CARD OF 'rescriptlaw03.KeccakApart'. -/
def keccakApartUptoCard : Claim7 := { stood := { row := keccakApartUptoRow, standIns := [], harness := (true, "7151c0a6a806ad02e6b5c86118153fb0dc70a255cecf4debe38578cde307bd76"), looks := false }, kinds := [], alts := [], laidByText := true, laidKinds := [.data, .data], laidTests := true, laidLooks := .later }
def KeccakApartUptoCardSaid : Prop := Claim7.holds Tryd.pinned (.plain (OpenSpec.upto keccakApartSpec)) keccakApartUptoCard

/-- THE SECOND FORM's CARD OF 'rescriptlaw03.KeccakSponge'. -/
def keccakSpongeUptoCard : Claim7 := { stood := { row := keccakSpongeUptoRow, standIns := [], harness := (true, "7151c0a6a806ad02e6b5c86118153fb0dc70a255cecf4debe38578cde307bd76"), looks := false }, kinds := [], alts := [], laidByText := true, laidKinds := [.data, .data], laidTests := true, laidLooks := .later }
def KeccakSpongeUptoCardSaid : Prop := Claim7.holds Tryd.pinned (.plain (OpenSpec.upto keccakSpongeSpec)) keccakSpongeUptoCard

/-- THE SECOND FORM's CARD OF 'rescriptlaw03.KeccakPads'. -/
def keccakPadsUptoCard : Claim7 := { stood := { row := keccakPadsUptoRow, standIns := [], harness := (true, "7151c0a6a806ad02e6b5c86118153fb0dc70a255cecf4debe38578cde307bd76"), looks := false }, kinds := [], alts := [], laidByText := true, laidKinds := [.data, .data], laidTests := true, laidLooks := .later }
def KeccakPadsUptoCardSaid : Prop := Claim7.holds Tryd.pinned (.plain (OpenSpec.upto keccakPadsSpec)) keccakPadsUptoCard
end Rows
end Go.Proofs.YtdfcfpbofomdcaaDoor
