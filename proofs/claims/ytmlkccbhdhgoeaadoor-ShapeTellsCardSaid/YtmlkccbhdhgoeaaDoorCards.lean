/-
  DERIVED. GIVEN WITH THE SEED: THE CARDS: each row of YtmlkccbhdhgoeaaDoorRows.lean that lists a variable, with what it lists TIED to the program's text (the seventh form; the later family's looks); each row that meets fmt, with fmt's text TOLD by the authors' own Lean function (tested against real Go, not proved from fmt's source: count such statements apart). THE CARD IS WHAT COUNTS. Prove the row's statement (the work); the ties are given (YtmlkccbhdhgoeaaDoorTie.lean); close each card by the builder's one call (the guide's Derived/Test/ToyasCard.lean, 'card_holds'). Laid BY PROGRAM, IN A SANDBOX (cutbox-door.mjs). By AI agents, Wed Nov 11 2026. No macro, syntax, notation, axiom, sorry.
-/
import Derived.Test.YtmlkccbhdhgoeaaDoorRows
import GoSem.ClaimSeven
namespace Go.Proofs.YtmlkccbhdhgoeaaDoor
namespace Rows

/-- THE TIED CARD OF 'rescriptlaw07.ShapeTells'. -/
def shapeTellsCard : Claim7 := { stood := { row := shapeTellsRow, standIns := [], harness := (true, "9a1b7f32432e0b91430cc361ad56aac0a9b791f64f1620453fe7b6093e348bc1"), looks := false }, kinds := [], alts := [], laidByText := true, laidKinds := [.data, .pinned], laidTests := true, laidLooks := .later }
def ShapeTellsCardSaid : Prop := Claim7.holds Tryd.pinned (.plain (OpenSpec.ofChange shapeTellsSpec)) shapeTellsCard

/-- THE TIED CARD OF 'rescriptlaw07.ShapeFits'. -/
def shapeFitsCard : Claim7 := { stood := { row := shapeFitsRow, standIns := [], harness := (true, "9a1b7f32432e0b91430cc361ad56aac0a9b791f64f1620453fe7b6093e348bc1"), looks := false }, kinds := [], alts := [], laidByText := true, laidKinds := [.data, .pinned], laidTests := true, laidLooks := .later }
def ShapeFitsCardSaid : Prop := Claim7.holds Tryd.pinned (.plain (OpenSpec.ofChange shapeFitsSpec)) shapeFitsCard

/-- THE TIED CARD OF 'rescriptlaw07.ShapeParts'. -/
def shapePartsCard : Claim7 := { stood := { row := shapePartsRow, standIns := [], harness := (true, "9a1b7f32432e0b91430cc361ad56aac0a9b791f64f1620453fe7b6093e348bc1"), looks := false }, kinds := [], alts := [], laidByText := true, laidKinds := [.data, .pinned], laidTests := true, laidLooks := .later }
def ShapePartsCardSaid : Prop := Claim7.holds Tryd.pinned (.plain (OpenSpec.ofChange shapePartsSpec)) shapePartsCard

/-- THE TIED CARD OF 'rescriptlaw07.ShapeFixed'. -/
def shapeFixedCard : Claim7 := { stood := { row := shapeFixedRow, standIns := [], harness := (true, "9a1b7f32432e0b91430cc361ad56aac0a9b791f64f1620453fe7b6093e348bc1"), looks := false }, kinds := [], alts := [], laidByText := true, laidKinds := [.data, .pinned], laidTests := true, laidLooks := .later }
def ShapeFixedCardSaid : Prop := Claim7.holds Tryd.pinned (.plain (OpenSpec.ofChange shapeFixedSpec)) shapeFixedCard

/-- THE TIED CARD OF 'rescriptlaw07.ShapeDeep'. -/
def shapeDeepCard : Claim7 := { stood := { row := shapeDeepRow, standIns := [], harness := (true, "9a1b7f32432e0b91430cc361ad56aac0a9b791f64f1620453fe7b6093e348bc1"), looks := false }, kinds := [], alts := [], laidByText := true, laidKinds := [.data, .pinned], laidTests := true, laidLooks := .later }
def ShapeDeepCardSaid : Prop := Claim7.holds Tryd.pinned (.plain (OpenSpec.ofChange shapeDeepSpec)) shapeDeepCard

/-- THE SECOND FORM's CARD OF 'rescriptlaw07.ShapeTells'. -/
def shapeTellsUptoCard : Claim7 := { stood := { row := shapeTellsUptoRow, standIns := [], harness := (true, "9a1b7f32432e0b91430cc361ad56aac0a9b791f64f1620453fe7b6093e348bc1"), looks := false }, kinds := [], alts := [], laidByText := true, laidKinds := [.data, .pinned], laidTests := true, laidLooks := .later }
def ShapeTellsUptoCardSaid : Prop := Claim7.holds Tryd.pinned (.plain (OpenSpec.upto shapeTellsSpec)) shapeTellsUptoCard

/-- THE SECOND FORM's CARD OF 'rescriptlaw07.ShapeFits'. -/
def shapeFitsUptoCard : Claim7 := { stood := { row := shapeFitsUptoRow, standIns := [], harness := (true, "9a1b7f32432e0b91430cc361ad56aac0a9b791f64f1620453fe7b6093e348bc1"), looks := false }, kinds := [], alts := [], laidByText := true, laidKinds := [.data, .pinned], laidTests := true, laidLooks := .later }
def ShapeFitsUptoCardSaid : Prop := Claim7.holds Tryd.pinned (.plain (OpenSpec.upto shapeFitsSpec)) shapeFitsUptoCard

/-- THE SECOND FORM's CARD OF 'rescriptlaw07.ShapeParts'. -/
def shapePartsUptoCard : Claim7 := { stood := { row := shapePartsUptoRow, standIns := [], harness := (true, "9a1b7f32432e0b91430cc361ad56aac0a9b791f64f1620453fe7b6093e348bc1"), looks := false }, kinds := [], alts := [], laidByText := true, laidKinds := [.data, .pinned], laidTests := true, laidLooks := .later }
def ShapePartsUptoCardSaid : Prop := Claim7.holds Tryd.pinned (.plain (OpenSpec.upto shapePartsSpec)) shapePartsUptoCard

/-- THE SECOND FORM's CARD OF 'rescriptlaw07.ShapeFixed'. -/
def shapeFixedUptoCard : Claim7 := { stood := { row := shapeFixedUptoRow, standIns := [], harness := (true, "9a1b7f32432e0b91430cc361ad56aac0a9b791f64f1620453fe7b6093e348bc1"), looks := false }, kinds := [], alts := [], laidByText := true, laidKinds := [.data, .pinned], laidTests := true, laidLooks := .later }
def ShapeFixedUptoCardSaid : Prop := Claim7.holds Tryd.pinned (.plain (OpenSpec.upto shapeFixedSpec)) shapeFixedUptoCard

/-- THE SECOND FORM's CARD OF 'rescriptlaw07.ShapeDeep'. -/
def shapeDeepUptoCard : Claim7 := { stood := { row := shapeDeepUptoRow, standIns := [], harness := (true, "9a1b7f32432e0b91430cc361ad56aac0a9b791f64f1620453fe7b6093e348bc1"), looks := false }, kinds := [], alts := [], laidByText := true, laidKinds := [.data, .pinned], laidTests := true, laidLooks := .later }
def ShapeDeepUptoCardSaid : Prop := Claim7.holds Tryd.pinned (.plain (OpenSpec.upto shapeDeepSpec)) shapeDeepUptoCard
end Rows
end Go.Proofs.YtmlkccbhdhgoeaaDoor
