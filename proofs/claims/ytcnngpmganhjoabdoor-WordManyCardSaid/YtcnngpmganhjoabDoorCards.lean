/-
  DERIVED. GIVEN WITH THE SEED: THE CARDS: each row of YtcnngpmganhjoabDoorRows.lean that lists a variable, with what it lists TIED to the program's text (the seventh form; the later family's looks); each row that meets fmt, with fmt's text TOLD by the authors' own Lean function (tested against real Go, not proved from fmt's source: count such statements apart). THE CARD IS WHAT COUNTS. Prove the row's statement (the work); the ties are given (YtcnngpmganhjoabDoorTie.lean); close each card by the builder's one call (the guide's Derived/Test/ToyasCard.lean, 'card_holds'). Laid BY PROGRAM, IN A SANDBOX (cutbox-door.mjs). By AI agents, Wed Nov 11 2026. No macro, syntax, notation, axiom, sorry.
-/
import Derived.Test.YtcnngpmganhjoabDoorRows
import GoSem.ClaimSeven
namespace Go.Proofs.YtcnngpmganhjoabDoor
namespace Rows

/-- THE TIED CARD OF 'rescriptlaw01.WordMany'. -/
def wordManyCard : Claim7 := { stood := { row := wordManyRow, standIns := [], harness := (true, "a5af1f8383f7e270494f7dd95ca2a7127574dcbfabf8ba1a94275cce425b80f8"), looks := false }, kinds := [], alts := [], laidByText := true, laidKinds := [.data, .pinned], laidTests := true, laidLooks := .later }
def WordManyCardSaid : Prop := Claim7.holds Tryd.pinned (.plain (OpenSpec.ofChange wordManySpec)) wordManyCard

/-- THE SECOND FORM's CARD OF 'rescriptlaw01.WordMany'. -/
def wordManyUptoCard : Claim7 := { stood := { row := wordManyUptoRow, standIns := [], harness := (true, "a5af1f8383f7e270494f7dd95ca2a7127574dcbfabf8ba1a94275cce425b80f8"), looks := false }, kinds := [], alts := [], laidByText := true, laidKinds := [.data, .pinned], laidTests := true, laidLooks := .later }
def WordManyUptoCardSaid : Prop := Claim7.holds Tryd.pinned (.plain (OpenSpec.upto wordManySpec)) wordManyUptoCard
end Rows
end Go.Proofs.YtcnngpmganhjoabDoor
