/-
  No cell of these rows narrows 'for every input' (looked for: loops, veiled, ifaces, maps, wideKeys, modest, calm, conditions, laid).
  DERIVED. THE GIVEN ROWS OF THIS SEAT. 5 by the template 'for every input the law returns true; each argument reads behind the call as it read before'; 0 by the template 'total and deterministic' (their statements: YtgmdloiekcifeaaTotals.lean).
  GIVEN WITH THE SEED: the statements are not yours to turn. If you find one false, say at which input.
  Laid BY PROGRAM, IN A SANDBOX (cutbox-rows.mjs): the forced cells as the released guide's own fill.sh prints them over the translation 05e30b6c1a22a4cd… (all of the seat's roots in one cut). By AI agents, Wed Nov 11 2026. No macro, syntax, notation, axiom, sorry.
-/
import Derived.Test.YtgmdloiekcifeaaChecked
import GoSem.Claim
import GoSem.ClaimJoined
import GoSem.ClaimMapViews
import Derived.JoinedTies
import Derived.KernelRfl
namespace Go.Proofs.Ytgmdloiekcifeaa
/- THE CELL 'sum', in the pinned program and in every row, IS THE sha256 OF THE DUMP (.gsa) THAT YtgmdloiekcifeaaProg.lean LOADS. Nothing in Lean hashes anything: it is a label: what it is worth is what the hold of that sum in a sandbox is worth. -/
noncomputable def Try.pinned : Pinned := { name := "ytgmdloiekcifeaa", sum := "05e30b6c1a22a4cd2520c80ab89b1c8e13b83fb4c3f3fdb4b412675273cea31e", checked := Try.checked }
namespace Rows
def none {H : Type} : Left H := { results := [], args := [] }

/-- 'rescriptlaw12.ForkTells': WHATEVER THE INPUT: true; the input reads as it did. -/
def forkTellsSpec : ChangeSpec := { name := "forkTells", fn := fun _ => fun
  | [d1, d2, d3] => { results := [.lit (.bool true)], args := [d1, d2, d3] }
  | _ => none }
def forkTellsRow : OpenClaim := { program := "ytgmdloiekcifeaa", sum := "05e30b6c1a22a4cd2520c80ab89b1c8e13b83fb4c3f3fdb4b412675273cea31e", func := "rescript/rescriptlaw12.ForkTells", spec := "forkTells", unfollowed := true, recurses := true, apart := false }
def ForkTellsSaid : Prop := forkTellsRow.holds Try.pinned (OpenSpec.ofChange forkTellsSpec)

/-- ITS FALSE NEIGHBOUR: 'it returns false'. Refute it at one input. -/
def forkTellsWrong : ChangeSpec := { name := "forkTells", fn := fun _ => fun
  | [d1, d2, d3] => { results := [.lit (.bool false)], args := [d1, d2, d3] }
  | _ => none }
def ForkTellsWrongFalsely : Prop := forkTellsRow.holds Try.pinned (OpenSpec.ofChange forkTellsWrong)

/-- 'rescriptlaw12.ForkLater': WHATEVER THE INPUT: true; the input reads as it did. -/
def forkLaterSpec : ChangeSpec := { name := "forkLater", fn := fun _ => fun
  | [d1, d2, d3] => { results := [.lit (.bool true)], args := [d1, d2, d3] }
  | _ => none }
def forkLaterRow : OpenClaim := { program := "ytgmdloiekcifeaa", sum := "05e30b6c1a22a4cd2520c80ab89b1c8e13b83fb4c3f3fdb4b412675273cea31e", func := "rescript/rescriptlaw12.ForkLater", spec := "forkLater", unfollowed := true, recurses := true, apart := false }
def ForkLaterSaid : Prop := forkLaterRow.holds Try.pinned (OpenSpec.ofChange forkLaterSpec)

/-- ITS FALSE NEIGHBOUR: 'it returns false'. Refute it at one input. -/
def forkLaterWrong : ChangeSpec := { name := "forkLater", fn := fun _ => fun
  | [d1, d2, d3] => { results := [.lit (.bool false)], args := [d1, d2, d3] }
  | _ => none }
def ForkLaterWrongFalsely : Prop := forkLaterRow.holds Try.pinned (OpenSpec.ofChange forkLaterWrong)

/-- 'rescriptlaw12.ForkLatest': WHATEVER THE INPUT: true; the input reads as it did. -/
def forkLatestSpec : ChangeSpec := { name := "forkLatest", fn := fun _ => fun
  | [d1, d2] => { results := [.lit (.bool true)], args := [d1, d2] }
  | _ => none }
def forkLatestRow : OpenClaim := { program := "ytgmdloiekcifeaa", sum := "05e30b6c1a22a4cd2520c80ab89b1c8e13b83fb4c3f3fdb4b412675273cea31e", func := "rescript/rescriptlaw12.ForkLatest", spec := "forkLatest", unfollowed := true, recurses := true, apart := false }
def ForkLatestSaid : Prop := forkLatestRow.holds Try.pinned (OpenSpec.ofChange forkLatestSpec)

/-- ITS FALSE NEIGHBOUR: 'it returns false'. Refute it at one input. -/
def forkLatestWrong : ChangeSpec := { name := "forkLatest", fn := fun _ => fun
  | [d1, d2] => { results := [.lit (.bool false)], args := [d1, d2] }
  | _ => none }
def ForkLatestWrongFalsely : Prop := forkLatestRow.holds Try.pinned (OpenSpec.ofChange forkLatestWrong)

/-- 'rescriptlaw12.ForkEver': WHATEVER THE INPUT: true; the input reads as it did. -/
def forkEverSpec : ChangeSpec := { name := "forkEver", fn := fun _ => fun
  | [d1, d2] => { results := [.lit (.bool true)], args := [d1, d2] }
  | _ => none }
def forkEverRow : OpenClaim := { program := "ytgmdloiekcifeaa", sum := "05e30b6c1a22a4cd2520c80ab89b1c8e13b83fb4c3f3fdb4b412675273cea31e", func := "rescript/rescriptlaw12.ForkEver", spec := "forkEver", unfollowed := true, recurses := true, apart := false }
def ForkEverSaid : Prop := forkEverRow.holds Try.pinned (OpenSpec.ofChange forkEverSpec)

/-- ITS FALSE NEIGHBOUR: 'it returns false'. Refute it at one input. -/
def forkEverWrong : ChangeSpec := { name := "forkEver", fn := fun _ => fun
  | [d1, d2] => { results := [.lit (.bool false)], args := [d1, d2] }
  | _ => none }
def ForkEverWrongFalsely : Prop := forkEverRow.holds Try.pinned (OpenSpec.ofChange forkEverWrong)

/-- 'rescriptlaw12.ForkFewer': WHATEVER THE INPUT: true; the input reads as it did. -/
def forkFewerSpec : ChangeSpec := { name := "forkFewer", fn := fun _ => fun
  | [d1, d2, d3] => { results := [.lit (.bool true)], args := [d1, d2, d3] }
  | _ => none }
def forkFewerRow : OpenClaim := { program := "ytgmdloiekcifeaa", sum := "05e30b6c1a22a4cd2520c80ab89b1c8e13b83fb4c3f3fdb4b412675273cea31e", func := "rescript/rescriptlaw12.ForkFewer", spec := "forkFewer", unfollowed := true, recurses := true, apart := false }
def ForkFewerSaid : Prop := forkFewerRow.holds Try.pinned (OpenSpec.ofChange forkFewerSpec)

/-- ITS FALSE NEIGHBOUR: 'it returns false'. Refute it at one input. -/
def forkFewerWrong : ChangeSpec := { name := "forkFewer", fn := fun _ => fun
  | [d1, d2, d3] => { results := [.lit (.bool false)], args := [d1, d2, d3] }
  | _ => none }
def ForkFewerWrongFalsely : Prop := forkFewerRow.holds Try.pinned (OpenSpec.ofChange forkFewerWrong)

/- THE SECOND FORM. 'bulk': how many values and letters a reading holds, each counted each time it is reached (what is shared counts as often as it is met; a slice's spare places count too). A statement '..UptoSaid' is the law's where the arguments, and the package variables that the reading takes, are together of bulk at most 1048576: NARROWER than '..Said'. Prove '..Said' where nothing that the law and all that it calls make is longer than what came in: it says more and counts as full. Else prove '..UptoSaid'. A law counts once. -/
mutual
def uptoBulk {H : Type} : DataW H → Nat
  | .lit (.string bytes) => bytes.length + 1
  | .lit _ => 1
  | .nil => 1
  | .ptr d => uptoBulk d + 1
  | .slice elems spare => uptoBulkAll elems + uptoBulkAll spare + 1
  | .agg parts => uptoBulkAll parts + 1
  | .iface _ d => uptoBulk d + 1
  | .map entries => uptoBulkEntries entries + 1
  | .held _ => 1
def uptoBulkAll {H : Type} : List (DataW H) → Nat
  | [] => 0
  | d :: r => uptoBulk d + uptoBulkAll r
def uptoBulkEntries {H : Type} : List (Lit × DataW H) → Nat
  | [] => 0
  | x :: r => uptoBulkEntry x + uptoBulkEntries r
def uptoBulkEntry {H : Type} : Lit × DataW H → Nat
  | (.string bytes, d) => bytes.length + uptoBulk d + 1
  | (_, d) => uptoBulk d + 1
 end
def uptoSmall : (H : Type) → List (DataW H) → Bool := fun _ ds => decide (uptoBulkAll ds ≤ 1048576)
def OpenSpec.upto (s : _root_.Go.ChangeSpec) : _root_.Go.OpenSpec := { _root_.Go.OpenSpec.ofChange s with cond := some uptoSmall }

/-- 'rescriptlaw12.ForkTells', WHERE WHAT IT READS IS OF BULK AT MOST 1048576: true; the input reads as it did. -/
def forkTellsUptoRow : OpenClaim := { program := "ytgmdloiekcifeaa", sum := "05e30b6c1a22a4cd2520c80ab89b1c8e13b83fb4c3f3fdb4b412675273cea31e", func := "rescript/rescriptlaw12.ForkTells", spec := "forkTells", unfollowed := true, recurses := true, apart := false, narrowed := true }
def ForkTellsUptoSaid : Prop := forkTellsUptoRow.holds Try.pinned (OpenSpec.upto forkTellsSpec)

/-- 'rescriptlaw12.ForkLater', WHERE WHAT IT READS IS OF BULK AT MOST 1048576: true; the input reads as it did. -/
def forkLaterUptoRow : OpenClaim := { program := "ytgmdloiekcifeaa", sum := "05e30b6c1a22a4cd2520c80ab89b1c8e13b83fb4c3f3fdb4b412675273cea31e", func := "rescript/rescriptlaw12.ForkLater", spec := "forkLater", unfollowed := true, recurses := true, apart := false, narrowed := true }
def ForkLaterUptoSaid : Prop := forkLaterUptoRow.holds Try.pinned (OpenSpec.upto forkLaterSpec)

/-- 'rescriptlaw12.ForkLatest', WHERE WHAT IT READS IS OF BULK AT MOST 1048576: true; the input reads as it did. -/
def forkLatestUptoRow : OpenClaim := { program := "ytgmdloiekcifeaa", sum := "05e30b6c1a22a4cd2520c80ab89b1c8e13b83fb4c3f3fdb4b412675273cea31e", func := "rescript/rescriptlaw12.ForkLatest", spec := "forkLatest", unfollowed := true, recurses := true, apart := false, narrowed := true }
def ForkLatestUptoSaid : Prop := forkLatestUptoRow.holds Try.pinned (OpenSpec.upto forkLatestSpec)

/-- 'rescriptlaw12.ForkEver', WHERE WHAT IT READS IS OF BULK AT MOST 1048576: true; the input reads as it did. -/
def forkEverUptoRow : OpenClaim := { program := "ytgmdloiekcifeaa", sum := "05e30b6c1a22a4cd2520c80ab89b1c8e13b83fb4c3f3fdb4b412675273cea31e", func := "rescript/rescriptlaw12.ForkEver", spec := "forkEver", unfollowed := true, recurses := true, apart := false, narrowed := true }
def ForkEverUptoSaid : Prop := forkEverUptoRow.holds Try.pinned (OpenSpec.upto forkEverSpec)

/-- 'rescriptlaw12.ForkFewer', WHERE WHAT IT READS IS OF BULK AT MOST 1048576: true; the input reads as it did. -/
def forkFewerUptoRow : OpenClaim := { program := "ytgmdloiekcifeaa", sum := "05e30b6c1a22a4cd2520c80ab89b1c8e13b83fb4c3f3fdb4b412675273cea31e", func := "rescript/rescriptlaw12.ForkFewer", spec := "forkFewer", unfollowed := true, recurses := true, apart := false, narrowed := true }
def ForkFewerUptoSaid : Prop := forkFewerUptoRow.holds Try.pinned (OpenSpec.upto forkFewerSpec)

end Rows
end Go.Proofs.Ytgmdloiekcifeaa
