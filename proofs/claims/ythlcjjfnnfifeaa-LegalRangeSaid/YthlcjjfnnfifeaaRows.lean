/-
  No cell of these rows narrows 'for every input' (looked for: loops, veiled, ifaces, maps, wideKeys, modest, calm, conditions, laid).
  DERIVED. THE GIVEN ROWS OF THIS SEAT. 4 by the template 'for every input the law returns true; each argument reads behind the call as it read before'; 0 by the template 'total and deterministic' (their statements: YthlcjjfnnfifeaaTotals.lean).
  GIVEN WITH THE SEED: the statements are not yours to turn. If you find one false, say at which input.
  Laid BY PROGRAM, IN A SANDBOX (cutbox-rows.mjs): the forced cells as the released guide's own fill.sh prints them over the translation c9947fa93d0d0bbf… (all of the seat's roots in one cut). By AI agents, Wed Nov 11 2026. No macro, syntax, notation, axiom, sorry.
-/
import Derived.Test.YthlcjjfnnfifeaaChecked
import GoSem.Claim
import GoSem.ClaimJoined
import GoSem.ClaimMapViews
import Derived.JoinedTies
import Derived.KernelRfl
namespace Go.Proofs.Ythlcjjfnnfifeaa
/- THE CELL 'sum', in the pinned program and in every row, IS THE sha256 OF THE DUMP (.gsa) THAT YthlcjjfnnfifeaaProg.lean LOADS. Nothing in Lean hashes anything: it is a label: what it is worth is what the hold of that sum in a sandbox is worth. -/
noncomputable def Try.pinned : Pinned := { name := "ythlcjjfnnfifeaa", sum := "c9947fa93d0d0bbfc8e2f50a095b808b7295737b1abf72971e7254e40da3f9e4", checked := Try.checked }
namespace Rows
def none {H : Type} : Left H := { results := [], args := [] }

/-- 'rescriptlaw13.LegalTells': WHATEVER THE INPUT: true; the input reads as it did. -/
def legalTellsSpec : ChangeSpec := { name := "legalTells", fn := fun _ => fun
  | [d1, d2, d3] => { results := [.lit (.bool true)], args := [d1, d2, d3] }
  | _ => none }
def legalTellsRow : OpenClaim := { program := "ythlcjjfnnfifeaa", sum := "c9947fa93d0d0bbfc8e2f50a095b808b7295737b1abf72971e7254e40da3f9e4", func := "rescript/rescriptlaw13.LegalTells", spec := "legalTells", unfollowed := true, recurses := true, plainKeys := false, apart := false }
def LegalTellsSaid : Prop := legalTellsRow.holds Try.pinned (OpenSpec.ofChange legalTellsSpec)

/-- ITS FALSE NEIGHBOUR: 'it returns false'. Refute it at one input. -/
def legalTellsWrong : ChangeSpec := { name := "legalTells", fn := fun _ => fun
  | [d1, d2, d3] => { results := [.lit (.bool false)], args := [d1, d2, d3] }
  | _ => none }
def LegalTellsWrongFalsely : Prop := legalTellsRow.holds Try.pinned (OpenSpec.ofChange legalTellsWrong)

/-- 'rescriptlaw13.LegalRange': WHATEVER THE INPUT: true; the input reads as it did. -/
def legalRangeSpec : ChangeSpec := { name := "legalRange", fn := fun _ => fun
  | [d1, d2, d3] => { results := [.lit (.bool true)], args := [d1, d2, d3] }
  | _ => none }
def legalRangeRow : OpenClaim := { program := "ythlcjjfnnfifeaa", sum := "c9947fa93d0d0bbfc8e2f50a095b808b7295737b1abf72971e7254e40da3f9e4", func := "rescript/rescriptlaw13.LegalRange", spec := "legalRange", unfollowed := true, recurses := true, plainKeys := false, apart := false }
def LegalRangeSaid : Prop := legalRangeRow.holds Try.pinned (OpenSpec.ofChange legalRangeSpec)

/-- ITS FALSE NEIGHBOUR: 'it returns false'. Refute it at one input. -/
def legalRangeWrong : ChangeSpec := { name := "legalRange", fn := fun _ => fun
  | [d1, d2, d3] => { results := [.lit (.bool false)], args := [d1, d2, d3] }
  | _ => none }
def LegalRangeWrongFalsely : Prop := legalRangeRow.holds Try.pinned (OpenSpec.ofChange legalRangeWrong)

/-- 'rescriptlaw13.LegalEach': WHATEVER THE INPUT: true; the input reads as it did. -/
def legalEachSpec : ChangeSpec := { name := "legalEach", fn := fun _ => fun
  | [d1, d2] => { results := [.lit (.bool true)], args := [d1, d2] }
  | _ => none }
def legalEachRow : OpenClaim := { program := "ythlcjjfnnfifeaa", sum := "c9947fa93d0d0bbfc8e2f50a095b808b7295737b1abf72971e7254e40da3f9e4", func := "rescript/rescriptlaw13.LegalEach", spec := "legalEach", unfollowed := true, recurses := true, plainKeys := false, apart := false }
def LegalEachSaid : Prop := legalEachRow.holds Try.pinned (OpenSpec.ofChange legalEachSpec)

/-- ITS FALSE NEIGHBOUR: 'it returns false'. Refute it at one input. -/
def legalEachWrong : ChangeSpec := { name := "legalEach", fn := fun _ => fun
  | [d1, d2] => { results := [.lit (.bool false)], args := [d1, d2] }
  | _ => none }
def LegalEachWrongFalsely : Prop := legalEachRow.holds Try.pinned (OpenSpec.ofChange legalEachWrong)

/-- 'rescriptlaw13.LegalGrows': WHATEVER THE INPUT: true; the input reads as it did. -/
def legalGrowsSpec : ChangeSpec := { name := "legalGrows", fn := fun _ => fun
  | [d1, d2, d3, d4, d5] => { results := [.lit (.bool true)], args := [d1, d2, d3, d4, d5] }
  | _ => none }
def legalGrowsRow : OpenClaim := { program := "ythlcjjfnnfifeaa", sum := "c9947fa93d0d0bbfc8e2f50a095b808b7295737b1abf72971e7254e40da3f9e4", func := "rescript/rescriptlaw13.LegalGrows", spec := "legalGrows", unfollowed := true, recurses := true, plainKeys := false, apart := false }
def LegalGrowsSaid : Prop := legalGrowsRow.holds Try.pinned (OpenSpec.ofChange legalGrowsSpec)

/-- ITS FALSE NEIGHBOUR: 'it returns false'. Refute it at one input. -/
def legalGrowsWrong : ChangeSpec := { name := "legalGrows", fn := fun _ => fun
  | [d1, d2, d3, d4, d5] => { results := [.lit (.bool false)], args := [d1, d2, d3, d4, d5] }
  | _ => none }
def LegalGrowsWrongFalsely : Prop := legalGrowsRow.holds Try.pinned (OpenSpec.ofChange legalGrowsWrong)

/- THE SECOND FORM. 'bulk': how many values and letters a reading holds, each counted each time it is reached (what is shared counts as often as it is met; a slice's spare places count too). A statement '..UptoSaid' is the law's where the arguments, and the package variables that the reading takes, are together of bulk at most 1048576: NARROWER than '..Said'. Prove '..Said' where nothing that the law and all that it calls make is longer than what came in: it says more and counts as full. Else prove '..UptoSaid'. A law counts once. -/
mutual
def uptoBulk {H : Type} : DataW H → Nat
  | .lit (.string bytes) => bytes.length + 1
  | .lit _ => 1
  | .nil => 1
  | .ptr d => uptoBulk d + 1
  | .slice elems spare => uptoBulkAll elems + uptoBulkAll spare + 1
  | .agg parts => uptoBulkAll parts + 1
  | .iface _ d => uptoBulk d + 1
  | .map entries => uptoBulkEntries entries + 1
  | .held _ => 1
def uptoBulkAll {H : Type} : List (DataW H) → Nat
  | [] => 0
  | d :: r => uptoBulk d + uptoBulkAll r
def uptoBulkEntries {H : Type} : List (Lit × DataW H) → Nat
  | [] => 0
  | x :: r => uptoBulkEntry x + uptoBulkEntries r
def uptoBulkEntry {H : Type} : Lit × DataW H → Nat
  | (.string bytes, d) => bytes.length + uptoBulk d + 1
  | (_, d) => uptoBulk d + 1
 end
def uptoSmall : (H : Type) → List (DataW H) → Bool := fun _ ds => decide (uptoBulkAll ds ≤ 1048576)
def OpenSpec.upto (s : _root_.Go.ChangeSpec) : _root_.Go.OpenSpec := { _root_.Go.OpenSpec.ofChange s with cond := some uptoSmall }

/-- 'rescriptlaw13.LegalTells', WHERE WHAT IT READS IS OF BULK AT MOST 1048576: true; the input reads as it did. -/
def legalTellsUptoRow : OpenClaim := { program := "ythlcjjfnnfifeaa", sum := "c9947fa93d0d0bbfc8e2f50a095b808b7295737b1abf72971e7254e40da3f9e4", func := "rescript/rescriptlaw13.LegalTells", spec := "legalTells", unfollowed := true, recurses := true, plainKeys := false, apart := false, narrowed := true }
def LegalTellsUptoSaid : Prop := legalTellsUptoRow.holds Try.pinned (OpenSpec.upto legalTellsSpec)

/-- 'rescriptlaw13.LegalRange', WHERE WHAT IT READS IS OF BULK AT MOST 1048576: true; the input reads as it did. -/
def legalRangeUptoRow : OpenClaim := { program := "ythlcjjfnnfifeaa", sum := "c9947fa93d0d0bbfc8e2f50a095b808b7295737b1abf72971e7254e40da3f9e4", func := "rescript/rescriptlaw13.LegalRange", spec := "legalRange", unfollowed := true, recurses := true, plainKeys := false, apart := false, narrowed := true }
def LegalRangeUptoSaid : Prop := legalRangeUptoRow.holds Try.pinned (OpenSpec.upto legalRangeSpec)

/-- 'rescriptlaw13.LegalEach', WHERE WHAT IT READS IS OF BULK AT MOST 1048576: true; the input reads as it did. -/
def legalEachUptoRow : OpenClaim := { program := "ythlcjjfnnfifeaa", sum := "c9947fa93d0d0bbfc8e2f50a095b808b7295737b1abf72971e7254e40da3f9e4", func := "rescript/rescriptlaw13.LegalEach", spec := "legalEach", unfollowed := true, recurses := true, plainKeys := false, apart := false, narrowed := true }
def LegalEachUptoSaid : Prop := legalEachUptoRow.holds Try.pinned (OpenSpec.upto legalEachSpec)

/-- 'rescriptlaw13.LegalGrows', WHERE WHAT IT READS IS OF BULK AT MOST 1048576: true; the input reads as it did. -/
def legalGrowsUptoRow : OpenClaim := { program := "ythlcjjfnnfifeaa", sum := "c9947fa93d0d0bbfc8e2f50a095b808b7295737b1abf72971e7254e40da3f9e4", func := "rescript/rescriptlaw13.LegalGrows", spec := "legalGrows", unfollowed := true, recurses := true, plainKeys := false, apart := false, narrowed := true }
def LegalGrowsUptoSaid : Prop := legalGrowsUptoRow.holds Try.pinned (OpenSpec.upto legalGrowsSpec)

end Rows
end Go.Proofs.Ythlcjjfnnfifeaa
