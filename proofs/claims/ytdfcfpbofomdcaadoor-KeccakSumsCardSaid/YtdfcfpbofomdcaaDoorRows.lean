/-
  NARROWER THAN 'FOR EVERY INPUT', by the rows' own cells (each row's printed sentence says how): KeccakPermutes: laid · KeccakSums: laid · KeccakApart: laid · KeccakSponge: laid · KeccakPads: laid.
  DERIVED. THE GIVEN ROWS OF THIS SEAT. 5 by the template 'for every input the law returns true; each argument reads behind the call as it read before'; 0 by the template 'total and deterministic' (their statements: YtdfcfpbofomdcaaDoorTotals.lean).
  GIVEN WITH THE SEED: the statements are not yours to turn. If you find one false, say at which input.
  Laid BY PROGRAM, IN A SANDBOX (cutbox-rows.mjs): the forced cells as the released guide's own fill.sh prints them over the translation 0e8a6b4f8a64ac58… (all of the seat's roots in one cut). By AI agents, Wed Nov 11 2026. No macro, syntax, notation, axiom, sorry.
-/
import Derived.Test.YtdfcfpbofomdcaaDoorChecked
import GoSem.Claim
import GoSem.ClaimJoined
import GoSem.ClaimMapViews
import Derived.JoinedTies
import Derived.KernelRfl
namespace Go.Proofs.YtdfcfpbofomdcaaDoor
/- THE CELL 'sum', in the pinned program and in every row, IS THE sha256 OF THE DUMP (.gsa) THAT YtdfcfpbofomdcaaDoorProg.lean LOADS. Nothing in Lean hashes anything: it is a label: what it is worth is what the hold of that sum in a sandbox is worth. -/
noncomputable def Tryd.pinned : Pinned := { name := "ytdfcfpbofomdcaadoor", sum := "0e8a6b4f8a64ac585e54d37793765ad8e6ea184330b930dd2a63864f85fa5837", checked := Tryd.checked }
namespace Rows
def none {H : Type} : Left H := { results := [], args := [] }

/- WHAT THE LISTED PACKAGE-LEVEL VARIABLES READ AS WHEN THE CALL BEGINS. Each datum BY PROGRAM (the guide's laid-datum.mjs) off the statement by which the dump's own 'gosem.cut.vars' lays the variable. In a bare row this is a premise. The card (YtdfcfpbofomdcaaDoorCards.lean) ties it to the program's text. -/
def laid_rescript_keccak_turns {H : Type} : DataW H := .agg [.lit (.int .i64 0), .lit (.int .i64 1), .lit (.int .i64 62), .lit (.int .i64 28), .lit (.int .i64 27), .lit (.int .i64 36), .lit (.int .i64 44), .lit (.int .i64 6), .lit (.int .i64 55), .lit (.int .i64 20), .lit (.int .i64 3), .lit (.int .i64 10), .lit (.int .i64 43), .lit (.int .i64 25), .lit (.int .i64 39), .lit (.int .i64 41), .lit (.int .i64 45), .lit (.int .i64 15), .lit (.int .i64 21), .lit (.int .i64 8), .lit (.int .i64 18), .lit (.int .i64 2), .lit (.int .i64 61), .lit (.int .i64 56), .lit (.int .i64 14)]
def laid_rescript_keccak_numbers {H : Type} : DataW H := .agg [.lit (.int .u64 1), .lit (.int .u64 32898), .lit (.int .u64 9223372036854808714), .lit (.int .u64 9223372039002292224), .lit (.int .u64 32907), .lit (.int .u64 2147483649), .lit (.int .u64 9223372039002292353), .lit (.int .u64 9223372036854808585), .lit (.int .u64 138), .lit (.int .u64 136), .lit (.int .u64 2147516425), .lit (.int .u64 2147483658), .lit (.int .u64 2147516555), .lit (.int .u64 9223372036854775947), .lit (.int .u64 9223372036854808713), .lit (.int .u64 9223372036854808579), .lit (.int .u64 9223372036854808578), .lit (.int .u64 9223372036854775936), .lit (.int .u64 32778), .lit (.int .u64 9223372039002259466), .lit (.int .u64 9223372039002292353), .lit (.int .u64 9223372036854808704), .lit (.int .u64 2147483649), .lit (.int .u64 9223372039002292232)]

/-- 'rescriptlaw03.KeccakPermutes': WHATEVER THE INPUT: true; the input reads as it did. -/
def keccakPermutesSpec : ChangeSpec := { name := "keccakPermutes", fn := fun _ => fun
  | [d] => { results := [.lit (.bool true)], args := [d] }
  | _ => none }
def keccakPermutesRow : OpenClaim := { program := "ytdfcfpbofomdcaadoor", sum := "0e8a6b4f8a64ac585e54d37793765ad8e6ea184330b930dd2a63864f85fa5837", func := "rescript/rescriptlaw03.KeccakPermutes", spec := "keccakPermutes", unfollowed := true, recurses := true, named := ["rescript/keccak.numbers", "rescript/keccak.turns"], apart := false, laid := [("rescript/keccak.turns", laid_rescript_keccak_turns), ("rescript/keccak.numbers", laid_rescript_keccak_numbers)] }
def KeccakPermutesSaid : Prop := keccakPermutesRow.holds Tryd.pinned (OpenSpec.ofChange keccakPermutesSpec)

/-- ITS FALSE NEIGHBOUR: 'it returns false'. Refute it at one input. -/
def keccakPermutesWrong : ChangeSpec := { name := "keccakPermutes", fn := fun _ => fun
  | [d] => { results := [.lit (.bool false)], args := [d] }
  | _ => none }
def KeccakPermutesWrongFalsely : Prop := keccakPermutesRow.holds Tryd.pinned (OpenSpec.ofChange keccakPermutesWrong)

/-- 'rescriptlaw03.KeccakSums': WHATEVER THE INPUT: true; the input reads as it did. -/
def keccakSumsSpec : ChangeSpec := { name := "keccakSums", fn := fun _ => fun
  | [d1, d2] => { results := [.lit (.bool true)], args := [d1, d2] }
  | _ => none }
def keccakSumsRow : OpenClaim := { program := "ytdfcfpbofomdcaadoor", sum := "0e8a6b4f8a64ac585e54d37793765ad8e6ea184330b930dd2a63864f85fa5837", func := "rescript/rescriptlaw03.KeccakSums", spec := "keccakSums", unfollowed := true, recurses := true, named := ["rescript/keccak.numbers", "rescript/keccak.turns"], apart := false, laid := [("rescript/keccak.turns", laid_rescript_keccak_turns), ("rescript/keccak.numbers", laid_rescript_keccak_numbers)] }
def KeccakSumsSaid : Prop := keccakSumsRow.holds Tryd.pinned (OpenSpec.ofChange keccakSumsSpec)

/-- ITS FALSE NEIGHBOUR: 'it returns false'. Refute it at one input. -/
def keccakSumsWrong : ChangeSpec := { name := "keccakSums", fn := fun _ => fun
  | [d1, d2] => { results := [.lit (.bool false)], args := [d1, d2] }
  | _ => none }
def KeccakSumsWrongFalsely : Prop := keccakSumsRow.holds Tryd.pinned (OpenSpec.ofChange keccakSumsWrong)

/-- 'rescriptlaw03.KeccakApart': WHATEVER THE INPUT: true; the input reads as it did. -/
def keccakApartSpec : ChangeSpec := { name := "keccakApart", fn := fun _ => fun
  | [d1, d2] => { results := [.lit (.bool true)], args := [d1, d2] }
  | _ => none }
def keccakApartRow : OpenClaim := { program := "ytdfcfpbofomdcaadoor", sum := "0e8a6b4f8a64ac585e54d37793765ad8e6ea184330b930dd2a63864f85fa5837", func := "rescript/rescriptlaw03.KeccakApart", spec := "keccakApart", unfollowed := true, recurses := true, named := ["rescript/keccak.numbers", "rescript/keccak.turns"], apart := false, laid := [("rescript/keccak.turns", laid_rescript_keccak_turns), ("rescript/keccak.numbers", laid_rescript_keccak_numbers)] }
def KeccakApartSaid : Prop := keccakApartRow.holds Tryd.pinned (OpenSpec.ofChange keccakApartSpec)

/-- ITS FALSE NEIGHBOUR: 'it returns false'. Refute it at one input. -/
def keccakApartWrong : ChangeSpec := { name := "keccakApart", fn := fun _ => fun
  | [d1, d2] => { results := [.lit (.bool false)], args := [d1, d2] }
  | _ => none }
def KeccakApartWrongFalsely : Prop := keccakApartRow.holds Tryd.pinned (OpenSpec.ofChange keccakApartWrong)

/-- 'rescriptlaw03.KeccakSponge': WHATEVER THE INPUT: true; the input reads as it did. -/
def keccakSpongeSpec : ChangeSpec := { name := "keccakSponge", fn := fun _ => fun
  | [d] => { results := [.lit (.bool true)], args := [d] }
  | _ => none }
def keccakSpongeRow : OpenClaim := { program := "ytdfcfpbofomdcaadoor", sum := "0e8a6b4f8a64ac585e54d37793765ad8e6ea184330b930dd2a63864f85fa5837", func := "rescript/rescriptlaw03.KeccakSponge", spec := "keccakSponge", unfollowed := true, recurses := true, named := ["rescript/keccak.numbers", "rescript/keccak.turns"], apart := false, laid := [("rescript/keccak.turns", laid_rescript_keccak_turns), ("rescript/keccak.numbers", laid_rescript_keccak_numbers)] }
def KeccakSpongeSaid : Prop := keccakSpongeRow.holds Tryd.pinned (OpenSpec.ofChange keccakSpongeSpec)

/-- ITS FALSE NEIGHBOUR: 'it returns false'. Refute it at one input. -/
def keccakSpongeWrong : ChangeSpec := { name := "keccakSponge", fn := fun _ => fun
  | [d] => { results := [.lit (.bool false)], args := [d] }
  | _ => none }
def KeccakSpongeWrongFalsely : Prop := keccakSpongeRow.holds Tryd.pinned (OpenSpec.ofChange keccakSpongeWrong)

/-- 'rescriptlaw03.KeccakPads': WHATEVER THE INPUT: true; the input reads as it did. -/
def keccakPadsSpec : ChangeSpec := { name := "keccakPads", fn := fun _ => fun
  | [d1, d2] => { results := [.lit (.bool true)], args := [d1, d2] }
  | _ => none }
def keccakPadsRow : OpenClaim := { program := "ytdfcfpbofomdcaadoor", sum := "0e8a6b4f8a64ac585e54d37793765ad8e6ea184330b930dd2a63864f85fa5837", func := "rescript/rescriptlaw03.KeccakPads", spec := "keccakPads", unfollowed := true, recurses := true, named := ["rescript/keccak.numbers", "rescript/keccak.turns"], apart := false, laid := [("rescript/keccak.turns", laid_rescript_keccak_turns), ("rescript/keccak.numbers", laid_rescript_keccak_numbers)] }
def KeccakPadsSaid : Prop := keccakPadsRow.holds Tryd.pinned (OpenSpec.ofChange keccakPadsSpec)

/-- ITS FALSE NEIGHBOUR: 'it returns false'. Refute it at one input. -/
def keccakPadsWrong : ChangeSpec := { name := "keccakPads", fn := fun _ => fun
  | [d1, d2] => { results := [.lit (.bool false)], args := [d1, d2] }
  | _ => none }
def KeccakPadsWrongFalsely : Prop := keccakPadsRow.holds Tryd.pinned (OpenSpec.ofChange keccakPadsWrong)

/- THE SECOND FORM. 'bulk': how many values and letters a reading holds, each counted each time it is reached (what is shared counts as often as it is met; a slice's spare places count too). A statement '..UptoSaid' is the law's where the arguments, and the package variables that the reading takes, are together of bulk at most 1048576: NARROWER than '..Said'. Prove '..Said' where nothing that the law and all that it calls make is longer than what came in: it says more and counts as full. Else prove '..UptoSaid'. A law counts once. -/
mutual
def uptoBulk {H : Type} : DataW H → Nat
  | .lit (.string bytes) => bytes.length + 1
  | .lit _ => 1
  | .nil => 1
  | .ptr d => uptoBulk d + 1
  | .slice elems spare => uptoBulkAll elems + uptoBulkAll spare + 1
  | .agg parts => uptoBulkAll parts + 1
  | .iface _ d => uptoBulk d + 1
  | .map entries => uptoBulkEntries entries + 1
  | .held _ => 1
def uptoBulkAll {H : Type} : List (DataW H) → Nat
  | [] => 0
  | d :: r => uptoBulk d + uptoBulkAll r
def uptoBulkEntries {H : Type} : List (Lit × DataW H) → Nat
  | [] => 0
  | x :: r => uptoBulkEntry x + uptoBulkEntries r
def uptoBulkEntry {H : Type} : Lit × DataW H → Nat
  | (.string bytes, d) => bytes.length + uptoBulk d + 1
  | (_, d) => uptoBulk d + 1
 end
def uptoSmall : (H : Type) → List (DataW H) → Bool := fun _ ds => decide (uptoBulkAll ds ≤ 1048576)
def OpenSpec.upto (s : _root_.Go.ChangeSpec) : _root_.Go.OpenSpec := { _root_.Go.OpenSpec.ofChange s with cond := some uptoSmall }

/-- 'rescriptlaw03.KeccakPermutes', WHERE WHAT IT READS IS OF BULK AT MOST 1048576: true; the input reads as it did. -/
def keccakPermutesUptoRow : OpenClaim := { program := "ytdfcfpbofomdcaadoor", sum := "0e8a6b4f8a64ac585e54d37793765ad8e6ea184330b930dd2a63864f85fa5837", func := "rescript/rescriptlaw03.KeccakPermutes", spec := "keccakPermutes", unfollowed := true, recurses := true, named := ["rescript/keccak.numbers", "rescript/keccak.turns"], apart := false, laid := [("rescript/keccak.turns", laid_rescript_keccak_turns), ("rescript/keccak.numbers", laid_rescript_keccak_numbers)], narrowed := true }
def KeccakPermutesUptoSaid : Prop := keccakPermutesUptoRow.holds Tryd.pinned (OpenSpec.upto keccakPermutesSpec)

/-- 'rescriptlaw03.KeccakSums', WHERE WHAT IT READS IS OF BULK AT MOST 1048576: true; the input reads as it did. -/
def keccakSumsUptoRow : OpenClaim := { program := "ytdfcfpbofomdcaadoor", sum := "0e8a6b4f8a64ac585e54d37793765ad8e6ea184330b930dd2a63864f85fa5837", func := "rescript/rescriptlaw03.KeccakSums", spec := "keccakSums", unfollowed := true, recurses := true, named := ["rescript/keccak.numbers", "rescript/keccak.turns"], apart := false, laid := [("rescript/keccak.turns", laid_rescript_keccak_turns), ("rescript/keccak.numbers", laid_rescript_keccak_numbers)], narrowed := true }
def KeccakSumsUptoSaid : Prop := keccakSumsUptoRow.holds Tryd.pinned (OpenSpec.upto keccakSumsSpec)

/-- 'rescriptlaw03.KeccakApart', WHERE WHAT IT READS IS OF BULK AT MOST 1048576: true; the input reads as it did. -/
def keccakApartUptoRow : OpenClaim := { program := "ytdfcfpbofomdcaadoor", sum := "0e8a6b4f8a64ac585e54d37793765ad8e6ea184330b930dd2a63864f85fa5837", func := "rescript/rescriptlaw03.KeccakApart", spec := "keccakApart", unfollowed := true, recurses := true, named := ["rescript/keccak.numbers", "rescript/keccak.turns"], apart := false, laid := [("rescript/keccak.turns", laid_rescript_keccak_turns), ("rescript/keccak.numbers", laid_rescript_keccak_numbers)], narrowed := true }
def KeccakApartUptoSaid : Prop := keccakApartUptoRow.holds Tryd.pinned (OpenSpec.upto keccakApartSpec)

/-- 'rescriptlaw03.KeccakSponge', WHERE WHAT IT READS IS OF BULK AT MOST 1048576: true; the input reads as it did. -/
def keccakSpongeUptoRow : OpenClaim := { program := "ytdfcfpbofomdcaadoor", sum := "0e8a6b4f8a64ac585e54d37793765ad8e6ea184330b930dd2a63864f85fa5837", func := "rescript/rescriptlaw03.KeccakSponge", spec := "keccakSponge", unfollowed := true, recurses := true, named := ["rescript/keccak.numbers", "rescript/keccak.turns"], apart := false, laid := [("rescript/keccak.turns", laid_rescript_keccak_turns), ("rescript/keccak.numbers", laid_rescript_keccak_numbers)], narrowed := true }
def KeccakSpongeUptoSaid : Prop := keccakSpongeUptoRow.holds Tryd.pinned (OpenSpec.upto keccakSpongeSpec)

/-- 'rescriptlaw03.KeccakPads', WHERE WHAT IT READS IS OF BULK AT MOST 1048576: true; the input reads as it did. -/
def keccakPadsUptoRow : OpenClaim := { program := "ytdfcfpbofomdcaadoor", sum := "0e8a6b4f8a64ac585e54d37793765ad8e6ea184330b930dd2a63864f85fa5837", func := "rescript/rescriptlaw03.KeccakPads", spec := "keccakPads", unfollowed := true, recurses := true, named := ["rescript/keccak.numbers", "rescript/keccak.turns"], apart := false, laid := [("rescript/keccak.turns", laid_rescript_keccak_turns), ("rescript/keccak.numbers", laid_rescript_keccak_numbers)], narrowed := true }
def KeccakPadsUptoSaid : Prop := keccakPadsUptoRow.holds Tryd.pinned (OpenSpec.upto keccakPadsSpec)

end Rows
end Go.Proofs.YtdfcfpbofomdcaaDoor
