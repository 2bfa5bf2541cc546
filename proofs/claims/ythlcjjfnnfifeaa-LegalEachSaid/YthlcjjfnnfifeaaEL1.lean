/- The formats, plainly: which version of which kind is legal from where to where. -/
import Derived.Test.YthlcjjfnnfifeaaA0
import Derived.Lib.Hide
namespace Go.Proofs.Ythlcjjfnnfifeaa
open Go Go.RowKit
namespace M
/-- The table: kind, version, from, to. -/
def legT : List (Int × Int × Int × Int) :=
  [(1, 0, 0, 5), (1, 1, 0, 5), (1, 2, 0, 5), (1, 126, 0, 5), (1, 4, 5, 5), (2, 0, 0, 0), (2, 1, 1, 1), (2, 2, 2, 5), (3, 0, 0, 5), (3, 1, 3, 5), (4, 0, 0, 5), (4, 2, 4, 5), (5, 0, 0, 4), (5, 1, 5, 5)]
/-- From which fork to which. -/
def span (k v : Int) : Option (Int × Int) := (legT.find? fun p => p.1 == k && p.2.1 == v).map fun p => p.2.2
/-- Is it legal? -/
def lgl (f k v : Int) : Bool := match span k v with
  | some (a, b) => decide (a ≤ f) && decide (f ≤ b)
  | none => false
/-- All versions there are, rising. -/
def versAll : List Int := [0, 1, 2, 4, 126]
/-- Those that are legal. -/
def vers (f k : Int) : List Int := versAll.filter fun v => lgl f k v
/-- From, to, and the error. -/
def rngA (k v : Int) : Int := match span k v with | some (a, _) => a | none => 0
def rngB (k v : Int) : Int := match span k v with | some (_, b) => b | none => 0
def rngE (k v : Int) : Int := match span k v with | some _ => 0 | none => 9
/-- The last one, and the error. -/
def ltsV (f k : Int) : Int := if vers f k = [] then 0 else (vers f k).getD ((vers f k).length - 1) 0
def ltsE (f k : Int) : Int := if vers f k = [] then 10 else 0

theorem span_mem {k v : Int} {ab : Int × Int} (h : span k v = some ab) : (k, v, ab) ∈ legT := by
  unfold span at h
  rw [Option.map_eq_some_iff] at h
  obtain ⟨p, hp, rfl⟩ := h
  have h1 := List.mem_of_find?_eq_some hp
  have h2 := List.find?_some hp
  simp at h2
  obtain ⟨rfl, rfl⟩ := h2
  exact h1
theorem span_none {k v : Int} (h : span k v = none) : ∀ p ∈ legT, ¬ (p.1 = k ∧ p.2.1 = v) := by
  unfold span at h
  rw [Option.map_eq_none_iff, List.find?_eq_none] at h
  intro p hp ⟨e1, e2⟩
  exact h p hp (by simp [e1, e2])
theorem span_of : ∀ p ∈ legT, span p.1 p.2.1 = some p.2.2 := by decide
theorem vers_len (f k : Int) : (vers f k).length ≤ 5 := List.length_filter_le _ _
theorem leg_vers : ∀ p ∈ legT, p.2.1 ∈ versAll := by decide
theorem lgl_span {f k v : Int} (h : lgl f k v = true) : ∃ a b, span k v = some (a, b) ∧ a ≤ f ∧ f ≤ b := by
  unfold lgl at h
  cases hs : span k v with
  | none => rw [hs] at h; cases h
  | some ab => rw [hs] at h; simp at h; exact ⟨_, _, rfl, h⟩
theorem mem_vers {f k v : Int} : v ∈ vers f k ↔ lgl f k v = true := by
  unfold vers
  rw [List.mem_filter]
  refine ⟨fun h => h.2, fun h => ⟨?_, h⟩⟩
  obtain ⟨a, b, hs, _⟩ := lgl_span h
  exact leg_vers _ (span_mem hs)
theorem versAll_lt : versAll.Pairwise (· < ·) := by decide
theorem vers_lt (f k : Int) : (vers f k).Pairwise (· < ·) := versAll_lt.filter _
theorem vers_nodup (f k : Int) : (vers f k).Nodup := (vers_lt f k).imp fun h => by omega
/-- What has been collected in whatever order is, sorted, the versions. -/
theorem vers_sort {f k : Int} {ss : List Int} (hn : ss.Nodup) (hm : ∀ v, v ∈ ss ↔ lgl f k v = true) : ss.mergeSort (fun x y => decide (x ≤ y)) = vers f k := by
  have hp : ss.Perm (vers f k) := (List.perm_ext_iff_of_nodup hn (vers_nodup f k)).2 fun v => by rw [hm v, mem_vers]
  refine List.Perm.eq_of_pairwise (le := fun a b => a ≤ b) (fun a b _ _ h1 h2 => by omega) ?_ ((vers_lt f k).imp fun h => by omega) ((List.mergeSort_perm _ _).trans hp)
  have := List.pairwise_mergeSort (le := fun x y : Int => decide (x ≤ y)) (fun a b c h1 h2 => by simp at *; omega) (fun a b => by simp; omega) ss
  exact this.imp fun h => by simpa using h
theorem lgl_all (f k v : Int) : lgl f k v = (match span k v with | some (a, b) => decide (a ≤ f) && decide (f ≤ b) | none => false) := rfl
end M
end Go.Proofs.Ythlcjjfnnfifeaa
