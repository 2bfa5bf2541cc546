/- How an item lies in memory. -/
import Derived.Test.YtgeeoefcepjniaaM11
import Derived.Test.YtgeeoefcepjniaaA0
import Derived.Lib.Hide
namespace Go.Proofs.Ytgeeoefcepjniaa
open Go Go.RowKit

/-- What a slice of items leads to, in the first n blocks. -/
inductive Lay (w : World) (n : Nat) : List M.It → Value → Prop
  | nil_ {a : Option Addr} {cap : Nat} (hm : cap ≤ maxLen) : Lay w n [] (.slice a 0 cap)
  | row {xs : List M.It} {b o cap : Nat} (V : Nat → Value) (hb : b < n) (hc : xs.length ≤ cap) (hm : cap ≤ maxLen)
      (c0 : ∀ i l d ys, xs[i]? = some (.mk l d ys) → w.cell? ⟨b, o + i * 3, none⟩ = some (.bool l))
      (c1 : ∀ i l d ys, xs[i]? = some (.mk l d ys) → w.cell? ⟨b, o + i * 3 + 1, none⟩ = some (.string ⟨d.toArray⟩))
      (c2 : ∀ i l d ys, xs[i]? = some (.mk l d ys) → w.cell? ⟨b, o + i * 3 + 2, none⟩ = some (V i))
      (r : ∀ i l d ys, xs[i]? = some (.mk l d ys) → Lay w n ys (V i)) : Lay w n xs (.slice (some ⟨b, o, none⟩) xs.length cap)

theorem Lay.from_ {w W : World} {n : Nat} {xs : List M.It} {v : Value} (h : Lay w n xs v) (hb : Below n w W) : Lay W n xs v := by
  induction h with
  | nil_ hm => exact .nil_ hm
  | row V hlt hc hm c0 c1 c2 _ ih =>
    exact .row V hlt hc hm (fun i l d ys e => (hb.cell (p := ⟨_, _, _⟩) hlt).trans (c0 i l d ys e)) (fun i l d ys e => (hb.cell (p := ⟨_, _, _⟩) hlt).trans (c1 i l d ys e)) (fun i l d ys e => (hb.cell (p := ⟨_, _, _⟩) hlt).trans (c2 i l d ys e)) ih
theorem Lay.mono {w : World} {n m : Nat} {xs : List M.It} {v : Value} (h : Lay w n xs v) (hnm : n ≤ m) : Lay w m xs v := by
  induction h with
  | nil_ hm => exact .nil_ hm
  | row V hlt hc hm c0 c1 c2 _ ih => exact .row V (by omega) hc hm c0 c1 c2 ih

/-- The slice itself. -/
theorem Lay.slice {w : World} {n : Nat} {xs : List M.It} {v : Value} (h : Lay w n xs v) : ∃ a cap, v = .slice a xs.length cap ∧ xs.length ≤ cap ∧ cap ≤ maxLen := by
  cases h with
  | nil_ hm => exact ⟨_, _, rfl, Nat.zero_le _, hm⟩
  | row V hlt hc hm c0 c1 c2 r => exact ⟨_, _, rfl, hc, hm⟩
/-- One item of a slice. -/
theorem Lay.at_ {w : World} {n k : Nat} {xs : List M.It} {v : Value} (h : Lay w n xs v) (hk : k < xs.length) : ∃ b o cap l d ys u, v = .slice (some ⟨b, o, none⟩) xs.length cap ∧ b < n ∧ xs[k]? = some (.mk l d ys) ∧
    w.cell? ⟨b, o + k * 3, none⟩ = some (.bool l) ∧ w.cell? ⟨b, o + k * 3 + 1, none⟩ = some (.string ⟨d.toArray⟩) ∧ w.cell? ⟨b, o + k * 3 + 2, none⟩ = some u ∧ Lay w n ys u := by
  cases h with
  | nil_ hm => simp at hk
  | @row _ b o cap V hlt hc hm c0 c1 c2 r =>
    obtain ⟨l, d, ys, e⟩ : ∃ l d ys, xs[k]? = some (.mk l d ys) := by
      rw [List.getElem?_eq_getElem hk]
      obtain ⟨l, d, ys⟩ := xs[k]
      exact ⟨l, d, ys, rfl⟩
    exact ⟨b, o, cap, l, d, ys, V k, rfl, hlt, e, c0 k l d ys e, c1 k l d ys e, c2 k l d ys e, r k l d ys e⟩

/-- An item as a value. -/
abbrev iv (l : Bool) (d : List UInt8) (v : Value) : Value := .agg #[.bool l, .string ⟨d.toArray⟩, v]

/-- The box of an item. -/
structure Box (W : World) (S : Nat) (l : Bool) (d : List UInt8) (v : Value) : Prop where
  c0 : W.cell? ⟨S, 0, none⟩ = some (.bool l)
  c1 : W.cell? ⟨S, 1, none⟩ = some (.string ⟨d.toArray⟩)
  c2 : W.cell? ⟨S, 2, none⟩ = some v
theorem Box.new (w : World) (l : Bool) (d : List UInt8) (v : Value) (t : TypeId) : Box (w.alloc (.cells #[.bool l, .string ⟨d.toArray⟩, v] t)) w.heap.size l d v := ⟨by simp [go_sem], by simp [go_sem], by simp [go_sem]⟩
theorem Box.from_ {w W : World} {S n : Nat} {l : Bool} {d : List UInt8} {v : Value} (h : Box w S l d v) (hb : Below n w W) (hS : S < n) : Box W S l d v :=
  ⟨(hb.cell (p := ⟨S, 0, none⟩) hS).trans h.c0, (hb.cell (p := ⟨S, 1, none⟩) hS).trans h.c1, (hb.cell (p := ⟨S, 2, none⟩) hS).trans h.c2⟩

theorem size_get {xs : List M.It} {k : Nat} {x : M.It} (h : xs[k]? = some x) : SizeOf.sizeOf x < SizeOf.sizeOf xs := by
  have := List.mem_of_getElem? h
  exact List.sizeOf_lt_of_mem this
end Go.Proofs.Ytgeeoefcepjniaa
