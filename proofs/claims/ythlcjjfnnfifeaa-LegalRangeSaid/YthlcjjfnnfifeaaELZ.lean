/- Rows of whole numbers: of one's own, and as they lie; the reference's Ints. -/
import Derived.Test.YthlcjjfnnfifeaaFK1
import Derived.RangeFuncNested
import Derived.RangeFuncBound
import Derived.RangeFuncCalls
import Derived.RangeFuncLeaves
import Derived.RangeFuncBox
import Derived.RangeFuncWrites
import Derived.Laws.OwnMore
import Derived.Maps.AppendAt
import Derived.OwnWalkIn
import Derived.TacticsInMore
import Derived.LoopNIn
import Derived.LoopIn
import Derived.BigQuiet
import Derived.OrdersHeld
import Derived.Deep.RegionHeld
import Derived.Shelf.Abstract
import Derived.Shelf.Abstract
import Derived.Below
namespace Go.Proofs.Ythlcjjfnnfifeaa
open Go Go.RowKit Go.Shelf

/-- What a row of whole numbers leads to. -/
inductive Zs (w : World) (n : Nat) : List Int → Value → Prop
  | nil_ {a : Option Addr} {cap : Nat} : Zs w n [] (.slice a 0 cap)
  | row {xs : List Int} {b o cap : Nat} (hb : b < n)
      (c : ∀ i x, xs[i]? = some x → w.cell? ⟨b, o + i, none⟩ = some (.int .i64 x)) : Zs w n xs (.slice (some ⟨b, o, none⟩) xs.length cap)
theorem Zs.slice {w : World} {n : Nat} {xs : List Int} {v : Value} (h : Zs w n xs v) : ∃ a cap, v = .slice a xs.length cap := by
  cases h with
  | nil_ => exact ⟨_, _, rfl⟩
  | row hbn c => exact ⟨_, _, rfl⟩
theorem Zs.from_ {w W : World} {n : Nat} {xs : List Int} {v : Value} (h : Zs w n xs v) (hb : Below n w W) : Zs W n xs v := by
  cases h with
  | nil_ => exact .nil_
  | row hbn c => exact .row hbn fun i s e => (hb.cell (p := ⟨_, _, none⟩) hbn).trans (c i s e)
theorem Zs.mono {w : World} {m n : Nat} {xs : List Int} {v : Value} (h : Zs w m xs v) (hmn : m ≤ n) : Zs w n xs v := by
  cases h with
  | nil_ => exact .nil_
  | row hbn c => exact .row (Nat.lt_of_lt_of_le hbn hmn) c
theorem Zs.cells {w : World} {n : Nat} {xs : List Int} {a : Option Addr} {m cap : Nat} (h : Zs w n xs (.slice a m cap)) (h1 : 1 ≤ xs.length) : ∃ b o, a = some ⟨b, o, none⟩ ∧ b < n ∧ ∀ i, i < xs.length → w.cell? ⟨b, o + i, none⟩ = some (.int .i64 (M.gi xs i)) := by
  cases h with
  | nil_ => simp at h1
  | row hbn c => exact ⟨_, _, rfl, hbn, fun i hi => c i _ (M.gi_some hi)⟩
/-- A row of whole numbers of one's own. -/
def OwZ (B : Nat) (l : List Int) (v : Value) (w : World) : Prop := w.ownsRow B 3 1 v l.length (l.map (Value.int .i64))
theorem OwZ.zs {B : Nat} {l : List Int} {v : Value} {w : World} (h : OwZ B l v w) : Zs w w.heap.size l v := by
  rcases id h.2 with ⟨h0, h1⟩ | ⟨g, cap, cur, rfl, hB, hg, hnc, hcm, hcs, htake⟩
  · obtain rfl := List.eq_nil_of_length_eq_zero h1
    cases h0
    exact .nil_
  · refine .row (Array.getElem?_eq_some_iff.1 hg).1 fun i s e => ?_
    have hi := (List.getElem?_eq_some_iff.1 e).1
    rw [Nat.zero_add, World.ownsRow.cellAt h i (by omega)]
    simp [e]
theorem Try.ofIntk : (Try.prog.info? 3).map (fun i => (i.zero, i.size, i.bytes)) = some (some (.int .i64 0), 1, 8) := by kernel_rfl

theorem boxed_keptk {W W' : World} {row : Option Nat} {B t : Nat} {v : Value} (h : Boxed W B t v) (hg : W.grownBy W' row) (hr : ∀ r, row = some r → ∃ o : Obj, W.heap[r]? = some o ∧ o.isCells = false) : Boxed W' B t v := by
  refine h.kept hg (fun e => ?_)
  obtain ⟨o, ho, hc⟩ := hr B e.symm
  rw [show W.heap[B]? = _ from h] at ho
  cases ho
  cases hc
theorem boxed_setk {W : World} {B B' t : Nat} {v u : Value} (h : Boxed W B t v) (hne : B ≠ B') : Boxed (W.setCell ⟨B', 0, none⟩ u) B t v :=
  h.kept (grownBy_setCell' W B' u) (by simpa using hne)
theorem grown_below {W W' : World} (hb : Below W.heap.size W W') : W.grownBy W' none := ⟨hb.os, hb.tape, hb.output, hb.size, fun i hi _ => hb.block i hi⟩
theorem keeps_belowk {W W' : World} (hb : Below W.heap.size W W') : KeepsOthers W W' := ⟨hb.size, fun k _ hk _ => (hb.block k (Array.getElem?_eq_some_iff.1 hk).1).trans hk⟩
set_option maxRecDepth 100000 in
set_option maxHeartbeats 4000000 in
theorem ints_any (xs : List Int) (a a2 : Option Addr) (cap cap2 : Nat) (w : World) (h6 : xs.length ≤ 6) (hA : Zs w w.heap.size xs (.slice a xs.length cap)) (hB : Zs w w.heap.size xs (.slice a2 xs.length cap2)) :
    Calls Try.prog 11 #[.slice a xs.length cap, .slice a2 xs.length cap2] w fun e w' => e = .returned (.bool true) ∧ Below w.heap.size w w' := by
  have mixed : Try.prog.follows .mixedOrders = true := by kernel_rfl
  have HA := Lib.hid hA
  have HB := Lib.hid hB
  clear hA hB
  go_enter Try.func11, Try.ntmps11
  go_wp2_with fail
  go_loopw [5] (fun i wr => ∃ j : Nat, j ≤ xs.length ∧ i = .int .i64 (j : Nat) ∧ Below w.heap.size w wr) (fun i _ => xs.length - (RowKit.intOf i).toNat)
  case atStart => exact ⟨0, Nat.zero_le _, rfl, Below.refl _ _⟩
  case round =>
    obtain ⟨j, hj, rfl, hW⟩ := hrel
    by_cases h : j < xs.length
    · obtain ⟨b, o, rfl, hb, hc⟩ := HA.out.cells (by omega)
      obtain ⟨b2, o2, rfl, hb2, hc2⟩ := HB.out.cells (by omega)
      have c1 := (hW.cell (p := ⟨b, o + j, none⟩) hb).trans (hc j h)
      have c2 := (hW.cell (p := ⟨b2, o2 + j, none⟩) hb2).trans (hc2 j h)
      have hz : (j : Int) < (xs.length : Int) := by omega
      have HJ := Lib.hid h
      clear hc hc2 h hj
      go_wp2_with fail
      go_quiet (fail)
      go_wp2_with fail
      exact ⟨⟨j + 1, HJ.out, by simp, hW.trans ⟨rfl, rfl, rfl, Nat.le_refl _, fun _ _ => rfl⟩⟩, by have := HJ.out; simp [RowKit.intOf]; omega⟩
    · obtain rfl : j = xs.length := by omega
      go_wp2_with fail
      go_ret
      exact ⟨rfl, hW⟩
theorem Zs.made (w : World) (xs : List Int) : Zs (w.alloc (.cells ((xs.map (Value.int .i64)).toArray) 3)) (w.heap.size + 1) xs (.slice (some ⟨w.heap.size, 0, none⟩) xs.length xs.length) := by
  refine .row (by omega) fun i x hx => ?_
  rw [World.cell?_alloc_at _ _ _ _ (by simp)]
  simp [hx]
end Go.Proofs.Ythlcjjfnnfifeaa
