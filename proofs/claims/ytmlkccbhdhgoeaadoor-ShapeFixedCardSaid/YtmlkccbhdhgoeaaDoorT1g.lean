/- How types and values lie in memory. -/
import Derived.Test.YtmlkccbhdhgoeaaDoorMM
import Derived.Test.YtmlkccbhdhgoeaaDoorA0g
import Derived.Test.YtmlkccbhdhgoeaaDoorW0g
import Derived.Lib.Hide
namespace Go.Proofs.YtmlkccbhdhgoeaaDoor
open Go Go.RowKit

/-- What a slice of types leads to, in the first n blocks. -/
inductive LayT (w : World) (n : Nat) : List M.Ty → Value → Prop
  | nil_ {a : Option Addr} {cap : Nat} (hm : cap ≤ maxLen) : LayT w n [] (.slice a 0 cap)
  | row {ts : List M.Ty} {b o cap : Nat} (V : Nat → Value) (hb : b < n) (hc : ts.length ≤ cap) (hm : cap ≤ maxLen)
      (c0 : ∀ (i : Nat) (k m : Int) (us : List M.Ty), ts[i]? = some (M.Ty.mk k m us) → w.cell? ⟨b, o + i * 3, none⟩ = some (.int .i64 k))
      (c1 : ∀ (i : Nat) (k m : Int) (us : List M.Ty), ts[i]? = some (M.Ty.mk k m us) → w.cell? ⟨b, o + i * 3 + 1, none⟩ = some (.int .i64 m))
      (c2 : ∀ (i : Nat) (k m : Int) (us : List M.Ty), ts[i]? = some (M.Ty.mk k m us) → w.cell? ⟨b, o + i * 3 + 2, none⟩ = some (V i))
      (r : ∀ (i : Nat) (k m : Int) (us : List M.Ty), ts[i]? = some (M.Ty.mk k m us) → LayT w n us (V i)) : LayT w n ts (.slice (some ⟨b, o, none⟩) ts.length cap)
theorem LayT.from_ {w W : World} {n : Nat} {ts : List M.Ty} {v : Value} (h : LayT w n ts v) (hb : Below n w W) : LayT W n ts v := by
  induction h with
  | nil_ hm => exact .nil_ hm
  | row V hlt hc hm c0 c1 c2 _ ih =>
    exact .row V hlt hc hm (fun i l d ys e => (hb.cell (p := ⟨_, _, _⟩) hlt).trans (c0 i l d ys e)) (fun i l d ys e => (hb.cell (p := ⟨_, _, _⟩) hlt).trans (c1 i l d ys e)) (fun i l d ys e => (hb.cell (p := ⟨_, _, _⟩) hlt).trans (c2 i l d ys e)) ih
theorem LayT.mono {w : World} {n m : Nat} {ts : List M.Ty} {v : Value} (h : LayT w n ts v) (hnm : n ≤ m) : LayT w m ts v := by
  induction h with
  | nil_ hm => exact .nil_ hm
  | row V hlt hc hm c0 c1 c2 _ ih => exact .row V (by omega) hc hm c0 c1 c2 ih
theorem LayT.slice {w : World} {n : Nat} {ts : List M.Ty} {v : Value} (h : LayT w n ts v) : ∃ a cap, v = .slice a ts.length cap ∧ ts.length ≤ cap ∧ cap ≤ maxLen := by
  cases h with
  | nil_ hm => exact ⟨_, _, rfl, Nat.zero_le _, hm⟩
  | row V hlt hc hm c0 c1 c2 r => exact ⟨_, _, rfl, hc, hm⟩
/-- One type of a slice. -/
theorem LayT.at_ {w : World} {n i : Nat} {ts : List M.Ty} {a : Option Addr} {cap : Nat} (h : LayT w n ts (.slice a ts.length cap)) (hi : i < ts.length) : ∃ b o k m us au cu, a = some ⟨b, o, none⟩ ∧ b < n ∧ ts[i]? = some (.mk k m us) ∧
    w.cell? ⟨b, o + i * 3, none⟩ = some (.int .i64 k) ∧ w.cell? ⟨b, o + i * 3 + 1, none⟩ = some (.int .i64 m) ∧ w.cell? ⟨b, o + i * 3 + 2, none⟩ = some (.slice au us.length cu) ∧ LayT w n us (.slice au us.length cu) := by
  cases h with
  | nil_ hm => simp at hi
  | @row _ b o cap V hlt hc hm c0 c1 c2 r =>
    obtain ⟨k, m, us, e⟩ : ∃ k m us, ts[i]? = some (.mk k m us) := by
      rw [List.getElem?_eq_getElem hi]
      obtain ⟨k, m, us⟩ := ts[i]
      exact ⟨k, m, us, rfl⟩
    obtain ⟨au, cu, hV, _, _⟩ := (r i k m us e).slice
    exact ⟨b, o, k, m, us, au, cu, rfl, hlt, e, c0 i k m us e, c1 i k m us e, hV ▸ c2 i k m us e, hV ▸ r i k m us e⟩
/-- A type as a value. -/
abbrev tv (k m : Int) (v : Value) : Value := .agg #[.int .i64 k, .int .i64 m, v]
/-- The box of a type. -/
structure BoxT (W : World) (S : Nat) (k m : Int) (v : Value) : Prop where
  c0 : W.cell? ⟨S, 0, none⟩ = some (.int .i64 k)
  c1 : W.cell? ⟨S, 1, none⟩ = some (.int .i64 m)
  c2 : W.cell? ⟨S, 2, none⟩ = some v
theorem BoxT.new (w : World) (k m : Int) (v : Value) (t : TypeId) : BoxT (w.alloc (.cells #[.int .i64 k, .int .i64 m, v] t)) w.heap.size k m v := ⟨by simp [go_sem], by simp [go_sem], by simp [go_sem]⟩
theorem BoxT.from_ {w W : World} {S n : Nat} {k m : Int} {v : Value} (h : BoxT w S k m v) (hb : Below n w W) (hS : S < n) : BoxT W S k m v :=
  ⟨(hb.cell (p := ⟨S, 0, none⟩) hS).trans h.c0, (hb.cell (p := ⟨S, 1, none⟩) hS).trans h.c1, (hb.cell (p := ⟨S, 2, none⟩) hS).trans h.c2⟩
theorem size_ty {ts : List M.Ty} {i : Nat} {x : M.Ty} (h : ts[i]? = some x) : SizeOf.sizeOf x < SizeOf.sizeOf ts := List.sizeOf_lt_of_mem (List.mem_of_getElem? h)

/-- What a slice of bits leads to. -/
inductive LayB (w : World) (n : Nat) : List Bool → Value → Prop
  | nil_ {a : Option Addr} {cap : Nat} (hm : cap ≤ maxLen) : LayB w n [] (.slice a 0 cap)
  | row {bs : List Bool} {b o cap : Nat} (hb : b < n) (hc : bs.length ≤ cap) (hm : cap ≤ maxLen)
      (c : ∀ (i : Nat) (x : Bool), bs[i]? = some x → w.cell? ⟨b, o + i, none⟩ = some (.bool x)) : LayB w n bs (.slice (some ⟨b, o, none⟩) bs.length cap)
theorem LayB.from_ {w W : World} {n : Nat} {bs : List Bool} {v : Value} (h : LayB w n bs v) (hb : Below n w W) : LayB W n bs v := by
  cases h with
  | nil_ hm => exact .nil_ hm
  | row hbn hc hm c => exact .row hbn hc hm fun i s e => (hb.cell (p := ⟨_, _, none⟩) hbn).trans (c i s e)
theorem LayB.mono {w : World} {m n : Nat} {bs : List Bool} {v : Value} (h : LayB w m bs v) (hmn : m ≤ n) : LayB w n bs v := by
  cases h with
  | nil_ hm => exact .nil_ hm
  | row hbn hc hm c => exact .row (Nat.lt_of_lt_of_le hbn hmn) hc hm c
theorem LayB.slice {w : World} {n : Nat} {bs : List Bool} {v : Value} (h : LayB w n bs v) : ∃ a cap, v = .slice a bs.length cap ∧ bs.length ≤ cap ∧ cap ≤ maxLen := by
  cases h with
  | nil_ hm => exact ⟨_, _, rfl, Nat.zero_le _, hm⟩
  | row hbn hc hm c => exact ⟨_, _, rfl, hc, hm⟩
theorem LayB.at_ {w : World} {n : Nat} {bs : List Bool} {a : Option Addr} {cap i : Nat} (h : LayB w n bs (.slice a bs.length cap)) (hi : i < bs.length) : ∃ b o x, a = some ⟨b, o, none⟩ ∧ b < n ∧ bs[i]? = some x ∧ w.cell? ⟨b, o + i, none⟩ = some (.bool x) := by
  cases h with
  | nil_ hm => simp at hi
  | row hbn hc hm c => exact ⟨_, _, bs[i], rfl, hbn, List.getElem?_eq_getElem hi, c i _ (List.getElem?_eq_getElem hi)⟩

/-- The seven cells of a value. -/
structure Cells7 (w : World) (b o : Nat) (N : Nat) (u v : Value) (p : Int) : Prop where
  c0 : w.cell? ⟨b, o, none⟩ = some (.int .u64 (M.pt 0 N))
  c1 : w.cell? ⟨b, o + 1, none⟩ = some (.int .u64 (M.pt 1 N))
  c2 : w.cell? ⟨b, o + 2, none⟩ = some (.int .u64 (M.pt 2 N))
  c3 : w.cell? ⟨b, o + 3, none⟩ = some (.int .u64 (M.pt 3 N))
  c4 : w.cell? ⟨b, o + 4, none⟩ = some u
  c5 : w.cell? ⟨b, o + 5, none⟩ = some v
  c6 : w.cell? ⟨b, o + 6, none⟩ = some (.int .i64 p)
theorem Cells7.from_ {w W : World} {b o n N : Nat} {u v : Value} {p : Int} (h : Cells7 w b o N u v p) (hb : Below n w W) (hlt : b < n) : Cells7 W b o N u v p :=
  ⟨(hb.cell (p := ⟨b, o, none⟩) hlt).trans h.c0, (hb.cell (p := ⟨b, o + 1, none⟩) hlt).trans h.c1, (hb.cell (p := ⟨b, o + 2, none⟩) hlt).trans h.c2, (hb.cell (p := ⟨b, o + 3, none⟩) hlt).trans h.c3, (hb.cell (p := ⟨b, o + 4, none⟩) hlt).trans h.c4, (hb.cell (p := ⟨b, o + 5, none⟩) hlt).trans h.c5, (hb.cell (p := ⟨b, o + 6, none⟩) hlt).trans h.c6⟩
/-- What a slice of values leads to. -/
inductive LayV (w : World) (n : Nat) : List M.Va → Value → Prop
  | nil_ {a : Option Addr} {cap : Nat} (hm : cap ≤ maxLen) : LayV w n [] (.slice a 0 cap)
  | row {vs : List M.Va} {b o cap : Nat} (U V : Nat → Value) (hb : b < n) (hc : vs.length ≤ cap) (hm : cap ≤ maxLen)
      (hN : ∀ (i : Nat) (N : Nat) (bs : List Bool) (us : List M.Va) (p : Int), vs[i]? = some (M.Va.mk N bs us p) → M.In N)
      (c : ∀ (i : Nat) (N : Nat) (bs : List Bool) (us : List M.Va) (p : Int), vs[i]? = some (M.Va.mk N bs us p) → Cells7 w b (o + i * 7) N (U i) (V i) p)
      (rb : ∀ (i : Nat) (N : Nat) (bs : List Bool) (us : List M.Va) (p : Int), vs[i]? = some (M.Va.mk N bs us p) → LayB w n bs (U i))
      (r : ∀ (i : Nat) (N : Nat) (bs : List Bool) (us : List M.Va) (p : Int), vs[i]? = some (M.Va.mk N bs us p) → LayV w n us (V i)) : LayV w n vs (.slice (some ⟨b, o, none⟩) vs.length cap)
theorem LayV.from_ {w W : World} {n : Nat} {vs : List M.Va} {v : Value} (h : LayV w n vs v) (hb : Below n w W) : LayV W n vs v := by
  induction h with
  | nil_ hm => exact .nil_ hm
  | row U V hlt hc hm hN c rb _ ih => exact .row U V hlt hc hm hN (fun i N bs us p e => (c i N bs us p e).from_ hb hlt) (fun i N bs us p e => (rb i N bs us p e).from_ hb) ih
theorem LayV.mono {w : World} {n m : Nat} {vs : List M.Va} {v : Value} (h : LayV w n vs v) (hnm : n ≤ m) : LayV w m vs v := by
  induction h with
  | nil_ hm => exact .nil_ hm
  | row U V hlt hc hm hN c rb _ ih => exact .row U V (by omega) hc hm hN c (fun i N bs us p e => (rb i N bs us p e).mono hnm) ih
theorem LayV.slice {w : World} {n : Nat} {vs : List M.Va} {v : Value} (h : LayV w n vs v) : ∃ a cap, v = .slice a vs.length cap ∧ vs.length ≤ cap ∧ cap ≤ maxLen := by
  cases h with
  | nil_ hm => exact ⟨_, _, rfl, Nat.zero_le _, hm⟩
  | row U V hlt hc hm hN c rb r => exact ⟨_, _, rfl, hc, hm⟩
/-- What a value is made of: its number, its bits, its values. -/
structure Vl (w : World) (n : Nat) (N : Nat) (bs : List Bool) (us : List M.Va) (ab : Option Addr) (cb : Nat) (au : Option Addr) (cu : Nat) : Prop where
  hN : M.In N
  b : LayB w n bs (.slice ab bs.length cb)
  v : LayV w n us (.slice au us.length cu)
theorem Vl.from_ {w W : World} {n N : Nat} {bs : List Bool} {us : List M.Va} {ab : Option Addr} {cb : Nat} {au : Option Addr} {cu : Nat} (h : Vl w n N bs us ab cb au cu) (hb : Below n w W) : Vl W n N bs us ab cb au cu := ⟨h.hN, h.b.from_ hb, h.v.from_ hb⟩
theorem Vl.mono {w : World} {n m N : Nat} {bs : List Bool} {us : List M.Va} {ab : Option Addr} {cb : Nat} {au : Option Addr} {cu : Nat} (h : Vl w n N bs us ab cb au cu) (hnm : n ≤ m) : Vl w m N bs us ab cb au cu := ⟨h.hN, h.b.mono hnm, h.v.mono hnm⟩
/-- One value of a slice. -/
theorem LayV.at_ {w : World} {n i : Nat} {vs : List M.Va} {a : Option Addr} {cap : Nat} (h : LayV w n vs (.slice a vs.length cap)) (hi : i < vs.length) : ∃ b o N bs us p ab cb au cu, a = some ⟨b, o, none⟩ ∧ b < n ∧ vs[i]? = some (.mk N bs us p) ∧
    Cells7 w b (o + i * 7) N (.slice ab bs.length cb) (.slice au us.length cu) p ∧ Vl w n N bs us ab cb au cu := by
  cases h with
  | nil_ hm => simp at hi
  | @row _ b o cap U V hlt hc hm hN c rb r =>
    obtain ⟨N, bs, us, p, e⟩ : ∃ N bs us p, vs[i]? = some (.mk N bs us p) := by
      rw [List.getElem?_eq_getElem hi]
      obtain ⟨N, bs, us, p⟩ := vs[i]
      exact ⟨N, bs, us, p, rfl⟩
    obtain ⟨au, cu, hV, _, _⟩ := (r i N bs us p e).slice
    obtain ⟨ab, cb, hU, _, _⟩ := (rb i N bs us p e).slice
    exact ⟨b, o, N, bs, us, p, ab, cb, au, cu, rfl, hlt, e, hU ▸ hV ▸ c i N bs us p e, hN i N bs us p e, hU ▸ rb i N bs us p e, hV ▸ r i N bs us p e⟩
/-- A value as a value. -/
abbrev vv (N : Nat) (u v : Value) (p : Int) : Value := .agg #[.int .u64 (M.pt 0 N), .int .u64 (M.pt 1 N), .int .u64 (M.pt 2 N), .int .u64 (M.pt 3 N), u, v, .int .i64 p]
theorem Cells7.new (w : World) (N : Nat) (u v : Value) (p : Int) (t : TypeId) : Cells7 (w.alloc (.cells #[.int .u64 (M.pt 0 N), .int .u64 (M.pt 1 N), .int .u64 (M.pt 2 N), .int .u64 (M.pt 3 N), u, v, .int .i64 p] t)) w.heap.size 0 N u v p :=
  ⟨by simp [go_sem], by simp [go_sem], by simp [go_sem], by simp [go_sem], by simp [go_sem], by simp [go_sem], by simp [go_sem]⟩
theorem size_va {vs : List M.Va} {i : Nat} {x : M.Va} (h : vs[i]? = some x) : SizeOf.sizeOf x < SizeOf.sizeOf vs := List.sizeOf_lt_of_mem (List.mem_of_getElem? h)
end Go.Proofs.YtmlkccbhdhgoeaaDoor
