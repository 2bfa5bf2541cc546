/- The landed package ssz: need, partOf. The landed package ssz: parts, its rounds. The landed package ssz: given. Regions that draw their order, in a round, where a call may end in a panic; worlds that are as they were but for some blocks. Plain: bits, one by one. The landed package ssz: putBits. -/
import Derived.Test.YtgloapcfmlijlaaGreatDoorK11
import Derived.Test.YtgloapcfmlijlaaGreatDoorK10
import Derived.Deep.RegionWith
import Derived.Laws.Rows
import Derived.RangeFuncBox
import Derived.DefersIn
import Derived.OwnWalkIn
import Derived.TacticsInMore
import Derived.LoopNIn
import Derived.LoopIn
import Derived.Test.YtgloapcfmlijlaaGreatDoorK01
import Derived.Defers
import Derived.Recover
import Derived.Shelf.Abstract
import Derived.Test.YtgloapcfmlijlaaGreatDoorK08
import Derived.OrdersHeld
import Derived.Deep.RegionHeld
import Derived.Test.YtgloapcfmlijlaaGreatDoorK05
import Derived.Test.YtgloapcfmlijlaaGreatDoorK03
import Derived.Laws.OwnMore
namespace Go.Proofs.YtgloapcfmlijlaaGreatDoor
open Go Go.RowKit Go.Shelf

/-- What a panic with an error leaves. -/
abbrev pan (q : Nat) : Ending := .panicked [{ v := .iface 34 (.int .i64 (q : Nat)), recovered := false }]

theorem need_any (b : Bool) (q : Nat) (w : World) :
    Calls Tryz.prog 63 #[.bool b, .int .i64 (q : Nat)] w fun e w' => e = (if b = true then .returned (.tuple #[]) else pan q) ∧ w' = w := by
  have hpan : ∀ (t : TypeId) (v : Value) (w : World), (Instr.panic (.iface t v)).run Tryz.prog w = .halt (.panic (.iface t v)) w := fun _ _ _ => rfl
  cases b with
  | true =>
    go_enter Tryz.func63, Tryz.ntmps63
    go_wp2_with fail
    go_end0
    exact ⟨rfl, rfl⟩
  | false =>
    go_enter Tryz.func63, Tryz.ntmps63
    go_wp2_with fail
    exact ⟨rfl, rfl, rfl⟩

/-- How many bytes an item takes in a row's beginning. -/
def wdT (t : M.Ty) : Nat := if M.fixedT t = true then M.sizeT t else 4
/-- A type as a part. -/
abbrev pv (k n : Int) (v : Value) (f : Bool) (wd : Nat) : Value := .agg #[.int .i64 k, .int .i64 n, v, .bool f, .int .i64 (wd : Nat)]

/-- 5 cells that may be written. -/
structure CellsW5 (w : World) (g : Nat) : Prop where
  i0 : ∃ v, w.cell? ⟨g, 0, none⟩ = some v
  i1 : ∃ v, w.cell? ⟨g, 1, none⟩ = some v
  i2 : ∃ v, w.cell? ⟨g, 2, none⟩ = some v
  i3 : ∃ v, w.cell? ⟨g, 3, none⟩ = some v
  i4 : ∃ v, w.cell? ⟨g, 4, none⟩ = some v
  f0 : w.frozen? ⟨g, 0, none⟩ = false
  f1 : w.frozen? ⟨g, 1, none⟩ = false
  f2 : w.frozen? ⟨g, 2, none⟩ = false
  f3 : w.frozen? ⟨g, 3, none⟩ = false
  f4 : w.frozen? ⟨g, 4, none⟩ = false
theorem cells_w5 {w : World} {g : Nat} {o0 o1 o2 o3 o4 : Value} {t : TypeId} (h : w.heap[g]? = some (.cells #[o0, o1, o2, o3, o4] t (0, 0))) : CellsW5 w g := by
  constructor <;> simp [World.cell?, World.frozen?, h]
theorem set_w5 {w : World} {g : Nat} {o0 o1 o2 o3 o4 : Value} {t : TypeId} (h : w.heap[g]? = some (.cells #[o0, o1, o2, o3, o4] t (0, 0))) (a0 a1 a2 a3 a4 : Value) :
    (((((w.setCell ⟨g, 0, none⟩ a0).setCell ⟨g, 1, none⟩ a1).setCell ⟨g, 2, none⟩ a2).setCell ⟨g, 3, none⟩ a3).setCell ⟨g, 4, none⟩ a4) = w.setRow g #[a0, a1, a2, a3, a4] := by
  have e0 := setCell_eq_setRow w g 0 (#[o0, o1, o2, o3, o4]) t (0, 0) a0 h
  have h0 := setRow_heap w g (#[o0, o1, o2, o3, o4]) ((#[o0, o1, o2, o3, o4]).setIfInBounds 0 a0) t (0, 0) h
  have e1 := setCell_eq_setRow _ g 1 ((#[o0, o1, o2, o3, o4]).setIfInBounds 0 a0) t (0, 0) a1 h0
  have h1 := setRow_heap _ g ((#[o0, o1, o2, o3, o4]).setIfInBounds 0 a0) (((#[o0, o1, o2, o3, o4]).setIfInBounds 0 a0).setIfInBounds 1 a1) t (0, 0) h0
  have e2 := setCell_eq_setRow _ g 2 (((#[o0, o1, o2, o3, o4]).setIfInBounds 0 a0).setIfInBounds 1 a1) t (0, 0) a2 h1
  have h2 := setRow_heap _ g (((#[o0, o1, o2, o3, o4]).setIfInBounds 0 a0).setIfInBounds 1 a1) ((((#[o0, o1, o2, o3, o4]).setIfInBounds 0 a0).setIfInBounds 1 a1).setIfInBounds 2 a2) t (0, 0) h1
  have e3 := setCell_eq_setRow _ g 3 ((((#[o0, o1, o2, o3, o4]).setIfInBounds 0 a0).setIfInBounds 1 a1).setIfInBounds 2 a2) t (0, 0) a3 h2
  have h3 := setRow_heap _ g ((((#[o0, o1, o2, o3, o4]).setIfInBounds 0 a0).setIfInBounds 1 a1).setIfInBounds 2 a2) (((((#[o0, o1, o2, o3, o4]).setIfInBounds 0 a0).setIfInBounds 1 a1).setIfInBounds 2 a2).setIfInBounds 3 a3) t (0, 0) h2
  have e4 := setCell_eq_setRow _ g 4 (((((#[o0, o1, o2, o3, o4]).setIfInBounds 0 a0).setIfInBounds 1 a1).setIfInBounds 2 a2).setIfInBounds 3 a3) t (0, 0) a4 h3
  rw [e0, e1, e2, e3, e4, setRow_setRow, setRow_setRow, setRow_setRow, setRow_setRow]
  rfl
/-- 7 cells that may be written. -/
structure CellsW7 (w : World) (g : Nat) : Prop where
  i0 : ∃ v, w.cell? ⟨g, 0, none⟩ = some v
  i1 : ∃ v, w.cell? ⟨g, 1, none⟩ = some v
  i2 : ∃ v, w.cell? ⟨g, 2, none⟩ = some v
  i3 : ∃ v, w.cell? ⟨g, 3, none⟩ = some v
  i4 : ∃ v, w.cell? ⟨g, 4, none⟩ = some v
  i5 : ∃ v, w.cell? ⟨g, 5, none⟩ = some v
  i6 : ∃ v, w.cell? ⟨g, 6, none⟩ = some v
  f0 : w.frozen? ⟨g, 0, none⟩ = false
  f1 : w.frozen? ⟨g, 1, none⟩ = false
  f2 : w.frozen? ⟨g, 2, none⟩ = false
  f3 : w.frozen? ⟨g, 3, none⟩ = false
  f4 : w.frozen? ⟨g, 4, none⟩ = false
  f5 : w.frozen? ⟨g, 5, none⟩ = false
  f6 : w.frozen? ⟨g, 6, none⟩ = false
theorem cells_w7 {w : World} {g : Nat} {o0 o1 o2 o3 o4 o5 o6 : Value} {t : TypeId} (h : w.heap[g]? = some (.cells #[o0, o1, o2, o3, o4, o5, o6] t (0, 0))) : CellsW7 w g := by
  constructor <;> simp [World.cell?, World.frozen?, h]
theorem set_w7 {w : World} {g : Nat} {o0 o1 o2 o3 o4 o5 o6 : Value} {t : TypeId} (h : w.heap[g]? = some (.cells #[o0, o1, o2, o3, o4, o5, o6] t (0, 0))) (a0 a1 a2 a3 a4 a5 a6 : Value) :
    (((((((w.setCell ⟨g, 0, none⟩ a0).setCell ⟨g, 1, none⟩ a1).setCell ⟨g, 2, none⟩ a2).setCell ⟨g, 3, none⟩ a3).setCell ⟨g, 4, none⟩ a4).setCell ⟨g, 5, none⟩ a5).setCell ⟨g, 6, none⟩ a6) = w.setRow g #[a0, a1, a2, a3, a4, a5, a6] := by
  have e0 := setCell_eq_setRow w g 0 (#[o0, o1, o2, o3, o4, o5, o6]) t (0, 0) a0 h
  have h0 := setRow_heap w g (#[o0, o1, o2, o3, o4, o5, o6]) ((#[o0, o1, o2, o3, o4, o5, o6]).setIfInBounds 0 a0) t (0, 0) h
  have e1 := setCell_eq_setRow _ g 1 ((#[o0, o1, o2, o3, o4, o5, o6]).setIfInBounds 0 a0) t (0, 0) a1 h0
  have h1 := setRow_heap _ g ((#[o0, o1, o2, o3, o4, o5, o6]).setIfInBounds 0 a0) (((#[o0, o1, o2, o3, o4, o5, o6]).setIfInBounds 0 a0).setIfInBounds 1 a1) t (0, 0) h0
  have e2 := setCell_eq_setRow _ g 2 (((#[o0, o1, o2, o3, o4, o5, o6]).setIfInBounds 0 a0).setIfInBounds 1 a1) t (0, 0) a2 h1
  have h2 := setRow_heap _ g (((#[o0, o1, o2, o3, o4, o5, o6]).setIfInBounds 0 a0).setIfInBounds 1 a1) ((((#[o0, o1, o2, o3, o4, o5, o6]).setIfInBounds 0 a0).setIfInBounds 1 a1).setIfInBounds 2 a2) t (0, 0) h1
  have e3 := setCell_eq_setRow _ g 3 ((((#[o0, o1, o2, o3, o4, o5, o6]).setIfInBounds 0 a0).setIfInBounds 1 a1).setIfInBounds 2 a2) t (0, 0) a3 h2
  have h3 := setRow_heap _ g ((((#[o0, o1, o2, o3, o4, o5, o6]).setIfInBounds 0 a0).setIfInBounds 1 a1).setIfInBounds 2 a2) (((((#[o0, o1, o2, o3, o4, o5, o6]).setIfInBounds 0 a0).setIfInBounds 1 a1).setIfInBounds 2 a2).setIfInBounds 3 a3) t (0, 0) h2
  have e4 := setCell_eq_setRow _ g 4 (((((#[o0, o1, o2, o3, o4, o5, o6]).setIfInBounds 0 a0).setIfInBounds 1 a1).setIfInBounds 2 a2).setIfInBounds 3 a3) t (0, 0) a4 h3
  have h4 := setRow_heap _ g (((((#[o0, o1, o2, o3, o4, o5, o6]).setIfInBounds 0 a0).setIfInBounds 1 a1).setIfInBounds 2 a2).setIfInBounds 3 a3) ((((((#[o0, o1, o2, o3, o4, o5, o6]).setIfInBounds 0 a0).setIfInBounds 1 a1).setIfInBounds 2 a2).setIfInBounds 3 a3).setIfInBounds 4 a4) t (0, 0) h3
  have e5 := setCell_eq_setRow _ g 5 ((((((#[o0, o1, o2, o3, o4, o5, o6]).setIfInBounds 0 a0).setIfInBounds 1 a1).setIfInBounds 2 a2).setIfInBounds 3 a3).setIfInBounds 4 a4) t (0, 0) a5 h4
  have h5 := setRow_heap _ g ((((((#[o0, o1, o2, o3, o4, o5, o6]).setIfInBounds 0 a0).setIfInBounds 1 a1).setIfInBounds 2 a2).setIfInBounds 3 a3).setIfInBounds 4 a4) (((((((#[o0, o1, o2, o3, o4, o5, o6]).setIfInBounds 0 a0).setIfInBounds 1 a1).setIfInBounds 2 a2).setIfInBounds 3 a3).setIfInBounds 4 a4).setIfInBounds 5 a5) t (0, 0) h4
  have e6 := setCell_eq_setRow _ g 6 (((((((#[o0, o1, o2, o3, o4, o5, o6]).setIfInBounds 0 a0).setIfInBounds 1 a1).setIfInBounds 2 a2).setIfInBounds 3 a3).setIfInBounds 4 a4).setIfInBounds 5 a5) t (0, 0) a6 h5
  rw [e0, e1, e2, e3, e4, e5, e6, setRow_setRow, setRow_setRow, setRow_setRow, setRow_setRow, setRow_setRow, setRow_setRow]
  rfl

theorem Tryz.partSize : (Tryz.prog.info? 56).map (·.size) = some 5 := by kernel_rfl

/-- A store over a row's whole block. -/
theorem below_setRow {n : Nat} {w W : World} {g : Nat} (hb : Below n w W) (hg : n ≤ g) (cs : Array Value) : Below n w (W.setRow g cs) :=
  hb.trans (⟨rfl, rfl, rfl, by simp, fun b hb => setRow_other _ _ _ _ (by omega)⟩)
/-- A part, stored into the result's cells, and handed back. -/
theorem part_post {fn : Func} (hres : fn.results = #[.cell 2 56]) (w w1 : World) (tmps : Array Value) (k n : Int) (v : Value) (q : Bool) (wd : Nat) (g : Nat) (hg : w.heap.size ≤ g) (hB : Below w.heap.size w w1) (o0 o1 o2 o3 o4 : Value)
    (hrow : w1.heap[g]? = some (.cells #[o0, o1, o2, o3, o4] 56 (0, 0))) (R : Ending → World → Prop) (hp : tmps.getD 2 undef = .pointer (some ⟨g, 0, none⟩))
    (h : ∀ Z, Below w.heap.size w Z → R (.returned (pv k n v q wd)) Z) :
    bodyPost Tryz.prog fn R .ret { tmps := tmps, defers := [] } (((((w1.setCell ⟨g, 0, none⟩ (.int .i64 k)).setCell ⟨g, 1, none⟩ (.int .i64 n)).setCell ⟨g, 2, none⟩ v).setCell ⟨g, 3, none⟩ (.bool q)).setCell ⟨g, 4, none⟩ (.int .i64 (wd : Nat))) := by
  rw [set_w5 hrow]
  have := results_cell_row (P := Tryz.prog) hres tmps (w1.setRow g #[.int .i64 k, .int .i64 n, v, .bool q, .int .i64 (wd : Nat)]) g 56 #[.int .i64 k, .int .i64 n, v, .bool q, .int .i64 (wd : Nat)] (0, 0) _ hp (setRow_heap _ _ _ _ _ (0, 0) hrow) Tryz.underlying56 rfl Tryz.partSize
  exact bodyPost_ret this rfl (h _ (below_setRow hB hg _))

set_option maxRecDepth 100000 in
set_option maxHeartbeats 4000000 in
theorem partOf_any (k n : Int) (ts : List M.Ty) (a : Option Addr) (cap : Nat) (w : World) (hL : LayT w w.heap.size ts (.slice a ts.length cap)) (hc : M.cntT (.mk k n ts) ≤ 1000) :
    Calls Tryz.prog 33 #[tv k n (.slice a ts.length cap)] w fun e w' => e = .returned (pv k n (.slice a ts.length cap) (M.fixedT (.mk k n ts)) (wdT (.mk k n ts))) ∧ Below w.heap.size w w' := by
  obtain ⟨w0, hw0⟩ : ∃ w0, (w.alloc (.cells #[.int .i64 k, .int .i64 n, .slice a ts.length cap] 24)).alloc (.cells #[.int .i64 0, .int .i64 0, .slice none 0 0, .bool false, .int .i64 0] 56) = w0 := ⟨_, rfl⟩
  have hb0 : Below w.heap.size w w0 := by rw [← hw0]; exact two_boxes _ _ _
  have hz0 : w0.heap.size = w.heap.size + 2 := by rw [← hw0]; simp
  have hB0 : BoxT w0 w.heap.size k n (.slice a ts.length cap) := by rw [← hw0]; exact ⟨by simp [go_sem], by simp [go_sem], by simp [go_sem]⟩
  have hr0 : w0.heap[w.heap.size + 1]? = some (.cells #[.int .i64 0, .int .i64 0, .slice none 0 0, .bool false, .int .i64 0] 56 (0, 0)) := by
    rw [← hw0]
    have := World.alloc_heap_new (w.alloc (.cells #[.int .i64 k, .int .i64 n, .slice a ts.length cap] 24)) (.cells #[.int .i64 0, .int .i64 0, .slice none 0 0, .bool false, .int .i64 0] 56)
    rw [World.size_alloc] at this
    exact this
  have HF := Lib.hid (shape_fixed k n ts a cap w0 ((hL.from_ hb0).mono hb0.size) hc)
  have HS := Lib.hid (fun W (h : Below w0.heap.size w0 W) => shape_size k n ts a cap W ((hL.from_ (hb0.trans (h.mono hb0.size))).mono (hb0.trans (h.mono hb0.size)).size) hc)
  have HW := Lib.hid hw0
  have c0 := hB0.c0
  have c1 := hB0.c1
  have c2 := hB0.c2
  obtain ⟨wd, hwd⟩ : ∃ wd, wd = wdT (.mk k n ts) := ⟨_, rfl⟩
  rw [← hwd]
  unfold wdT at hwd
  have HD := Lib.hid hwd
  clear hw0 hL hc hwd
  generalize M.fixedT (.mk k n ts) = q at *
  generalize M.sizeT (.mk k n ts) = sz at *
  go_enter Tryz.func33, Tryz.ntmps33
  go_wp2_with fail
  rw [HW.out]
  refine HF.out.mono ?_
  rintro e w1 ⟨rfl, hb1⟩
  have hB1 := hB0.from_ hb1 (by omega)
  have d0 := hB1.c0
  have d1 := hB1.c1
  have d2 := hB1.c2
  clear c0 c1 c2
  have hbl : w.heap.size < w1.heap.size := by have := hb1.size; omega
  cases q with
  | false =>
    have hwd : wd = 4 := by rw [HD.out]; rfl
    subst hwd
    have hr1 := (hb1.block _ (by omega)).trans hr0
    obtain ⟨⟨_, i0⟩, ⟨_, i1⟩, ⟨_, i2⟩, ⟨_, i3⟩, ⟨_, i4⟩, f0, f1, f2, f3, f4⟩ := cells_w5 hr1
    clear HD
    go_wp2_with fail
    exact part_post rfl w w1 _ k n _ false 4 _ (by omega) (hb0.trans (hb1.mono hb0.size)) _ _ _ _ _ hr1 _ rfl fun Z hZ => ⟨rfl, hZ⟩
  | true =>
    have HS1 : Hid (∀ W, Below w1.heap.size w1 W → Calls Tryz.prog 72 #[tv k n (.slice a ts.length cap)] W fun e w' => e = .returned (.int .i64 (sz : Nat)) ∧ Below w1.heap.size w1 w') := fun W h => (HS.out W (hb1.trans (h.mono hb1.size))).mono fun _ _ q => ⟨q.1, h.trans (q.2.mono h.size)⟩
    go_wp2_with fail
    have hwd : wd = sz := by rw [HD.out]; rfl
    subst hwd
    clear HD
    go_region_with (refine (HS1.out _ (Below.drew (Below.refl _ _))).mono ?_; rintro e w2 ⟨rfl, hb2⟩; have hr1 := ((hb1.trans (hb2.mono hb1.size)).block _ (by omega)).trans hr0; have d0 := (hB1.from_ hb2 hbl).c0; have d1 := (hB1.from_ hb2 hbl).c1; have d2 := (hB1.from_ hb2 hbl).c2; obtain ⟨⟨_, i0⟩, ⟨_, i1⟩, ⟨_, i2⟩, ⟨_, i3⟩, ⟨_, i4⟩, f0, f1, f2, f3, f4⟩ := cells_w5 hr1)
    all_goals
      go_wp2_with fail
      exact part_post rfl w w2 _ k n _ true wd _ (by omega) (hb0.trans ((hb1.trans (hb2.mono hb1.size)).mono hb0.size)) _ _ _ _ _ hr1 _ rfl fun Z hZ => ⟨rfl, hZ⟩
end Go.Proofs.YtgloapcfmlijlaaGreatDoor
namespace Go.Proofs.YtgloapcfmlijlaaGreatDoor
open Go Go.RowKit Go.Shelf
attribute [local go_sem] Oper.semAt_some

/-- The type of the item at a place. -/
def M.tyAt (ts : List M.Ty) (i : Nat) : M.Ty := ts[min i (ts.length - 1)]?.getD default
/-- What comes each time: a place, a type, the value of those in it. -/
abbrev Ep := (Nat × M.Ty) × Value
def encP (x : Ep) : Array Value := match x.1.2 with | .mk k n ins => #[.int .i64 (x.1.1 : Nat), pv k n x.2 (M.fixedT (.mk k n ins)) (wdT (.mk k n ins))]
def GoodP (w0 : World) (ts : List M.Ty) (items : Nat) (pre : List Ep) (x : Ep) : Prop :=
  x.1.1 = pre.length ∧ x.1.1 < items ∧ x.1.2 = M.tyAt ts x.1.1 ∧ LayT w0 w0.heap.size x.1.2.ins x.2
def AllP (ts : List M.Ty) (items : Nat) (xs : List Ep) : Prop := xs.length = items ∧ ∀ (i : Nat) (x : Ep), xs[i]? = some x → x.1 = (i, M.tyAt ts i)

/-- What the rounds do, for the function that calls them. -/
structure PartH (w0 : World) (ts : List M.Ty) (items : Nat) (T : Nat → Prop) (N0 l bt bi : Nat) (k n : Int) (v : Value) (J : List Ep → World → Prop) (Jp : List PanicEntry → World → Prop) : Prop where
  grow : ∀ pre A B, J pre A → A.grownBy B (some N0) → J pre B
  low : ∀ pre A, J pre A → Below w0.heap.size w0 A
  bt : ∀ pre A, J pre A → BoxT A bt k n v
  bi : ∀ pre A, J pre A → A.cell? ⟨bi, 0, none⟩ = some (.int .i64 (items : Nat))
  tn : T N0
  y : ∀ m pre x A, J pre A → GoodP w0 ts items pre x → YieldAt Fence.wide m Tryz.prog l (encP x) A fun e W' =>
    (e = .returned (.bool true) ∧ J (pre ++ [x]) W' ∧ A.heap.size ≤ W'.heap.size ∧ ∀ b, b < A.heap.size → T b → W'.heap[b]? = A.heap[b]?) ∨ (∃ ch, e = .panicked ch ∧ Jp ch W')

/-- The box of a part. -/
def PBox (W : World) (g : Nat) (k n : Int) (v : Value) (f : Bool) (wd : Nat) : Prop := W.heap[g]? = some (.cells #[.int .i64 k, .int .i64 n, v, .bool f, .int .i64 (wd : Nat)] 56 (0, 0))

set_option maxRecDepth 100000 in
set_option maxHeartbeats 8000000 in
theorem parts_seq (w0 : World) (ts : List M.Ty) (items : Nat) (T : Nat → Prop) (N0 l bt bi : Nat) (k n : Int) (a : Option Addr) (cap : Nat) (J : List Ep → World → Prop) (Jp : List PanicEntry → World → Prop) (H : PartH w0 ts items T N0 l bt bi k n (.slice a ts.length cap) J Jp) (m : Nat)
    (hL : LayT w0 w0.heap.size ts (.slice a ts.length cap)) (hc : M.cntTs ts ≤ 999) (hi : items ≤ 6000) (ht : items ≠ 0 → 1 ≤ ts.length) (_hn : w0.heap.size ≤ N0) (W : World) (hW : W.heap.size = N0) (h0 : J [] W) :
    CallsIn Fence.wide m Tryz.prog 187 #[.func (.yield l) #[] #[], .pointer (some ⟨bi, 0, none⟩), .pointer (some ⟨bt, 0, none⟩)] W fun e W' =>
      (∃ v xs, e = .returned v ∧ AllP ts items xs ∧ J xs W') ∨ (∃ ch, e = .panicked ch ∧ Jp ch W') := by
  have hro : Fence.wide.round = none := rfl
  have hlen := M.length_cntT ts
  obtain ⟨W1, hW1⟩ : ∃ W1, W.alloc (.cells #[.int .i64 0, .int .i64 0, .slice none 0 0, .bool false, .int .i64 0] 56) = W1 := ⟨_, rfl⟩
  have hg1 : W.grownBy W1 (some N0) := by rw [← hW1]; exact World.grownBy_alloc _ _ _
  have hz1 : W1.heap.size = N0 + 1 := by rw [← hW1]; simp; omega
  have hP1 : PBox W1 N0 0 0 (.slice none 0 0) false 0 := by rw [← hW1, ← hW]; exact World.alloc_heap_new _ _
  have hJ1 := H.grow _ _ _ h0 hg1
  have c0 := H.bi _ _ hJ1
  have HW1 := Lib.hid hW1
  rw [← hW1] at c0
  clear hW1 hg1
  refine callsIn_of_wp Tryz.func187 rfl trivial ?_ rfl
  simp only [Tryz.ntmps187, List.size_toArray, List.length_cons, List.length_nil, Nat.reduceAdd, Nat.reduceSub, Array.replicate_succ, Array.replicate_zero, List.push_toArray, List.append_toArray, List.nil_append, List.cons_append]
  gi_wp2
  rw [HW1.out]
  gi_loopw [7] (fun i wr => ∃ (j : Nat) (ys : List Ep) (k1 n1 : Int) (v1 : Value) (f1 : Bool) (wd1 : Nat), j ≤ items ∧ i = .int .i64 (j : Nat) ∧ ys.length = j ∧ (∀ (i : Nat) (x : Ep), ys[i]? = some x → x.1 = (i, M.tyAt ts i)) ∧ J ys wr ∧ PBox wr N0 k1 n1 v1 f1 wd1 ∧
      (j = 0 ∨ ∃ us : List M.Ty, M.tyAt ts (j - 1) = .mk k1 n1 us ∧ f1 = M.fixedT (.mk k1 n1 us) ∧ wd1 = wdT (.mk k1 n1 us) ∧ LayT w0 w0.heap.size us v1))
    (fun i _ => items - (intOf i).toNat)
  case atStart => exact ⟨0, [], _, _, _, _, _, by omega, rfl, rfl, by simp, hJ1, hP1, .inl rfl⟩
  case round =>
    obtain ⟨j, ys, k1, n1, v1, f1, wd1, hj, rfl, hyl, hys, hJr, hPr, hor⟩ := hrel
    have hlow := H.low _ _ hJr
    have hBt := H.bt _ _ hJr
    by_cases hlt : j < items
    · have hlt1 := ht (by omega)
      have d2 := hBt.c2
      have hj9 : j < 6000 := by omega
      by_cases hin : j < ts.length
      · obtain ⟨b, o, k', m', us, au, cu, rfl, hbn, hxk, e0, e1, e2, hLu⟩ := hL.at_ hin
        have g0 := (hlow.cell (p := ⟨b, o + j * 3, none⟩) hbn).trans e0
        have g1 := (hlow.cell (p := ⟨b, o + j * 3 + 1, none⟩) hbn).trans e1
        have g2 := (hlow.cell (p := ⟨b, o + j * 3 + 2, none⟩) hbn).trans e2
        have hcx := M.cntT_part (List.mem_of_getElem? hxk)
        have hty : M.tyAt ts j = .mk k' m' us := by unfold M.tyAt; rw [show min j (ts.length - 1) = j by omega, hxk]; rfl
        have HP := Lib.hid (fun W (h : Below wr.heap.size wr W) => partOf_any k' m' us au cu W ((hLu.from_ (hlow.trans (h.mono hlow.size))).mono (hlow.trans (h.mono hlow.size)).size) (by omega))
        have HL := Lib.hid hLu
        clear hL hLu e0 e1 e2 hor
        gi_wp2_with fail
        refine ⟨trivial, fun h => (by cases h), (callsIn_wide.2 (HP.out _ (Below.refl _ _))).mono ?_⟩
        rintro e W3 ⟨rfl, hb3⟩
        have hN0 : N0 < wr.heap.size := (Array.getElem?_eq_some_iff.1 hPr).1
        have hP3 : PBox W3 N0 k1 n1 v1 f1 wd1 := (hb3.block _ hN0).trans hPr
        have hz3 := hb3.size
        obtain ⟨W4, hW4⟩ : ∃ W4, W3.setRow N0 #[.int .i64 k', .int .i64 m', .slice au us.length cu, .bool (M.fixedT (.mk k' m' us)), .int .i64 (wdT (.mk k' m' us) : Nat)] = W4 := ⟨_, rfl⟩
        have hP4 : PBox W4 N0 k' m' (.slice au us.length cu) (M.fixedT (.mk k' m' us)) (wdT (.mk k' m' us)) := by rw [← hW4]; exact setRow_heap _ _ _ _ _ _ hP3
        have hg4 : wr.grownBy W4 (some N0) := by
          refine World.grownBy.trans (b := W3) ⟨hb3.os, hb3.tape, hb3.output, hb3.size, fun i hi _ => hb3.block i hi⟩ ?_
          rw [← hW4]
          exact ⟨rfl, rfl, rfl, by simp, fun i hi hne => setRow_other _ _ _ _ (fun e => hne (by rw [e]))⟩
        have hJ4 := H.grow _ _ _ hJr hg4
        obtain ⟨fn, tmps, assign, body, hy, hR⟩ := H.y (m - 1) ys ((j, .mk k' m' us), Value.slice au us.length cu) W4 hJ4 ⟨hyl.symm, hlt, hty.symm, HL.out⟩
        dsimp only [encP] at hy
        have HT := H.tn
        have hlP : N0 < W4.heap.size := (Array.getElem?_eq_some_iff.1 hP4).1
        have hyl' : (ys ++ [((j, M.Ty.mk k' m' us), Value.slice au us.length cu)]).length = j + 1 := by simp [hyl]
        have hys' : ∀ (i : Nat) (x : Ep), (ys ++ [((j, M.Ty.mk k' m' us), Value.slice au us.length cu)])[i]? = some x → x.1 = (i, M.tyAt ts i) := by
          intro i x hx
          by_cases hij : i < ys.length
          · rw [List.getElem?_append_left hij] at hx; exact hys i x hx
          · rw [List.getElem?_append_right (by omega)] at hx
            by_cases hz : i - ys.length = 0
            · rw [hz] at hx
              cases hx
              obtain rfl : i = j := by omega
              exact congrArg (Prod.mk i) hty.symm.symm.symm
            · rw [List.getElem?_eq_none (by simp; omega)] at hx; cases hx
        have HYS := Lib.hid hys'
        have HYL := Lib.hid hyl'
        have HW4 := Lib.hid hW4
        clear HP hW4 hg4 hJr hlow hBt hcx hJ4 H
        generalize hq4 : M.fixedT (.mk k' m' us) = q4 at *
        generalize hwd4 : wdT (.mk k' m' us) = wd4 at *
        have HQ := Lib.hid hq4
        have HD := Lib.hid hwd4
        clear hq4 hwd4 hys hys' hyl'
        gi_wp2_with (first | (refine wpListIn_store_row rfl _ _ _ rfl N0 #[.int .i64 k', .int .i64 m', .slice au us.length cu, .bool q4, .int .i64 (wd4 : Nat)] rfl rfl _ _ hP3 Tryz.partSize rfl (by simp [Value.oneCell']) ?_; rw [HW4.out]) | (refine wpListIn_load_row rfl _ _ rfl N0 rfl _ _ _ _ hP4 Tryz.underlying56 rfl Tryz.partSize ?_))
        refine ⟨fun h => (by cases h), hR.mono ?_⟩
        rintro e W5 (⟨rfl, hj5, hz5, hk5⟩ | ⟨ch, rfl, hjp⟩)
        · have HJ5 := Lib.hid hj5
          have HP5 := Lib.hid ((hk5 N0 hlP HT).trans hP4)
          clear hy hR hj5 hk5
          gi_wp2
          go_roundw
          case rel => exact ⟨j + 1, _, k', m', .slice au us.length cu, q4, wd4, by omega, by simp, HYL.out, HYS.out, HJ5.out, HP5.out, .inr ⟨us, by rw [Nat.add_sub_cancel]; exact hty.symm.symm, HQ.out.symm, HD.out.symm, HL.out⟩⟩
          case measure => simp [intOf]; omega
        · have HJP := Lib.hid hjp
          clear hy hR hjp
          gi_wp2_with fail
          exact ⟨rfl, .inr ⟨ch, rfl, HJP.out⟩⟩
      · have hj0 : j ≠ 0 := by omega
        obtain ⟨us, hty, rfl, rfl, hLv⟩ := hor.resolve_left hj0
        have hte : M.tyAt ts j = .mk k1 n1 us := by rw [← hty]; unfold M.tyAt; rw [show min j (ts.length - 1) = min (j - 1) (ts.length - 1) by omega]
        obtain ⟨uv, uc, rfl, _, _⟩ := hLv.slice
        have HL := Lib.hid hLv
        obtain ⟨fn, tmps, assign, body, hy, hR⟩ := H.y (m - 1) ys ((j, .mk k1 n1 us), Value.slice uv us.length uc) wr hJr ⟨hyl.symm, hlt, hte.symm, HL.out⟩
        dsimp only [encP] at hy
        have HT := H.tn
        have hlP : N0 < wr.heap.size := (Array.getElem?_eq_some_iff.1 hPr).1
        have hyl' : (ys ++ [((j, M.Ty.mk k1 n1 us), Value.slice uv us.length uc)]).length = j + 1 := by simp [hyl]
        have hys' : ∀ (i : Nat) (x : Ep), (ys ++ [((j, M.Ty.mk k1 n1 us), Value.slice uv us.length uc)])[i]? = some x → x.1 = (i, M.tyAt ts i) := by
          intro i x hx
          by_cases hij : i < ys.length
          · rw [List.getElem?_append_left hij] at hx; exact hys i x hx
          · rw [List.getElem?_append_right (by omega)] at hx
            by_cases hz : i - ys.length = 0
            · rw [hz] at hx
              cases hx
              obtain rfl : i = j := by omega
              exact congrArg (Prod.mk i) hte.symm.symm.symm
            · rw [List.getElem?_eq_none (by simp; omega)] at hx; cases hx
        have HYS := Lib.hid hys'
        have HYL := Lib.hid hyl'
        clear hlow hBt hJr hor H hL hLv
        generalize hq4 : M.fixedT (.mk k1 n1 us) = q4 at *
        generalize hwd4 : wdT (.mk k1 n1 us) = wd4 at *
        have HQ := Lib.hid hq4
        have HD := Lib.hid hwd4
        clear hq4 hwd4 hys hys' hyl'
        gi_wp2_with (first | (refine wpListIn_load_row rfl _ _ rfl N0 rfl _ _ _ _ hPr Tryz.underlying56 rfl Tryz.partSize ?_))
        refine ⟨fun h => (by cases h), hR.mono ?_⟩
        rintro e W5 (⟨rfl, hj5, hz5, hk5⟩ | ⟨ch, rfl, hjp⟩)
        · have HJ5 := Lib.hid hj5
          have HP5 := Lib.hid ((hk5 N0 hlP HT).trans hPr)
          clear hy hR hj5 hk5
          gi_wp2
          go_roundw
          case rel => exact ⟨j + 1, _, k1, n1, .slice uv us.length uc, q4, wd4, by omega, by simp, HYL.out, HYS.out, HJ5.out, HP5.out, .inr ⟨us, by rw [Nat.add_sub_cancel]; exact hte.symm.symm, HQ.out.symm, HD.out.symm, HL.out⟩⟩
          case measure => simp [intOf]; omega
        · have HJP := Lib.hid hjp
          clear hy hR hjp
          gi_wp2_with fail
          exact ⟨rfl, .inr ⟨ch, rfl, HJP.out⟩⟩
    · obtain rfl : j = items := by omega
      have HJ := Lib.hid hJr
      clear hJr hlow hBt H
      gi_wp2_with fail
      go_end0
      exact .inl ⟨_, ys, rfl, ⟨hyl, hys⟩, HJ.out⟩
end Go.Proofs.YtgloapcfmlijlaaGreatDoor
namespace Go.Proofs.YtgloapcfmlijlaaGreatDoor
open Go Go.RowKit Go.Shelf

/-- Back, or a panic. -/
def orPan (q : Nat) : Ending := if q = 0 then .returned (.tuple #[]) else pan q
theorem orPan_0 : orPan 0 = .returned (.tuple #[]) := rfl
theorem orPan_ne {q : Nat} (h : q ≠ 0) : orPan q = pan q := by unfold orPan; rw [if_neg h]
set_option maxRecDepth 100000 in
set_option maxHeartbeats 4000000 in
theorem catch_pan (p : Addr) (x : Value) (q : Nat) (w : World) (hc : w.cell? p = some x) (hz : w.frozen? p = false) :
    CallsD Tryz.prog 62 #[.pointer (some p)] (.panicking [{ v := .iface 34 (.int .i64 (q : Nat)), recovered := false }]) w fun e u' w' =>
      e = .returned (.tuple #[]) ∧ u' = .panicking [{ v := .iface 34 (.int .i64 (q : Nat)), recovered := true }] ∧ w' = w.setCell p (.int .i64 (q : Nat)) := by
  have hta : ∀ (v : Value) (w : World), (Instr.typeAssert (.iface 34 v) 20 34 false).run Tryz.prog w = .ok v w := fun v w => by
    simp [Instr.typeAssert, run_underlying Tryz.underlying34, go_sem, Result.andThen]
  refine callsD_of_wpS Tryz.func62 rfl fun c₀ cs hu => ?_
  apply wpS_seq
  apply wpS_region
  simp [wpOpsS, go_sem, recoverD, hu, Tryz.ntmps62, Exit.thenS]
  refine wpS_of_wp ?_
  simp only [Array.replicate_succ, Array.replicate_zero, List.push_toArray, List.append_toArray, List.nil_append, List.cons_append, List.setIfInBounds_toArray, List.set_cons_zero, List.set_cons_succ]
  go_wp2_with fail
  simp [bodyPostS, results, Tryz.results62]

theorem catch_idle (p : Addr) (w : World) :
    CallsD Tryz.prog 62 #[.pointer (some p)] .returning w fun e u' w' => e = .returned (.tuple #[]) ∧ u' = .returning ∧ w' = w := by
  refine callsD_of_wpS Tryz.func62 rfl fun c₀ cs hu => ?_
  apply wpS_seq
  apply wpS_region
  simp [wpOpsS, go_sem, recoverD, hu, Tryz.ntmps62, Exit.thenS]
  refine wpS_of_wp ?_
  simp only [Array.replicate_succ, Array.replicate_zero, List.push_toArray, List.append_toArray, List.nil_append, List.cons_append, List.setIfInBounds_toArray, List.set_cons_zero, List.set_cons_succ]
  go_wp2_with fail
  cases c₀
  simp_all [bodyPostS, results, Tryz.results62]

set_option maxRecDepth 100000 in
set_option maxHeartbeats 4000000 in
/-- What is given up is told. -/
theorem given_any (g : FuncId) (caps : Array Value) (hen : ∀ args w, (callFunc g args).run Tryz.prog w = .ok (.enter g args) w) (w : World) (R : Nat → World → Prop)
    (H : Calls Tryz.prog g caps (w.alloc (.cells #[.int .i64 0] 34)) fun e w' => ∃ q, e = orPan q ∧ R q w' ∧ Boxed w' w.heap.size 34 (.int .i64 0)) :
    Calls Tryz.prog 30 #[.func (.func g) #[] caps] w fun e w' => ∃ (q : Nat) (W : World), e = .returned (.int .i64 (q : Nat)) ∧ R q W ∧ w' = W.setCell ⟨w.heap.size, 0, none⟩ (.int .i64 (q : Nat)) := by
  have hmf : ∀ (fn : Fn) (first cap : Array Value) (w : World), (Instr.makeFunc fn first cap).run Tryz.prog w = .ok (.func fn first cap) w := fun _ _ _ _ => rfl
  go_enter_defers Tryz.func30, Tryz.ntmps30
  go_wp2_with fail
  refine H.mono ?_
  rintro e w1 ⟨q, rfl, hR, hB⟩
  have hR0 := Lib.hid hR
  clear hR H hen
  have y1 := hB.cell
  have y2 : w1.frozen? ⟨w.heap.size, 0, none⟩ = false := by simp [World.frozen?, show w1.heap[w.heap.size]? = _ from hB]
  by_cases hq : q = 0
  · subst hq
    rw [orPan_0]
    have hrd : (w1.setCell ⟨w.heap.size, 0, none⟩ (.int .i64 0)).cell? ⟨w.heap.size, 0, none⟩ = some (.int .i64 0) := World.cell?_setCell_same' _ _ _ (by rw [y1]; rfl)
    go_wp2_with fail
    refine leaves_cons (f := 62) (args := #[.pointer (some ⟨w.heap.size, 0, none⟩)]) (by simp) (by simp [go_sem]) ?_
    refine (catch_idle ⟨w.heap.size, 0, none⟩ _).mono ?_
    rintro e u' w4 ⟨rfl, rfl, rfl⟩
    simp [Leaves, settle, results, Tryz.results30, go_sem, hrd]
    exact ⟨0, rfl, w1, hR0.out, rfl⟩
  · rw [orPan_ne hq]
    have hrd : (w1.setCell ⟨w.heap.size, 0, none⟩ (.int .i64 (q : Nat))).cell? ⟨w.heap.size, 0, none⟩ = some (.int .i64 (q : Nat)) := World.cell?_setCell_same' _ _ _ (by rw [y1]; rfl)
    go_wp2_with fail
    refine leaves_cons (f := 62) (args := #[.pointer (some ⟨w.heap.size, 0, none⟩)]) (by simp) (by simp [go_sem]) ?_
    refine (catch_pan ⟨w.heap.size, 0, none⟩ _ q _ y1 y2).mono ?_
    rintro e u' w4 ⟨rfl, rfl, rfl⟩
    simp [Leaves, settle, results, Tryz.results30, go_sem, hrd]
    exact ⟨q, rfl, w1, hR0.out, rfl⟩
end Go.Proofs.YtgloapcfmlijlaaGreatDoor
namespace Go.Proofs.YtgloapcfmlijlaaGreatDoor
open Go Go.RowKit

section
variable {P : Program} {ops : Array Oper} {Q : Exit → Act → World → Prop} {md : Region.Mode}
theorem wpAny_roundQ {l n : Nat} (hQ : ¬ LetsOut Q) (hd : noDefer ops = true) : ∀ (fuel : Nat) (listed : Array Bool) (a : Act) (w : World), wpAny P md ops Q fuel listed a w → wpAnyIn (Fence.wide.inRound l) n P md ops Q fuel listed a w
  | 0, _, _, _, h => h
  | fuel + 1, listed, a, w, h => by
    refine ⟨h.1, fun i hi => ?_⟩
    have h1 := h.2 i hi
    unfold wpOp at h1
    unfold wpOpIn
    cases ho : ops[i]? with
    | none => simp only [ho] at h1 ⊢; exact wpAny_roundQ hQ hd fuel _ _ _ h1
    | some o =>
      simp only [ho] at h1 ⊢
      by_cases hw : Region.wanted o (yielded ops a.tmps) = true
      · simp only [hw, if_true] at h1 ⊢
        rcases h1 with h1 | ⟨_, h1⟩
        · exact wp_round (noDefer_at hd ho) (fun a w => wpAny_roundQ hQ hd fuel _ a w) h1
        · exact absurd h1 hQ
      · simp only [hw, if_false, Bool.false_eq_true] at h1 ⊢
        exact ⟨fun _ _ => trivial, wpAny_roundQ hQ hd fuel _ _ _ h1⟩
/-- A region in a round, by the law on what is held. -/
theorem region_roundH {r m id : Nat} {a : Act} {w : World} {S : World → Prop} (hQ : ¬ LetsOut Q) (hm : P.follows .mixedOrders = true) (hd : noDefer ops = true)
    (h : wpAnyH P .any ops Q S ops.size (Array.replicate ops.size false) a w.drew) : (Code.region id ops true).wpIn (Fence.wide.inRound r) m P Q a w :=
  wpIn_region_any hm (wpAny_roundQ hQ hd _ _ _ _ (wpAny_of_held _ _ _ _ h))
end

/-- A world that is as another was, but for some of its blocks, and for what is new. -/
structure Gr (A W : World) (R : Nat → Prop) : Prop where
  os : W.os = A.os
  tape : W.tape = A.tape
  output : W.output = A.output
  size : A.heap.size ≤ W.heap.size
  block : ∀ b, b < A.heap.size → ¬ R b → W.heap[b]? = A.heap[b]?
theorem Gr.refl (A : World) (R : Nat → Prop) : Gr A A R := ⟨rfl, rfl, rfl, Nat.le_refl _, fun _ _ _ => rfl⟩
theorem Gr.grow {A W W' : World} {R : Nat → Prop} {row : Option Nat} (h : Gr A W R) (hg : W.grownBy W' row) (hr : ∀ j, row = some j → A.heap.size ≤ j ∨ R j) : Gr A W' R :=
  ⟨hg.os.trans h.os, hg.tape.trans h.tape, hg.output.trans h.output, Nat.le_trans h.size hg.size, fun b hb hR => (hg.block b (Nat.lt_of_lt_of_le hb h.size) (fun e => (hr b e.symm).elim (fun h => by omega) hR)).trans (h.block b hb hR)⟩
theorem Gr.below {A W W' : World} {R : Nat → Prop} (h : Gr A W R) (hb : Below W.heap.size W W') : Gr A W' R :=
  h.grow (row := none) ⟨hb.os, hb.tape, hb.output, hb.size, fun i hi _ => hb.block i hi⟩ (fun _ e => by cases e)
theorem Gr.low {A W w : World} {n : Nat} {R : Nat → Prop} (hb : Below n w A) (h : Gr A W R) (hn : n ≤ A.heap.size) (hR : ∀ b, R b → n ≤ b) : Below n w W :=
  ⟨h.os.trans hb.os, h.tape.trans hb.tape, h.output.trans hb.output, Nat.le_trans hb.size h.size, fun b hlt => (h.block b (by omega) (fun hr => by have := hR b hr; omega)).trans (hb.block b hlt)⟩
theorem Gr.cell {A W : World} {R : Nat → Prop} (h : Gr A W R) {p : Addr} (hp : p.block < A.heap.size) (hR : ¬ R p.block) : W.cell? p = A.cell? p := World.cell?_of_block (h.block _ hp hR)
theorem Gr.set {A W : World} {R : Nat → Prop} (h : Gr A W R) (p : Addr) (v : Value) (hp : A.heap.size ≤ p.block ∨ R p.block) : Gr A (W.setCell p v) R :=
  ⟨h.os, h.tape, h.output, by simpa [World.setCell] using h.size, fun b hb hR => (Below.heap_setCell _ _ _ b (fun e => by subst e; exact hp.elim (fun h => by omega) hR)).trans (h.block b hb hR)⟩
theorem Gr.drew {A W : World} {R : Nat → Prop} (h : Gr A W R) : Gr A W.drew R := ⟨h.os, h.tape, h.output, h.size, h.block⟩
theorem Gr.own {A : World} {α : Type} {R : Nat → Prop} : OwnFrom A.heap.size fun (_ : α) W => Gr A W R := fun _ _ _ _ h hg hr => h.grow hg fun j e => .inl (hr j e).1
theorem Boxed.ofGr {A W : World} {R : Nat → Prop} (h : Gr A W R) {b : Nat} {t : TypeId} {v : Value} (hB : Boxed A b t v) (hR : ¬ R b) : Boxed W b t v := (h.block b hB.lt hR).trans hB
theorem BoxT.ofGr {A W : World} {R : Nat → Prop} (h : Gr A W R) {b : Nat} {k n : Int} {v : Value} (hB : BoxT A b k n v) (hb : b < A.heap.size) (hR : ¬ R b) : BoxT W b k n v :=
  ⟨(h.cell (p := ⟨b, 0, none⟩) hb hR).trans hB.c0, (h.cell (p := ⟨b, 1, none⟩) hb hR).trans hB.c1, (h.cell (p := ⟨b, 2, none⟩) hb hR).trans hB.c2⟩

theorem parts_any (k n : Int) (v : Value) (items : Nat) (w : World) :
    Calls Tryz.prog 150 #[tv k n v, .int .i64 (items : Nat)] w fun e w' =>
      e = .returned (.func (.func 187) #[] #[.pointer (some ⟨w.heap.size + 1, 0, none⟩), .pointer (some ⟨w.heap.size, 0, none⟩)]) ∧ w' = (w.alloc (.cells #[.int .i64 k, .int .i64 n, v] 24)).alloc (.cells #[.int .i64 (items : Nat)] 3) := by
  have hmf : ∀ (fn : Fn) (first cap : Array Value) (w : World), (Instr.makeFunc fn first cap).run Tryz.prog w = .ok (.func fn first cap) w := fun _ _ _ _ => rfl
  go_enter Tryz.func150, Tryz.ntmps150
  go_wp2_with fail
  go_ret
  exact ⟨rfl, rfl⟩

/-- How an item of a kind stands in a row's beginning, as shape tells it. -/
def kdT (t : M.Ty) : Option Nat := if M.fixedT t = true then some (M.sizeT t) else none
theorem kdT_wd (t : M.Ty) : wdT t = (kdT t).getD 4 := by unfold wdT kdT; split <;> rfl
theorem kdT_chk {t : M.Ty} (h : M.chkT 0 t = 0) : kdT t = M.kindOf t := by
  unfold kdT M.kindOf
  rw [M.fixedT, if_pos h]
  split
  · rename_i hf
    rw [M.sizeT_fix (by rw [M.fixedT, if_pos h]; exact hf)]
  · rfl
theorem hdLen_append : ∀ a b : List (Option Nat), M.hdLen (a ++ b) = M.hdLen a + M.hdLen b
  | [], b => by simp [M.hdLen]
  | some n :: a, b => by rw [List.cons_append, M.hdLen, M.hdLen, hdLen_append a b]; omega
  | none :: a, b => by rw [List.cons_append, M.hdLen, M.hdLen, hdLen_append a b]; omega
/-- The widths of what has come. -/
def nxt (pre : List Ep) : Nat := M.hdLen (pre.map fun x => kdT x.1.2)
theorem nxt_snoc (pre : List Ep) (x : Ep) : nxt (pre ++ [x]) = nxt pre + wdT x.1.2 := by
  unfold nxt
  rw [List.map_append, hdLen_append, kdT_wd]
  simp only [List.map_cons, List.map_nil]
  cases h : kdT x.1.2 with
  | none => simp [M.hdLen]
  | some n => simp [M.hdLen]
end Go.Proofs.YtgloapcfmlijlaaGreatDoor
namespace Go.Proofs.YtgloapcfmlijlaaGreatDoor.M
open Go

theorem bn_none {f : Nat → Bool} (h : ∀ i, i < 8 → f i = false) : bn f = 0 := by
  unfold bn
  rw [h 0 (by omega), h 1 (by omega), h 2 (by omega), h 3 (by omega), h 4 (by omega), h 5 (by omega), h 6 (by omega), h 7 (by omega)]
  rfl
theorem bn_more {f g : Nat → Bool} {j : Nat} (hj : j < 8) (hf : f j = false) (hg : g j = true) (h : ∀ i, i < 8 → i ≠ j → f i = g i) : bn g = bn f + 2 ^ j := by
  unfold bn
  match j, hj with
  | 0, _ => rw [hf, hg, h 1 (by omega) (by omega), h 2 (by omega) (by omega), h 3 (by omega) (by omega), h 4 (by omega) (by omega), h 5 (by omega) (by omega), h 6 (by omega) (by omega), h 7 (by omega) (by omega)]; simp; omega
  | 1, _ => rw [hf, hg, h 0 (by omega) (by omega), h 2 (by omega) (by omega), h 3 (by omega) (by omega), h 4 (by omega) (by omega), h 5 (by omega) (by omega), h 6 (by omega) (by omega), h 7 (by omega) (by omega)]; simp; omega
  | 2, _ => rw [hf, hg, h 0 (by omega) (by omega), h 1 (by omega) (by omega), h 3 (by omega) (by omega), h 4 (by omega) (by omega), h 5 (by omega) (by omega), h 6 (by omega) (by omega), h 7 (by omega) (by omega)]; simp; omega
  | 3, _ => rw [hf, hg, h 0 (by omega) (by omega), h 1 (by omega) (by omega), h 2 (by omega) (by omega), h 4 (by omega) (by omega), h 5 (by omega) (by omega), h 6 (by omega) (by omega), h 7 (by omega) (by omega)]; simp; omega
  | 4, _ => rw [hf, hg, h 0 (by omega) (by omega), h 1 (by omega) (by omega), h 2 (by omega) (by omega), h 3 (by omega) (by omega), h 5 (by omega) (by omega), h 6 (by omega) (by omega), h 7 (by omega) (by omega)]; simp; omega
  | 5, _ => rw [hf, hg, h 0 (by omega) (by omega), h 1 (by omega) (by omega), h 2 (by omega) (by omega), h 3 (by omega) (by omega), h 4 (by omega) (by omega), h 6 (by omega) (by omega), h 7 (by omega) (by omega)]; simp; omega
  | 6, _ => rw [hf, hg, h 0 (by omega) (by omega), h 1 (by omega) (by omega), h 2 (by omega) (by omega), h 3 (by omega) (by omega), h 4 (by omega) (by omega), h 5 (by omega) (by omega), h 7 (by omega) (by omega)]; simp; omega
  | 7, _ => rw [hf, hg, h 0 (by omega) (by omega), h 1 (by omega) (by omega), h 2 (by omega) (by omega), h 3 (by omega) (by omega), h 4 (by omega) (by omega), h 5 (by omega) (by omega), h 6 (by omega) (by omega)]; simp
/-- The bytes of bits, as numbers. -/
def pk (l : List Bool) : List Int := (List.range ((l.length + 7) / 8)).map fun j => ((bn fun i => l.getD (8 * j + i) false : Nat) : Int)
theorem pk_length (l : List Bool) : (pk l).length = (l.length + 7) / 8 := by simp [pk]
/-- What stands there before a bit is set. -/
def pk0 (l : List Bool) : List Int := if l.length % 8 = 0 then pk l ++ [0] else pk l
theorem pk0_length (l : List Bool) : (pk0 l).length = (l.length + 8) / 8 := by
  unfold pk0
  split
  · rw [List.length_append, pk_length, List.length_singleton]; omega
  · rw [pk_length]; omega
theorem getD_over {l : List Bool} {i : Nat} (h : l.length ≤ i) : l.getD i false = false := by
  rw [List.getD_eq_getElem?_getD, List.getElem?_eq_none h]; rfl
theorem getD_snoc {l : List Bool} {b : Bool} {i : Nat} (h : i ≠ l.length) : (l ++ [b]).getD i false = l.getD i false := by
  rw [List.getD_eq_getElem?_getD, List.getD_eq_getElem?_getD]
  rcases Nat.lt_or_gt_of_ne h with h | h
  · rw [List.getElem?_append_left h]
  · rw [List.getElem?_eq_none (by simp; omega), List.getElem?_eq_none (by omega)]
theorem getD_last {l : List Bool} {b : Bool} : (l ++ [b]).getD l.length false = b := by
  rw [List.getD_eq_getElem?_getD, List.getElem?_append_right (Nat.le_refl _), Nat.sub_self]; rfl
theorem pk0_get (l : List Bool) {j : Nat} (hj : j < (l.length + 8) / 8) : (pk0 l)[j]? = some ((bn fun i => l.getD (8 * j + i) false : Nat) : Int) := by
  unfold pk0
  split
  · rename_i hm
    by_cases h : j < (l.length + 7) / 8
    · rw [List.getElem?_append_left (by rw [pk_length]; exact h)]
      unfold pk
      rw [List.getElem?_map, List.getElem?_range h]; rfl
    · rw [List.getElem?_append_right (by rw [pk_length]; omega), pk_length, show j - (l.length + 7) / 8 = 0 by omega]
      rw [bn_none fun i hi => getD_over (by omega)]
      rfl
  · unfold pk
    rw [List.getElem?_map, List.getElem?_range (by omega)]; rfl
/-- One bit more. -/
theorem pk_snoc (l : List Bool) (b : Bool) : pk (l ++ [b]) = if b = true then (pk0 l).set (l.length / 8) (((bn fun i => l.getD (8 * (l.length / 8) + i) false) + 2 ^ (l.length % 8) : Nat) : Int) else pk0 l := by
  apply List.ext_getElem?
  intro j
  have hlen : (pk (l ++ [b])).length = (l.length + 8) / 8 := by rw [pk_length, List.length_append, List.length_singleton]
  by_cases hj : j < (l.length + 8) / 8
  · have e1 : (pk (l ++ [b]))[j]? = some ((bn fun i => (l ++ [b]).getD (8 * j + i) false : Nat) : Int) := by
      unfold pk
      rw [List.getElem?_map, List.getElem?_range (by simp; omega)]; rfl
    rw [e1]
    by_cases hb : b = true
    · rw [if_pos hb]
      subst hb
      by_cases hlast : j = l.length / 8
      · subst hlast
        rw [List.getElem?_set_self (by rw [pk0_length]; omega)]
        rw [bn_more (f := fun i => l.getD (8 * (l.length / 8) + i) false) (g := fun i => (l ++ [true]).getD (8 * (l.length / 8) + i) false) (j := l.length % 8) (by omega) (getD_over (by omega)) (by
          show (l ++ [true]).getD (8 * (l.length / 8) + l.length % 8) false = true
          rw [show 8 * (l.length / 8) + l.length % 8 = l.length by omega]; exact getD_last) (fun i hi hne => (getD_snoc (by omega)).symm)]
      · rw [List.getElem?_set_ne (by omega), pk0_get l hj, bn_ext fun i hi => getD_snoc (by omega)]
    · rw [if_neg hb, pk0_get l hj]
      have hb' : b = false := by simpa using hb
      subst hb'
      rw [bn_ext (f := fun i => (l ++ [false]).getD (8 * j + i) false) (g := fun i => l.getD (8 * j + i) false) fun i hi => by
        show (l ++ [false]).getD (8 * j + i) false = _
        by_cases he : 8 * j + i = l.length
        · rw [he, getD_last, getD_over (Nat.le_refl _)]
        · exact getD_snoc he]
  · rw [List.getElem?_eq_none (by omega), List.getElem?_eq_none]
    split
    · rw [List.length_set, pk0_length]; omega
    · rw [pk0_length]; omega
end Go.Proofs.YtgloapcfmlijlaaGreatDoor.M
namespace Go.Proofs.YtgloapcfmlijlaaGreatDoor
open Go Go.RowKit Go.Lib

theorem M.pk_add (l : List Bool) (b : Bool) : M.pk (l ++ [b]) = if b = true then (M.pk0 l).set (l.length / 8) ((M.pk0 l).getD (l.length / 8) 0 + 2 ^ (l.length % 8)) else M.pk0 l := by
  rw [M.pk_snoc]
  have hg := M.pk0_get l (j := l.length / 8) (by omega)
  rw [List.getD_eq_getElem?_getD, hg, Option.getD_some]
  simp
theorem M.bn_low (f : Nat → Bool) : ∀ r, r ≤ 8 → (∀ i, r ≤ i → i < 8 → f i = false) → M.bn f < 2 ^ r := by
  intro r hr h
  have hb : ∀ i, (f i).toNat ≤ 1 := fun i => by cases f i <;> decide
  have b0 := hb 0; have b1 := hb 1; have b2 := hb 2; have b3 := hb 3; have b4 := hb 4; have b5 := hb 5; have b6 := hb 6; have b7 := hb 7
  have hz : ∀ i, i < 8 → i < r ∨ (f i).toNat = 0 := fun i h2 => by
    by_cases h1 : r ≤ i
    · exact .inr (by rw [h i h1 h2]; rfl)
    · exact .inl (by omega)
  have z0 := hz 0 (by omega); have z1 := hz 1 (by omega); have z2 := hz 2 (by omega); have z3 := hz 3 (by omega); have z4 := hz 4 (by omega); have z5 := hz 5 (by omega); have z6 := hz 6 (by omega); have z7 := hz 7 (by omega)
  unfold M.bn
  clear hz h hb
  generalize (f 0).toNat = a0 at *
  generalize (f 1).toNat = a1 at *
  generalize (f 2).toNat = a2 at *
  generalize (f 3).toNat = a3 at *
  generalize (f 4).toNat = a4 at *
  generalize (f 5).toNat = a5 at *
  generalize (f 6).toNat = a6 at *
  generalize (f 7).toNat = a7 at *
  have : r = 0 ∨ r = 1 ∨ r = 2 ∨ r = 3 ∨ r = 4 ∨ r = 5 ∨ r = 6 ∨ r = 7 ∨ r = 8 := by omega
  rcases this with rfl | rfl | rfl | rfl | rfl | rfl | rfl | rfl | rfl <;> omega
/-- The byte of the bit that comes: what stands there is below the bit. -/
theorem M.pk_low (l : List Bool) : ∃ z : Nat, (M.pk0 l).getD (l.length / 8) 0 = (z : Int) ∧ z < 2 ^ (l.length % 8) := by
  have hg := M.pk0_get l (j := l.length / 8) (by omega)
  rw [List.getD_eq_getElem?_getD, hg, Option.getD_some]
  exact ⟨_, rfl, M.bn_low _ _ (by omega) fun i h1 h2 => M.getD_over (by omega)⟩
theorem or_fin : ∀ r : Fin 8, ∀ z : Fin 256, z.val < 2 ^ r.val → bits BinOp.or IntKind.u8 ((z.val : Nat) : Int) (IntKind.u8.wrap (2 ^ r.val)) = ((z.val + 2 ^ r.val : Nat) : Int) ∧ IntKind.u8.wrap (2 ^ r.val) = ((2 ^ r.val : Nat) : Int) := by decide +kernel
theorem or_bit {z r : Nat} (hr : r < 8) (hz : z < 2 ^ r) : bits BinOp.or IntKind.u8 (z : Int) (IntKind.u8.wrap (2 ^ r)) = ((z + 2 ^ r : Nat) : Int) ∧ IntKind.u8.wrap (2 ^ r) = ((2 ^ r : Nat) : Int) := by
  have h2 : (2 : Nat) ^ r ≤ 2 ^ 8 := Nat.pow_le_pow_right (by omega) (by omega)
  exact or_fin ⟨r, hr⟩ ⟨z, by omega⟩ hz

/-- What the closure finds, and leaves. -/
structure PB (w W : World) (l : List Bool) : Prop where
  below : Below w.heap.size w W
  o : ∃ v, Boxed W w.heap.size 48 v ∧ W.ownsRow (w.heap.size + 2) 5 1 v ((l.length + 7) / 8) ((M.pk l).map (Value.int .u8))
  c : Boxed W (w.heap.size + 1) 3 (.int .i64 (l.length : Nat))
/-- A byte for the next bit stands there. -/
structure PB0 (w W : World) (l : List Bool) : Prop where
  below : Below w.heap.size w W
  o : ∃ g cap, Boxed W w.heap.size 48 (.slice (some ⟨g, 0, none⟩) (l.length / 8 + 1) cap) ∧ W.ownsRow (w.heap.size + 2) 5 1 (.slice (some ⟨g, 0, none⟩) (l.length / 8 + 1) cap) (l.length / 8 + 1) ((M.pk0 l).map (Value.int .u8))
  c : Boxed W (w.heap.size + 1) 3 (.int .i64 (l.length : Nat))

theorem PB.drew {w W : World} {l : List Bool} (h : PB w W l) : PB w W.drew l := ⟨Below.drew h.below, h.o, h.c⟩
theorem PB.same {w W : World} {l : List Bool} (h : PB w W l) (hm : l.length % 8 ≠ 0) : PB0 w W l := by
  obtain ⟨v, h1, h2⟩ := h.o
  rw [show (l.length + 7) / 8 = l.length / 8 + 1 by omega] at h2
  have e : M.pk0 l = M.pk l := by unfold M.pk0; rw [if_neg hm]
  rw [← e] at h2
  obtain ⟨g, cap, rfl, _⟩ := row_cells h2 (by omega)
  exact ⟨h.below, ⟨g, cap, h1, h2⟩, h.c⟩

theorem pb_own {w W : World} {l : List Bool} (h : PB0 w W l) {g cap : Nat} (h1 : Boxed W w.heap.size 48 (.slice (some ⟨g, 0, none⟩) (l.length / 8 + 1) cap)) (h2 : W.ownsRow (w.heap.size + 2) 5 1 (.slice (some ⟨g, 0, none⟩) (l.length / 8 + 1) cap) (l.length / 8 + 1) ((M.pk0 l).map (Value.int .u8))) (b : Bool) :
    PB w ((if b = true then W.setCell ⟨g, l.length / 8, none⟩ (.int .u8 ((M.pk0 l).getD (l.length / 8) 0 + 2 ^ (l.length % 8))) else W).setCell ⟨w.heap.size + 1, 0, none⟩ (.int .i64 ((l.length : Int) + 1))) (l ++ [b]) := by
  have hg := (World.ownsRow.lt h2 g rfl)
  have hsz := h.below.size
  have hl : (l ++ [b]).length = l.length + 1 := by simp
  have e8 : ((l ++ [b]).length + 7) / 8 = l.length / 8 + 1 := by rw [hl]; omega
  have key : ∀ X : World, Below w.heap.size w X → Boxed X w.heap.size 48 (.slice (some ⟨g, 0, none⟩) (l.length / 8 + 1) cap) → Boxed X (w.heap.size + 1) 3 (.int .i64 (l.length : Nat)) →
      X.ownsRow (w.heap.size + 2) 5 1 (.slice (some ⟨g, 0, none⟩) (l.length / 8 + 1) cap) (l.length / 8 + 1) ((M.pk (l ++ [b])).map (Value.int .u8)) → PB w (X.setCell ⟨w.heap.size + 1, 0, none⟩ (.int .i64 ((l.length : Int) + 1))) (l ++ [b]) := by
    intro X hX hB hC hO
    refine ⟨hX.setCell (by simp) _, ⟨_, hB.other (by omega) _, ?_⟩, ?_⟩
    · rw [e8]
      exact hO.kept (grownBy_setCell' X (w.heap.size + 1) _) (.inr (by simp [Value.ownBlock]; omega))
    · rw [hl]
      have := hC.set (v' := .int .i64 ((l.length : Int) + 1))
      simpa using this
  cases b with
  | false =>
    rw [if_neg (by decide)]
    refine key W h.below h1 h.c ?_
    rw [M.pk_add, if_neg (by decide)]
    exact h2
  | true =>
    rw [if_pos rfl]
    have hst := h2.stored (l.length / 8) (.int .u8 ((M.pk0 l).getD (l.length / 8) 0 + 2 ^ (l.length % 8)))
    refine key _ (h.below.setCell (by simp; omega) _) (h1.kept hst.2 (by simp; omega)) (h.c.kept hst.2 (by simp; omega)) ?_
    rw [M.pk_add, if_pos rfl, List.map_set]
    exact hst.1

/-- The byte of the bit that comes, and what the closure does with it. -/
structure PBf (w W : World) (l : List Bool) (n q r g cap z : Nat) : Prop where
  o : Boxed W w.heap.size 48 (.slice (some ⟨g, 0, none⟩) (q + 1) cap)
  c : Boxed W (w.heap.size + 1) 3 (.int .i64 (n : Nat))
  bz : W.cell? ⟨g, q, none⟩ = some (.int .u8 (z : Nat))
  bf : W.frozen? ⟨g, q, none⟩ = false
  lo : w.heap.size + 2 ≤ g
  no : PB w (W.setCell ⟨w.heap.size + 1, 0, none⟩ (.int .i64 ((n : Int) + 1))) (l ++ [false])
  yes : PB w ((W.setCell ⟨g, q, none⟩ (.int .u8 ((z + 2 ^ r : Nat) : Int))).setCell ⟨w.heap.size + 1, 0, none⟩ (.int .i64 ((n : Int) + 1))) (l ++ [true])
  or1 : bits BinOp.or IntKind.u8 (z : Int) (2 ^ r % 256) = ((z + 2 ^ r : Nat) : Int)
theorem PB0.facts {w W : World} {l : List Bool} {n q r : Nat} (h : PB0 w W l) (hn : l.length = n) (hq : n / 8 = q) (hr : n % 8 = r) : ∃ g cap z, PBf w W l n q r g cap z := by
  subst hn
  subst hq
  subst hr
  obtain ⟨g, cap, h1, h2⟩ := h.o
  have hc3 : l.length / 8 < (M.pk0 l).length := by rw [M.pk0_length]; omega
  obtain ⟨z, hz, hzl⟩ := M.pk_low l
  have hno := pb_own h h1 h2 false
  have hyes := pb_own h h1 h2 true
  rw [if_neg (by decide)] at hno
  rw [if_pos rfl, hz] at hyes
  have hq3 : W.cell? ⟨g, l.length / 8, none⟩ = some (.int .u8 (z : Nat)) := by
    rw [h2.cellAt (l.length / 8) (by omega), List.getElem?_map, List.getElem?_eq_getElem hc3]
    rw [List.getD_eq_getElem?_getD, List.getElem?_eq_getElem hc3] at hz
    simp at hz
    simp [hz]
  obtain ⟨ob1, _⟩ := or_bit (r := l.length % 8) (by omega) hzl
  refine ⟨g, cap, z, h1, h.c, hq3, h2.frozenAt _, (World.ownsRow.lt h2 g rfl).1, hno, ?_, ?_⟩
  have e : (z : Int) + 2 ^ (l.length % 8) = ((z + 2 ^ (l.length % 8) : Nat) : Int) := by simp
  · rw [e] at hyes
    exact hyes
  · have e2 : IntKind.u8.wrap (2 ^ (l.length % 8)) = 2 ^ (l.length % 8) % 256 := rfl
    rw [e2] at ob1
    exact ob1

theorem pb_first {w W w2 : World} {l : List Bool} {v v' : Value} (hP : PB w W l) (hO : Boxed W w.heap.size 48 v) (hown : W.ownsRow (w.heap.size + 2) 5 1 v ((l.length + 7) / 8) ((M.pk l).map (Value.int .u8))) (hm : l.length % 8 = 0)
    (hown' : w2.ownsRow (w.heap.size + 2) 5 1 v' ((l.length + 7) / 8 + 1) ((M.pk l).map (Value.int .u8) ++ [.int .u8 0])) (hgrow : (W.alloc (.cells #[.int .u8 0] 5)).grownBy w2 v.ownBlock) :
    ∃ g cap, v' = .slice (some ⟨g, 0, none⟩) (l.length / 8 + 1) cap ∧ PB0 w (w2.setCell ⟨w.heap.size, 0, none⟩ v') l ∧ Boxed w2 w.heap.size 48 v := by
  have e8 : (l.length + 7) / 8 + 1 = l.length / 8 + 1 := by omega
  have hp0 : M.pk0 l = M.pk l ++ [0] := by unfold M.pk0; rw [if_pos hm]
  have hown2 : w2.ownsRow (w.heap.size + 2) 5 1 v' (l.length / 8 + 1) ((M.pk0 l).map (Value.int .u8)) := by
    rw [hp0, List.map_append, ← e8]
    exact hown'
  obtain ⟨g, cap, rfl, _⟩ := row_cells hown2 (by omega)
  have hlt := World.ownsRow.lt hown2 g rfl
  have hrow : ∀ k, v.ownBlock = some k → w.heap.size + 2 ≤ k := fun k e => (World.ownsRow.lt hown k e).1
  have hsz := hP.below.size
  have hC := hP.c
  have hCl := hC.lt
  have hB2 : Boxed w2 w.heap.size 48 v := (hO.alloc _).kept hgrow (fun e => by have := hrow _ e.symm; omega)
  have hC2 : Boxed w2 (w.heap.size + 1) 3 (.int .i64 (l.length : Nat)) := (hC.alloc _).kept hgrow (fun e => by have := hrow _ e.symm; omega)
  have hb2 : Below w.heap.size w w2 := (hP.below.alloc hsz _).grown hgrow (by simp; omega) (fun k e => by have := hrow k e; omega)
  exact ⟨g, cap, rfl, ⟨hb2.setCell (by simp) _, ⟨g, cap, by have := hB2.set (v' := .slice (some ⟨g, 0, none⟩) (l.length / 8 + 1) cap); exact this, hown2.kept (grownBy_setCell' w2 w.heap.size _) (.inr (by simp [Value.ownBlock]; omega))⟩, hC2.other (by omega) _⟩, hB2⟩

set_option maxRecDepth 100000 in
set_option maxHeartbeats 4000000 in
/-- From the bit on: the last two statements, in whatever world the byte stands. -/
theorem putBit_any (w W : World) (l : List Bool) (b : Bool) (hP : PB w W l) (hlen : l.length ≤ 60000) :
    Calls Tryz.prog 214 #[.bool b, .pointer (some ⟨w.heap.size + 1, 0, none⟩), .pointer (some ⟨w.heap.size, 0, none⟩)] W fun e w' => e = .returned (.tuple #[]) ∧ PB w w' (l ++ [b]) := by
  obtain ⟨i0, hi, hz0, hz1, hz2⟩ := info_parts Tryz.infoU8
  obtain ⟨n, hn⟩ : ∃ n, n = l.length := ⟨_, rfl⟩
  have hlen' : n ≤ 60000 := by omega
  obtain ⟨q, hq⟩ : ∃ q, n / 8 = q := ⟨_, rfl⟩
  obtain ⟨r, hr⟩ : ∃ r, n % 8 = r := ⟨_, rfl⟩
  have ei : (n : Int) / 8 = (q : Int) := by omega
  have er : (n : Int) % 8 = (r : Int) := by omega
  have hr8 : r < 8 := by omega
  have hq9 : q ≤ 60000 := by omega
  by_cases hm : r = 0
  · subst hm
    have hsz := hP.below.size
    obtain ⟨v, hO, hown⟩ := hP.o
    have hCl := hP.c.lt
    have o1 := hO.cell
    have o3 := hP.c.cell
    have o5 := (hO.alloc (.cells #[.int .u8 0] 5)).cell
    have HF : Hid (∀ v' w2, w2.ownsRow (w.heap.size + 2) 5 1 v' ((n + 7) / 8 + 1) ((M.pk l).map (Value.int .u8) ++ [.int .u8 0]) → (W.alloc (.cells #[.int .u8 0] 5)).grownBy w2 v.ownBlock →
        ∃ g cap z, v' = .slice (some ⟨g, 0, none⟩) (q + 1) cap ∧ PBf w (w2.setCell ⟨w.heap.size, 0, none⟩ (.slice (some ⟨g, 0, none⟩) (q + 1) cap)) l n q 0 g cap z ∧ Boxed w2 w.heap.size 48 v) := fun v' w2 a1 a2 => by
      rw [hn] at a1
      obtain ⟨g, cap, e, hP0, hB⟩ := pb_first (v' := v') (w2 := w2) hP hO hown (by omega) a1 a2
      rw [← hn, hq] at e
      subst e
      obtain ⟨g', cap', z, hf⟩ := hP0.facts hn.symm hq hr
      have e1 := hf.o.cell
      have e2 := (hB.set (v' := .slice (some ⟨g, 0, none⟩) (q + 1) cap)).cell
      rw [e2] at e1
      cases e1
      exact ⟨g, cap, z, rfl, hf, hB⟩
    rw [← hn] at o3 hown
    clear hn hlen hP hq hr
    cases b with
    | false =>
      go_enter Tryz.func214, Tryz.ntmps214
      go_wp2_with (at_builtin; refine wpList_append_own _ rfl _ _ 48 rfl (w.heap.size + 2) 5 i0 (.int .u8 0) 1 1 Tryz.underlying48 hi hz0 hz1 hz2 rfl (by decide) _ _ _ rfl (hown.alloc _) ⟨W.heap.size, 0, none⟩ 1 1 [.int .u8 0] rfl rfl (cell_one_new _ _ _) (by simp [Value.oneCell']) (by unfold maxLen; omega) (by omega) (by simp; omega) ?_; intro v' w2 hown' hgrow _; obtain ⟨g, cap, z, rfl, hf, hB2⟩ := HF.out v' w2 hown' hgrow; have y1 := hB2.cell; have y2 := hB2.frozen; have y3 := hf.c.cell; have y4 := hf.c.frozen; have HF2 := Lib.hid hf; clear hown' hgrow hB2 hf)
      go_end0
      exact ⟨rfl, HF2.out.no⟩
    | true =>
      go_enter Tryz.func214, Tryz.ntmps214
      go_wp2_with (at_builtin; refine wpList_append_own _ rfl _ _ 48 rfl (w.heap.size + 2) 5 i0 (.int .u8 0) 1 1 Tryz.underlying48 hi hz0 hz1 hz2 rfl (by decide) _ _ _ rfl (hown.alloc _) ⟨W.heap.size, 0, none⟩ 1 1 [.int .u8 0] rfl rfl (cell_one_new _ _ _) (by simp [Value.oneCell']) (by unfold maxLen; omega) (by omega) (by simp; omega) ?_; intro v' w2 hown' hgrow _; obtain ⟨g, cap, z, rfl, hf, hB2⟩ := HF.out v' w2 hown' hgrow; have y1 := hB2.cell; have y2 := hB2.frozen; have y0 := hf.o.cell; have y3 := hf.c.cell; have y4 := hf.c.frozen; have y5 := hf.bz; have y6 := hf.bf; have y7 := hf.or1; have hlo := hf.lo; have HF2 := Lib.hid hf; clear hown' hgrow hB2 hf)
      have hne : ¬ (g = w.heap.size + 1) := by omega
      go_region
      go_wp2_with fail
      go_end0
      have e7 : bits BinOp.or IntKind.u8 (z : Int) 1 = ((z + 2 ^ 0 : Nat) : Int) := HF2.out.or1
      rw [e7]
      exact ⟨rfl, HF2.out.yes.drew⟩
  · have hP3 := (hP.same (by omega)).facts hn.symm hq hr
    obtain ⟨g, cap, z, hf⟩ := hP3
    have y0 := hf.o.cell
    have y3 := hf.c.cell
    have y4 := hf.c.frozen
    have y5 := hf.bz
    have y6 := hf.bf
    have y7 := hf.or1
    have hlo := hf.lo
    have HF2 := Lib.hid hf
    have hm' : ((r : Int) == 0) = false := by simp; omega
    have hne : ¬ (g = w.heap.size + 1) := by omega
    clear hf hn hlen hP hq hr
    cases b with
    | false =>
      go_enter Tryz.func214, Tryz.ntmps214
      go_wp2_with fail
      go_end0
      exact ⟨rfl, HF2.out.no⟩
    | true =>
      go_enter Tryz.func214, Tryz.ntmps214
      go_wp2_with fail
      go_region
      go_wp2_with fail
      go_end0
      exact ⟨rfl, HF2.out.yes.drew⟩

set_option maxRecDepth 100000 in
set_option maxHeartbeats 4000000 in
theorem pk_bc (l : List Bool) : (M.pk l).map (Value.int .u8) = bc (M.packB l) := by
  unfold M.pk M.packB bc
  rw [List.map_map, List.map_map]
  apply List.map_congr_left
  intro j _
  simp only [Function.comp]
  rw [M.ofNat_bn]
theorem PB.srB {w W : World} {l : List Bool} (h : PB w W l) {v : Value} (hv : W.cell? ⟨w.heap.size, 0, none⟩ = some v) : SrB w.heap.size (M.packB l) v W := by
  obtain ⟨u, h1, h2⟩ := h.o
  rw [h1.cell] at hv
  cases hv
  rw [pk_bc, ← M.pack_length] at h2
  exact (Ow.srB (B := w.heap.size + 2) h2).mono (by omega)
theorem putBits_any (bs cs : List Bool) (ab ac : Option Addr) (cb cc : Nat) (w : World) (hB : LayB w w.heap.size bs (.slice ab bs.length cb)) (hC : LayB w w.heap.size cs (.slice ac cs.length cc)) (h1 : bs.length ≤ 50000) (h2 : cs.length ≤ 10) :
    Calls Tryz.prog 183 #[.slice ab bs.length cb, .slice ac cs.length cc] w fun e w' => (∃ u, e = .returned u ∧ SrB w.heap.size (M.packB (bs ++ cs)) u w') ∧ Below w.heap.size w w' := by
  obtain ⟨W0, hW0⟩ : ∃ W0, (w.alloc (.cells #[.slice none 0 0] 48)).alloc (.cells #[.int .i64 0] 3) = W0 := ⟨_, rfl⟩
  have hP0 : PB w W0 [] := by
    rw [← hW0]
    refine ⟨two_boxes _ _ _, ⟨_, (Boxed.new w _ _).alloc _, World.ownsRow_nil _ _ _ _⟩, ?_⟩
    have := Boxed.new (w.alloc (.cells #[.slice none 0 0] 48)) 3 (.int .i64 0)
    rwa [World.size_alloc] at this
  have hmf : ∀ (fn : Fn) (first cap : Array Value) (w : World), (Instr.makeFunc fn first cap).run Tryz.prog w = .ok (.func fn first cap) w := fun _ _ _ _ => rfl
  have E1 : ∀ args w, (callFunc 214 args).run Tryz.prog w = .ok (.enter 214 args) w := enters_of Tryz.func214 (by kernel_rfl) rfl
  have HW := Lib.hid hW0
  clear hW0
  go_enter Tryz.func183, Tryz.ntmps183
  go_wp2_with fail
  rw [HW.out]
  go_loopw [15] (fun i wr => ∃ j : Nat, j ≤ bs.length ∧ i = .int .i64 j ∧ PB w wr (bs.take j)) (fun i _ => bs.length - (RowKit.intOf i).toNat)
  case atStart => exact ⟨0, by omega, rfl, by simpa using hP0⟩
  case round =>
    obtain ⟨j, hj, rfl, hP⟩ := hrel
    by_cases hlt : j < bs.length
    · obtain ⟨b, o, x, rfl, hbn, hx, e0⟩ := hB.at_ hlt
      have g0 := (hP.below.cell (p := ⟨b, o + j, none⟩) hbn).trans e0
      have hj9 : j < 50000 := by omega
      have HX := Lib.hid hx
      have HC := Lib.hid (putBit_any w wr (bs.take j) x hP (by rw [List.length_take]; omega))
      rw [show bs.take j ++ [x] = bs.take (j + 1) by rw [List.take_add_one, hx]; rfl] at HC
      clear hB hx e0 hP hP0 h1
      go_wp2_with fail
      refine HC.out.mono ?_
      rintro e w1 ⟨rfl, hP1⟩
      go_wp2_with fail
      go_roundw
      case rel => exact ⟨j + 1, by omega, by simp, hP1⟩
      case measure => simp [RowKit.intOf]; omega
    · obtain rfl : j = bs.length := by omega
      rw [List.take_length] at hP
      have HP := Lib.hid hP
      clear hP hP0 hB
      go_wp2_with fail
      go_loopw [25] (fun i wr => ∃ j : Nat, j ≤ cs.length ∧ i = .int .i64 j ∧ PB w wr (bs ++ cs.take j)) (fun i _ => cs.length - (RowKit.intOf i).toNat)
      case atStart => exact ⟨0, by omega, rfl, by simpa using HP.out⟩
      case round =>
        obtain ⟨j, hj, rfl, hP⟩ := hrel
        by_cases hlt : j < cs.length
        · obtain ⟨b, o, x, rfl, hbn, hx, e0⟩ := hC.at_ hlt
          have g0 := (hP.below.cell (p := ⟨b, o + j, none⟩) hbn).trans e0
          have hj9 : j < 10 := by omega
          have HC2 := Lib.hid (putBit_any w wr (bs ++ cs.take j) x hP (by rw [List.length_append, List.length_take]; omega))
          rw [List.append_assoc, show cs.take j ++ [x] = cs.take (j + 1) by rw [List.take_add_one, hx]; rfl] at HC2
          clear hC hx e0 hP HP h2
          go_wp2_with fail
          refine HC2.out.mono ?_
          rintro e w1 ⟨rfl, hP1⟩
          go_wp2_with fail
          go_roundw
          case rel => exact ⟨j + 1, by omega, by simp, hP1⟩
          case measure => simp [RowKit.intOf]; omega
        · obtain rfl : j = cs.length := by omega
          rw [List.take_length] at hP
          obtain ⟨v, hO, _⟩ := hP.o
          have o1 := hO.cell
          have HS := Lib.hid (hP.srB o1)
          have HBL := Lib.hid hP.below
          clear hP HP hO hC
          go_wp2_with fail
          go_ret
          exact ⟨⟨_, rfl, HS.out⟩, HBL.out⟩
end Go.Proofs.YtgloapcfmlijlaaGreatDoor
