/- The landed package ssz: need, partOf. The landed package ssz: parts, its rounds. The landed package ssz: given. Regions that draw their order, in a round, where a call may end in a panic; worlds that are as they were but for some blocks. The landed package merkle: two and two. The landed package ssz: the least significant bytes of a number; slices.Reverse. The landed package num: Be, of a small number. The contract of num.Unle. A range over a function whose body never leaves: the function may, when all have come, write into cells. My own law out of the kit's one for the statement. -/
import Derived.Test.YtaajkbclojmbeaaGreatDoorI03
import Derived.Test.YtaajkbclojmbeaaGreatDoorI11
import Derived.Deep.RegionWith
import Derived.Laws.Rows
import Derived.RangeFuncBox
import Derived.DefersIn
import Derived.OwnWalkIn
import Derived.TacticsInMore
import Derived.LoopNIn
import Derived.LoopIn
import Derived.Test.YtaajkbclojmbeaaGreatDoorI02
import Derived.Defers
import Derived.Recover
import Derived.Shelf.Abstract
import Derived.OrdersHeld
import Derived.Deep.RegionHeld
import Derived.Test.YtaajkbclojmbeaaGreatDoorI10
import Derived.Laws.CopyRow
import Derived.Test.YtaajkbclojmbeaaGreatDoorI01
import Derived.Laws.Bits64
import Derived.Laws.Bits64b
import Derived.Test.YtaajkbclojmbeaaGreatDoorI09
import Derived.Lib.Hide
namespace Go.Proofs.YtaajkbclojmbeaaGreatDoor
open Go Go.RowKit Go.Shelf

/-- What a panic with an error leaves. -/
abbrev pan (q : Nat) : Ending := .panicked [{ v := .iface 25 (.int .i64 (q : Nat)), recovered := false }]

theorem need_any (b : Bool) (q : Nat) (w : World) :
    Calls Tryz.prog 167 #[.bool b, .int .i64 (q : Nat)] w fun e w' => e = (if b = true then .returned (.tuple #[]) else pan q) ∧ w' = w := by
  have hpan : ∀ (t : TypeId) (v : Value) (w : World), (Instr.panic (.iface t v)).run Tryz.prog w = .halt (.panic (.iface t v)) w := fun _ _ _ => rfl
  cases b with
  | true =>
    go_enter Tryz.func167, Tryz.ntmps167
    go_wp2_with fail
    go_end0
    exact ⟨rfl, rfl⟩
  | false =>
    go_enter Tryz.func167, Tryz.ntmps167
    go_wp2_with fail
    exact ⟨rfl, rfl, rfl⟩

/-- How many bytes an item takes in a row's beginning. -/
def wdT (t : M.Ty) : Nat := if M.fixedT t = true then M.sizeT t else 4
/-- A type as a part. -/
abbrev pv (k n : Int) (v : Value) (f : Bool) (wd : Nat) : Value := .agg #[.int .i64 k, .int .i64 n, v, .bool f, .int .i64 (wd : Nat)]

/-- 5 cells that may be written. -/
structure CellsW5 (w : World) (g : Nat) : Prop where
  i0 : ∃ v, w.cell? ⟨g, 0, none⟩ = some v
  i1 : ∃ v, w.cell? ⟨g, 1, none⟩ = some v
  i2 : ∃ v, w.cell? ⟨g, 2, none⟩ = some v
  i3 : ∃ v, w.cell? ⟨g, 3, none⟩ = some v
  i4 : ∃ v, w.cell? ⟨g, 4, none⟩ = some v
  f0 : w.frozen? ⟨g, 0, none⟩ = false
  f1 : w.frozen? ⟨g, 1, none⟩ = false
  f2 : w.frozen? ⟨g, 2, none⟩ = false
  f3 : w.frozen? ⟨g, 3, none⟩ = false
  f4 : w.frozen? ⟨g, 4, none⟩ = false
theorem cells_w5 {w : World} {g : Nat} {o0 o1 o2 o3 o4 : Value} {t : TypeId} (h : w.heap[g]? = some (.cells #[o0, o1, o2, o3, o4] t (0, 0))) : CellsW5 w g := by
  constructor <;> simp [World.cell?, World.frozen?, h]
theorem set_w5 {w : World} {g : Nat} {o0 o1 o2 o3 o4 : Value} {t : TypeId} (h : w.heap[g]? = some (.cells #[o0, o1, o2, o3, o4] t (0, 0))) (a0 a1 a2 a3 a4 : Value) :
    (((((w.setCell ⟨g, 0, none⟩ a0).setCell ⟨g, 1, none⟩ a1).setCell ⟨g, 2, none⟩ a2).setCell ⟨g, 3, none⟩ a3).setCell ⟨g, 4, none⟩ a4) = w.setRow g #[a0, a1, a2, a3, a4] := by
  have e0 := setCell_eq_setRow w g 0 (#[o0, o1, o2, o3, o4]) t (0, 0) a0 h
  have h0 := setRow_heap w g (#[o0, o1, o2, o3, o4]) ((#[o0, o1, o2, o3, o4]).setIfInBounds 0 a0) t (0, 0) h
  have e1 := setCell_eq_setRow _ g 1 ((#[o0, o1, o2, o3, o4]).setIfInBounds 0 a0) t (0, 0) a1 h0
  have h1 := setRow_heap _ g ((#[o0, o1, o2, o3, o4]).setIfInBounds 0 a0) (((#[o0, o1, o2, o3, o4]).setIfInBounds 0 a0).setIfInBounds 1 a1) t (0, 0) h0
  have e2 := setCell_eq_setRow _ g 2 (((#[o0, o1, o2, o3, o4]).setIfInBounds 0 a0).setIfInBounds 1 a1) t (0, 0) a2 h1
  have h2 := setRow_heap _ g (((#[o0, o1, o2, o3, o4]).setIfInBounds 0 a0).setIfInBounds 1 a1) ((((#[o0, o1, o2, o3, o4]).setIfInBounds 0 a0).setIfInBounds 1 a1).setIfInBounds 2 a2) t (0, 0) h1
  have e3 := setCell_eq_setRow _ g 3 ((((#[o0, o1, o2, o3, o4]).setIfInBounds 0 a0).setIfInBounds 1 a1).setIfInBounds 2 a2) t (0, 0) a3 h2
  have h3 := setRow_heap _ g ((((#[o0, o1, o2, o3, o4]).setIfInBounds 0 a0).setIfInBounds 1 a1).setIfInBounds 2 a2) (((((#[o0, o1, o2, o3, o4]).setIfInBounds 0 a0).setIfInBounds 1 a1).setIfInBounds 2 a2).setIfInBounds 3 a3) t (0, 0) h2
  have e4 := setCell_eq_setRow _ g 4 (((((#[o0, o1, o2, o3, o4]).setIfInBounds 0 a0).setIfInBounds 1 a1).setIfInBounds 2 a2).setIfInBounds 3 a3) t (0, 0) a4 h3
  rw [e0, e1, e2, e3, e4, setRow_setRow, setRow_setRow, setRow_setRow, setRow_setRow]
  rfl
theorem Tryz.partSize : (Tryz.prog.info? 181).map (·.size) = some 5 := by kernel_rfl

/-- A store over a row's whole block. -/
theorem below_setRow {n : Nat} {w W : World} {g : Nat} (hb : Below n w W) (hg : n ≤ g) (cs : Array Value) : Below n w (W.setRow g cs) :=
  hb.trans (⟨rfl, rfl, rfl, by simp, fun b hb => setRow_other _ _ _ _ (by omega)⟩)
/-- A part, stored into the result's cells, and handed back. -/
theorem part_post {fn : Func} (hres : fn.results = #[.cell 2 181]) (w w1 : World) (tmps : Array Value) (k n : Int) (v : Value) (q : Bool) (wd : Nat) (g : Nat) (hg : w.heap.size ≤ g) (hB : Below w.heap.size w w1) (o0 o1 o2 o3 o4 : Value)
    (hrow : w1.heap[g]? = some (.cells #[o0, o1, o2, o3, o4] 181 (0, 0))) (R : Ending → World → Prop) (hp : tmps.getD 2 undef = .pointer (some ⟨g, 0, none⟩))
    (h : ∀ Z, Below w.heap.size w Z → R (.returned (pv k n v q wd)) Z) :
    bodyPost Tryz.prog fn R .ret { tmps := tmps, defers := [] } (((((w1.setCell ⟨g, 0, none⟩ (.int .i64 k)).setCell ⟨g, 1, none⟩ (.int .i64 n)).setCell ⟨g, 2, none⟩ v).setCell ⟨g, 3, none⟩ (.bool q)).setCell ⟨g, 4, none⟩ (.int .i64 (wd : Nat))) := by
  rw [set_w5 hrow]
  have := results_cell_row (P := Tryz.prog) hres tmps (w1.setRow g #[.int .i64 k, .int .i64 n, v, .bool q, .int .i64 (wd : Nat)]) g 181 #[.int .i64 k, .int .i64 n, v, .bool q, .int .i64 (wd : Nat)] (0, 0) _ hp (setRow_heap _ _ _ _ _ (0, 0) hrow) Tryz.underlying181 rfl Tryz.partSize
  exact bodyPost_ret this rfl (h _ (below_setRow hB hg _))

set_option maxRecDepth 100000 in
set_option maxHeartbeats 4000000 in
theorem partOf_any (k n : Int) (ts : List M.Ty) (a : Option Addr) (cap : Nat) (w : World) (hL : LayT w w.heap.size ts (.slice a ts.length cap)) (hc : M.cntT (.mk k n ts) ≤ 1000) :
    Calls Tryz.prog 190 #[tv k n (.slice a ts.length cap)] w fun e w' => e = .returned (pv k n (.slice a ts.length cap) (M.fixedT (.mk k n ts)) (wdT (.mk k n ts))) ∧ Below w.heap.size w w' := by
  obtain ⟨w0, hw0⟩ : ∃ w0, (w.alloc (.cells #[.int .i64 k, .int .i64 n, .slice a ts.length cap] 32)).alloc (.cells #[.int .i64 0, .int .i64 0, .slice none 0 0, .bool false, .int .i64 0] 181) = w0 := ⟨_, rfl⟩
  have hb0 : Below w.heap.size w w0 := by rw [← hw0]; exact two_boxes _ _ _
  have hz0 : w0.heap.size = w.heap.size + 2 := by rw [← hw0]; simp
  have hB0 : BoxT w0 w.heap.size k n (.slice a ts.length cap) := by rw [← hw0]; exact ⟨by simp [go_sem], by simp [go_sem], by simp [go_sem]⟩
  have hr0 : w0.heap[w.heap.size + 1]? = some (.cells #[.int .i64 0, .int .i64 0, .slice none 0 0, .bool false, .int .i64 0] 181 (0, 0)) := by
    rw [← hw0]
    have := World.alloc_heap_new (w.alloc (.cells #[.int .i64 k, .int .i64 n, .slice a ts.length cap] 32)) (.cells #[.int .i64 0, .int .i64 0, .slice none 0 0, .bool false, .int .i64 0] 181)
    rw [World.size_alloc] at this
    exact this
  have HF := Lib.hid (shape_fixed k n ts a cap w0 ((hL.from_ hb0).mono hb0.size) hc)
  have HS := Lib.hid (fun W (h : Below w0.heap.size w0 W) => shape_size k n ts a cap W ((hL.from_ (hb0.trans (h.mono hb0.size))).mono (hb0.trans (h.mono hb0.size)).size) hc)
  have HW := Lib.hid hw0
  have c0 := hB0.c0
  have c1 := hB0.c1
  have c2 := hB0.c2
  obtain ⟨wd, hwd⟩ : ∃ wd, wd = wdT (.mk k n ts) := ⟨_, rfl⟩
  rw [← hwd]
  unfold wdT at hwd
  have HD := Lib.hid hwd
  clear hw0 hL hc hwd
  generalize M.fixedT (.mk k n ts) = q at *
  generalize M.sizeT (.mk k n ts) = sz at *
  go_enter Tryz.func190, Tryz.ntmps190
  go_wp2_with fail
  rw [HW.out]
  refine HF.out.mono ?_
  rintro e w1 ⟨rfl, hb1⟩
  have hB1 := hB0.from_ hb1 (by omega)
  have d0 := hB1.c0
  have d1 := hB1.c1
  have d2 := hB1.c2
  clear c0 c1 c2
  have hbl : w.heap.size < w1.heap.size := by have := hb1.size; omega
  cases q with
  | false =>
    have hwd : wd = 4 := by rw [HD.out]; rfl
    subst hwd
    have hr1 := (hb1.block _ (by omega)).trans hr0
    obtain ⟨⟨_, i0⟩, ⟨_, i1⟩, ⟨_, i2⟩, ⟨_, i3⟩, ⟨_, i4⟩, f0, f1, f2, f3, f4⟩ := cells_w5 hr1
    clear HD
    go_wp2_with fail
    exact part_post rfl w w1 _ k n _ false 4 _ (by omega) (hb0.trans (hb1.mono hb0.size)) _ _ _ _ _ hr1 _ rfl fun Z hZ => ⟨rfl, hZ⟩
  | true =>
    have HS1 : Hid (∀ W, Below w1.heap.size w1 W → Calls Tryz.prog 48 #[tv k n (.slice a ts.length cap)] W fun e w' => e = .returned (.int .i64 (sz : Nat)) ∧ Below w1.heap.size w1 w') := fun W h => (HS.out W (hb1.trans (h.mono hb1.size))).mono fun _ _ q => ⟨q.1, h.trans (q.2.mono h.size)⟩
    go_wp2_with fail
    have hwd : wd = sz := by rw [HD.out]; rfl
    subst hwd
    clear HD
    go_region_with (refine (HS1.out _ (Below.drew (Below.refl _ _))).mono ?_; rintro e w2 ⟨rfl, hb2⟩; have hr1 := ((hb1.trans (hb2.mono hb1.size)).block _ (by omega)).trans hr0; have d0 := (hB1.from_ hb2 hbl).c0; have d1 := (hB1.from_ hb2 hbl).c1; have d2 := (hB1.from_ hb2 hbl).c2; obtain ⟨⟨_, i0⟩, ⟨_, i1⟩, ⟨_, i2⟩, ⟨_, i3⟩, ⟨_, i4⟩, f0, f1, f2, f3, f4⟩ := cells_w5 hr1)
    all_goals
      go_wp2_with fail
      exact part_post rfl w w2 _ k n _ true wd _ (by omega) (hb0.trans ((hb1.trans (hb2.mono hb1.size)).mono hb0.size)) _ _ _ _ _ hr1 _ rfl fun Z hZ => ⟨rfl, hZ⟩
end Go.Proofs.YtaajkbclojmbeaaGreatDoor
namespace Go.Proofs.YtaajkbclojmbeaaGreatDoor
open Go Go.RowKit Go.Shelf
attribute [local go_sem] Oper.semAt_some

/-- The type of the item at a place. -/
def M.tyAt (ts : List M.Ty) (i : Nat) : M.Ty := ts[min i (ts.length - 1)]?.getD default
/-- What comes each time: a place, a type, the value of those in it. -/
abbrev Ep := (Nat × M.Ty) × Value
def encP (x : Ep) : Array Value := match x.1.2 with | .mk k n ins => #[.int .i64 (x.1.1 : Nat), pv k n x.2 (M.fixedT (.mk k n ins)) (wdT (.mk k n ins))]
def GoodP (w0 : World) (ts : List M.Ty) (items : Nat) (pre : List Ep) (x : Ep) : Prop :=
  x.1.1 = pre.length ∧ x.1.1 < items ∧ x.1.2 = M.tyAt ts x.1.1 ∧ LayT w0 w0.heap.size x.1.2.ins x.2
def AllP (ts : List M.Ty) (items : Nat) (xs : List Ep) : Prop := xs.length = items ∧ ∀ (i : Nat) (x : Ep), xs[i]? = some x → x.1 = (i, M.tyAt ts i)

/-- What the rounds do, for the function that calls them. -/
structure PartH (w0 : World) (ts : List M.Ty) (items : Nat) (T : Nat → Prop) (N0 l bt bi : Nat) (k n : Int) (v : Value) (J : List Ep → World → Prop) (Jp : List PanicEntry → World → Prop) : Prop where
  grow : ∀ pre A B, J pre A → A.grownBy B (some N0) → J pre B
  low : ∀ pre A, J pre A → Below w0.heap.size w0 A
  bt : ∀ pre A, J pre A → BoxT A bt k n v
  bi : ∀ pre A, J pre A → A.cell? ⟨bi, 0, none⟩ = some (.int .i64 (items : Nat))
  tn : T N0
  y : ∀ m pre x A, J pre A → GoodP w0 ts items pre x → YieldAt Fence.wide m Tryz.prog l (encP x) A fun e W' =>
    (e = .returned (.bool true) ∧ J (pre ++ [x]) W' ∧ A.heap.size ≤ W'.heap.size ∧ ∀ b, b < A.heap.size → T b → W'.heap[b]? = A.heap[b]?) ∨ (∃ ch, e = .panicked ch ∧ Jp ch W')

/-- The box of a part. -/
def PBox (W : World) (g : Nat) (k n : Int) (v : Value) (f : Bool) (wd : Nat) : Prop := W.heap[g]? = some (.cells #[.int .i64 k, .int .i64 n, v, .bool f, .int .i64 (wd : Nat)] 181 (0, 0))

set_option maxRecDepth 100000 in
set_option maxHeartbeats 8000000 in
theorem parts_seq (w0 : World) (ts : List M.Ty) (items : Nat) (T : Nat → Prop) (N0 l bt bi : Nat) (k n : Int) (a : Option Addr) (cap : Nat) (J : List Ep → World → Prop) (Jp : List PanicEntry → World → Prop) (H : PartH w0 ts items T N0 l bt bi k n (.slice a ts.length cap) J Jp) (m : Nat)
    (hL : LayT w0 w0.heap.size ts (.slice a ts.length cap)) (hc : M.cntTs ts ≤ 999) (hi : items ≤ 6000) (ht : items ≠ 0 → 1 ≤ ts.length) (_hn : w0.heap.size ≤ N0) (W : World) (hW : W.heap.size = N0) (h0 : J [] W) :
    CallsIn Fence.wide m Tryz.prog 189 #[.func (.yield l) #[] #[], .pointer (some ⟨bi, 0, none⟩), .pointer (some ⟨bt, 0, none⟩)] W fun e W' =>
      (∃ v xs, e = .returned v ∧ AllP ts items xs ∧ J xs W') ∨ (∃ ch, e = .panicked ch ∧ Jp ch W') := by
  have hro : Fence.wide.round = none := rfl
  have hlen := M.length_cntT ts
  obtain ⟨W1, hW1⟩ : ∃ W1, W.alloc (.cells #[.int .i64 0, .int .i64 0, .slice none 0 0, .bool false, .int .i64 0] 181) = W1 := ⟨_, rfl⟩
  have hg1 : W.grownBy W1 (some N0) := by rw [← hW1]; exact World.grownBy_alloc _ _ _
  have hz1 : W1.heap.size = N0 + 1 := by rw [← hW1]; simp; omega
  have hP1 : PBox W1 N0 0 0 (.slice none 0 0) false 0 := by rw [← hW1, ← hW]; exact World.alloc_heap_new _ _
  have hJ1 := H.grow _ _ _ h0 hg1
  have c0 := H.bi _ _ hJ1
  have HW1 := Lib.hid hW1
  rw [← hW1] at c0
  clear hW1 hg1
  refine callsIn_of_wp Tryz.func189 rfl trivial ?_ rfl
  simp only [Tryz.ntmps189, List.size_toArray, List.length_cons, List.length_nil, Nat.reduceAdd, Nat.reduceSub, Array.replicate_succ, Array.replicate_zero, List.push_toArray, List.append_toArray, List.nil_append, List.cons_append]
  gi_wp2
  rw [HW1.out]
  gi_loopw [7] (fun i wr => ∃ (j : Nat) (ys : List Ep) (k1 n1 : Int) (v1 : Value) (f1 : Bool) (wd1 : Nat), j ≤ items ∧ i = .int .i64 (j : Nat) ∧ ys.length = j ∧ (∀ (i : Nat) (x : Ep), ys[i]? = some x → x.1 = (i, M.tyAt ts i)) ∧ J ys wr ∧ PBox wr N0 k1 n1 v1 f1 wd1 ∧
      (j = 0 ∨ ∃ us : List M.Ty, M.tyAt ts (j - 1) = .mk k1 n1 us ∧ f1 = M.fixedT (.mk k1 n1 us) ∧ wd1 = wdT (.mk k1 n1 us) ∧ LayT w0 w0.heap.size us v1))
    (fun i _ => items - (intOf i).toNat)
  case atStart => exact ⟨0, [], _, _, _, _, _, by omega, rfl, rfl, by simp, hJ1, hP1, .inl rfl⟩
  case round =>
    obtain ⟨j, ys, k1, n1, v1, f1, wd1, hj, rfl, hyl, hys, hJr, hPr, hor⟩ := hrel
    have hlow := H.low _ _ hJr
    have hBt := H.bt _ _ hJr
    by_cases hlt : j < items
    · have hlt1 := ht (by omega)
      have d2 := hBt.c2
      have hj9 : j < 6000 := by omega
      by_cases hin : j < ts.length
      · obtain ⟨b, o, k', m', us, au, cu, rfl, hbn, hxk, e0, e1, e2, hLu⟩ := hL.at_ hin
        have g0 := (hlow.cell (p := ⟨b, o + j * 3, none⟩) hbn).trans e0
        have g1 := (hlow.cell (p := ⟨b, o + j * 3 + 1, none⟩) hbn).trans e1
        have g2 := (hlow.cell (p := ⟨b, o + j * 3 + 2, none⟩) hbn).trans e2
        have hcx := M.cntT_part (List.mem_of_getElem? hxk)
        have hty : M.tyAt ts j = .mk k' m' us := by unfold M.tyAt; rw [show min j (ts.length - 1) = j by omega, hxk]; rfl
        have HP := Lib.hid (fun W (h : Below wr.heap.size wr W) => partOf_any k' m' us au cu W ((hLu.from_ (hlow.trans (h.mono hlow.size))).mono (hlow.trans (h.mono hlow.size)).size) (by omega))
        have HL := Lib.hid hLu
        clear hL hLu e0 e1 e2 hor
        gi_wp2_with fail
        refine ⟨trivial, fun h => (by cases h), (callsIn_wide.2 (HP.out _ (Below.refl _ _))).mono ?_⟩
        rintro e W3 ⟨rfl, hb3⟩
        have hN0 : N0 < wr.heap.size := (Array.getElem?_eq_some_iff.1 hPr).1
        have hP3 : PBox W3 N0 k1 n1 v1 f1 wd1 := (hb3.block _ hN0).trans hPr
        have hz3 := hb3.size
        obtain ⟨W4, hW4⟩ : ∃ W4, W3.setRow N0 #[.int .i64 k', .int .i64 m', .slice au us.length cu, .bool (M.fixedT (.mk k' m' us)), .int .i64 (wdT (.mk k' m' us) : Nat)] = W4 := ⟨_, rfl⟩
        have hP4 : PBox W4 N0 k' m' (.slice au us.length cu) (M.fixedT (.mk k' m' us)) (wdT (.mk k' m' us)) := by rw [← hW4]; exact setRow_heap _ _ _ _ _ _ hP3
        have hg4 : wr.grownBy W4 (some N0) := by
          refine World.grownBy.trans (b := W3) ⟨hb3.os, hb3.tape, hb3.output, hb3.size, fun i hi _ => hb3.block i hi⟩ ?_
          rw [← hW4]
          exact ⟨rfl, rfl, rfl, by simp, fun i hi hne => setRow_other _ _ _ _ (fun e => hne (by rw [e]))⟩
        have hJ4 := H.grow _ _ _ hJr hg4
        obtain ⟨fn, tmps, assign, body, hy, hR⟩ := H.y (m - 1) ys ((j, .mk k' m' us), Value.slice au us.length cu) W4 hJ4 ⟨hyl.symm, hlt, hty.symm, HL.out⟩
        dsimp only [encP] at hy
        have HT := H.tn
        have hlP : N0 < W4.heap.size := (Array.getElem?_eq_some_iff.1 hP4).1
        have hyl' : (ys ++ [((j, M.Ty.mk k' m' us), Value.slice au us.length cu)]).length = j + 1 := by simp [hyl]
        have hys' : ∀ (i : Nat) (x : Ep), (ys ++ [((j, M.Ty.mk k' m' us), Value.slice au us.length cu)])[i]? = some x → x.1 = (i, M.tyAt ts i) := by
          intro i x hx
          by_cases hij : i < ys.length
          · rw [List.getElem?_append_left hij] at hx; exact hys i x hx
          · rw [List.getElem?_append_right (by omega)] at hx
            by_cases hz : i - ys.length = 0
            · rw [hz] at hx
              cases hx
              obtain rfl : i = j := by omega
              exact congrArg (Prod.mk i) hty.symm.symm.symm
            · rw [List.getElem?_eq_none (by simp; omega)] at hx; cases hx
        have HYS := Lib.hid hys'
        have HYL := Lib.hid hyl'
        have HW4 := Lib.hid hW4
        clear HP hW4 hg4 hJr hlow hBt hcx hJ4 H
        generalize hq4 : M.fixedT (.mk k' m' us) = q4 at *
        generalize hwd4 : wdT (.mk k' m' us) = wd4 at *
        have HQ := Lib.hid hq4
        have HD := Lib.hid hwd4
        clear hq4 hwd4 hys hys' hyl'
        gi_wp2_with (first | (refine wpListIn_store_row rfl _ _ _ rfl N0 #[.int .i64 k', .int .i64 m', .slice au us.length cu, .bool q4, .int .i64 (wd4 : Nat)] rfl rfl _ _ hP3 Tryz.partSize rfl (by simp [Value.oneCell']) ?_; rw [HW4.out]) | (refine wpListIn_load_row rfl _ _ rfl N0 rfl _ _ _ _ hP4 Tryz.underlying181 rfl Tryz.partSize ?_))
        refine ⟨fun h => (by cases h), hR.mono ?_⟩
        rintro e W5 (⟨rfl, hj5, hz5, hk5⟩ | ⟨ch, rfl, hjp⟩)
        · have HJ5 := Lib.hid hj5
          have HP5 := Lib.hid ((hk5 N0 hlP HT).trans hP4)
          clear hy hR hj5 hk5
          gi_wp2
          go_roundw
          case rel => exact ⟨j + 1, _, k', m', .slice au us.length cu, q4, wd4, by omega, by simp, HYL.out, HYS.out, HJ5.out, HP5.out, .inr ⟨us, by rw [Nat.add_sub_cancel]; exact hty.symm.symm, HQ.out.symm, HD.out.symm, HL.out⟩⟩
          case measure => simp [intOf]; omega
        · have HJP := Lib.hid hjp
          clear hy hR hjp
          gi_wp2_with fail
          exact ⟨rfl, .inr ⟨ch, rfl, HJP.out⟩⟩
      · have hj0 : j ≠ 0 := by omega
        obtain ⟨us, hty, rfl, rfl, hLv⟩ := hor.resolve_left hj0
        have hte : M.tyAt ts j = .mk k1 n1 us := by rw [← hty]; unfold M.tyAt; rw [show min j (ts.length - 1) = min (j - 1) (ts.length - 1) by omega]
        obtain ⟨uv, uc, rfl, _, _⟩ := hLv.slice
        have HL := Lib.hid hLv
        obtain ⟨fn, tmps, assign, body, hy, hR⟩ := H.y (m - 1) ys ((j, .mk k1 n1 us), Value.slice uv us.length uc) wr hJr ⟨hyl.symm, hlt, hte.symm, HL.out⟩
        dsimp only [encP] at hy
        have HT := H.tn
        have hlP : N0 < wr.heap.size := (Array.getElem?_eq_some_iff.1 hPr).1
        have hyl' : (ys ++ [((j, M.Ty.mk k1 n1 us), Value.slice uv us.length uc)]).length = j + 1 := by simp [hyl]
        have hys' : ∀ (i : Nat) (x : Ep), (ys ++ [((j, M.Ty.mk k1 n1 us), Value.slice uv us.length uc)])[i]? = some x → x.1 = (i, M.tyAt ts i) := by
          intro i x hx
          by_cases hij : i < ys.length
          · rw [List.getElem?_append_left hij] at hx; exact hys i x hx
          · rw [List.getElem?_append_right (by omega)] at hx
            by_cases hz : i - ys.length = 0
            · rw [hz] at hx
              cases hx
              obtain rfl : i = j := by omega
              exact congrArg (Prod.mk i) hte.symm.symm.symm
            · rw [List.getElem?_eq_none (by simp; omega)] at hx; cases hx
        have HYS := Lib.hid hys'
        have HYL := Lib.hid hyl'
        clear hlow hBt hJr hor H hL hLv
        generalize hq4 : M.fixedT (.mk k1 n1 us) = q4 at *
        generalize hwd4 : wdT (.mk k1 n1 us) = wd4 at *
        have HQ := Lib.hid hq4
        have HD := Lib.hid hwd4
        clear hq4 hwd4 hys hys' hyl'
        gi_wp2_with (first | (refine wpListIn_load_row rfl _ _ rfl N0 rfl _ _ _ _ hPr Tryz.underlying181 rfl Tryz.partSize ?_))
        refine ⟨fun h => (by cases h), hR.mono ?_⟩
        rintro e W5 (⟨rfl, hj5, hz5, hk5⟩ | ⟨ch, rfl, hjp⟩)
        · have HJ5 := Lib.hid hj5
          have HP5 := Lib.hid ((hk5 N0 hlP HT).trans hPr)
          clear hy hR hj5 hk5
          gi_wp2
          go_roundw
          case rel => exact ⟨j + 1, _, k1, n1, .slice uv us.length uc, q4, wd4, by omega, by simp, HYL.out, HYS.out, HJ5.out, HP5.out, .inr ⟨us, by rw [Nat.add_sub_cancel]; exact hte.symm.symm, HQ.out.symm, HD.out.symm, HL.out⟩⟩
          case measure => simp [intOf]; omega
        · have HJP := Lib.hid hjp
          clear hy hR hjp
          gi_wp2_with fail
          exact ⟨rfl, .inr ⟨ch, rfl, HJP.out⟩⟩
    · obtain rfl : j = items := by omega
      have HJ := Lib.hid hJr
      clear hJr hlow hBt H
      gi_wp2_with fail
      go_end0
      exact .inl ⟨_, ys, rfl, ⟨hyl, hys⟩, HJ.out⟩
end Go.Proofs.YtaajkbclojmbeaaGreatDoor
namespace Go.Proofs.YtaajkbclojmbeaaGreatDoor
open Go Go.RowKit Go.Shelf

/-- Back, or a panic. -/
def orPan (q : Nat) : Ending := if q = 0 then .returned (.tuple #[]) else pan q
theorem orPan_0 : orPan 0 = .returned (.tuple #[]) := rfl
theorem orPan_ne {q : Nat} (h : q ≠ 0) : orPan q = pan q := by unfold orPan; rw [if_neg h]
set_option maxRecDepth 100000 in
set_option maxHeartbeats 4000000 in
theorem catch_pan (p : Addr) (x : Value) (q : Nat) (w : World) (hc : w.cell? p = some x) (hz : w.frozen? p = false) :
    CallsD Tryz.prog 165 #[.pointer (some p)] (.panicking [{ v := .iface 25 (.int .i64 (q : Nat)), recovered := false }]) w fun e u' w' =>
      e = .returned (.tuple #[]) ∧ u' = .panicking [{ v := .iface 25 (.int .i64 (q : Nat)), recovered := true }] ∧ w' = w.setCell p (.int .i64 (q : Nat)) := by
  have hta : ∀ (v : Value) (w : World), (Instr.typeAssert (.iface 25 v) 20 25 false).run Tryz.prog w = .ok v w := fun v w => by
    simp [Instr.typeAssert, run_underlying Tryz.underlying25, go_sem, Result.andThen]
  refine callsD_of_wpS Tryz.func165 rfl fun c₀ cs hu => ?_
  apply wpS_seq
  apply wpS_region
  simp [wpOpsS, go_sem, recoverD, hu, Tryz.ntmps165, Exit.thenS]
  refine wpS_of_wp ?_
  simp only [Array.replicate_succ, Array.replicate_zero, List.push_toArray, List.append_toArray, List.nil_append, List.cons_append, List.setIfInBounds_toArray, List.set_cons_zero, List.set_cons_succ]
  go_wp2_with fail
  simp [bodyPostS, results, Tryz.results165]

theorem catch_idle (p : Addr) (w : World) :
    CallsD Tryz.prog 165 #[.pointer (some p)] .returning w fun e u' w' => e = .returned (.tuple #[]) ∧ u' = .returning ∧ w' = w := by
  refine callsD_of_wpS Tryz.func165 rfl fun c₀ cs hu => ?_
  apply wpS_seq
  apply wpS_region
  simp [wpOpsS, go_sem, recoverD, hu, Tryz.ntmps165, Exit.thenS]
  refine wpS_of_wp ?_
  simp only [Array.replicate_succ, Array.replicate_zero, List.push_toArray, List.append_toArray, List.nil_append, List.cons_append, List.setIfInBounds_toArray, List.set_cons_zero, List.set_cons_succ]
  go_wp2_with fail
  cases c₀
  simp_all [bodyPostS, results, Tryz.results165]

set_option maxRecDepth 100000 in
set_option maxHeartbeats 4000000 in
/-- What is given up is told. -/
theorem given_any (g : FuncId) (caps : Array Value) (hen : ∀ args w, (callFunc g args).run Tryz.prog w = .ok (.enter g args) w) (w : World) (R : Nat → World → Prop)
    (H : Calls Tryz.prog g caps (w.alloc (.cells #[.int .i64 0] 25)) fun e w' => ∃ q, e = orPan q ∧ R q w' ∧ Boxed w' w.heap.size 25 (.int .i64 0)) :
    Calls Tryz.prog 142 #[.func (.func g) #[] caps] w fun e w' => ∃ (q : Nat) (W : World), e = .returned (.int .i64 (q : Nat)) ∧ R q W ∧ w' = W.setCell ⟨w.heap.size, 0, none⟩ (.int .i64 (q : Nat)) := by
  have hmf : ∀ (fn : Fn) (first cap : Array Value) (w : World), (Instr.makeFunc fn first cap).run Tryz.prog w = .ok (.func fn first cap) w := fun _ _ _ _ => rfl
  go_enter_defers Tryz.func142, Tryz.ntmps142
  go_wp2_with fail
  refine H.mono ?_
  rintro e w1 ⟨q, rfl, hR, hB⟩
  have hR0 := Lib.hid hR
  clear hR H hen
  have y1 := hB.cell
  have y2 : w1.frozen? ⟨w.heap.size, 0, none⟩ = false := by simp [World.frozen?, show w1.heap[w.heap.size]? = _ from hB]
  by_cases hq : q = 0
  · subst hq
    rw [orPan_0]
    have hrd : (w1.setCell ⟨w.heap.size, 0, none⟩ (.int .i64 0)).cell? ⟨w.heap.size, 0, none⟩ = some (.int .i64 0) := World.cell?_setCell_same' _ _ _ (by rw [y1]; rfl)
    go_wp2_with fail
    refine leaves_cons (f := 165) (args := #[.pointer (some ⟨w.heap.size, 0, none⟩)]) (by simp) (by simp [go_sem]) ?_
    refine (catch_idle ⟨w.heap.size, 0, none⟩ _).mono ?_
    rintro e u' w4 ⟨rfl, rfl, rfl⟩
    simp [Leaves, settle, results, Tryz.results142, go_sem, hrd]
    exact ⟨0, rfl, w1, hR0.out, rfl⟩
  · rw [orPan_ne hq]
    have hrd : (w1.setCell ⟨w.heap.size, 0, none⟩ (.int .i64 (q : Nat))).cell? ⟨w.heap.size, 0, none⟩ = some (.int .i64 (q : Nat)) := World.cell?_setCell_same' _ _ _ (by rw [y1]; rfl)
    go_wp2_with fail
    refine leaves_cons (f := 165) (args := #[.pointer (some ⟨w.heap.size, 0, none⟩)]) (by simp) (by simp [go_sem]) ?_
    refine (catch_pan ⟨w.heap.size, 0, none⟩ _ q _ y1 y2).mono ?_
    rintro e u' w4 ⟨rfl, rfl, rfl⟩
    simp [Leaves, settle, results, Tryz.results142, go_sem, hrd]
    exact ⟨q, rfl, w1, hR0.out, rfl⟩
end Go.Proofs.YtaajkbclojmbeaaGreatDoor
namespace Go.Proofs.YtaajkbclojmbeaaGreatDoor
open Go Go.RowKit

section
variable {P : Program} {ops : Array Oper} {Q : Exit → Act → World → Prop} {md : Region.Mode}
theorem wpAny_roundQ {l n : Nat} (hQ : ¬ LetsOut Q) (hd : noDefer ops = true) : ∀ (fuel : Nat) (listed : Array Bool) (a : Act) (w : World), wpAny P md ops Q fuel listed a w → wpAnyIn (Fence.wide.inRound l) n P md ops Q fuel listed a w
  | 0, _, _, _, h => h
  | fuel + 1, listed, a, w, h => by
    refine ⟨h.1, fun i hi => ?_⟩
    have h1 := h.2 i hi
    unfold wpOp at h1
    unfold wpOpIn
    cases ho : ops[i]? with
    | none => simp only [ho] at h1 ⊢; exact wpAny_roundQ hQ hd fuel _ _ _ h1
    | some o =>
      simp only [ho] at h1 ⊢
      by_cases hw : Region.wanted o (yielded ops a.tmps) = true
      · simp only [hw, if_true] at h1 ⊢
        rcases h1 with h1 | ⟨_, h1⟩
        · exact wp_round (noDefer_at hd ho) (fun a w => wpAny_roundQ hQ hd fuel _ a w) h1
        · exact absurd h1 hQ
      · simp only [hw, if_false, Bool.false_eq_true] at h1 ⊢
        exact ⟨fun _ _ => trivial, wpAny_roundQ hQ hd fuel _ _ _ h1⟩
/-- A region in a round, by the law on what is held. -/
theorem region_roundH {r m id : Nat} {a : Act} {w : World} {S : World → Prop} (hQ : ¬ LetsOut Q) (hm : P.follows .mixedOrders = true) (hd : noDefer ops = true)
    (h : wpAnyH P .any ops Q S ops.size (Array.replicate ops.size false) a w.drew) : (Code.region id ops true).wpIn (Fence.wide.inRound r) m P Q a w :=
  wpIn_region_any hm (wpAny_roundQ hQ hd _ _ _ _ (wpAny_of_held _ _ _ _ h))
end

/-- A world that is as another was, but for some of its blocks, and for what is new. -/
structure Gr (A W : World) (R : Nat → Prop) : Prop where
  os : W.os = A.os
  tape : W.tape = A.tape
  output : W.output = A.output
  size : A.heap.size ≤ W.heap.size
  block : ∀ b, b < A.heap.size → ¬ R b → W.heap[b]? = A.heap[b]?
theorem Gr.refl (A : World) (R : Nat → Prop) : Gr A A R := ⟨rfl, rfl, rfl, Nat.le_refl _, fun _ _ _ => rfl⟩
theorem Gr.grow {A W W' : World} {R : Nat → Prop} {row : Option Nat} (h : Gr A W R) (hg : W.grownBy W' row) (hr : ∀ j, row = some j → A.heap.size ≤ j ∨ R j) : Gr A W' R :=
  ⟨hg.os.trans h.os, hg.tape.trans h.tape, hg.output.trans h.output, Nat.le_trans h.size hg.size, fun b hb hR => (hg.block b (Nat.lt_of_lt_of_le hb h.size) (fun e => (hr b e.symm).elim (fun h => by omega) hR)).trans (h.block b hb hR)⟩
theorem Gr.below {A W W' : World} {R : Nat → Prop} (h : Gr A W R) (hb : Below W.heap.size W W') : Gr A W' R :=
  h.grow (row := none) ⟨hb.os, hb.tape, hb.output, hb.size, fun i hi _ => hb.block i hi⟩ (fun _ e => by cases e)
theorem Gr.low {A W w : World} {n : Nat} {R : Nat → Prop} (hb : Below n w A) (h : Gr A W R) (hn : n ≤ A.heap.size) (hR : ∀ b, R b → n ≤ b) : Below n w W :=
  ⟨h.os.trans hb.os, h.tape.trans hb.tape, h.output.trans hb.output, Nat.le_trans hb.size h.size, fun b hlt => (h.block b (by omega) (fun hr => by have := hR b hr; omega)).trans (hb.block b hlt)⟩
theorem Gr.cell {A W : World} {R : Nat → Prop} (h : Gr A W R) {p : Addr} (hp : p.block < A.heap.size) (hR : ¬ R p.block) : W.cell? p = A.cell? p := World.cell?_of_block (h.block _ hp hR)
theorem Gr.set {A W : World} {R : Nat → Prop} (h : Gr A W R) (p : Addr) (v : Value) (hp : A.heap.size ≤ p.block ∨ R p.block) : Gr A (W.setCell p v) R :=
  ⟨h.os, h.tape, h.output, by simpa [World.setCell] using h.size, fun b hb hR => (Below.heap_setCell _ _ _ b (fun e => by subst e; exact hp.elim (fun h => by omega) hR)).trans (h.block b hb hR)⟩
theorem Gr.drew {A W : World} {R : Nat → Prop} (h : Gr A W R) : Gr A W.drew R := ⟨h.os, h.tape, h.output, h.size, h.block⟩
theorem Gr.own {A : World} {α : Type} {R : Nat → Prop} : OwnFrom A.heap.size fun (_ : α) W => Gr A W R := fun _ _ _ _ h hg hr => h.grow hg fun j e => .inl (hr j e).1
theorem Boxed.ofGr {A W : World} {R : Nat → Prop} (h : Gr A W R) {b : Nat} {t : TypeId} {v : Value} (hB : Boxed A b t v) (hR : ¬ R b) : Boxed W b t v := (h.block b hB.lt hR).trans hB
theorem BoxT.ofGr {A W : World} {R : Nat → Prop} (h : Gr A W R) {b : Nat} {k n : Int} {v : Value} (hB : BoxT A b k n v) (hb : b < A.heap.size) (hR : ¬ R b) : BoxT W b k n v :=
  ⟨(h.cell (p := ⟨b, 0, none⟩) hb hR).trans hB.c0, (h.cell (p := ⟨b, 1, none⟩) hb hR).trans hB.c1, (h.cell (p := ⟨b, 2, none⟩) hb hR).trans hB.c2⟩

theorem parts_any (k n : Int) (v : Value) (items : Nat) (w : World) :
    Calls Tryz.prog 183 #[tv k n v, .int .i64 (items : Nat)] w fun e w' =>
      e = .returned (.func (.func 189) #[] #[.pointer (some ⟨w.heap.size + 1, 0, none⟩), .pointer (some ⟨w.heap.size, 0, none⟩)]) ∧ w' = (w.alloc (.cells #[.int .i64 k, .int .i64 n, v] 32)).alloc (.cells #[.int .i64 (items : Nat)] 3) := by
  have hmf : ∀ (fn : Fn) (first cap : Array Value) (w : World), (Instr.makeFunc fn first cap).run Tryz.prog w = .ok (.func fn first cap) w := fun _ _ _ _ => rfl
  go_enter Tryz.func183, Tryz.ntmps183
  go_wp2_with fail
  go_ret
  exact ⟨rfl, rfl⟩

/-- How an item of a kind stands in a row's beginning, as shape tells it. -/
def kdT (t : M.Ty) : Option Nat := if M.fixedT t = true then some (M.sizeT t) else none
theorem kdT_wd (t : M.Ty) : wdT t = (kdT t).getD 4 := by unfold wdT kdT; split <;> rfl
theorem kdT_chk {t : M.Ty} (h : M.chkT 0 t = 0) : kdT t = M.kindOf t := by
  unfold kdT M.kindOf
  rw [M.fixedT, if_pos h]
  split
  · rename_i hf
    rw [M.sizeT_fix (by rw [M.fixedT, if_pos h]; exact hf)]
  · rfl
theorem hdLen_append : ∀ a b : List (Option Nat), M.hdLen (a ++ b) = M.hdLen a + M.hdLen b
  | [], b => by simp [M.hdLen]
  | some n :: a, b => by rw [List.cons_append, M.hdLen, M.hdLen, hdLen_append a b]; omega
  | none :: a, b => by rw [List.cons_append, M.hdLen, M.hdLen, hdLen_append a b]; omega
/-- The widths of what has come. -/
def nxt (pre : List Ep) : Nat := M.hdLen (pre.map fun x => kdT x.1.2)
theorem nxt_snoc (pre : List Ep) (x : Ep) : nxt (pre ++ [x]) = nxt pre + wdT x.1.2 := by
  unfold nxt
  rw [List.map_append, hdLen_append, kdT_wd]
  simp only [List.map_cons, List.map_nil]
  cases h : kdT x.1.2 with
  | none => simp [M.hdLen]
  | some n => simp [M.hdLen]
end Go.Proofs.YtaajkbclojmbeaaGreatDoor
namespace Go.Proofs.YtaajkbclojmbeaaGreatDoor
open Go Go.RowKit Go.Shelf
attribute [local go_sem] Oper.semAt_some

namespace M
/-- Each two of a row, with z behind a last one that stands alone. -/
def pairsT (z : List UInt8) (l : List (List UInt8)) : List (List UInt8 × List UInt8) := (List.range ((l.length + 1) / 2)).map fun i => (l.getD (2 * i) [], l.getD (2 * i + 1) z)
theorem pairs_length (z : List UInt8) (l : List (List UInt8)) : (pairsT z l).length = (l.length + 1) / 2 := by simp [pairsT]
theorem pairs_get {z : List UInt8} {l : List (List UInt8)} {i : Nat} (h : i < (l.length + 1) / 2) : (pairsT z l)[i]? = some (l.getD (2 * i) [], l.getD (2 * i + 1) z) := by
  unfold pairsT
  rw [List.getElem?_map, List.getElem?_range h]
  rfl
theorem halve_pairs (z : List UInt8) : ∀ l : List (List UInt8), halve z l = (pairsT z l).map fun p => sumL (p.1 ++ p.2)
  | [] => rfl
  | [a] => by simp [halve, pairsT, List.range_succ]
  | a :: b :: r => by
    rw [halve, halve_pairs z r]
    unfold pairsT
    rw [show ((a :: b :: r).length + 1) / 2 = (r.length + 1) / 2 + 1 by simp; omega, List.range_succ_eq_map, List.map_cons, List.map_cons, List.map_map, List.map_map, List.map_map]
    congr 1
theorem pairs_all {z : List UInt8} {l : List (List UInt8)} (hl : l.all isC = true) (hz : z.length = 32) {i : Nat} {x : List UInt8 × List UInt8} (h : (pairsT z l)[i]? = some x) : x.1.length = 32 ∧ x.2.length = 32 := by
  have hi := (List.getElem?_eq_some_iff.1 h).1
  rw [pairs_length] at hi
  rw [pairs_get hi] at h
  obtain rfl := Option.some.inj h
  have hall : ∀ j, j < l.length → ∀ d, (l.getD j d).length = 32 := fun j hj d => by
    rw [List.getD_eq_getElem?_getD, List.getElem?_eq_getElem hj]
    have := List.all_eq_true.1 hl _ (List.getElem_mem hj)
    simpa [isC] using this
  show (l.getD (2 * i) []).length = 32 ∧ (l.getD (2 * i + 1) z).length = 32
  refine ⟨hall _ (by omega) _, ?_⟩
  by_cases hj : 2 * i + 1 < l.length
  · exact hall _ hj _
  · rw [List.getD_eq_getElem?_getD, List.getElem?_eq_none (by omega)]
    exact hz
end M
abbrev Tw := List UInt8 × List UInt8
/-- What comes next. -/
def GoodW (z : List UInt8) (ls : List (List UInt8)) (pre : List Tw) (x : Tw) : Prop := pre = (M.pairsT z ls).take pre.length ∧ (M.pairsT z ls)[pre.length]? = some x
def encW (x : Tw) : Array Value := #[.string ⟨x.1.toArray⟩, .string ⟨x.2.toArray⟩]

set_option maxRecDepth 100000 in
set_option maxHeartbeats 4000000 in
theorem twos_seq (w0 : World) (ls : List (List UInt8)) (z : List UInt8) (T : Nat → Prop) (l bs bz : Nat) (a : Option Addr) (cap : Nat) (J : List Tw → World → Prop) (Jp : List PanicEntry → World → Prop)
    (low : Hid (∀ pre A, J pre A → Below w0.heap.size w0 A)) (cs : Hid (∀ pre A, J pre A → A.cell? ⟨bs, 0, none⟩ = some (.slice a ls.length cap))) (cz : Hid (∀ pre A, J pre A → A.cell? ⟨bz, 0, none⟩ = some (.string ⟨z.toArray⟩)))
    (y : Hid (∀ m pre x A, J pre A → GoodW z ls pre x → YieldAt Fence.wide m Tryz.prog l (encW x) A fun e W' =>
      (e = .returned (.bool true) ∧ J (pre ++ [x]) W' ∧ A.heap.size ≤ W'.heap.size ∧ ∀ b, b < A.heap.size → T b → W'.heap[b]? = A.heap[b]?) ∨ (∃ ch, e = .panicked ch ∧ Jp ch W')))
    (m : Nat) (hT : Hid (Ts w0 w0.heap.size ls (.slice a ls.length cap))) (hl : ls.length ≤ 4000) (W : World) (h0 : J [] W) :
    CallsIn Fence.wide m Tryz.prog 129 #[.func (.yield l) #[] #[], .pointer (some ⟨bs, 0, none⟩), .pointer (some ⟨bz, 0, none⟩)] W fun e W' =>
      (∃ v xs, e = .returned v ∧ xs = M.pairsT z ls ∧ J xs W') ∨ (∃ ch, e = .panicked ch ∧ Jp ch W') := by
  have hro : Fence.wide.round = none := rfl
  refine callsIn_of_wp Tryz.func129 rfl trivial ?_ rfl
  simp only [Tryz.ntmps129, List.size_toArray, List.length_cons, List.length_nil, Nat.reduceAdd, Nat.reduceSub, Array.replicate_succ, Array.replicate_zero, List.push_toArray, List.append_toArray, List.nil_append, List.cons_append]
  gi_wp2
  gi_loopw [4] (fun i wr => ∃ j : Nat, 2 * j ≤ ls.length + 1 ∧ i = .int .i64 ((2 * j : Nat) : Int) ∧ J ((M.pairsT z ls).take j) wr) (fun i _ => ls.length + 1 - (intOf i).toNat)
  case atStart => exact ⟨0, by omega, rfl, by simpa using h0⟩
  case round =>
    obtain ⟨j, hj, rfl, hJ⟩ := hrel
    have c1 := cs.out _ _ hJ
    have c2 := cz.out _ _ hJ
    have hlow := low.out _ _ hJ
    have hgd : 2 * j < ls.length → GoodW z ls ((M.pairsT z ls).take j) (ls.getD (2 * j) [], ls.getD (2 * j + 1) z) := fun h => by
      have : ((M.pairsT z ls).take j).length = j := by rw [List.length_take, M.pairs_length]; omega
      unfold GoodW
      rw [this]
      exact ⟨rfl, M.pairs_get (by omega)⟩
    have hsn : 2 * j < ls.length → (M.pairsT z ls).take j ++ [(ls.getD (2 * j) [], ls.getD (2 * j + 1) z)] = (M.pairsT z ls).take (j + 1) := fun h => by
      rw [List.take_add_one, M.pairs_get (by omega)]
      rfl
    have hend : ls.length ≤ 2 * j → (M.pairsT z ls).take j = M.pairsT z ls := fun h => List.take_of_length_le (by rw [M.pairs_length]; omega)
    obtain ⟨q, hq⟩ : ∃ q, 2 * j = q := ⟨_, rfl⟩
    rw [hq] at hj hgd hsn hend ⊢
    have HQ := Lib.hid hq
    have hq9 : q ≤ 4001 := by omega
    clear hq
    by_cases hlt : q < ls.length
    · obtain ⟨b, o, s, rfl, hbn, hs, hc⟩ := hT.out.at_ hlt
      have d1 := (hlow.cell (p := ⟨b, o + q, none⟩) hbn).trans hc
      have hgl : ls.getD q [] = s := by rw [List.getD_eq_getElem?_getD, hs]; rfl
      have hlti : (q : Int) < ls.length := by omega
      replace hgd := hgd hlt
      replace hsn := hsn hlt
      rw [hgl] at hgd hsn
      have hq1 : (q : Int) + 1 = ((q + 1 : Nat) : Int) := by omega
      by_cases hlt2 : q + 1 < ls.length
      · obtain ⟨b', o', s', hab, _, hs', hc'⟩ := hT.out.at_ hlt2
        cases hab
        have d2 := (hlow.cell (p := ⟨b, o + (q + 1), none⟩) hbn).trans hc'
        have hgl2 : ls.getD (q + 1) z = s' := by rw [List.getD_eq_getElem?_getD, hs']; rfl
        rw [hgl2] at hgd hsn
        obtain ⟨fn, tmps, assign, body, hy, hR⟩ := y.out (m - 1) _ _ wr hJ hgd
        dsimp only [encW] at hy
        obtain ⟨q1, hq1'⟩ : ∃ q1, q + 1 = q1 := ⟨_, rfl⟩
        have hq1i : (q : Int) + 1 = (q1 : Int) := by omega
        rw [hq1'] at d2 hlt2
        have hlt2i : (q1 : Int) < ls.length := by omega
        have HSN := Lib.hid hsn
        have HQ1 := Lib.hid hq1'
        clear hgd hsn hend hJ hlow hc hc' hs hs' hgl hgl2 hq1 hq1'
        gi_wp2_with fail
        refine ⟨fun h => (by cases h), hR.mono ?_⟩
        rintro e W5 (⟨rfl, hj5, hz5, hk5⟩ | ⟨ch, rfl, hjp⟩)
        · rw [HSN.out] at hj5
          have HJ5 := Lib.hid hj5
          clear hy hR hj5 hk5
          gi_wp2
          go_roundw
          case rel => exact ⟨j + 1, by have := HQ.out; omega, by have := HQ.out; congr 1; omega, HJ5.out⟩
          case measure => have := HQ.out; simp [intOf]; omega
        · have HJP := Lib.hid hjp
          clear hy hR hjp
          gi_wp2_with fail
          exact ⟨rfl, .inr ⟨ch, rfl, HJP.out⟩⟩
      · have hgl2 : ls.getD (q + 1) z = z := by rw [List.getD_eq_getElem?_getD, List.getElem?_eq_none (by omega)]; rfl
        rw [hgl2] at hgd hsn
        obtain ⟨fn, tmps, assign, body, hy, hR⟩ := y.out (m - 1) _ _ wr hJ hgd
        dsimp only [encW] at hy
        obtain ⟨q1, hq1'⟩ : ∃ q1, q + 1 = q1 := ⟨_, rfl⟩
        have hq1i : (q : Int) + 1 = (q1 : Int) := by omega
        rw [hq1'] at hlt2
        have hlt2i : ¬ (q1 : Int) < ls.length := by omega
        have HSN := Lib.hid hsn
        have HQ1 := Lib.hid hq1'
        clear hgd hsn hend hJ hlow hc hs hgl hgl2 hq1 hq1'
        gi_wp2_with fail
        refine ⟨fun h => (by cases h), hR.mono ?_⟩
        rintro e W5 (⟨rfl, hj5, hz5, hk5⟩ | ⟨ch, rfl, hjp⟩)
        · rw [HSN.out] at hj5
          have HJ5 := Lib.hid hj5
          clear hy hR hj5 hk5
          gi_wp2
          go_roundw
          case rel => exact ⟨j + 1, by have := HQ.out; omega, by have := HQ.out; congr 1; omega, HJ5.out⟩
          case measure => have := HQ.out; simp [intOf]; omega
        · have HJP := Lib.hid hjp
          clear hy hR hjp
          gi_wp2_with fail
          exact ⟨rfl, .inr ⟨ch, rfl, HJP.out⟩⟩
    · replace hend := hend (by omega)
      rw [hend] at hJ
      have HJ := Lib.hid hJ
      have hlti : ¬ (q : Int) < ls.length := by omega
      clear hJ hlow hend hgd hsn
      gi_wp2_with fail
      go_end0
      exact .inl ⟨⟨_, rfl⟩, HJ.out⟩
end Go.Proofs.YtaajkbclojmbeaaGreatDoor
namespace Go.Proofs.YtaajkbclojmbeaaGreatDoor
open Go Go.RowKit Go.Lib

/-- A block of bytes. -/
def Bk (w : World) (g : Nat) (l : List UInt8) : Prop := (∀ j, j < l.length → w.cell? ⟨g, j, none⟩ = some (.int .u8 ((l.getD j 0).toNat : Nat))) ∧ (∀ j, j < l.length → w.frozen? ⟨g, j, none⟩ = false)

/-- A byte, when i at either end have been changed for one another. -/
def rvB (l : List UInt8) (i k : Nat) : UInt8 := if k < i ∨ 32 - i ≤ k then l.getD (31 - k) 0 else l.getD k 0
structure RvP (w W : World) (g : Nat) (l : List UInt8) (i : Nat) : Prop where
  c : ∀ k, k < 32 → W.cell? ⟨g, k, none⟩ = some (.int .u8 ((rvB l i k).toNat : Nat))
  f : ∀ k, k < 32 → W.frozen? ⟨g, k, none⟩ = false
  g : w.grownBy W (some g)
  z : W.heap.size = w.heap.size
theorem RvP.step {w W : World} {g : Nat} {l : List UInt8} {i j : Nat} (h : RvP w W g l i) (hij : i + j = 31) (hlt : i < j) :
    RvP w ((W.setCell ⟨g, i, none⟩ (.int .u8 ((rvB l i j).toNat : Nat))).setCell ⟨g, j, none⟩ (.int .u8 ((rvB l i i).toNat : Nat))).drew g l (i + 1) := by
  have ci := h.c i (by omega)
  have cj := h.c j (by omega)
  have hne : i ≠ j := by omega
  have hg2 : w.grownBy ((W.setCell ⟨g, i, none⟩ (.int .u8 ((rvB l i j).toNat : Nat))).setCell ⟨g, j, none⟩ (.int .u8 ((rvB l i i).toNat : Nat))) (some g) := by
    have h1 := h.g
    exact ⟨h1.os, h1.tape, h1.output, by simpa [World.setCell] using h1.size, fun b hb hn => (Below.heap_setCell _ _ _ b (fun e => hn (by rw [e]))).trans ((Below.heap_setCell _ _ _ b (fun e => hn (by rw [e]))).trans (h1.block b hb hn))⟩
  refine ⟨fun k hk => ?_, fun k hk => ?_, ⟨hg2.os, hg2.tape, hg2.output, hg2.size, hg2.block⟩, by first | (simp [World.setCell]; exact h.z) | (simpa [World.setCell] using h.z) | simp [World.setCell, h.z]⟩
  · show ((W.setCell _ _).setCell _ _).cell? ⟨g, k, none⟩ = _
    by_cases hkj : k = j
    · subst hkj
      rw [World.cell?_setCell_same' _ _ _ (by rw [World.cell?_setCell_other _ _ _ _ (by simp; try omega), cj]; rfl)]
      unfold rvB
      rw [if_neg (by omega), if_pos (by omega), show 31 - k = i by omega]
    · rw [World.cell?_setCell_other _ _ _ _ (by simp; try omega)]
      by_cases hki : k = i
      · subst hki
        rw [World.cell?_setCell_same' _ _ _ (by rw [ci]; rfl)]
        unfold rvB
        rw [if_neg (by omega), if_pos (by omega), show 31 - k = j by omega]
      · rw [World.cell?_setCell_other _ _ _ _ (by simp; try omega), h.c k hk]
        unfold rvB
        by_cases hc : k < i ∨ 32 - i ≤ k
        · rw [if_pos hc, if_pos (by omega)]
        · rw [if_neg hc, if_neg (by omega)]
  · show ((W.setCell _ _).setCell _ _).frozen? ⟨g, k, none⟩ = _
    rw [World.frozen?_setCell, World.frozen?_setCell]
    exact h.f k hk
theorem rvB_end (l : List UInt8) (hl : l.length = 32) (k : Nat) (hk : k < 32) : rvB l 16 k = l.reverse.getD k 0 := by
  unfold rvB
  rw [if_pos (by omega), List.getD_eq_getElem?_getD, List.getD_eq_getElem?_getD, List.getElem?_reverse (by omega), hl]

set_option maxRecDepth 100000 in
set_option maxHeartbeats 4000000 in
theorem reverse_any (g cap : Nat) (l : List UInt8) (w : World) (hB : Bk w g l) (hl : l.length = 32) :
    Calls Tryz.prog 181 #[.slice (some ⟨g, 0, none⟩) 32 cap] w fun e w' => e = .returned (.tuple #[]) ∧ Bk w' g l.reverse ∧ w.grownBy w' (some g) ∧ w'.heap.size = w.heap.size := by
  go_enter Tryz.func181, Tryz.ntmps181
  go_wp2_with fail
  go_loopw [2, 3] (fun a b wr => ∃ i j : Nat, i ≤ 16 ∧ i + j = 31 ∧ a = .int .i64 i ∧ b = .int .i64 j ∧ RvP w wr g l i) (fun a _ _ => 16 - (RowKit.intOf a).toNat)
  case atStart => exact ⟨0, 31, by omega, by omega, rfl, rfl, ⟨fun k hk => by rw [hB.1 k (by omega)]; unfold rvB; rw [if_neg (by omega)], fun k hk => hB.2 k (by omega), World.grownBy.refl _ _, rfl⟩⟩
  case round =>
    obtain ⟨i, j, hi, hij, rfl, rfl, hR⟩ := hrel
    by_cases hlt : i < j
    · have ci := hR.c i (by omega)
      have cj := hR.c j (by omega)
      have fi := hR.f i (by omega)
      have fj := hR.f j (by omega)
      have hne : i ≠ j := by omega
      have hi9 : i < 32 := by omega
      have hj9 : j < 32 := by omega
      clear hB
      go_wp2_with fail
      go_region
      have hS := hR.step hij hlt
      obtain ⟨W1, hW1⟩ : ∃ W1, ((wr.setCell ⟨g, i, none⟩ (.int .u8 ((rvB l i j).toNat : Nat))).setCell ⟨g, j, none⟩ (.int .u8 ((rvB l i i).toNat : Nat))).drew = W1 := ⟨_, rfl⟩
      rw [hW1] at hS ⊢
      obtain ⟨j', rfl⟩ : ∃ j', j = j' + 1 := ⟨j - 1, by omega⟩
      clear ci cj fi fj hW1
      go_wp2_with fail
      go_roundw
      case rel => exact ⟨i + 1, j', by omega, by omega, by simp, by simp, hS⟩
      case measure => simp [RowKit.intOf]; omega
    · have h16 : i = 16 := by omega
      go_wp2_with fail
      go_end0
      subst h16
      refine ⟨rfl, ⟨fun k hk => ?_, fun k hk => hR.f k (by simpa [hl] using hk)⟩, hR.g, hR.z⟩
      rw [List.length_reverse, hl] at hk
      rw [hR.c k hk, rvB_end l hl k hk]
end Go.Proofs.YtaajkbclojmbeaaGreatDoor
namespace Go.Proofs.YtaajkbclojmbeaaGreatDoor
open Go Go.RowKit Go.Shelf

theorem nbe_any (N : Nat) (w : World) (h : N < 18446744073709551616) :
    Calls Tryz.prog 71 #[.int .u64 N] w fun e w' => e = .returned (.string ⟨(M.tr (M.f32 N)).toArray⟩) ∧ Below w.heap.size w w' := by
  go_enter Tryz.func71, Tryz.ntmps71
  go_wp2_with fail
  refine (of_any N _).mono ?_
  rintro e w1 ⟨rfl, hb1⟩
  go_wp2_with fail
  refine (bytes_small N _ h).mono ?_
  rintro e w2 ⟨rfl, hb2⟩
  go_wp2_with fail
  go_ret
  exact ⟨rfl, hb1.trans (hb2.mono hb1.size)⟩

end Go.Proofs.YtaajkbclojmbeaaGreatDoor
namespace Go.Proofs.YtaajkbclojmbeaaGreatDoor
open Go Go.RowKit Go.Shelf

end Go.Proofs.YtaajkbclojmbeaaGreatDoor
namespace Go.Proofs.YtaajkbclojmbeaaGreatDoor
open Go Go.RowKit

/-- The loop's record while it is ready. -/
abbrev recOf (fn : FuncId) (tmps : Array Value) (ps : Array Tmp) (assign body : Code) (d : Nat) (st : LoopState) : Loop :=
  { state := st, pending := none, fn, tmps, params := ps, assign, body, defers := d }

theorem keeps_put {W : World} {l : Nat} {o : Obj} (o' : Obj) {k : Nat} {x : Obj} (hk : W.heap[k]? = some x) (hne : k ≠ l) (_h : W.heap[l]? = some o) : (W.putObj l o').heap[k]? = some x :=
  (World.putObj_heap_other hne).trans hk

theorem range_all {α : Type} {P : Program} {n : Nat} {g : Operand} {ps : Array Tmp} {assign body : Code} {Q : Exit → Act → World → Prop} {a : Act} {w : World} (h1 : 1 ≤ n)
    {gf : Nat} {lb : Array Value} (hg : a.eval g = .func (.func gf) #[] lb) (eg : ∀ args w, (callFunc gf args).run P w = .ok (.enter gf args) w)
    {encs : α → Array Value} (hps : ∀ x, (encs x).size = ps.size) (xs : List α) (I : List α → World → Prop) (hI : OwnFrom w.heap.size I)
    (E : World → World → Prop) (Iend : Unit → World → Prop) (hEnd : OwnFrom w.heap.size Iend) (hE : ∀ A B, I xs A → E A B → KeepsOthers A B ∧ Iend () B)
    (hseq : ∀ (l : Nat) (J : List α → World → Prop) (W : World), (∀ pre W, J pre W → I pre W) → (∀ pre W, J pre W → J pre W.drew) →
      (∀ pre x post W1, xs = pre ++ x :: post → J pre W1 → YieldAt Fence.wide (n - 1 - 1) P l (encs x) W1 fun e W' => e = .returned (.bool true) ∧ J (pre ++ [x]) W') →
      J [] W → CallsIn Fence.wide (n - 1) P gf (#[.func (.yield l) #[] #[]] ++ lb) W fun e W' => (∃ v, e = .returned v) ∧ ∃ W1, J xs W1 ∧ E W1 W')
    (h0 : I [] w) (a1 : α → Act)
    (hassign : ∀ (l : Nat) (x : α) (W : World) (K : Act → World → Prop), K (a1 x) W →
      assign.wpIn (Fence.wide.inRound l) (n - 1 - 1) P (Exit.then K (fun _ _ _ => False)) { tmps := (ps.zip (encs x)).foldl (fun t (p, v) => t.setIfInBounds p v) a.tmps, defers := [] } W)
    (hbody : ∀ (l : Nat) (pre : List α) (x : α) (post : List α) (W : World), xs = pre ++ x :: post → I pre W →
      body.wpIn (Fence.wide.inRound l) (n - 1 - 1) P (fun e _ W' => e = .normal ∧ KeepsOthers W W' ∧ I (pre ++ [x]) W') (a1 x) W)
    (hdone : ∀ (D : Nat) (W : World), w.heap.size ≤ D → Iend () W → W.heap[D]? = some (.deferred (some [])) → Q .normal { a with defers := { target := .collected D, args := #[] } :: a.defers } W) :
    (Code.rangeFunc g ps assign body).wpIn Fence.wide n P Q a w := by
  refine wpIn_rangeFunc ?_
  intro fn hfn
  have hro : Fence.wide.round = none := rfl
  rw [hro]
  have hrun := run_enterLoop_outer (P := P) (w := w) fn a.tmps ps assign body
  obtain ⟨W1, hW1⟩ : ∃ W1, (w.alloc (.deferred (some []))).alloc (.loop (recOf fn a.tmps ps assign body w.heap.size .ready)) = W1 := ⟨_, rfl⟩
  replace hrun : (Instr.enterLoop fn a.tmps ps assign body none).run P w = .ok (w.heap.size + 1, [{ target := .collected w.heap.size, args := #[] }]) W1 := hW1 ▸ hrun
  have hL : W1.heap[w.heap.size + 1]? = some (.loop (recOf fn a.tmps ps assign body w.heap.size .ready)) := by
    rw [← hW1]
    have := World.alloc_heap_new (w.alloc (.deferred (some []))) (.loop (recOf fn a.tmps ps assign body w.heap.size .ready))
    rwa [World.size_alloc] at this
  have hD : W1.heap[w.heap.size]? = some (.deferred (some [])) := by
    rw [← hW1]
    exact (Below.heap_alloc _ _ _ (by simp)).trans (World.alloc_heap_new w _)
  have hI1 : I [] W1 := by rw [← hW1]; exact hI.alloc _ (hI.alloc _ h0)
  refine ⟨w.heap.size + 1, _, W1, { target := .fn (.func gf) lb, args := #[.func (.yield (w.heap.size + 1)) #[] #[]] }, W1, gf, #[.func (.yield (w.heap.size + 1)) #[] #[]] ++ lb, W1, hrun, ?_, fun _ _ => trivial, ?_, fun _ => h1, ?_⟩
  · simp only [resolve, hg]
    simp [go_sem]
  · simp [invoke, go_sem, eg]
  · refine (hseq (w.heap.size + 1) (fun pre W => I pre W ∧ W.heap[w.heap.size + 1]? = some (.loop (recOf fn a.tmps ps assign body w.heap.size .ready)) ∧ W.heap[w.heap.size]? = some (.deferred (some []))) W1
      (fun _ _ h => h.1) (fun pre W h => ⟨hI pre W W.drew none h.1 ⟨rfl, rfl, rfl, Nat.le_refl _, fun _ _ _ => rfl⟩ (fun r e => by cases e), h.2⟩) ?_ ⟨hI1, hL, hD⟩).mono ?_
    · rintro pre x post W hx ⟨hi, hl, hd⟩
      have hlt : w.heap.size + 1 < W.heap.size := (Array.getElem?_eq_some_iff.1 hl).1
      refine ⟨fn, _, assign, body, run_yield hl (hps x), roundIn_of_wpIn trivial (hassign _ x W _ ⟨_, run_beginRound hl rfl, ?_⟩)⟩
      refine wpIn_mono (hbody _ pre x post _ hx (hI.putObj _ hi (by omega) hl rfl)) ?_
      rintro e b W2 ⟨rfl, hk, hi2⟩
      have hl2 := hk.same _ _ (World.putObj_heap_same hlt) rfl
      have hd2 := hk.same _ _ (keeps_put _ hd (by omega) hl) rfl
      exact ⟨_, _, run_endRound none hl2, rfl, hI.putObj _ hi2 (by omega) hl2 rfl, World.putObj_heap_same (Array.getElem?_eq_some_iff.1 hl2).1, keeps_put _ hd2 (by omega) hl2⟩
    · rintro e W2 ⟨⟨v, rfl⟩, W3, ⟨hi, hl, hd⟩, he⟩
      obtain ⟨hk, hend⟩ := hE W3 W2 hi he
      have hl2 := hk.same _ _ hl rfl
      have hd2 := hk.same _ _ hd rfl
      exact ⟨none, _, run_endLoop hl2 (by simp), hdone _ _ (Nat.le_refl _) (hEnd.putObj _ hend (by omega) hl2 rfl) (keeps_put _ hd2 (by omega) hl2)⟩
end Go.Proofs.YtaajkbclojmbeaaGreatDoor
