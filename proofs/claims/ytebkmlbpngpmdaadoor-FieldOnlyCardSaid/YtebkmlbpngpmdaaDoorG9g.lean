/- The reference's items of layer 6: a number, a word, bytes, yes or no, a list. -/
import Derived.Test.YtebkmlbpngpmdaaDoorG2g
import Derived.Test.YtebkmlbpngpmdaaDoorB2g
import Derived.Test.YtebkmlbpngpmdaaDoorD0g
import Derived.Laws.Rows
namespace Go.Proofs.YtebkmlbpngpmdaaDoor
open Go Go.RowKit

/-- The result's cells, for the walk. -/
structure Cells3 (w : World) (g : Nat) : Prop where
  i0 : ∃ v, w.cell? ⟨g, 0, none⟩ = some v
  i1 : ∃ v, w.cell? ⟨g, 1, none⟩ = some v
  i2 : ∃ v, w.cell? ⟨g, 2, none⟩ = some v
  f0 : w.frozen? ⟨g, 0, none⟩ = false
  f1 : w.frozen? ⟨g, 1, none⟩ = false
  f2 : w.frozen? ⟨g, 2, none⟩ = false
theorem cells_three {w : World} {g : Nat} {o0 o1 o2 : Value} {t : TypeId} (h : w.heap[g]? = some (.cells #[o0, o1, o2] t (0, 0))) : Cells3 w g := by
  constructor <;> simp [World.cell?, World.frozen?, h]
theorem set_three {w : World} {g : Nat} {o0 o1 o2 : Value} {t : TypeId} (h : w.heap[g]? = some (.cells #[o0, o1, o2] t (0, 0))) (a b c : Value) :
    ((w.setCell ⟨g, 0, none⟩ a).setCell ⟨g, 1, none⟩ b).setCell ⟨g, 2, none⟩ c = w.setRow g #[a, b, c] := by
  have e1 := setCell_eq_setRow w g 0 #[o0, o1, o2] t (0, 0) a h
  have h1 := setRow_heap w g #[o0, o1, o2] (#[o0, o1, o2].setIfInBounds 0 a) t (0, 0) h
  have e2 := setCell_eq_setRow (w.setRow g (#[o0, o1, o2].setIfInBounds 0 a)) g 1 _ t (0, 0) b h1
  have h2 := setRow_heap _ g _ ((#[o0, o1, o2].setIfInBounds 0 a).setIfInBounds 1 b) t (0, 0) h1
  have e3 := setCell_eq_setRow _ g 2 _ t (0, 0) c h2
  rw [e1, e2, e3, setRow_setRow, setRow_setRow]
  rfl
theorem Tryd.itemSize : (Tryd.prog.info? 30).map (·.size) = some 3 := by kernel_rfl

/-- The function's end: the item is stored into the result's cells, and handed back. -/
theorem rf_post {fn : Func} (hres : fn.results = #[.cell 2 30]) (w w1 : World) (tmps : Array Value) (l : Bool) (d : List UInt8) (v : Value) (g : Nat) (hg : w.heap.size ≤ g) (hB : Below w.heap.size w w1) (o0 o1 o2 : Value)
    (hrow : w1.heap[g]? = some (.cells #[o0, o1, o2] 30 (0, 0))) (R : Ending → World → Prop) (hp : tmps.getD 2 undef = .pointer (some ⟨g, 0, none⟩))
    (h : ∀ Z, Below w.heap.size w Z → Z.heap.size = w1.heap.size → (∀ b, b ≠ g → Z.heap[b]? = w1.heap[b]?) → R (.returned (iv l d v)) Z) :
    bodyPost Tryd.prog fn R .ret { tmps := tmps, defers := [] } (((w1.setCell ⟨g, 0, none⟩ (.bool l)).setCell ⟨g, 1, none⟩ (.string ⟨d.toArray⟩)).setCell ⟨g, 2, none⟩ v) := by
  rw [set_three hrow]
  have hz : (w1.setRow g #[.bool l, .string ⟨d.toArray⟩, v]).heap.size = w1.heap.size := by simp
  have ho : ∀ b, b ≠ g → (w1.setRow g #[.bool l, .string ⟨d.toArray⟩, v]).heap[b]? = w1.heap[b]? := fun b hb => setRow_other _ _ _ _ (fun e => hb (by simpa using e))
  have hb2 : Below w.heap.size w1 (w1.setRow g #[.bool l, .string ⟨d.toArray⟩, v]) := ⟨rfl, rfl, rfl, by omega, fun b hb => ho b (by omega)⟩
  have := results_cell_row (P := Tryd.prog) hres tmps (w1.setRow g #[.bool l, .string ⟨d.toArray⟩, v]) g 30 #[.bool l, .string ⟨d.toArray⟩, v] (0, 0) _ hp (setRow_heap _ _ _ _ _ (0, 0) hrow) Tryd.underlying30 rfl Tryd.itemSize
  exact bodyPost_ret this rfl (h _ (hB.trans hb2) hz ho)

/-- The same where nothing was called: the result's block is the newest. -/
theorem rf_new {fn : Func} (hres : fn.results = #[.cell 2 30]) (w : World) (tmps : Array Value) (l : Bool) (d : List UInt8) (v : Value) (R : Ending → World → Prop) (hp : tmps.getD 2 undef = .pointer (some ⟨w.heap.size, 0, none⟩))
    (h : ∀ Z, Below w.heap.size w Z → R (.returned (iv l d v)) Z) :
    bodyPost Tryd.prog fn R .ret { tmps := tmps, defers := [] } (w.alloc (.cells #[.bool l, .string ⟨d.toArray⟩, v] 30)) := by
  have := results_cell_row (P := Tryd.prog) hres tmps (w.alloc (.cells #[.bool l, .string ⟨d.toArray⟩, v] 30)) w.heap.size 30 #[.bool l, .string ⟨d.toArray⟩, v] (0, 0) _ hp (heap_alloc_new w _) Tryd.underlying30 rfl Tryd.itemSize
  exact bodyPost_ret this rfl (h _ ((Below.refl _ w).alloc (Nat.le_refl _) _))

set_option maxRecDepth 100000 in
set_option maxHeartbeats 4000000 in
theorem rf_number (n : Nat) (w : World) (hn : n < 18446744073709551616) : Calls Tryd.prog 9 #[.int .u64 n] w fun e w' => e = .returned (iv false (M.ben n) (.slice none 0 0)) ∧ Below w.heap.size w w' := by
  have HB := Lib.hid (fun W => rnbe_any n W hn)
  rw [show M.tr (M.f32 n) = M.ben n from rfl] at HB
  obtain ⟨w0, hw0⟩ : ∃ w0, w.alloc (.cells #[.bool false, .string ⟨#[]⟩, .slice none 0 0] 30) = w0 := ⟨_, rfl⟩
  have hb0 : Below w.heap.size w w0 := by rw [← hw0]; (repeat (first | exact Below.refl _ _ | refine Below.drew ?_ | refine Below.alloc ?_ (by first | omega | (simp; omega) | simp) _ | refine Below.setCell ?_ (by first | omega | (simp; omega) | simp) _))
  have hz0 : w0.heap.size = w.heap.size + 1 := by rw [← hw0]; simp
  have hrow0 : w0.heap[w.heap.size]? = some (.cells #[.bool false, .string ⟨#[]⟩, .slice none 0 0] 30 (0, 0)) := by rw [← hw0]; exact heap_alloc_new w _
  have HW := Lib.hid hw0
  clear hw0
  go_enter Tryd.func9, Tryd.ntmps9
  go_wp2_with fail
  rw [HW.out]
  refine (HB.out _).mono ?_
  rintro e w1 ⟨rfl, hb1⟩
  have hb : Below w.heap.size w w1 := hb0.trans (hb1.mono (by omega))
  have hrow : w1.heap[w.heap.size]? = _ := (hb1.block _ (by omega)).trans hrow0
  clear hb1 hb0 hrow0 HW hz0
  obtain ⟨⟨_, z0⟩, ⟨_, z1⟩, ⟨_, z2⟩, y0, y1, y2⟩ := cells_three hrow
  go_wp2_with fail
  refine rf_post rfl w w1 _ false _ _ w.heap.size (Nat.le_refl _) hb _ _ _ hrow _ ?_ (fun Z hZ _ _ => ⟨rfl, hZ⟩)
  rfl

set_option maxRecDepth 100000 in
set_option maxHeartbeats 4000000 in
theorem rf_word (N : Nat) (w : World) (_hN : M.In N) : Calls Tryd.prog 11 #[wn N] w fun e w' => e = .returned (iv false (M.tr (M.f32 N)) (.slice none 0 0)) ∧ Below w.heap.size w w' := by
  have HB := Lib.hid (fun W => rbytes_core N W)
  obtain ⟨wx, hwx⟩ : ∃ wx, w.alloc (.cells #[.int .u64 (M.pt 0 N), .int .u64 (M.pt 1 N), .int .u64 (M.pt 2 N), .int .u64 (M.pt 3 N)] 24) = wx := ⟨_, rfl⟩
  have hbx : Below w.heap.size w wx := by rw [← hwx]; (repeat (first | exact Below.refl _ _ | refine Below.drew ?_ | refine Below.alloc ?_ (by first | omega | (simp; omega) | simp) _ | refine Below.setCell ?_ (by first | omega | (simp; omega) | simp) _))
  have hzx : wx.heap.size = w.heap.size + 1 := by rw [← hwx]; simp
  have a0 : wx.cell? ⟨w.heap.size, 0, none⟩ = some (.int .u64 (M.pt 0 N)) := by rw [← hwx]; simp [go_sem]
  have a1 : wx.cell? ⟨w.heap.size, 1, none⟩ = some (.int .u64 (M.pt 1 N)) := by rw [← hwx]; simp [go_sem]
  have a2 : wx.cell? ⟨w.heap.size, 2, none⟩ = some (.int .u64 (M.pt 2 N)) := by rw [← hwx]; simp [go_sem]
  have a3 : wx.cell? ⟨w.heap.size, 3, none⟩ = some (.int .u64 (M.pt 3 N)) := by rw [← hwx]; simp [go_sem]
  obtain ⟨w0, hw0⟩ : ∃ w0, wx.alloc (.cells #[.bool false, .string ⟨#[]⟩, .slice none 0 0] 30) = w0 := ⟨_, rfl⟩
  have hb0 : Below wx.heap.size wx w0 := by rw [← hw0]; (repeat (first | exact Below.refl _ _ | refine Below.drew ?_ | refine Below.alloc ?_ (by first | omega | (simp; omega) | simp) _ | refine Below.setCell ?_ (by first | omega | (simp; omega) | simp) _))
  have hz0 : w0.heap.size = wx.heap.size + 1 := by rw [← hw0]; simp
  have hrow0 : w0.heap[wx.heap.size]? = some (.cells #[.bool false, .string ⟨#[]⟩, .slice none 0 0] 30 (0, 0)) := by rw [← hw0]; exact heap_alloc_new wx _
  have c0 := (hb0.cell (p := ⟨w.heap.size, 0, none⟩) (by simp; omega)).trans a0
  have c1 := (hb0.cell (p := ⟨w.heap.size, 1, none⟩) (by simp; omega)).trans a1
  have c2 := (hb0.cell (p := ⟨w.heap.size, 2, none⟩) (by simp; omega)).trans a2
  have c3 := (hb0.cell (p := ⟨w.heap.size, 3, none⟩) (by simp; omega)).trans a3
  have HX := Lib.hid hwx
  have HW := Lib.hid hw0
  clear hw0 hwx
  go_enter Tryd.func11, Tryd.ntmps11
  go_wp2_with fail
  rw [HX.out, HW.out]
  refine (HB.out _).mono ?_
  rintro e w1 ⟨rfl, hb1⟩
  have hb : Below w.heap.size w w1 := hbx.trans ((hb0.trans (hb1.mono (by omega))).mono (by omega))
  have hrow : w1.heap[wx.heap.size]? = _ := (hb1.block _ (by omega)).trans hrow0
  rw [hzx] at hrow
  clear hb1 hb0 hrow0 HW HX hz0 hzx hbx c0 c1 c2 c3 a0 a1 a2 a3
  obtain ⟨⟨_, z0⟩, ⟨_, z1⟩, ⟨_, z2⟩, y0, y1, y2⟩ := cells_three hrow
  go_wp2_with fail
  refine rf_post rfl w w1 _ false _ _ (w.heap.size + 1) (by omega) hb _ _ _ hrow _ ?_ (fun Z hZ _ _ => ⟨rfl, hZ⟩)
  rfl

set_option maxRecDepth 100000 in
set_option maxHeartbeats 4000000 in
theorem rf_text (s : List UInt8) (w : World) : Calls Tryd.prog 13 #[.string ⟨s.toArray⟩] w fun e w' => e = .returned (iv false s (.slice none 0 0)) ∧ Below w.heap.size w w' := by
  go_enter Tryd.func13, Tryd.ntmps13
  go_wp2_with fail
  refine rf_new rfl w _ false s _ _ ?_ (fun Z hZ => ⟨rfl, hZ⟩)
  rfl

set_option maxRecDepth 100000 in
set_option maxHeartbeats 4000000 in
theorem rf_list (ls : List (List UInt8)) (a : Option Addr) (cap : Nat) (w : World) (hL : Lay w w.heap.size (ls.map M.textI) (.slice a ls.length cap)) :
    Calls Tryd.prog 19 #[.slice a ls.length cap] w fun e w' => (e = .returned (iv true [] (.slice a ls.length cap)) ∧ Lay w' w'.heap.size (ls.map M.textI) (.slice a ls.length cap)) ∧ Below w.heap.size w w' := by
  go_enter Tryd.func19, Tryd.ntmps19
  go_wp2_with fail
  refine rf_new rfl w _ true [] _ _ ?_ (fun Z hZ => ⟨⟨rfl, (hL.from_ hZ).mono hZ.size⟩, hZ⟩)
  rfl

set_option maxRecDepth 100000 in
set_option maxHeartbeats 4000000 in
theorem rf_bool (v : Bool) (w : World) : Calls Tryd.prog 15 #[.bool v] w fun e w' => e = .returned (iv false (if v then [1] else []) (.slice none 0 0)) ∧ Below w.heap.size w w' := by
  cases v with
  | false =>
    go_enter Tryd.func15, Tryd.ntmps15
    go_wp2_with fail
    refine rf_new rfl w _ false [] _ _ ?_ (fun Z hZ => ⟨rfl, hZ⟩)
    rfl
  | true =>
    obtain ⟨w0, hw0⟩ : ∃ w0, w.alloc (.cells #[.bool false, .string ⟨#[]⟩, .slice none 0 0] 30) = w0 := ⟨_, rfl⟩
    have hb0 : Below w.heap.size w w0 := by rw [← hw0]; (repeat (first | exact Below.refl _ _ | refine Below.drew ?_ | refine Below.alloc ?_ (by first | omega | (simp; omega) | simp) _ | refine Below.setCell ?_ (by first | omega | (simp; omega) | simp) _))
    have hz0 : w0.heap.size = w.heap.size + 1 := by rw [← hw0]; simp
    have hrow0 : w0.heap[w.heap.size]? = some (.cells #[.bool false, .string ⟨#[]⟩, .slice none 0 0] 30 (0, 0)) := by rw [← hw0]; exact heap_alloc_new w _
    obtain ⟨⟨_, z0⟩, ⟨_, z1⟩, ⟨_, z2⟩, y0, y1, y2⟩ := cells_three hrow0
    have HW := Lib.hid hw0
    clear hw0
    have h1 : (w0.alloc (.cells #[.int .u8 1] 5)).cell? ⟨w.heap.size + 1, 0, none⟩ = some (.int .u8 1) := by rw [← hz0]; simp [go_sem]
    have hconv := conv_at [1] (w0.alloc (.cells #[.int .u8 1] 5)) (w.heap.size + 1) (fun j hj => by match j, hj with | 0, _ => exact h1)
    have hb1 : Below w.heap.size w (w0.alloc (.cells #[.int .u8 1] 5)) := hb0.alloc (by omega) _
    have hrow : (w0.alloc (.cells #[.int .u8 1] 5)).heap[w.heap.size]? = _ := (Below.heap_alloc w0 _ w.heap.size (by omega)).trans hrow0
    obtain ⟨w1, hw1⟩ : ∃ w1, w0.alloc (.cells #[.int .u8 1] 5) = w1 := ⟨_, rfl⟩
    rw [hw1] at hconv hb1 hrow
    have HW1 := Lib.hid hw1
    clear hw1 z0 z1 z2 y0 y1 y2 hrow0 h1
    obtain ⟨⟨_, z0⟩, ⟨_, z1⟩, ⟨_, z2⟩, y0, y1, y2⟩ := cells_three hrow
    have hconv' : (convert 59 9 (.slice (some ⟨w.heap.size + 1, 0, none⟩) 1 1)).run Tryd.prog ((w.alloc (.cells #[.bool false, .string ⟨#[]⟩, .slice none 0 0] 30)).alloc (.cells #[.int .u8 1] 5)) = .ok (.string ⟨#[1]⟩) w1 := by rw [HW.out, HW1.out]; exact hconv
    clear hconv
    go_enter Tryd.func15, Tryd.ntmps15
    go_wp2_with fail
    refine rf_post rfl w w1 _ false [1] _ w.heap.size (Nat.le_refl _) hb1 _ _ _ hrow _ ?_ (fun Z hZ _ _ => ⟨rfl, hZ⟩)
    rfl
end Go.Proofs.YtebkmlbpngpmdaaDoor
