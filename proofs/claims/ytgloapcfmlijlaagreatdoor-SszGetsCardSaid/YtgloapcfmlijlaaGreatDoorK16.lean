/- Values of a call's own: they hang on the blocks that the call has made, and on nothing else. The landed package ssz: get, of numbers. The landed package ssz: get, of bits. Plain: rows that are got, item by item; and what get must do. A row of values of a call's own, filled one by one. The landed package ssz: getRow. The landed package ssz: oneOf. -/
import Derived.Test.YtgloapcfmlijlaaGreatDoorVQg
namespace Go.Proofs.YtgloapcfmlijlaaGreatDoor
open Go Go.RowKit Go.Lib

def Agree (lo n : Nat) (w W : World) : Prop := ∀ (p : Addr) (v : Value), lo ≤ p.block → p.block < n → w.cell? p = some v → W.cell? p = some v
theorem Agree.below {lo n : Nat} {w W : World} (hb : Below n w W) : Agree lo n w W := fun _ _ _ h e => (hb.cell h).trans e
theorem Agree.blocks {lo n : Nat} {w W : World} (h : ∀ b, lo ≤ b → b < n → W.heap[b]? = w.heap[b]?) : Agree lo n w W := fun _ _ h1 h2 e => (World.cell?_of_block (h _ h1 h2)).trans e
theorem Agree.trans {lo n : Nat} {w W X : World} (h : Agree lo n w W) (h2 : Agree lo n W X) : Agree lo n w X := fun p v h1 hb e => h2 p v h1 hb (h p v h1 hb e)
theorem Agree.grown {lo n : Nat} {w W : World} {row : Option Nat} (hg : w.grownBy W row) (hr : ∀ j, row = some j → j < lo ∨ ∃ o : Obj, w.heap[j]? = some o ∧ o.isCells = false) : Agree lo n w W := by
  intro p v h1 _ e
  have hlt := World.block_lt_of_cell? _ _ e
  by_cases hj : row = some p.block
  · rcases hr _ hj with h | ⟨o, ho, hc⟩
    · omega
    · exfalso
      unfold World.cell? at e
      rw [ho] at e
      cases o <;> simp [Obj.isCells] at hc e
  · exact (World.cell?_of_block (hg.block p.block hlt (fun h => hj h.symm))).trans e
/-- Where the value stands in those blocks. -/
def VlS (lo n : Nat) (N : Nat) (bs : List Bool) (us : List M.Va) (ab : Option Addr) (cb : Nat) (au : Option Addr) (cu : Nat) (w : World) : Prop := ∀ W, Agree lo n w W → Vl W n N bs us ab cb au cu
theorem VlS.agree {lo n N : Nat} {bs : List Bool} {us : List M.Va} {ab : Option Addr} {cb : Nat} {au : Option Addr} {cu : Nat} {w W : World} (h : VlS lo n N bs us ab cb au cu w) (hA : Agree lo n w W) : VlS lo n N bs us ab cb au cu W := fun X hX => h X (hA.trans hX)
theorem VlS.mono {lo n lo' n' N : Nat} {bs : List Bool} {us : List M.Va} {ab : Option Addr} {cb : Nat} {au : Option Addr} {cu : Nat} {w : World} (h : VlS lo n N bs us ab cb au cu w) (h1 : lo' ≤ lo) (h2 : n ≤ n') : VlS lo' n' N bs us ab cb au cu w :=
  fun W hA => (h W fun q v hb hn => hA q v (by omega) (by omega)).mono h2
theorem VlS.vl {lo n N : Nat} {bs : List Bool} {us : List M.Va} {ab : Option Addr} {cb : Nat} {au : Option Addr} {cu : Nat} {w : World} (h : VlS lo n N bs us ab cb au cu w) : Vl w n N bs us ab cb au cu := h w fun _ _ _ _ e => e
/-- A number. -/
theorem VlS.num (lo n N : Nat) (hN : M.In N) (w : World) : VlS lo n N [] [] none 0 none 0 w := fun _ _ => ⟨hN, .nil_ (by decide), .nil_ (by decide)⟩
theorem LayB.agree {w W : World} {n g m cap : Nat} {bs : List Bool} (h : LayB w n bs (.slice (some ⟨g, 0, none⟩) m cap)) (hg : ∀ (j : Nat) (v : Value), w.cell? ⟨g, j, none⟩ = some v → W.cell? ⟨g, j, none⟩ = some v) : LayB W n bs (.slice (some ⟨g, 0, none⟩) m cap) := by
  cases h with
  | nil_ hm => exact .nil_ hm
  | row hb hc hm c => exact .row hb hc hm fun i x e => hg _ _ (c i x e)
/-- Bits. -/
theorem VlS.bits {lo n g cap : Nat} {bs : List Bool} {w : World} (h : LayB w n bs (.slice (some ⟨g, 0, none⟩) bs.length cap)) (hlo : lo ≤ g) (hg : g < n) : VlS lo n 0 bs [] (some ⟨g, 0, none⟩) cap none 0 w :=
  fun W hA => ⟨by unfold M.In; omega, h.agree (fun j v => hA ⟨g, j, none⟩ v hlo hg), .nil_ (by decide)⟩
/-- Bits, there may be none. -/
theorem VlS.bits2 {lo n g m cap : Nat} {bs : List Bool} {w : World} (h : LayB w n bs (.slice (some ⟨g, 0, none⟩) m cap)) (hm : bs.length = m) (hlo : lo ≤ g) : VlS lo n 0 bs [] (some ⟨g, 0, none⟩) cap none 0 w := by
  subst hm
  rcases id h with ⟨hm⟩ | ⟨hb, hc, hm, c⟩
  · exact fun W hA => ⟨by unfold M.In; omega, .nil_ hm, .nil_ (by decide)⟩
  · exact .bits h hlo hb
/-- Items, in a row of the call's own. -/
theorem VlS.row {lo n g cap : Nat} {us : List M.Va} {w : World} (hlo : lo ≤ g) (hg : g < n) (hcap : us.length ≤ cap) (hm : cap ≤ maxLen)
    (h : ∀ (i : Nat) (N : Nat) (bs : List Bool) (vs : List M.Va) (q : Int), us[i]? = some (.mk N bs vs q) → ∃ ab cb au cu, Cells7 w g (i * 7) N (.slice ab bs.length cb) (.slice au vs.length cu) q ∧ VlS lo n N bs vs ab cb au cu w) :
    VlS lo n 0 [] us none 0 (some ⟨g, 0, none⟩) cap w := by
  intro W hA
  have hgW := fun (j : Nat) (v : Value) => hA ⟨g, j, none⟩ v hlo hg
  refine ⟨by unfold M.In; omega, .nil_ (by decide), ?_⟩
  have key : ∀ (i : Nat) (N : Nat) (bs : List Bool) (vs : List M.Va) (q : Int), us[i]? = some (.mk N bs vs q) →
      Cells7 W g (0 + i * 7) N ((w.cell? ⟨g, i * 7 + 4, none⟩).getD undef) ((w.cell? ⟨g, i * 7 + 5, none⟩).getD undef) q ∧ M.In N ∧ LayB W n bs ((w.cell? ⟨g, i * 7 + 4, none⟩).getD undef) ∧ LayV W n vs ((w.cell? ⟨g, i * 7 + 5, none⟩).getD undef) := by
    intro i N bs vs q hi
    obtain ⟨ab, cb, au, cu, hC, hV⟩ := h i N bs vs q hi
    have hV' := hV W hA
    rw [hC.c4, hC.c5, Nat.zero_add]
    refine ⟨?_, hV'.hN, hV'.b, hV'.v⟩
    exact ⟨hgW _ _ hC.c0, hgW _ _ hC.c1, hgW _ _ hC.c2, hgW _ _ hC.c3, hgW _ _ hC.c4, hgW _ _ hC.c5, hgW _ _ hC.c6⟩
  exact LayV.row (fun i => (w.cell? ⟨g, i * 7 + 4, none⟩).getD undef) (fun i => (w.cell? ⟨g, i * 7 + 5, none⟩).getD undef) hg hcap hm
    (fun i N bs vs q hi => (key i N bs vs q hi).2.1) (fun i N bs vs q hi => (key i N bs vs q hi).1) (fun i N bs vs q hi => (key i N bs vs q hi).2.2.1) (fun i N bs vs q hi => (key i N bs vs q hi).2.2.2)

/-- What get must do. -/
def GotC (w : World) (g : M.Va × Nat) (e : Ending) (w' : World) : Prop :=
  (g.2 = 0 → ∃ (N : Nat) (bs : List Bool) (us : List M.Va) (p : Int) (ab : Option Addr) (cb : Nat) (au : Option Addr) (cu : Nat), g.1 = .mk N bs us p ∧ e = .returned (vv N (.slice ab bs.length cb) (.slice au us.length cu) p) ∧ VlS w.heap.size w'.heap.size N bs us ab cb au cu w') ∧
  (g.2 ≠ 0 → e = pan g.2) ∧ Below w.heap.size w w'
end Go.Proofs.YtgloapcfmlijlaaGreatDoor
namespace Go.Proofs.YtgloapcfmlijlaaGreatDoor
open Go Go.RowKit Go.Lib
attribute [local go_sem] Oper.semAt_some

/-- A value, stored into the result's cells, and handed back. -/
theorem val_post {fn : Func} {sl : Tmp} (hres : fn.results = #[.cell sl 33]) (w w1 : World) (tmps : Array Value) (N : Nat) (x y : Value) (p : Int) (g : Nat) (hg : w.heap.size ≤ g) (hB : Below w.heap.size w w1) (o0 o1 o2 o3 o4 o5 o6 : Value)
    (hrow : w1.heap[g]? = some (.cells #[o0, o1, o2, o3, o4, o5, o6] 33 (0, 0))) (R : Ending → World → Prop) (hp : tmps.getD sl undef = .pointer (some ⟨g, 0, none⟩))
    (h : ∀ Z, Below w.heap.size w Z → Z.heap.size = w1.heap.size → (∀ b, b ≠ g → Z.heap[b]? = w1.heap[b]?) → R (.returned (vv N x y p)) Z) :
    bodyPost Tryz.prog fn R .ret { tmps := tmps, defers := [] } (((((((w1.setCell ⟨g, 0, none⟩ (.int .u64 (M.pt 0 N))).setCell ⟨g, 1, none⟩ (.int .u64 (M.pt 1 N))).setCell ⟨g, 2, none⟩ (.int .u64 (M.pt 2 N))).setCell ⟨g, 3, none⟩ (.int .u64 (M.pt 3 N))).setCell ⟨g, 4, none⟩ x).setCell ⟨g, 5, none⟩ y).setCell ⟨g, 6, none⟩ (.int .i64 p)) := by
  rw [set_w7 hrow]
  have := results_cell_row (P := Tryz.prog) hres tmps (w1.setRow g #[.int .u64 (M.pt 0 N), .int .u64 (M.pt 1 N), .int .u64 (M.pt 2 N), .int .u64 (M.pt 3 N), x, y, .int .i64 p]) g 33 #[.int .u64 (M.pt 0 N), .int .u64 (M.pt 1 N), .int .u64 (M.pt 2 N), .int .u64 (M.pt 3 N), x, y, .int .i64 p] (0, 0) _ hp (setRow_heap _ _ _ _ _ (0, 0) hrow) Tryz.underlying33 rfl Tryz.valSize
  exact bodyPost_ret this rfl (h _ (below_setRow hB hg _) (by simp) (fun b hb => setRow_other _ _ _ _ hb))

/-- The same, of no number. -/
theorem val_post0 {fn : Func} {sl : Tmp} (hres : fn.results = #[.cell sl 33]) (w w1 : World) (tmps : Array Value) (x y : Value) (p : Int) (g : Nat) (hg : w.heap.size ≤ g) (hB : Below w.heap.size w w1) (o0 o1 o2 o3 o4 o5 o6 : Value)
    (hrow : w1.heap[g]? = some (.cells #[o0, o1, o2, o3, o4, o5, o6] 33 (0, 0))) (R : Ending → World → Prop) (hp : tmps.getD sl undef = .pointer (some ⟨g, 0, none⟩))
    (h : ∀ Z, Below w.heap.size w Z → Z.heap.size = w1.heap.size → (∀ b, b ≠ g → Z.heap[b]? = w1.heap[b]?) → R (.returned (vv 0 x y p)) Z) :
    bodyPost Tryz.prog fn R .ret { tmps := tmps, defers := [] } (((((((w1.setCell ⟨g, 0, none⟩ (.int .u64 0)).setCell ⟨g, 1, none⟩ (.int .u64 0)).setCell ⟨g, 2, none⟩ (.int .u64 0)).setCell ⟨g, 3, none⟩ (.int .u64 0)).setCell ⟨g, 4, none⟩ x).setCell ⟨g, 5, none⟩ y).setCell ⟨g, 6, none⟩ (.int .i64 p)) := by
  have := val_post hres w w1 tmps 0 x y p g hg hB o0 o1 o2 o3 o4 o5 o6 hrow R hp h
  rw [show M.pt 0 0 = 0 by decide +kernel, show M.pt 1 0 = 0 by decide +kernel, show M.pt 2 0 = 0 by decide +kernel, show M.pt 3 0 = 0 by decide +kernel] at this
  exact this
set_option maxRecDepth 100000 in
set_option maxHeartbeats 4000000 in
theorem get_1 (n : Int) (v : Value) (f : Bool) (wd : Nat) (s : List UInt8) (w : World) (_hs : s.length ≤ 8000) (hw : wd ≤ 32) (hf : f = true) :
    Calls Tryz.prog 32 #[pv 1 n v f wd, .string ⟨s.toArray⟩] w (GotC w (if s.length ≠ wd then (M.noV, 2) else (.mk (M.led s) [] [] 0, 0))) := by
  subst hf
  obtain ⟨w0, hw0⟩ : ∃ w0, (w.alloc (.cells #[.int .i64 1, .int .i64 n, v, .bool true, .int .i64 (wd : Nat)] 56)).alloc (.cells #[.int .u64 0, .int .u64 0, .int .u64 0, .int .u64 0, .slice none 0 0, .slice none 0 0, .int .i64 0] 33) = w0 := ⟨_, rfl⟩
  have hb0 : Below w.heap.size w w0 := by rw [← hw0]; exact ((Below.refl _ _).alloc (Nat.le_refl _) _).alloc (by simp) _
  have hP0 : PBox w0 w.heap.size 1 n v true wd := by
    rw [← hw0]
    exact (Below.heap_alloc _ _ _ (by simp)).trans (World.alloc_heap_new _ _)
  have hr0 : w0.heap[w.heap.size + 1]? = some (.cells #[.int .u64 0, .int .u64 0, .int .u64 0, .int .u64 0, .slice none 0 0, .slice none 0 0, .int .i64 0] 33 (0, 0)) := by
    rw [← hw0]
    have := World.alloc_heap_new (w.alloc (.cells #[.int .i64 1, .int .i64 n, v, .bool true, .int .i64 (wd : Nat)] 56)) (.cells #[.int .u64 0, .int .u64 0, .int .u64 0, .int .u64 0, .slice none 0 0, .slice none 0 0, .int .i64 0] 33)
    rwa [World.size_alloc] at this
  have hz0 : w.heap.size + 1 < w0.heap.size := by rw [← hw0]; simp
  have HW := Lib.hid hw0
  clear hw0
  have p0 : w0.cell? ⟨w.heap.size, 0, none⟩ = some (.int .i64 1) := by simp [World.cell?, show w0.heap[w.heap.size]? = _ from hP0]
  by_cases hl : s.length = wd
  · rw [if_neg (by simpa using hl)]
    have HN := Lib.hid (fun W => number_any s W (by omega))
    have hI : M.In (M.led s) := M.in_pow.2 (Nat.lt_of_lt_of_le (M.led_lt s) (Nat.pow_le_pow_right (by omega) (by omega)))
    generalize M.led s = q at *
    have HT := Lib.hid (need_any true 2)
    have hli : (s.length : Int) = wd := by omega
    have HIn := Lib.hid hI
    clear hI
    go_enter Tryz.func32, Tryz.ntmps32
    go_wp2_with fail
    rw [HW.out]
    refine (HT.out _).mono ?_
    rintro e X ⟨rfl, hX⟩
    obtain rfl : w0 = X := hX.symm
    go_wp2_with fail
    refine (HN.out _).mono ?_
    rintro e w1 ⟨rfl, hb1⟩
    have hr1 := (hb1.block _ hz0).trans hr0
    have hbw1 := hb0.trans (hb1.mono hb0.size)
    have hz1 := hb1.size
    obtain ⟨⟨_, i0⟩, ⟨_, i1⟩, ⟨_, i2⟩, ⟨_, i3⟩, ⟨_, i4⟩, ⟨_, i5⟩, ⟨_, i6⟩, f0, f1, f2, f3, f4, f5, f6⟩ := cells_w7 hr1
    clear p0
    go_wp2_with fail
    exact val_post rfl w w1 _ q (.slice none 0 0) (.slice none 0 0) 0 _ (by omega) hbw1 _ _ _ _ _ _ _ hr1 _ rfl fun Z hZ hz _ => ⟨fun _ => ⟨q, [], [], 0, none, 0, none, 0, rfl, rfl, VlS.num _ _ q HIn.out Z⟩, fun h => absurd rfl h, hZ⟩
  · rw [if_pos hl]
    have HT := Lib.hid (need_any false 2)
    have hlb : ((s.length : Int) == (wd : Int)) = false := by rw [beq_eq_false_iff_ne]; omega
    go_enter Tryz.func32, Tryz.ntmps32
    go_wp2_with fail
    rw [HW.out]
    refine (HT.out _).mono ?_
    rintro e X ⟨rfl, hX⟩
    obtain rfl : w0 = X := hX.symm
    exact ⟨rfl, fun h => absurd h (by simp), fun _ => rfl, hb0⟩
set_option maxRecDepth 100000 in
set_option maxHeartbeats 4000000 in
theorem get_2 (n : Int) (v : Value) (f : Bool) (wd : Nat) (s : List UInt8) (w : World) (_hs : s.length ≤ 8000) (hw : wd ≤ 32) (hf : f = true) :
    Calls Tryz.prog 32 #[pv 2 n v f wd, .string ⟨s.toArray⟩] w (GotC w (if s.length ≠ wd then (M.noV, 2) else if 1 < M.led s then (M.noV, 2) else (.mk (M.led s) [] [] 0, 0))) := by
  subst hf
  obtain ⟨w0, hw0⟩ : ∃ w0, (w.alloc (.cells #[.int .i64 2, .int .i64 n, v, .bool true, .int .i64 (wd : Nat)] 56)).alloc (.cells #[.int .u64 0, .int .u64 0, .int .u64 0, .int .u64 0, .slice none 0 0, .slice none 0 0, .int .i64 0] 33) = w0 := ⟨_, rfl⟩
  have hb0 : Below w.heap.size w w0 := by rw [← hw0]; exact ((Below.refl _ _).alloc (Nat.le_refl _) _).alloc (by simp) _
  have hP0 : PBox w0 w.heap.size 2 n v true wd := by
    rw [← hw0]
    exact (Below.heap_alloc _ _ _ (by simp)).trans (World.alloc_heap_new _ _)
  have hr0 : w0.heap[w.heap.size + 1]? = some (.cells #[.int .u64 0, .int .u64 0, .int .u64 0, .int .u64 0, .slice none 0 0, .slice none 0 0, .int .i64 0] 33 (0, 0)) := by
    rw [← hw0]
    have := World.alloc_heap_new (w.alloc (.cells #[.int .i64 2, .int .i64 n, v, .bool true, .int .i64 (wd : Nat)] 56)) (.cells #[.int .u64 0, .int .u64 0, .int .u64 0, .int .u64 0, .slice none 0 0, .slice none 0 0, .int .i64 0] 33)
    rwa [World.size_alloc] at this
  have hz0 : w.heap.size + 1 < w0.heap.size := by rw [← hw0]; simp
  have HW := Lib.hid hw0
  clear hw0
  have p0 : w0.cell? ⟨w.heap.size, 0, none⟩ = some (.int .i64 2) := by simp [World.cell?, show w0.heap[w.heap.size]? = _ from hP0]
  by_cases hl : s.length = wd
  · rw [if_neg (by simpa using hl)]
    have HN := Lib.hid (fun W => yes_any s W (by omega))
    have hI : M.In (M.led s) := M.in_pow.2 (Nat.lt_of_lt_of_le (M.led_lt s) (Nat.pow_le_pow_right (by omega) (by omega)))
    generalize M.led s = q at *
    have HT := Lib.hid (need_any true 2)
    have hli : (s.length : Int) = wd := by omega
    obtain ⟨T, hTT⟩ : ∃ T, (if 1 < q then (M.noV, 2) else (M.Va.mk q [] [] 0, 0)) = T := ⟨_, rfl⟩
    rw [hTT]
    have HTT := Lib.hid hTT
    clear hTT
    have HIn := Lib.hid hI
    clear hI
    go_enter Tryz.func32, Tryz.ntmps32
    go_wp2_with fail
    rw [HW.out]
    refine (HT.out _).mono ?_
    rintro e X ⟨rfl, hX⟩
    obtain rfl : w0 = X := hX.symm
    go_wp2_with fail
    refine (HN.out _).mono ?_
    rintro e w1 ⟨hok, hno, hb1⟩
    by_cases hq2 : q < 2
    case neg =>
      rw [hno (by simpa using hq2)]
      obtain rfl : T = (M.noV, 2) := by rw [← HTT.out, if_pos (by omega)]
      exact ⟨rfl, fun h => absurd h (by simp), fun _ => rfl, hb0.trans (hb1.mono hb0.size)⟩
    rw [hok (by simpa using hq2)]
    obtain rfl : T = (M.Va.mk q [] [] 0, 0) := by rw [← HTT.out, if_neg (by omega)]
    clear hok hno
    have hr1 := (hb1.block _ hz0).trans hr0
    have hbw1 := hb0.trans (hb1.mono hb0.size)
    have hz1 := hb1.size
    obtain ⟨⟨_, i0⟩, ⟨_, i1⟩, ⟨_, i2⟩, ⟨_, i3⟩, ⟨_, i4⟩, ⟨_, i5⟩, ⟨_, i6⟩, f0, f1, f2, f3, f4, f5, f6⟩ := cells_w7 hr1
    clear p0
    go_wp2_with fail
    exact val_post rfl w w1 _ q (.slice none 0 0) (.slice none 0 0) 0 _ (by omega) hbw1 _ _ _ _ _ _ _ hr1 _ rfl fun Z hZ hz _ => ⟨fun _ => ⟨q, [], [], 0, none, 0, none, 0, rfl, rfl, VlS.num _ _ q HIn.out Z⟩, fun h => absurd rfl h, hZ⟩
  · rw [if_pos hl]
    have HT := Lib.hid (need_any false 2)
    have hlb : ((s.length : Int) == (wd : Int)) = false := by rw [beq_eq_false_iff_ne]; omega
    go_enter Tryz.func32, Tryz.ntmps32
    go_wp2_with fail
    rw [HW.out]
    refine (HT.out _).mono ?_
    rintro e X ⟨rfl, hX⟩
    obtain rfl : w0 = X := hX.symm
    exact ⟨rfl, fun h => absurd h (by simp), fun _ => rfl, hb0⟩
end Go.Proofs.YtgloapcfmlijlaaGreatDoor
namespace Go.Proofs.YtgloapcfmlijlaaGreatDoor
open Go Go.RowKit Go.Lib
attribute [local go_sem] Oper.semAt_some
/-- Bits that lie in a callee's blocks, as the result's. -/
theorem bits_keep {lo N1 n g cap m : Nat} {bs : List Bool} {w1 Z : World} {r : Nat} (h : LayB w1 N1 bs (.slice (some ⟨g, 0, none⟩) m cap)) (hm : bs.length = m) (hlo : lo ≤ g) (hr : r < g) (hn : N1 ≤ n) (hk : ∀ b, b ≠ r → Z.heap[b]? = w1.heap[b]?) : VlS lo n 0 bs [] (some ⟨g, 0, none⟩) cap none 0 Z :=
  ((VlS.bits2 h hm (Nat.le_refl g)).agree (.blocks fun b hb _ => hk b (by omega))).mono hlo hn

set_option maxRecDepth 100000 in
set_option maxHeartbeats 4000000 in
theorem get_5 (n : Nat) (v : Value) (f : Bool) (wd : Nat) (s : List UInt8) (w : World) (hs : s.length ≤ 8000) (hn : n ≤ 8 * wd) (hf : f = true) :
    Calls Tryz.prog 32 #[pv 5 (n : Nat) v f wd, .string ⟨s.toArray⟩] w (GotC w (if s.length ≠ wd then (M.noV, 2) else if M.spareB s (n : Nat) = true then (M.noV, 8) else (.mk 0 (M.unpackB s n) [] 0, 0))) := by
  subst hf
  obtain ⟨w0, hw0⟩ : ∃ w0, (w.alloc (.cells #[.int .i64 5, .int .i64 (n : Nat), v, .bool true, .int .i64 (wd : Nat)] 56)).alloc (.cells #[.int .u64 0, .int .u64 0, .int .u64 0, .int .u64 0, .slice none 0 0, .slice none 0 0, .int .i64 0] 33) = w0 := ⟨_, rfl⟩
  have hb0 : Below w.heap.size w w0 := by rw [← hw0]; exact ((Below.refl _ _).alloc (Nat.le_refl _) _).alloc (by simp) _
  have hP0 : PBox w0 w.heap.size 5 (n : Nat) v true wd := by
    rw [← hw0]
    exact (Below.heap_alloc _ _ _ (by simp)).trans (World.alloc_heap_new _ _)
  have hr0 : w0.heap[w.heap.size + 1]? = some (.cells #[.int .u64 0, .int .u64 0, .int .u64 0, .int .u64 0, .slice none 0 0, .slice none 0 0, .int .i64 0] 33 (0, 0)) := by
    rw [← hw0]
    have := World.alloc_heap_new (w.alloc (.cells #[.int .i64 5, .int .i64 (n : Nat), v, .bool true, .int .i64 (wd : Nat)] 56)) (.cells #[.int .u64 0, .int .u64 0, .int .u64 0, .int .u64 0, .slice none 0 0, .slice none 0 0, .int .i64 0] 33)
    rwa [World.size_alloc] at this
  have hz0 : w.heap.size + 1 < w0.heap.size := by rw [← hw0]; simp
  have HZ : Hid (w0.heap.size = w.heap.size + 2) := by show _ = _; rw [← hw0]; simp
  have HW := Lib.hid hw0
  clear hw0
  have p0 : w0.cell? ⟨w.heap.size, 0, none⟩ = some (.int .i64 5) := by simp [World.cell?, show w0.heap[w.heap.size]? = _ from hP0]
  have p1 : w0.cell? ⟨w.heap.size, 1, none⟩ = some (.int .i64 (n : Nat)) := by simp [World.cell?, show w0.heap[w.heap.size]? = _ from hP0]
  by_cases hl : s.length = wd
  · rw [if_neg (by simpa using hl)]
    have HB := Lib.hid (fun W => alone_any s n W hs (by omega))
    obtain ⟨N, hN⟩ : ∃ N, 8 * s.length = N := ⟨_, rfl⟩
    rw [hN] at HB
    have hul := M.unpack_length s n
    generalize M.spareB s (n : Nat) = sp at *
    generalize M.unpackB s n = bs at *
    have HUL := Lib.hid hul
    have HT := Lib.hid (need_any true 2)
    have hli : (s.length : Int) = wd := by omega
    obtain ⟨T, hTT⟩ : ∃ T, (if sp = true then (M.noV, 8) else (M.Va.mk 0 bs [] 0, 0)) = T := ⟨_, rfl⟩
    rw [hTT]
    have HTT := Lib.hid hTT
    clear hul hN hn hTT
    go_enter Tryz.func32, Tryz.ntmps32
    go_wp2_with fail
    rw [HW.out]
    refine (HT.out _).mono ?_
    rintro e X ⟨rfl, hX⟩
    obtain rfl : w0 = X := hX.symm
    go_wp2_with fail
    refine (HB.out _).mono ?_
    rintro e w1 ⟨hok, hno, hb1⟩
    cases sp with
    | true =>
      rw [hno rfl]
      obtain rfl : T = (M.noV, 8) := HTT.out.symm
      exact ⟨rfl, fun h => absurd h (by simp), fun _ => rfl, hb0.trans (hb1.mono hb0.size)⟩
    | false =>
      obtain ⟨rfl, hB⟩ := hok rfl
      obtain rfl : T = (M.Va.mk 0 bs [] 0, 0) := HTT.out.symm
      have HBB := Lib.hid hB
      clear hok hno hB
      have hr1 := (hb1.block _ hz0).trans hr0
      have hbw1 := hb0.trans (hb1.mono hb0.size)
      have hz1 := hb1.size
      obtain ⟨⟨_, i0⟩, ⟨_, i1⟩, ⟨_, i2⟩, ⟨_, i3⟩, ⟨_, i4⟩, ⟨_, i5⟩, ⟨_, i6⟩, f0, f1, f2, f3, f4, f5, f6⟩ := cells_w7 hr1
      clear p0 p1
      go_wp2_with fail
      refine val_post0 rfl w w1 _ _ (.slice none 0 0) 0 _ (by omega) hbw1 _ _ _ _ _ _ _ hr1 _ rfl fun Z hZ hz hk => ⟨fun _ => ⟨0, bs, [], 0, some ⟨w0.heap.size, 0, none⟩, N, none, 0, rfl, ?_, ?_⟩, fun h => absurd rfl h, hZ⟩
      · rw [HUL.out]; rfl
      · exact bits_keep HBB.out HUL.out hb0.size (by omega) (by omega) hk
  · rw [if_pos hl]
    have HT := Lib.hid (need_any false 2)
    have hlb : ((s.length : Int) == (wd : Int)) = false := by rw [beq_eq_false_iff_ne]; omega
    go_enter Tryz.func32, Tryz.ntmps32
    go_wp2_with fail
    rw [HW.out]
    refine (HT.out _).mono ?_
    rintro e X ⟨rfl, hX⟩
    obtain rfl : w0 = X := hX.symm
    exact ⟨rfl, fun h => absurd h (by simp), fun _ => rfl, hb0⟩
set_option maxRecDepth 100000 in
set_option maxHeartbeats 4000000 in
theorem get_6 (n : Nat) (v : Value) (f : Bool) (wd : Nat) (s : List UInt8) (w : World) (hs : s.length ≤ 8000) (hn : n ≤ 1000000) (hf : f = false) :
    Calls Tryz.prog 32 #[pv 6 (n : Nat) v f wd, .string ⟨s.toArray⟩] w (GotC w (if (toE s n).2 ≠ 0 then (M.noV, (toE s n).2) else (.mk 0 (toE s n).1 [] 0, 0))) := by
  subst hf
  obtain ⟨w0, hw0⟩ : ∃ w0, (w.alloc (.cells #[.int .i64 6, .int .i64 (n : Nat), v, .bool false, .int .i64 (wd : Nat)] 56)).alloc (.cells #[.int .u64 0, .int .u64 0, .int .u64 0, .int .u64 0, .slice none 0 0, .slice none 0 0, .int .i64 0] 33) = w0 := ⟨_, rfl⟩
  have hb0 : Below w.heap.size w w0 := by rw [← hw0]; exact ((Below.refl _ _).alloc (Nat.le_refl _) _).alloc (by simp) _
  have hP0 : PBox w0 w.heap.size 6 (n : Nat) v false wd := by
    rw [← hw0]
    exact (Below.heap_alloc _ _ _ (by simp)).trans (World.alloc_heap_new _ _)
  have hr0 : w0.heap[w.heap.size + 1]? = some (.cells #[.int .u64 0, .int .u64 0, .int .u64 0, .int .u64 0, .slice none 0 0, .slice none 0 0, .int .i64 0] 33 (0, 0)) := by
    rw [← hw0]
    have := World.alloc_heap_new (w.alloc (.cells #[.int .i64 6, .int .i64 (n : Nat), v, .bool false, .int .i64 (wd : Nat)] 56)) (.cells #[.int .u64 0, .int .u64 0, .int .u64 0, .int .u64 0, .slice none 0 0, .slice none 0 0, .int .i64 0] 33)
    rwa [World.size_alloc] at this
  have hz0 : w.heap.size + 1 < w0.heap.size := by rw [← hw0]; simp
  have HZ : Hid (w0.heap.size = w.heap.size + 2) := by show _ = _; rw [← hw0]; simp
  have HW := Lib.hid hw0
  clear hw0
  have p0 : w0.cell? ⟨w.heap.size, 0, none⟩ = some (.int .i64 6) := by simp [World.cell?, show w0.heap[w.heap.size]? = _ from hP0]
  have p1 : w0.cell? ⟨w.heap.size, 1, none⟩ = some (.int .i64 (n : Nat)) := by simp [World.cell?, show w0.heap[w.heap.size]? = _ from hP0]
  have p3 : w0.cell? ⟨w.heap.size, 3, none⟩ = some (.bool false) := by simp [World.cell?, show w0.heap[w.heap.size]? = _ from hP0]
  have HB := Lib.hid (fun W => toEnd_any s n W hs hn)
  obtain ⟨N, hN⟩ : ∃ N, 8 * s.length = N := ⟨_, rfl⟩
  rw [hN] at HB
  generalize toE s n = r at *
  obtain ⟨bs, q⟩ := r
  dsimp only at HB ⊢
  obtain ⟨m, hm⟩ : ∃ m, bs.length = m := ⟨_, rfl⟩
  rw [hm] at HB
  have HUL := Lib.hid hm
  have HT := Lib.hid (need_any true 2)
  obtain ⟨T, hTT⟩ : ∃ T, (if q ≠ 0 then (M.noV, q) else (M.Va.mk 0 bs [] 0, 0)) = T := ⟨_, rfl⟩
  rw [hTT]
  have HTT := Lib.hid hTT
  clear hm hN hn hTT
  go_enter Tryz.func32, Tryz.ntmps32
  go_wp2_with fail
  rw [HW.out]
  refine (HT.out _).mono ?_
  rintro e X ⟨rfl, hX⟩
  obtain rfl : w0 = X := hX.symm
  go_wp2_with fail
  refine (HB.out _).mono ?_
  rintro e w1 ⟨hok, hno, hb1⟩
  rcases Nat.eq_zero_or_pos q with hq | hq
  · subst hq
    obtain ⟨rfl, hB⟩ := hok rfl
    obtain rfl : T = (M.Va.mk 0 bs [] 0, 0) := HTT.out.symm
    have HBB := Lib.hid hB
    clear hok hno hB
    have hr1 := (hb1.block _ hz0).trans hr0
    have hbw1 := hb0.trans (hb1.mono hb0.size)
    have hz1 := hb1.size
    obtain ⟨⟨_, i0⟩, ⟨_, i1⟩, ⟨_, i2⟩, ⟨_, i3⟩, ⟨_, i4⟩, ⟨_, i5⟩, ⟨_, i6⟩, f0, f1, f2, f3, f4, f5, f6⟩ := cells_w7 hr1
    clear p0 p1 p3
    go_wp2_with fail
    refine val_post0 rfl w w1 _ _ (.slice none 0 0) 0 _ (by omega) hbw1 _ _ _ _ _ _ _ hr1 _ rfl fun Z hZ hz hk => ⟨fun _ => ⟨0, bs, [], 0, some ⟨w0.heap.size, 0, none⟩, N, none, 0, rfl, ?_, ?_⟩, fun h => absurd rfl h, hZ⟩
    · rw [HUL.out]; rfl
    · exact bits_keep HBB.out HUL.out hb0.size (by omega) (by omega) hk
  · rw [hno (by omega)]
    obtain rfl : T = (M.noV, q) := by rw [← HTT.out, if_pos (by omega)]
    exact ⟨rfl, fun h => absurd h (by simp; omega), fun _ => rfl, hb0.trans (hb1.mono hb0.size)⟩
end Go.Proofs.YtgloapcfmlijlaaGreatDoor
namespace Go.Proofs.YtgloapcfmlijlaaGreatDoor
open Go

namespace M
theorem readAll_ok : ∀ (fs : List Rdr) (bs : List (List UInt8)) (vs : List Va), fs.length = bs.length → vs.length = bs.length → (∀ (i : Nat) (f : Rdr) (b : List UInt8) (v : Va), fs[i]? = some f → bs[i]? = some b → vs[i]? = some v → f b = (v, 0)) → readAll fs bs = (vs, 0)
  | [], [], [], _, _, _ => rfl
  | f :: fs, b :: bs, v :: vs, h1, h2, h => by
    have h0 := h 0 f b v rfl rfl rfl
    have ih := readAll_ok fs bs vs (by simpa using h1) (by simpa using h2) fun i f b v a1 a2 a3 => h (i + 1) f b v (by simpa using a1) (by simpa using a2) (by simpa using a3)
    rw [readAll, h0, ih, if_neg (by simp), if_neg (by simp)]
  | [], _ :: _, _, h1, _, _ => by simp at h1
  | _ :: _, [], _, h1, _, _ => by simp at h1
  | [], [], _ :: _, _, h2, _ => by simp at h2
  | _ :: _, _ :: _, [], _, h2, _ => by simp at h2
theorem readAll_err : ∀ (fs : List Rdr) (bs : List (List UInt8)) (d : Nat) (f : Rdr) (b : List UInt8), fs[d]? = some f → bs[d]? = some b → (∀ (i : Nat) (f : Rdr) (b : List UInt8), i < d → fs[i]? = some f → bs[i]? = some b → (f b).2 = 0) → (f b).2 ≠ 0 → readAll fs bs = ([], (f b).2)
  | f0 :: fs, b0 :: bs, 0, f, b, h1, h2, _, hq => by
    obtain rfl : f0 = f := by simpa using h1
    obtain rfl : b0 = b := by simpa using h2
    rw [readAll, if_pos hq]
  | f0 :: fs, b0 :: bs, d + 1, f, b, h1, h2, h, hq => by
    have h0 := h 0 f0 b0 (by omega) rfl rfl
    have ih := readAll_err fs bs d f b (by simpa using h1) (by simpa using h2) (fun i f b hi a1 a2 => h (i + 1) f b (by omega) (by simpa using a1) (by simpa using a2)) hq
    rw [readAll, if_neg (by simp [h0]), ih, if_pos hq]
  | [], _, _, _, _, h1, _, _, _ => by simp at h1
  | _ :: _, [], _, _, _, _, h2, _, _ => by simp at h2
/-- Parts of a row are no longer than it. -/
theorem parts_le (s : List UInt8) : ∀ (ks : List (Option Nat)) (p : Nat) (os : List Nat), ∀ b ∈ partsT s p ks os, b.length ≤ s.length
  | [], p, os, b, h => by simp [partsT] at h
  | some n :: ks, p, os, b, h => by
    rw [partsT, List.mem_cons] at h
    rcases h with rfl | h
    · simp; omega
    · exact parts_le s ks _ _ b h
  | none :: ks, p, [], b, h => by
    rw [partsT, List.mem_cons] at h
    rcases h with rfl | h
    · simp
    · exact parts_le s ks _ _ b h
  | none :: ks, p, o :: os, b, h => by
    rw [partsT, List.mem_cons] at h
    rcases h with rfl | h
    · simp; omega
    · exact parts_le s ks _ _ b h
theorem split_some {ks : List (Option Nat)} {s : List UInt8} {bs : List (List UInt8)} (h : splitB ks s = some bs) : bs.length = ks.length ∧ ∀ b ∈ bs, b.length ≤ s.length := by
  unfold splitB at h
  split at h
  · cases h
    exact ⟨parts_length _ _ _ _, parts_le _ _ _ _⟩
  · cases h

def kdsT (ts : List Ty) (items : Nat) : List (Option Nat) := (List.range items).map fun i => kdT (tyAt ts i)
def rdsT (ts : List Ty) (items : Nat) : List Rdr := (List.range items).map fun i => getV (tyAt ts i)
/-- A row of so many items. -/
def rowG (ts : List Ty) (items : Nat) (s : List UInt8) : Va × Nat := match splitB (kdsT ts items) s with
  | none => (noV, 2)
  | some bs => if (readAll (rdsT ts items) bs).2 ≠ 0 then (noV, (readAll (rdsT ts items) bs).2) else (.mk 0 [] (readAll (rdsT ts items) bs).1 0, 0)
theorem tyAt_in {ts : List Ty} (h : 1 ≤ ts.length) (i : Nat) : tyAt ts i ∈ ts := by
  unfold tyAt
  rw [List.getElem?_eq_getElem (by omega)]
  exact List.getElem_mem _
theorem tyAt_at {ts : List Ty} {i : Nat} {t : Ty} (h : ts[i]? = some t) : tyAt ts i = t := by
  have hi := (List.getElem?_eq_some_iff.1 h).1
  unfold tyAt
  rw [show min i (ts.length - 1) = i by omega, h]
  rfl
theorem tyAt_one (t : Ty) (i : Nat) : tyAt [t] i = t := by
  unfold tyAt
  rw [show min i ([t].length - 1) = 0 by simp]
  rfl
theorem map_at {α : Type} (f : Ty → α) (ts : List Ty) : (List.range ts.length).map (fun i => f (tyAt ts i)) = ts.map f := by
  apply List.ext_getElem?
  intro i
  rw [List.getElem?_map, List.getElem?_map]
  by_cases hi : i < ts.length
  · rw [List.getElem?_range hi, List.getElem?_eq_getElem hi]
    simp only [Option.map_some]
    rw [tyAt_at (List.getElem?_eq_getElem hi)]
  · rw [List.getElem?_eq_none (by simp; omega), List.getElem?_eq_none (by omega)]
    rfl
theorem map_one {α : Type} (f : Ty → α) (t : Ty) (items : Nat) : (List.range items).map (fun i => f (tyAt [t] i)) = List.replicate items (f t) := by
  apply List.ext_getElem?
  intro i
  rw [List.getElem?_map, List.getElem?_replicate]
  by_cases hi : i < items
  · rw [List.getElem?_range hi, if_pos hi]
    simp only [Option.map_some]
    rw [tyAt_one]
  · rw [List.getElem?_eq_none (by simp; omega), if_neg hi]
    rfl
theorem row_7 {ts : List Ty} (h : ∀ t ∈ ts, chkT 0 t = 0) (n : Int) (s : List UInt8) : rowOf 7 n (ts.map kindOf) (getFs ts) s = rowG ts ts.length s := by
  have e1 : kdsT ts ts.length = ts.map kindOf := by
    unfold kdsT
    rw [map_at kdT ts]
    exact List.map_congr_left fun t ht => kdT_chk (h t ht)
  have e2 : rdsT ts ts.length = getFs ts := by
    unfold rdsT
    rw [map_at getV ts, getFs_map]
  unfold rowOf rowG
  rw [e1, e2, if_neg (by simp [manyT]), if_pos rfl, if_pos rfl]
  rfl
theorem row_one {t : Ty} (h : chkT 0 t = 0) {k : Int} (hk : k ≠ 7) (n : Int) (s : List UInt8) : rowOf k n ([t].map kindOf) (getFs [t]) s = if (manyT k n [kindOf t] s).2 ≠ 0 then (noV, (manyT k n [kindOf t] s).2) else rowG [t] (manyT k n [kindOf t] s).1 s := by
  have e1 : ∀ m, kdsT [t] m = List.replicate m (kindOf t) := fun m => by
    unfold kdsT
    rw [map_one kdT t, kdT_chk h]
  have e2 : ∀ m, rdsT [t] m = List.replicate m (getV t) := fun m => by
    unfold rdsT
    exact map_one getV t m
  unfold rowOf rowG
  rw [e1, e2, if_neg hk, if_neg hk]
  rfl
end M

/-- What get must do, for types of such depth. -/
def GetC (z : Nat) : Prop := ∀ (k n : Int) (ts : List M.Ty) (a : Option Addr) (cap : Nat) (s : List UInt8) (w : World), SizeOf.sizeOf ts ≤ z → LayT w w.heap.size ts (.slice a ts.length cap) → (∃ d, M.chkT d (.mk k n ts) = 0) → M.cntT (.mk k n ts) ≤ 1000 → s.length ≤ 8000 →
  Calls Tryz.prog 32 #[pv k n (.slice a ts.length cap) (M.fixedT (.mk k n ts)) (wdT (.mk k n ts)), .string ⟨s.toArray⟩] w (GotC w (M.getV (.mk k n ts) s))
end Go.Proofs.YtgloapcfmlijlaaGreatDoor
namespace Go.Proofs.YtgloapcfmlijlaaGreatDoor
open Go Go.RowKit Go.Lib
attribute [local go_sem] Oper.semAt_some

theorem Cells7.block {w W : World} {b o N : Nat} {u v : Value} {p : Int} (h : Cells7 w b o N u v p) (hb : W.heap[b]? = w.heap[b]?) : Cells7 W b o N u v p :=
  ⟨(World.cell?_of_block hb).trans h.c0, (World.cell?_of_block hb).trans h.c1, (World.cell?_of_block hb).trans h.c2, (World.cell?_of_block hb).trans h.c3, (World.cell?_of_block hb).trans h.c4, (World.cell?_of_block hb).trans h.c5, (World.cell?_of_block hb).trans h.c6⟩
/-- A value at a place of the row. -/
def ValAt (W : World) (g i lo : Nat) (x : M.Va) : Prop := ∃ (N : Nat) (bs : List Bool) (us : List M.Va) (p : Int) (ab : Option Addr) (cb : Nat) (au : Option Addr) (cu : Nat), x = .mk N bs us p ∧ Cells7 W g (i * 7) N (.slice ab bs.length cb) (.slice au us.length cu) p ∧ VlS lo W.heap.size N bs us ab cb au cu W
/-- Between two rounds: the row's block, and what stands in it. -/
structure GRow (A W : World) (g items d : Nat) (f : Nat → M.Va) : Prop where
  gr : Gr A W (fun b => b = g)
  row : ∃ cs : Array Value, cs.size = items * 7 ∧ W.heap[g]? = some (.cells cs 33 (0, 0))
  done : ∀ i, i < d → ValAt W g i (A.heap.size + 3) (f i)
theorem GRow.grow {A W W' : World} {g items d : Nat} {f : Nat → M.Va} {row : Option Nat} (h : GRow A W g items d f) (hg : W.grownBy W' row) (hgA : g < A.heap.size) (hr : ∀ j, row = some j → A.heap.size ≤ j ∧ (j < A.heap.size + 3 ∨ ∃ o : Obj, W.heap[j]? = some o ∧ o.isCells = false)) : GRow A W' g items d f := by
  have hsz := h.gr.size
  have hgb : W'.heap[g]? = W.heap[g]? := hg.block g (by omega) (fun e => by have := (hr _ e.symm).1; omega)
  obtain ⟨cs, h1, h2⟩ := h.row
  refine ⟨h.gr.grow hg fun j e => .inl (hr j e).1, ⟨cs, h1, hgb.trans h2⟩, fun i hi => ?_⟩
  obtain ⟨N, bs, us, p, ab, cb, au, cu, e1, e2, e3⟩ := h.done i hi
  exact ⟨N, bs, us, p, ab, cb, au, cu, e1, e2.block hgb, (e3.agree (.grown hg fun j e => (hr j e).2)).mono (Nat.le_refl _) hg.size⟩
theorem GRow.below {A W W' : World} {g items d : Nat} {f : Nat → M.Va} (h : GRow A W g items d f) (hb : Below W.heap.size W W') (hgA : g < A.heap.size) : GRow A W' g items d f :=
  h.grow (row := none) ⟨hb.os, hb.tape, hb.output, hb.size, fun i hi _ => hb.block i hi⟩ hgA (fun _ e => by cases e)
theorem set_seven_at {w : World} {g a0 a1 a2 a3 a4 a5 a6 : Nat} {cur : Array Value} {t : TypeId} (h : w.heap[g]? = some (.cells cur t (0, 0))) (x0 x1 x2 x3 x4 x5 x6 : Value) :
    ((((((w.setCell ⟨g, a0, none⟩ x0).setCell ⟨g, a1, none⟩ x1).setCell ⟨g, a2, none⟩ x2).setCell ⟨g, a3, none⟩ x3).setCell ⟨g, a4, none⟩ x4).setCell ⟨g, a5, none⟩ x5).setCell ⟨g, a6, none⟩ x6 =
      w.setRow g (((((((cur.setIfInBounds a0 x0).setIfInBounds a1 x1).setIfInBounds a2 x2).setIfInBounds a3 x3).setIfInBounds a4 x4).setIfInBounds a5 x5).setIfInBounds a6 x6) := by
  have e0 := setCell_eq_setRow w g a0 cur t (0, 0) x0 h
  have h0 := setRow_heap w g cur (cur.setIfInBounds a0 x0) t (0, 0) h
  have e1 := setCell_eq_setRow _ g a1 _ t (0, 0) x1 h0
  have h1 := setRow_heap _ g _ ((cur.setIfInBounds a0 x0).setIfInBounds a1 x1) t (0, 0) h0
  have e2 := setCell_eq_setRow _ g a2 _ t (0, 0) x2 h1
  have h2 := setRow_heap _ g _ (((cur.setIfInBounds a0 x0).setIfInBounds a1 x1).setIfInBounds a2 x2) t (0, 0) h1
  have e3 := setCell_eq_setRow _ g a3 _ t (0, 0) x3 h2
  have h3 := setRow_heap _ g _ ((((cur.setIfInBounds a0 x0).setIfInBounds a1 x1).setIfInBounds a2 x2).setIfInBounds a3 x3) t (0, 0) h2
  have e4 := setCell_eq_setRow _ g a4 _ t (0, 0) x4 h3
  have h4 := setRow_heap _ g _ (((((cur.setIfInBounds a0 x0).setIfInBounds a1 x1).setIfInBounds a2 x2).setIfInBounds a3 x3).setIfInBounds a4 x4) t (0, 0) h3
  have e5 := setCell_eq_setRow _ g a5 _ t (0, 0) x5 h4
  have h5 := setRow_heap _ g _ ((((((cur.setIfInBounds a0 x0).setIfInBounds a1 x1).setIfInBounds a2 x2).setIfInBounds a3 x3).setIfInBounds a4 x4).setIfInBounds a5 x5) t (0, 0) h4
  have e6 := setCell_eq_setRow _ g a6 _ t (0, 0) x6 h5
  rw [e0, e1, e2, e3, e4, e5, e6, setRow_setRow, setRow_setRow, setRow_setRow, setRow_setRow, setRow_setRow, setRow_setRow]
theorem KO_setRow {W : World} {g : Nat} {cs : Array Value} {t : TypeId} {fr : Nat × Nat} (h : W.heap[g]? = some (.cells cs t fr)) (n : Array Value) : KeepsOthers W (W.setRow g n) :=
  ⟨by simp, fun c o hc ho => by
    have hne : c ≠ g := fun e => by subst e; rw [h] at hc; cases hc; cases ho
    exact (setRow_other _ _ _ _ hne).trans hc⟩
/-- The next value is stored. -/
theorem GRow.store {A W : World} {g items d N : Nat} {f : Nat → M.Va} {bs : List Bool} {us : List M.Va} {p : Int} {ab au : Option Addr} {cb cu lo : Nat} (h : GRow A W g items d f) (hgA : g < A.heap.size) (hd : d < items) (hf : f d = .mk N bs us p) (hlo : A.heap.size + 3 ≤ lo) (hV : VlS lo W.heap.size N bs us ab cb au cu W)
    (cs : Array Value) (hcs : cs.size = items * 7) (hrow : W.heap[g]? = some (.cells cs 33 (0, 0))) :
    GRow A (W.setRow g (((((((cs.setIfInBounds (d * 7) (.int .u64 (M.pt 0 N))).setIfInBounds (d * 7 + 1) (.int .u64 (M.pt 1 N))).setIfInBounds (d * 7 + 2) (.int .u64 (M.pt 2 N))).setIfInBounds (d * 7 + 3) (.int .u64 (M.pt 3 N))).setIfInBounds (d * 7 + 4) (.slice ab bs.length cb)).setIfInBounds (d * 7 + 5) (.slice au us.length cu)).setIfInBounds (d * 7 + 6) (.int .i64 p))) g items (d + 1) f := by
  have hb : ∀ b, b ≠ g → (W.setRow g (((((((cs.setIfInBounds (d * 7) (.int .u64 (M.pt 0 N))).setIfInBounds (d * 7 + 1) (.int .u64 (M.pt 1 N))).setIfInBounds (d * 7 + 2) (.int .u64 (M.pt 2 N))).setIfInBounds (d * 7 + 3) (.int .u64 (M.pt 3 N))).setIfInBounds (d * 7 + 4) (.slice ab bs.length cb)).setIfInBounds (d * 7 + 5) (.slice au us.length cu)).setIfInBounds (d * 7 + 6) (.int .i64 p))).heap[b]? = W.heap[b]? := fun b hb => setRow_other _ _ _ _ hb
  have hnew := setRow_heap W g cs (((((((cs.setIfInBounds (d * 7) (.int .u64 (M.pt 0 N))).setIfInBounds (d * 7 + 1) (.int .u64 (M.pt 1 N))).setIfInBounds (d * 7 + 2) (.int .u64 (M.pt 2 N))).setIfInBounds (d * 7 + 3) (.int .u64 (M.pt 3 N))).setIfInBounds (d * 7 + 4) (.slice ab bs.length cb)).setIfInBounds (d * 7 + 5) (.slice au us.length cu)).setIfInBounds (d * 7 + 6) (.int .i64 p)) _ _ hrow
  have hz : (W.setRow g (((((((cs.setIfInBounds (d * 7) (.int .u64 (M.pt 0 N))).setIfInBounds (d * 7 + 1) (.int .u64 (M.pt 1 N))).setIfInBounds (d * 7 + 2) (.int .u64 (M.pt 2 N))).setIfInBounds (d * 7 + 3) (.int .u64 (M.pt 3 N))).setIfInBounds (d * 7 + 4) (.slice ab bs.length cb)).setIfInBounds (d * 7 + 5) (.slice au us.length cu)).setIfInBounds (d * 7 + 6) (.int .i64 p))).heap.size = W.heap.size := by simp
  generalize hX : W.setRow g (((((((cs.setIfInBounds (d * 7) (.int .u64 (M.pt 0 N))).setIfInBounds (d * 7 + 1) (.int .u64 (M.pt 1 N))).setIfInBounds (d * 7 + 2) (.int .u64 (M.pt 2 N))).setIfInBounds (d * 7 + 3) (.int .u64 (M.pt 3 N))).setIfInBounds (d * 7 + 4) (.slice ab bs.length cb)).setIfInBounds (d * 7 + 5) (.slice au us.length cu)).setIfInBounds (d * 7 + 6) (.int .i64 p)) = X at *
  have hos : X.os = W.os ∧ X.tape = W.tape ∧ X.output = W.output := by rw [← hX]; exact ⟨rfl, rfl, rfl⟩
  refine ⟨⟨hos.1.trans h.gr.os, hos.2.1.trans h.gr.tape, hos.2.2.trans h.gr.output, by have := h.gr.size; omega, fun b h1 h2 => (hb b h2).trans (h.gr.block b h1 h2)⟩, ⟨_, by simp [hcs], hnew⟩, fun i hi => ?_⟩
  have hag : ∀ n, Agree (A.heap.size + 3) n W X := fun n => .blocks fun b h1 _ => hb b (by omega)
  by_cases e : i = d
  · subst e
    refine ⟨N, bs, us, p, ab, cb, au, cu, hf, ?_, ((hV.mono hlo (Nat.le_refl _)).agree (hag _)).mono (Nat.le_refl _) (by omega)⟩
    have hlt : ∀ k, k < 7 → i * 7 + k < cs.size := fun k hk => by omega
    have hl0 := hlt 0 (by omega)
    have hl1 := hlt 1 (by omega)
    have hl2 := hlt 2 (by omega)
    have hl3 := hlt 3 (by omega)
    have hl4 := hlt 4 (by omega)
    have hl5 := hlt 5 (by omega)
    have hl6 := hlt 6 (by omega)
    constructor <;> · unfold World.cell?; rw [hnew]; simp [Array.getElem?_setIfInBounds]; omega
  · obtain ⟨N', bs', us', p', ab', cb', au', cu', e1, e2, e3⟩ := h.done i (by omega)
    refine ⟨N', bs', us', p', ab', cb', au', cu', e1, ?_, (e3.agree (hag _)).mono (Nat.le_refl _) (by omega)⟩
    have hk : ∀ (k : Nat) (v : Value), k < 7 → W.cell? ⟨g, i * 7 + k, none⟩ = some v → X.cell? ⟨g, i * 7 + k, none⟩ = some v := fun k v hk hv => by
      unfold World.cell? at hv ⊢
      rw [hrow] at hv
      rw [hnew]
      simp only [Array.getElem?_setIfInBounds, Option.isSome_none, Bool.false_eq_true, if_false] at hv ⊢
      rw [if_neg (by omega), if_neg (by omega), if_neg (by omega), if_neg (by omega), if_neg (by omega), if_neg (by omega), if_neg (by omega)]
      exact hv
    exact ⟨hk 0 _ (by omega) e2.c0, hk 1 _ (by omega) e2.c1, hk 2 _ (by omega) e2.c2, hk 3 _ (by omega) e2.c3, hk 4 _ (by omega) e2.c4, hk 5 _ (by omega) e2.c5, hk 6 _ (by omega) e2.c6⟩
end Go.Proofs.YtgloapcfmlijlaaGreatDoor
namespace Go.Proofs.YtgloapcfmlijlaaGreatDoor
open Go Go.RowKit Go.Lib
attribute [local go_sem] Oper.semAt_some

theorem Tryz.ofVal : (Tryz.prog.info? 33).map (fun i => (i.zero, i.size, i.bytes)) = some (some (.agg #[.int .u64 0, .int .u64 0, .int .u64 0, .int .u64 0, .slice none 0 0, .slice none 0 0, .int .i64 0]), 7, 88) := by kernel_rfl
/-- Where a round gives up. -/
def GotX (A : World) (g : Nat) (fs : List M.Rdr) (bs : List (List UInt8)) (ch : List PanicEntry) (W : World) : Prop := ∃ q : Nat, ch = panC q ∧ q ≠ 0 ∧ M.readAll fs bs = ([], q) ∧ Gr A W (fun b => b = g)
/-- Between two rounds. -/
def GotI (A : World) (g items : Nat) (f : Nat → M.Va × Nat) (pre : List Ep) (W : World) : Prop := (∀ i, i < pre.length → (f i).2 = 0) ∧ GRow A W g items pre.length (fun i => (f i).1)
theorem GotI_own {A : World} {g items : Nat} {f : Nat → M.Va × Nat} (hg : g < A.heap.size) : OwnFrom A.heap.size (GotI A g items f) := fun _ _ _ _row h hgr hr =>
  ⟨h.1, h.2.grow hgr hg fun j e => ⟨(hr j e).1, .inr (hr j e).2⟩⟩

/-- 7 cells of a row that may be written. -/
structure CellsWA (w : World) (g a : Nat) : Prop where
  i0 : ∃ v, w.cell? ⟨g, a, none⟩ = some v
  i1 : ∃ v, w.cell? ⟨g, a + 1, none⟩ = some v
  i2 : ∃ v, w.cell? ⟨g, a + 2, none⟩ = some v
  i3 : ∃ v, w.cell? ⟨g, a + 3, none⟩ = some v
  i4 : ∃ v, w.cell? ⟨g, a + 4, none⟩ = some v
  i5 : ∃ v, w.cell? ⟨g, a + 5, none⟩ = some v
  i6 : ∃ v, w.cell? ⟨g, a + 6, none⟩ = some v
  f : ∀ j, w.frozen? ⟨g, j, none⟩ = false
theorem cells_wa {w : World} {g d items : Nat} {cs : Array Value} {t : TypeId} (h : w.heap[g]? = some (.cells cs t (0, 0))) (hc : cs.size = items * 7) (hd : d < items) : CellsWA w g (d * 7) := by
  have key : ∀ k, k < 7 → ∃ v, w.cell? ⟨g, d * 7 + k, none⟩ = some v := fun k hk => by
    refine ⟨cs[d * 7 + k]'(by omega), ?_⟩
    unfold World.cell?
    rw [h]
    simp
  exact ⟨key 0 (by omega), key 1 (by omega), key 2 (by omega), key 3 (by omega), key 4 (by omega), key 5 (by omega), key 6 (by omega), fun j => by simp [World.frozen?, h]⟩

set_option maxRecDepth 100000 in
set_option maxHeartbeats 4000000 in
theorem getRow_any (z : Nat) (ih : Hid (GetC z)) (k n : Int) (ts : List M.Ty) (a : Option Addr) (cap : Nat) (items : Nat) (s : List UInt8) (w : World) (hs : SizeOf.sizeOf ts ≤ z + 1) (hL : LayT w w.heap.size ts (.slice a ts.length cap)) (hct : M.cntTs ts ≤ 999) (hchk : ∃ d, M.chkTs d ts = 0) (hit : items ≤ 6000) (ht : items ≠ 0 → 1 ≤ ts.length) (hl : s.length ≤ 8000) :
    Calls Tryz.prog 69 #[tv k n (.slice a ts.length cap), .string ⟨s.toArray⟩, .int .i64 (items : Nat)] w (GotC w (M.rowG ts items s)) := by
  obtain ⟨i0, hi, hz0, hz1, hz2⟩ := info_parts Tryz.ofVal
  obtain ⟨m, hm⟩ : ∃ m, m = madeCells (Value.agg #[.int .u64 0, .int .u64 0, .int .u64 0, .int .u64 0, .slice none 0 0, .slice none 0 0, .int .i64 0]).cells (items * 7) := ⟨_, rfl⟩
  have hms : m.size = items * 7 := by rw [hm, size_madeCells]
  have hmk : ∀ W : World, (Instr.makeSlice 31 (.int .i64 (items : Int)) (.int .i64 (items : Int))).run Tryz.prog W = .ok (.slice (some ⟨W.heap.size, 0, none⟩) items items) (W.alloc (.cells m 33)) := fun W => by
    have h := run_make (P := Tryz.prog) W 31 33 i0 _ Tryz.underlying31 hi hz0 .i64 .i64 items items (by omega) (by omega) (by rw [hz2]; omega) (by omega)
    rw [hm]
    simpa [hz1] using h
  clear hm hi hz0 hz1 hz2
  obtain ⟨w0, hw0⟩ : ∃ w0, (w.alloc (.cells #[.int .i64 k, .int .i64 n, .slice a ts.length cap] 24)).alloc (.cells #[.int .u64 0, .int .u64 0, .int .u64 0, .int .u64 0, .slice none 0 0, .slice none 0 0, .int .i64 0] 33) = w0 := ⟨_, rfl⟩
  have hb0 : Below w.heap.size w w0 := by rw [← hw0]; (repeat (first | exact Below.refl _ _ | refine Below.drew ?_ | refine Below.alloc ?_ (by first | omega | (simp; omega) | simp) _ | refine Below.setCell ?_ (by first | omega | (simp; omega) | simp) _))
  have hz0 : w0.heap.size = w.heap.size + 2 := by rw [← hw0]; simp
  have hB0 : BoxT w0 w.heap.size k n (.slice a ts.length cap) := by rw [← hw0]; exact ⟨by simp [go_sem], by simp [go_sem], by simp [go_sem]⟩
  have hr0 : w0.heap[w.heap.size + 1]? = some (.cells #[.int .u64 0, .int .u64 0, .int .u64 0, .int .u64 0, .slice none 0 0, .slice none 0 0, .int .i64 0] 33 (0, 0)) := by
    rw [← hw0]
    have := World.alloc_heap_new (w.alloc (.cells #[.int .i64 k, .int .i64 n, .slice a ts.length cap] 24)) (.cells #[.int .u64 0, .int .u64 0, .int .u64 0, .int .u64 0, .slice none 0 0, .slice none 0 0, .int .i64 0] 33)
    rwa [World.size_alloc] at this
  have HCUT := Lib.hid (cut_any k n ts a cap items s w0 ((hL.from_ hb0).mono hb0.size) hct hit ht hl (M.kdsT ts items) (Lib.hid rfl))
  have t0 := hB0.c0
  have t1 := hB0.c1
  have t2 := hB0.c2
  rw [← hw0] at t0 t1 t2
  have HW := Lib.hid hw0
  have HZ0 := Lib.hid hz0
  clear hw0 hz0
  refine calls_of_wpE (n := 6) Tryz.func69 rfl ?_
  simp only [Tryz.ntmps69, List.size_toArray, List.length_cons, List.length_nil, Nat.reduceAdd, Nat.reduceSub, Array.replicate_succ, Array.replicate_zero, List.push_toArray, List.append_toArray, List.nil_append, List.cons_append]
  refine wpE_then (n := 6) ?_
  gi_wp2_with fail
  refine wpE_then (n := 6) ?_
  gi_wp2_with fail
  rw [HW.out]
  refine ⟨trivial, (callsIn_wide.2 HCUT.out).mono ?_⟩
  rintro e w1 ⟨hcu, hb1⟩
  rcases hcu with ⟨hno, rfl⟩ | ⟨bs, g1, hsp, rfl, hg1, hg1', hbk⟩
  · have HNO : M.rowG ts items s = (M.noV, 2) := by unfold M.rowG; rw [hno]
    rw [HNO]
    gi_wp2_with fail
    exact ⟨fun h => absurd h (by simp), fun _ => rfl, hb0.trans (hb1.mono hb0.size)⟩
  gi_wp2_with fail
  refine wpE_then (n := 6) ?_
  gi_wp2_with fail
  refine wpE_seq ?_
  refine wpE_then (n := 6) ?_
  have hB1 : BoxT w1 w.heap.size k n (.slice a ts.length cap) := boxT_below hB0 hb1 (by have := HZ0.out; omega)
  obtain ⟨A0, hA0⟩ : ∃ A0, ((w1.alloc (.cells #[.slice (some ⟨g1, 0, none⟩) items items] 39)).alloc (.cells m 33)).alloc (.cells #[.int .u64 0, .int .u64 0, .int .u64 0, .int .u64 0, .slice none 0 0, .slice (some ⟨w1.heap.size + 1, 0, none⟩) items items, .int .i64 0] 33) = A0 := ⟨_, rfl⟩
  rw [hA0]
  have hbA0 : Below w1.heap.size w1 A0 := by rw [← hA0]; (repeat (first | exact Below.refl _ _ | refine Below.drew ?_ | refine Below.alloc ?_ (by first | omega | (simp; omega) | simp) _ | refine Below.setCell ?_ (by first | omega | (simp; omega) | simp) _))
  have hBA0 : BoxT A0 w.heap.size k n (.slice a ts.length cap) := boxT_below hB1 hbA0 (by have := HZ0.out; have := hb1.size; omega)
  have x0 := hBA0.c0
  have x1 := hBA0.c1
  have x2 := hBA0.c2
  gi_wp2_with fail
  refine ⟨trivial, (callsIn_wide.2 (parts_any k n (.slice a ts.length cap) items _)).mono ?_⟩
  rintro e w' ⟨rfl, rfl⟩
  gi_wp2_with fail
  obtain ⟨A, hA⟩ : ∃ A, (A0.alloc (.cells #[.int .i64 k, .int .i64 n, .slice a ts.length cap] 24)).alloc (.cells #[.int .i64 (items : Nat)] 3) = A := ⟨_, rfl⟩
  rw [hA]
  have hz1 := hb1.size
  have HZ0' := HZ0.out
  have hzA0 : A0.heap.size = w1.heap.size + 3 := by rw [← hA0]; simp
  have hzA : A.heap.size = w1.heap.size + 5 := by rw [← hA]; simp [hzA0]
  have hbw1 : Below w.heap.size w w1 := hb0.trans (hb1.mono hb0.size)
  have hb1A : Below w1.heap.size w1 A := hbA0.trans (by rw [← hA]; exact ((Below.refl w1.heap.size A0).alloc (by omega) _).alloc (by simp; omega) _)
  have hbA : Below w.heap.size w A := hbw1.trans (hb1A.mono (by omega))
  have blk := allocs_at w1 ([.cells #[.slice (some ⟨g1, 0, none⟩) items items] 39, .cells m 33, .cells #[.int .u64 0, .int .u64 0, .int .u64 0, .int .u64 0, .slice none 0 0, .slice (some ⟨w1.heap.size + 1, 0, none⟩) items items, .int .i64 0] 33, .cells #[.int .i64 k, .int .i64 n, .slice a ts.length cap] 24, .cells #[.int .i64 (items : Nat)] 3] : List Obj)
  rw [show ([.cells #[.slice (some ⟨g1, 0, none⟩) items items] 39, .cells m 33, .cells #[.int .u64 0, .int .u64 0, .int .u64 0, .int .u64 0, .slice none 0 0, .slice (some ⟨w1.heap.size + 1, 0, none⟩) items items, .int .i64 0] 33, .cells #[.int .i64 k, .int .i64 n, .slice a ts.length cap] 24, .cells #[.int .i64 (items : Nat)] 3] : List Obj).foldl World.alloc w1 = A from by rw [← hA, ← hA0]; rfl] at blk
  have b0 := blk 0 _ rfl
  have b1 := blk 1 _ rfl
  have b2 := blk 2 _ rfl
  have b3 := blk 3 _ rfl
  have b4 := blk 4 _ rfl
  have hAo : Boxed A w1.heap.size 39 (.slice (some ⟨g1, 0, none⟩) items items) := b0
  have hAv : A.cell? ⟨w1.heap.size + 2, 5, none⟩ = some (.slice (some ⟨w1.heap.size + 1, 0, none⟩) items items) := by simp [World.cell?, b2]
  have hA7 : BoxT A (w1.heap.size + 3) k n (.slice a ts.length cap) := ⟨by simp [World.cell?, b3], by simp [World.cell?, b3], by simp [World.cell?, b3]⟩
  have hA8 : A.cell? ⟨w1.heap.size + 4, 0, none⟩ = some (.int .i64 (items : Nat)) := by simp [World.cell?, b4]
  have hAb : BkS A g1 items (fun i => bs.getD i []) := hbk.block (hb1A.block _ hg1')
  have hAr := (hb1A.block (w.heap.size + 1) (by omega)).trans ((hb1.block _ (by omega)).trans hr0)
  obtain ⟨F, hF⟩ : ∃ F : Nat → M.Va × Nat, F = fun i => M.getV (M.tyAt ts i) (bs.getD i []) := ⟨_, rfl⟩
  have hI0 : GotI A (w1.heap.size + 1) items F [] A := ⟨fun i h => by simp at h, Gr.refl _ _, ⟨m, hms, b1⟩, fun i h => by simp at h⟩
  have hIo : OwnFrom A.heap.size (GotI A (w1.heap.size + 1) items F) := GotI_own (by omega)
  have hLw := hL
  obtain ⟨hbl, hble⟩ := M.split_some hsp
  have hkl : (M.kdsT ts items).length = items := by unfold M.kdsT; simp
  rw [hkl] at hbl
  rw [show A0.heap.size + 1 = w1.heap.size + 4 by omega, hzA0]
  clear hzA0
  clear blk b0 b1 b3 b4 hA hA0 hmk hbA0 hBA0 x0 x1 x2 hB1 hbk hms
  obtain ⟨A1, hA1⟩ : ∃ A1 : Nat → Ep → Act, A1 = fun bx x => { tmps := List.toArray (tv k n (.slice a ts.length cap) :: Value.string ⟨s.toArray⟩ :: Value.int .i64 (items : Nat) :: Value.pointer (some ⟨w.heap.size, 0, none⟩) :: undef :: undef :: Value.pointer (some ⟨w.heap.size + 1, 0, none⟩) :: Value.pointer (some ⟨w1.heap.size, 0, none⟩) :: Value.pointer (some ⟨w1.heap.size + 1 + 1, 0, none⟩) :: Value.int .i64 (x.1.1 : Nat) :: Value.pointer (some ⟨bx, 0, none⟩) :: Value.agg #[.int .i64 k, .int .i64 n, .slice a ts.length cap] :: Value.string ⟨s.toArray⟩ :: Value.int .i64 (items : Nat) :: Value.slice (some ⟨g1, 0, none⟩) items items :: Value.int .i64 (items : Nat) :: Value.slice (some ⟨w1.heap.size + 1, 0, none⟩) items items :: Value.agg #[.int .u64 0, .int .u64 0, .int .u64 0, .int .u64 0, .slice none 0 0, .slice (some ⟨w1.heap.size + 1, 0, none⟩) items items, .int .i64 0] :: Value.agg #[.int .i64 k, .int .i64 n, .slice a ts.length cap] :: Value.int .i64 (items : Nat) :: Value.func (.func 187) #[] #[Value.pointer (some ⟨w1.heap.size + 4, 0, none⟩), Value.pointer (some ⟨w1.heap.size + 3, 0, none⟩)] :: Value.int .i64 (x.1.1 : Nat) :: pv x.1.2.k x.1.2.n x.2 (M.fixedT x.1.2) (wdT x.1.2) :: undef :: undef :: undef :: undef :: undef :: undef :: undef :: undef :: undef :: undef :: undef :: []), defers := [] } := ⟨_, rfl⟩
  refine wpE_block ?_
  refine range_lx (n := 6) (gf := 187) (lb := #[Value.pointer (some ⟨w1.heap.size + 4, 0, none⟩), Value.pointer (some ⟨w1.heap.size + 3, 0, none⟩)]) (by omega) rfl (enters_of Tryz.func187 (by kernel_rfl) rfl)
    (encs := encP) (fun x => by obtain ⟨⟨d, ⟨k', n', us'⟩⟩, v⟩ := x; rfl) (GotI A (w1.heap.size + 1) items F) hIo (fun pre X Y h hg => ⟨h.1, h.2.grow hg (by omega) fun j e => by cases e; exact ⟨by omega, .inl (by omega)⟩⟩) (GotX A (w1.heap.size + 1) (M.rdsT ts items) bs)
    (fun c => c = A.heap.size + 2) (fun c h => by omega) (AllP ts items) (fun pre x => GoodP w ts items pre x) ?seq hI0 (RGx A w ts items (GotI A (w1.heap.size + 1) items F) A1) (fun pre x a' => RGx_own hIo pre x a') ?assign ?body ?done ?pan
  case seq =>
    intro l J Jp X hzX hJI hJ hY h0
    have hJR : ∀ pre Y, J pre Y → Gr A Y (fun b => b = w1.heap.size + 1) := fun pre Y h => (hJI pre Y h).2.gr
    have HT : PartH w ts items (fun c => c = A.heap.size + 2) (A.heap.size + 2) l (w1.heap.size + 3) (w1.heap.size + 4) k n (.slice a ts.length cap) J Jp :=
      ⟨hJ, fun pre Y h => Gr.low hbA (hJR pre Y h) (by omega) (fun b e => by omega), fun pre Y h => hA7.ofGr (hJR pre Y h) (by omega) (by omega), fun pre Y h => ((hJR pre Y h).cell (p := ⟨w1.heap.size + 4, 0, none⟩) (by simp; omega) (by simp)).trans hA8, rfl, hY⟩
    exact parts_seq w ts items _ _ l _ _ k n a cap J Jp HT _ hL hct hit ht (by omega) X hzX h0
  case assign =>
    rintro l pre ⟨⟨d, ⟨k', n', us'⟩⟩, v⟩ X K hI hz hG hK'
    obtain ⟨ua, uc, hu, _, _⟩ := hG.2.2.2.slice
    replace hu : v = .slice ua us'.length uc := hu
    subst hu
    dsimp only [encP]
    have hAX : RGx A w ts items (GotI A (w1.heap.size + 1) items F) A1 pre ((d, .mk k' n' us'), .slice ua us'.length uc) (A1 X.heap.size ((d, .mk k' n' us'), .slice ua us'.length uc)) (X.alloc (.cells #[.int .i64 k', .int .i64 n', .slice ua us'.length uc, .bool (M.fixedT (.mk k' n' us')), .int .i64 (wdT (.mk k' n' us') : Nat)] 56)) :=
      ⟨X.heap.size, k', n', us', rfl, hG, rfl, hIo pre _ _ none hI (World.grownBy_alloc _ _ _) (fun r e => by cases e), World.alloc_heap_new X _, hz, by simp⟩
    rw [hA1] at hAX
    gi_wp2
    refine hK' _ _ ((KeepsOthers.alloc X _).from _) (fun c hc _ => Below.heap_alloc _ _ _ (by omega)) ?_
    rw [hA1]
    exact hAX
  case body =>
    rintro l pre ⟨⟨d, ⟨k', n', us'⟩⟩, v⟩ a' B ⟨bx, k2, n2, us2, hx, hG, rfl, hI, hBx, h4, h5⟩
    cases hx
    obtain ⟨ua, uc, hu, _, _⟩ := hG.2.2.2.slice
    replace hu : v = .slice ua us'.length uc := hu
    subst hu
    replace hBx : PBox B bx k' n' (.slice ua us'.length uc) (M.fixedT (.mk k' n' us')) (wdT (.mk k' n' us')) := hBx
    have hlt : d < items := hG.2.1
    have hty : M.Ty.mk k' n' us' = M.tyAt ts d := hG.2.2.1
    have hdl : d = pre.length := hG.1
    obtain ⟨hpz, hRW⟩ := hI
    rw [← hdl] at hpz hRW
    have hzB := hRW.gr.size
    obtain ⟨bd, hbd⟩ : ∃ bd, bs.getD d [] = bd := ⟨_, rfl⟩
    have hbd2 : bs[d]? = some bd := by rw [← hbd, List.getD_eq_getElem?_getD, List.getElem?_eq_getElem (by omega)]; rfl
    have hbdl : bd.length ≤ 8000 := Nat.le_trans (hble bd (List.mem_of_getElem? hbd2)) hl
    have hmem : M.Ty.mk k' n' us' ∈ ts := by rw [hty]; exact M.tyAt_in (ht (by omega)) d
    have hsx : SizeOf.sizeOf us' ≤ z := by have := List.sizeOf_lt_of_mem hmem; simp at this; omega
    have hchx : ∃ e, M.chkT e (.mk k' n' us') = 0 := by obtain ⟨e, he⟩ := hchk; exact ⟨e, M.chkTs_ok.1 he _ hmem⟩
    have hctx : M.cntT (.mk k' n' us') ≤ 1000 := Nat.le_trans (M.cntT_part hmem) (by omega)
    have hLt : LayT w w.heap.size us' (.slice ua us'.length uc) := hG.2.2.2
    have HC : Hid (∀ X, Below w.heap.size w X → Calls Tryz.prog 32 #[pv k' n' (.slice ua us'.length uc) (M.fixedT (.mk k' n' us')) (wdT (.mk k' n' us')), .string ⟨bd.toArray⟩] X (GotC X (M.getV (.mk k' n' us') bd))) := fun X h =>
      ih.out k' n' us' ua uc bd X hsx ((hLt.from_ h).mono h.size) hchx hctx hbdl
    have hFd : F d = M.getV (.mk k' n' us') bd := by rw [hF, hty]; show M.getV _ (bs.getD d []) = _; rw [hbd]
    have hRE : Hid ((M.getV (.mk k' n' us') bd).2 ≠ 0 → M.readAll (M.rdsT ts items) bs = ([], (M.getV (.mk k' n' us') bd).2)) := by
      intro hq
      refine M.readAll_err (M.rdsT ts items) bs d (M.getV (.mk k' n' us')) bd ?_ hbd2 (fun i f b hi hf hb => ?_) hq
      · unfold M.rdsT
        rw [List.getElem?_map, List.getElem?_range hlt, hty]
        rfl
      · have := hpz i hi
        unfold M.rdsT at hf
        rw [List.getElem?_map, List.getElem?_range (by omega)] at hf
        cases hf
        rw [hF] at this
        simp only [List.getD_eq_getElem?_getD, hb, Option.getD_some] at this
        exact this
    have hbB : Below w.heap.size w B := Gr.low hbA hRW.gr (by omega) (fun b e => by omega)
    have hbxl := (Array.getElem?_eq_some_iff.1 (show B.heap[bx]? = _ from hBx)).1
    have p0 : B.cell? ⟨bx, 0, none⟩ = some (.int .i64 k') := by simp [World.cell?, show B.heap[bx]? = _ from hBx]
    have p1 : B.cell? ⟨bx, 1, none⟩ = some (.int .i64 n') := by simp [World.cell?, show B.heap[bx]? = _ from hBx]
    have p2 : B.cell? ⟨bx, 2, none⟩ = some (.slice ua us'.length uc) := by simp [World.cell?, show B.heap[bx]? = _ from hBx]
    have p3 : B.cell? ⟨bx, 3, none⟩ = some (.bool (M.fixedT (.mk k' n' us'))) := by simp [World.cell?, show B.heap[bx]? = _ from hBx]
    have p4 : B.cell? ⟨bx, 4, none⟩ = some (.int .i64 (wdT (.mk k' n' us') : Nat)) := by simp [World.cell?, show B.heap[bx]? = _ from hBx]
    have q1 : B.cell? ⟨w1.heap.size, 0, none⟩ = some (.slice (some ⟨g1, 0, none⟩) items items) := (hRW.gr.cell (p := ⟨w1.heap.size, 0, none⟩) (by simp; omega) (by simp)).trans hAo.cell
    have q2 : B.cell? ⟨w1.heap.size + 1 + 1, 5, none⟩ = some (.slice (some ⟨w1.heap.size + 1, 0, none⟩) items items) := (hRW.gr.cell (p := ⟨w1.heap.size + 2, 5, none⟩) (by simp; omega) (by simp)).trans hAv
    have q3 : B.cell? ⟨g1, d, none⟩ = some (.string ⟨bd.toArray⟩) := (hRW.gr.cell (p := ⟨g1, d, none⟩) (by simp; omega) (by simp; omega)).trans ((hAb.1 d hlt).trans (by show some (Value.string ⟨(bs.getD d []).toArray⟩) = _; rw [hbd]))
    obtain ⟨cs, hcs, hrow⟩ := hRW.row
    have HPL : Hid ((pre ++ [((d, M.Ty.mk k' n' us'), Value.slice ua us'.length uc)]).length = d + 1) := by show _ = _; rw [List.length_append, ← hdl]; rfl
    have HRW := Lib.hid hRW
    have HPZ := Lib.hid hpz
    have HFD := Lib.hid hFd
    have HA1 := Lib.hid hA1
    have HDL := Lib.hid hdl
    have hd9 : d < 6000 := by omega
    have hn1 : bx ≠ w1.heap.size + 1 := by omega
    have hn2 : g1 ≠ w1.heap.size + 1 := by omega
    have hl1 : w1.heap.size < B.heap.size := by omega
    have hl2 : w1.heap.size + 1 + 1 < B.heap.size := by omega
    have hl3 : g1 < B.heap.size := by omega
    have hlr : w1.heap.size + 1 < B.heap.size := by omega
    have mixed : Tryz.prog.follows .mixedOrders = true := by kernel_rfl
    rw [hA1]
    dsimp only [M.Ty.k, M.Ty.n]
    generalize M.getV (.mk k' n' us') bd = r at *
    generalize wdT (.mk k' n' us') = wd at *
    generalize M.fixedT (.mk k' n' us') = fx at *
    clear hG hty hmem hsx hchx hctx hLt hFd hpz hRW hbd hbd2 hbdl hIo hI0 hL hLw hct ht hA7 hA8 hAo hAv hAb hchk hs hsp hble hBx hA1 hdl
    gi_wp2_with fail
    refine region_roundH (S := fun Y => Gr B Y (fun b => b = w1.heap.size + 1)) (by rintro ⟨_, _, h⟩; exact h) mixed (by kernel_rfl) ?_
    have hS0 : (fun Y : World => Gr B Y (fun b => b = w1.heap.size + 1)) B.drew := Gr.drew (Gr.refl _ _)
    rw [show Array.replicate (Array.size _) false = #[false, false, false, false, false, false, false, false, false, false, false] from rfl, show Array.size (α := Oper) _ = 11 from rfl]
    refine wpAnyH_take (i := 0) (v := .pointer (some ⟨w1.heap.size + 1 + 1, 5, none⟩)) rfl (by kernel_rfl) (by kernel_rfl) (by kernel_rfl) (fun _ _ _ h => h) (Or.inl ⟨by rfl, ?_⟩) hS0 ?_
    · intro Y hY
      skip
      go_simp
    simp only [Act.put, List.getElem_toArray, List.getElem_cons_zero, List.setIfInBounds_toArray, List.set_cons_zero, List.set_cons_succ]
    refine wpAnyH_take (i := 1) (v := .slice (some ⟨w1.heap.size + 1, 0, none⟩) items items) rfl (by kernel_rfl) (by kernel_rfl) (by kernel_rfl) (fun _ _ _ h => h) (Or.inl ⟨by rfl, ?_⟩) hS0 ?_
    · intro Y hY
      have e1 := (hY.cell (p := ⟨w1.heap.size + 1 + 1, 5, none⟩) hl2 (by simp)).trans q2
      go_simp
    simp only [Act.put, List.getElem_toArray, List.getElem_cons_succ, List.getElem_cons_zero, List.setIfInBounds_toArray, List.set_cons_zero, List.set_cons_succ]
    refine wpAnyH_take (i := 2) (v := .int .i64 (d : Nat)) rfl (by kernel_rfl) (by kernel_rfl) (by kernel_rfl) (fun _ _ _ h => h) (Or.inl ⟨by rfl, ?_⟩) hS0 ?_
    · intro Y hY
      skip
      go_simp
    simp only [Act.put, List.getElem_toArray, List.getElem_cons_succ, List.getElem_cons_zero, List.setIfInBounds_toArray, List.set_cons_zero, List.set_cons_succ]
    refine wpAnyH_take (i := 3) (v := pv k' n' (.slice ua us'.length uc) fx wd) rfl (by kernel_rfl) (by kernel_rfl) (by kernel_rfl) (fun _ _ _ h => h) (Or.inl ⟨by rfl, ?_⟩) hS0 ?_
    · intro Y hY
      have e0 := (hY.cell (p := ⟨bx, 0, none⟩) hbxl hn1).trans p0; have e1 := (hY.cell (p := ⟨bx, 1, none⟩) hbxl hn1).trans p1; have e2 := (hY.cell (p := ⟨bx, 2, none⟩) hbxl hn1).trans p2; have e3 := (hY.cell (p := ⟨bx, 3, none⟩) hbxl hn1).trans p3; have e4 := (hY.cell (p := ⟨bx, 4, none⟩) hbxl hn1).trans p4
      go_simp
    simp only [Act.put, List.getElem_toArray, List.getElem_cons_succ, List.getElem_cons_zero, List.setIfInBounds_toArray, List.set_cons_zero, List.set_cons_succ]
    refine wpAnyH_take (i := 4) (v := .slice (some ⟨g1, 0, none⟩) items items) rfl (by kernel_rfl) (by kernel_rfl) (by kernel_rfl) (fun _ _ _ h => h) (Or.inl ⟨by rfl, ?_⟩) hS0 ?_
    · intro Y hY
      have e1 := (hY.cell (p := ⟨w1.heap.size, 0, none⟩) hl1 (by simp)).trans q1
      go_simp
    simp only [Act.put, List.getElem_toArray, List.getElem_cons_succ, List.getElem_cons_zero, List.setIfInBounds_toArray, List.set_cons_zero, List.set_cons_succ]
    refine wpAnyH_take (i := 5) (v := .int .i64 (d : Nat)) rfl (by kernel_rfl) (by kernel_rfl) (by kernel_rfl) (fun _ _ _ h => h) (Or.inl ⟨by rfl, ?_⟩) hS0 ?_
    · intro Y hY
      skip
      go_simp
    simp only [Act.put, List.getElem_toArray, List.getElem_cons_succ, List.getElem_cons_zero, List.setIfInBounds_toArray, List.set_cons_zero, List.set_cons_succ]
    refine wpAnyH_take (i := 6) (v := .pointer (some ⟨g1, d, none⟩)) rfl (by kernel_rfl) (by kernel_rfl) (by kernel_rfl) (fun _ _ _ h => h) (Or.inl ⟨by rfl, ?_⟩) hS0 ?_
    · intro Y hY
      skip
      go_simp
    simp only [Act.put, List.getElem_toArray, List.getElem_cons_succ, List.getElem_cons_zero, List.setIfInBounds_toArray, List.set_cons_zero, List.set_cons_succ]
    refine wpAnyH_take (i := 7) (v := .string ⟨bd.toArray⟩) rfl (by kernel_rfl) (by kernel_rfl) (by kernel_rfl) (fun _ _ _ h => h) (Or.inl ⟨by rfl, ?_⟩) hS0 ?_
    · intro Y hY
      have e1 := (hY.cell (p := ⟨g1, d, none⟩) hl3 hn2).trans q3
      go_simp
    simp only [Act.put, List.getElem_toArray, List.getElem_cons_succ, List.getElem_cons_zero, List.setIfInBounds_toArray, List.set_cons_zero, List.set_cons_succ]
    refine wpAnyH_ready (rs := [8]) (by kernel_rfl) (by simp) ?_
    refine AllReadyH.cons rfl (fun K hK => ?_) AllReadyH.nil
    go_simp
    refine (HC.out _ hbB.drew).mono ?_
    rintro e w2 ⟨hok, hno, hb2'⟩
    have hbB2 : Below B.heap.size B w2 := (Below.refl B.heap.size B).drew.trans hb2'
    rcases Nat.eq_zero_or_pos r.2 with hq | hq
    case inr =>
      rw [hno (by omega)]
      exact ⟨rfl, (KO_below hbB2).from _, r.2, rfl, by omega, hRE.out (by omega), HRW.out.gr.below hbB2⟩
    obtain ⟨N, bs', vs', p, ab, cb, au, cu, hr1, rfl, hV⟩ := hok hq
    have hrow2 : w2.heap[w1.heap.size + 1]? = some (.cells cs 33 (0, 0)) := (hbB2.block _ hlr).trans hrow
    have hG2 := HRW.out.below hbB2 (by omega)
    have hS2 : Gr B w2 (fun b => b = w1.heap.size + 1) := (Gr.refl B _).below hbB2
    have HV := Lib.hid hV
    have HR1 := Lib.hid hr1
    have HG2 := Lib.hid hG2
    clear hok hno hV hr1 hG2
    try go_wp2_with fail
    refine hK.out _ _ hS2 (fun _ => ?_)
    clear hK K
    simp only [List.setIfInBounds_toArray, List.set_cons_zero, List.set_cons_succ]
    refine wpAnyH_take (i := 9) (v := .pointer (some ⟨w1.heap.size + 1, d * 7, none⟩)) rfl (by kernel_rfl) (by kernel_rfl) (by kernel_rfl) (fun _ _ _ h => h) (Or.inl ⟨by rfl, ?_⟩) hS2 ?_
    · intro Y hY
      skip
      go_simp
    simp only [Act.put, List.getElem_toArray, List.getElem_cons_succ, List.getElem_cons_zero, List.setIfInBounds_toArray, List.set_cons_zero, List.set_cons_succ]
    obtain ⟨⟨_, i0⟩, ⟨_, i1⟩, ⟨_, i2⟩, ⟨_, i3⟩, ⟨_, i4⟩, ⟨_, i5⟩, ⟨_, i6⟩, ff⟩ := cells_wa hrow2 hcs hlt
    have f0 := ff (d * 7)
    have f1 := ff (d * 7 + 1)
    have f2 := ff (d * 7 + 2)
    have f3 := ff (d * 7 + 3)
    have f4 := ff (d * 7 + 4)
    have f5 := ff (d * 7 + 5)
    have f6 := ff (d * 7 + 6)
    clear ff
    refine wpAnyH_ready (rs := [10]) (by kernel_rfl) (by simp) ?_
    refine AllReadyH.cons rfl (fun K hK => ?_) AllReadyH.nil
    go_simp
    rw [set_seven_at hrow2]
    have hG3 := HG2.out.store (by omega) hlt (f := fun i => (F i).1) (by rw [HFD.out]; exact HR1.out) (lo := B.drew.heap.size) (by show _ ≤ B.heap.size; omega) HV.out cs hcs hrow2
    have hKO3 := (KO_below hbB2).trans (KO_setRow hrow2 (((((((cs.setIfInBounds (d * 7) (.int .u64 (M.pt 0 N))).setIfInBounds (d * 7 + 1) (.int .u64 (M.pt 1 N))).setIfInBounds (d * 7 + 2) (.int .u64 (M.pt 2 N))).setIfInBounds (d * 7 + 3) (.int .u64 (M.pt 3 N))).setIfInBounds (d * 7 + 4) (.slice ab bs'.length cb)).setIfInBounds (d * 7 + 5) (.slice au vs'.length cu)).setIfInBounds (d * 7 + 6) (.int .i64 p)))
    have hk3 : ∀ b, b ≠ w1.heap.size + 1 → (w2.setRow (w1.heap.size + 1) (((((((cs.setIfInBounds (d * 7) (.int .u64 (M.pt 0 N))).setIfInBounds (d * 7 + 1) (.int .u64 (M.pt 1 N))).setIfInBounds (d * 7 + 2) (.int .u64 (M.pt 2 N))).setIfInBounds (d * 7 + 3) (.int .u64 (M.pt 3 N))).setIfInBounds (d * 7 + 4) (.slice ab bs'.length cb)).setIfInBounds (d * 7 + 5) (.slice au vs'.length cu)).setIfInBounds (d * 7 + 6) (.int .i64 p))).heap[b]? = w2.heap[b]? := fun b hb => setRow_other _ _ _ _ hb
    have hS3 : Gr B (w2.setRow (w1.heap.size + 1) (((((((cs.setIfInBounds (d * 7) (.int .u64 (M.pt 0 N))).setIfInBounds (d * 7 + 1) (.int .u64 (M.pt 1 N))).setIfInBounds (d * 7 + 2) (.int .u64 (M.pt 2 N))).setIfInBounds (d * 7 + 3) (.int .u64 (M.pt 3 N))).setIfInBounds (d * 7 + 4) (.slice ab bs'.length cb)).setIfInBounds (d * 7 + 5) (.slice au vs'.length cu)).setIfInBounds (d * 7 + 6) (.int .i64 p))) (fun b => b = w1.heap.size + 1) :=
      ⟨hS2.os, hS2.tape, hS2.output, by simpa using hS2.size, fun b h1 h2 => (hk3 b h2).trans (hS2.block b h1 h2)⟩
    generalize w2.setRow (w1.heap.size + 1) _ = W3 at hG3 hKO3 hk3 hS3 ⊢
    refine hK.out _ _ hS3 (fun _ => ?_)
    clear hK K
    simp only [List.setIfInBounds_toArray, List.set_cons_zero, List.set_cons_succ]
    refine wpAnyH_done (by kernel_rfl) ?_ _
    refine ⟨hKO3.from _, fun c hc hT => ?_, ?_⟩
    · subst hT
      exact (hk3 _ (by omega)).trans (hbB2.block _ hc)
    · unfold GotI
      rw [HPL.out]
      refine ⟨fun i hi => ?_, hG3⟩
      by_cases e : i = d
      · rw [e, HFD.out, hq]
      · exact HPZ.out i (by omega)
  case done =>
    rintro D ys X hD hys hI hKd hWA
    obtain ⟨hpz, hRW⟩ := hI
    rw [hys.1] at hpz hRW
    have hgr := hRW.gr
    have hbX : Below w.heap.size w X := Gr.low hbA hgr (by omega) (fun b e => by omega)
    have hzX := hgr.size
    have hRA : M.readAll (M.rdsT ts items) bs = ((List.range items).map fun i => (F i).1, 0) := by
      refine M.readAll_ok _ _ _ (by unfold M.rdsT; simp [hbl]) (by simp [hbl]) fun i f b v h1 h2 h3 => ?_
      have hi : i < items := by have := (List.getElem?_eq_some_iff.1 h2).1; omega
      unfold M.rdsT at h1
      rw [List.getElem?_map, List.getElem?_range hi] at h1 h3
      cases h1
      cases h3
      have h0 := hpz i hi
      have hFi : F i = M.getV (M.tyAt ts i) b := by rw [hF]; show M.getV _ (bs.getD i []) = _; rw [List.getD_eq_getElem?_getD, h2]; rfl
      show M.getV (M.tyAt ts i) b = ((F i).1, 0)
      rw [← hFi, ← h0]
    have hRG : M.rowG ts items s = (.mk 0 [] ((List.range items).map fun i => (F i).1) 0, 0) := by
      unfold M.rowG
      rw [hsp]
      simp only [hRA]
      rfl
    rw [hRG]
    have hDne : D ≠ w1.heap.size + 1 := by omega
    have hXr : X.heap[w.heap.size + 1]? = some (.cells #[.int .u64 0, .int .u64 0, .int .u64 0, .int .u64 0, .slice none 0 0, .slice none 0 0, .int .i64 0] 33 (0, 0)) := (hgr.block _ (by omega) (by omega)).trans hAr
    have hXv : X.heap[w1.heap.size + 1 + 1]? = some (.cells #[.int .u64 0, .int .u64 0, .int .u64 0, .int .u64 0, .slice none 0 0, .slice (some ⟨w1.heap.size + 1, 0, none⟩) items items, .int .i64 0] 33 (0, 0)) := (hgr.block _ (by omega) (by omega)).trans b2
    have hVR : VlS (w.heap.size + 2) X.heap.size 0 [] ((List.range items).map fun i => (F i).1) none 0 (some ⟨w1.heap.size + 1, 0, none⟩) items X := by
      refine VlS.row (by omega) (by omega) (by simp) (by unfold maxLen; omega) fun i N bs2 vs2 q hi => ?_
      have hi2 : i < items := by have := (List.getElem?_eq_some_iff.1 hi).1; simpa using this
      rw [List.getElem?_map, List.getElem?_range hi2] at hi
      obtain ⟨N', bs', us', p', ab', cb', au', cu', e1, e2, e3⟩ := hRW.done i hi2
      have e4 : M.Va.mk N' bs' us' p' = .mk N bs2 vs2 q := by rw [← e1]; simpa using hi
      cases e4
      exact ⟨ab', cb', au', cu', e2, e3.mono (by omega) (Nat.le_refl _)⟩
    have HVR := Lib.hid hVR
    have HXR := Lib.hid hXr
    have HRW := Lib.hid hRW
    have HKD := Lib.hid hKd
    have hzX2 : w.heap.size + 1 < X.heap.size := by omega
    have hDX : D < X.heap.size := (Array.getElem?_eq_some_iff.1 hKd).1
    have hDne2 : w.heap.size + 1 ≠ D := by omega
    have hbD : w.heap.size ≤ D := by omega
    obtain ⟨L, hLL⟩ : ∃ L, (List.range items).map (fun i => (F i).1) = L := ⟨_, rfl⟩
    have hLl : L.length = items := by rw [← hLL]; simp
    rw [hLL] at HVR ⊢
    have HLl := Lib.hid hLl
    obtain ⟨y0, y1, y2, y3, y4, y5, y6⟩ : X.cell? ⟨w1.heap.size + 1 + 1, 0, none⟩ = some (.int .u64 0) ∧ X.cell? ⟨w1.heap.size + 1 + 1, 1, none⟩ = some (.int .u64 0) ∧ X.cell? ⟨w1.heap.size + 1 + 1, 2, none⟩ = some (.int .u64 0) ∧ X.cell? ⟨w1.heap.size + 1 + 1, 3, none⟩ = some (.int .u64 0) ∧ X.cell? ⟨w1.heap.size + 1 + 1, 4, none⟩ = some (.slice none 0 0) ∧ X.cell? ⟨w1.heap.size + 1 + 1, 5, none⟩ = some (.slice (some ⟨w1.heap.size + 1, 0, none⟩) items items) ∧ X.cell? ⟨w1.heap.size + 1 + 1, 6, none⟩ = some (.int .i64 0) := by
      refine ⟨?_, ?_, ?_, ?_, ?_, ?_, ?_⟩ <;> simp [World.cell?, hXv]
    obtain ⟨⟨_, i0⟩, ⟨_, i1⟩, ⟨_, i2⟩, ⟨_, i3⟩, ⟨_, i4⟩, ⟨_, i5⟩, ⟨_, i6⟩, f0, f1, f2, f3, f4, f5, f6⟩ := cells_w7 hXr
    clear hVR hXr hXv hRW hKd hpz hys hI0 hIo hAb hAo hAv hA7 hA8 hAr b2 hLL hLl hRG hRA hF HCUT hct hit ht hL hLw hgr A1 hA1 hbl hkl hble hsp
    gi_wp2_with fail
    refine wpE_then (n := 6) ?_
    gi_wp2_with fail
    rw [set_w7 HXR.out]
    obtain ⟨X2, hX2⟩ : ∃ X2, X.setRow (w.heap.size + 1) #[.int .u64 0, .int .u64 0, .int .u64 0, .int .u64 0, .slice none 0 0, .slice (some ⟨w1.heap.size + 1, 0, none⟩) items items, .int .i64 0] = X2 := ⟨_, rfl⟩
    have hbX2 : Below w.heap.size w X2 := by rw [← hX2]; exact below_setRow hbX (by omega) _
    have hX2r : X2.heap[w.heap.size + 1]? = some (.cells #[.int .u64 0, .int .u64 0, .int .u64 0, .int .u64 0, .slice none 0 0, .slice (some ⟨w1.heap.size + 1, 0, none⟩) items items, .int .i64 0] 33 (0, 0)) := by rw [← hX2]; exact setRow_heap _ _ _ _ _ _ HXR.out
    have hX2k : ∀ b, b ≠ w.heap.size + 1 → X2.heap[b]? = X.heap[b]? := fun b hb => by rw [← hX2]; exact setRow_other _ _ _ _ hb
    have hX2z : X2.heap.size = X.heap.size := by rw [← hX2]; simp
    have hX2d : X2.heap[D]? = some (.deferred (some [])) := (hX2k D (Ne.symm hDne2)).trans HKD.out
    rw [hX2]
    clear hX2
    refine WpE.of (n := 6) (wpIn_ret ?_)
    refine ⟨by simp, .inl ⟨_, _, rfl, run_takeDeferred hX2d, ?_⟩⟩
    have hb2 := belowK_b (w := w) (Nat.le_refl _) X2 D _ (.deferred none) hbD hX2d rfl rfl
    have hrZ : (X2.putObj D (.deferred none)).heap[w.heap.size + 1]? = some (.cells #[.int .u64 0, .int .u64 0, .int .u64 0, .int .u64 0, .slice none 0 0, .slice (some ⟨w1.heap.size + 1, 0, none⟩) items items, .int .i64 0] 33 (0, 0)) := (World.putObj_heap_other hDne2).trans hX2r
    have hres := fun (tmps : Array Value) (hp : tmps.getD 6 undef = .pointer (some ⟨w.heap.size + 1, 0, none⟩)) => results_cell_row (P := Tryz.prog) (show Tryz.f69.results = #[.cell 6 33] from rfl) tmps (X2.putObj D (.deferred none)) (w.heap.size + 1) 33 _ (0, 0) _ hp hrZ Tryz.underlying33 rfl Tryz.valSize
    refine ⟨_, hres _ rfl, fun _ => ⟨0, [], L, 0, none, 0, some ⟨w1.heap.size + 1, 0, none⟩, items, rfl, ?_, ?_⟩, fun h => absurd rfl h, hbX2.trans hb2⟩
    · rw [HLl.out]
      show _ = Ending.returned (.agg #[.int .u64 (M.pt 0 0), .int .u64 (M.pt 1 0), .int .u64 (M.pt 2 0), .int .u64 (M.pt 3 0), .slice none 0 0, .slice (some ⟨w1.heap.size + 1, 0, none⟩) items items, .int .i64 0])
      rw [show M.pt 0 0 = 0 by decide +kernel, show M.pt 1 0 = 0 by decide +kernel, show M.pt 2 0 = 0 by decide +kernel, show M.pt 3 0 = 0 by decide +kernel]
    · have hag : Agree (w.heap.size + 2) X.heap.size X (X2.putObj D (.deferred none)) :=
        Agree.trans (.blocks fun b h1 _ => hX2k b (by omega)) (.grown (grownBy_putObj' X2 D (.deferred none)) fun j e => .inr ⟨_, by cases e; exact hX2d, rfl⟩)
      exact (HVR.out.agree hag).mono (by omega) (by simp [World.putObj, hX2z])
  case pan =>
    rintro D ch W hD ⟨q, rfl, hq, hre, hgr⟩ hKd
    have hbX : Below w.heap.size w W := Gr.low hbA hgr (by omega) (fun b e => by omega)
    have hzX := hgr.size
    have hRG : M.rowG ts items s = (M.noV, q) := by
      unfold M.rowG
      rw [hsp]
      simp only [hre]
      rw [if_pos hq]
    rw [hRG]
    refine ⟨by simp, .inl ⟨_, _, rfl, run_takeDeferred hKd, ?_⟩⟩
    have hb1 := belowK_b (w := w) (Nat.le_refl _) W D _ (.deferred none) (by omega) hKd rfl rfl
    exact ⟨fun h => absurd h hq, fun _ => rfl, hbX.trans hb1⟩
end Go.Proofs.YtgloapcfmlijlaaGreatDoor
namespace Go.Proofs.YtgloapcfmlijlaaGreatDoor
open Go Go.RowKit Go.Lib
attribute [local go_sem] Oper.semAt_some

/-- A value of one of several types. -/
def M.oneG (ts : List M.Ty) (s : List UInt8) : M.Va × Nat := match s with
  | [] => (M.noV, 2)
  | c :: s' => if ts.length ≤ c.toNat then (M.noV, 9) else if (M.getV (ts[c.toNat]?.getD default) s').2 ≠ 0 then (M.noV, (M.getV (ts[c.toNat]?.getD default) s').2) else (.mk 0 [] [(M.getV (ts[c.toNat]?.getD default) s').1] c.toNat, 0)
theorem M.one_fs (ts : List M.Ty) (c : Nat) (h : c < ts.length) : (M.getFs ts).getD c M.noR = M.getV (ts[c]?.getD default) := by
  rw [M.getFs_map, List.getD_eq_getElem?_getD, List.getElem?_map, List.getElem?_eq_getElem h]
  rfl
theorem M.one_get (ts : List M.Ty) (s : List UInt8) : (match s with
    | [] => (M.noV, 2)
    | c :: s' => if (M.getFs ts).length ≤ c.toNat then (M.noV, 9) else if ((M.getFs ts).getD c.toNat M.noR s').2 ≠ 0 then (M.noV, ((M.getFs ts).getD c.toNat M.noR s').2) else (.mk 0 [] [((M.getFs ts).getD c.toNat M.noR s').1] c.toNat, 0)) = M.oneG ts s := by
  unfold M.oneG
  cases s with
  | nil => rfl
  | cons c s' =>
    have hl : (M.getFs ts).length = ts.length := by rw [M.getFs_map, List.length_map]
    simp only [hl]
    by_cases h : ts.length ≤ c.toNat
    · rw [if_pos h, if_pos h]
    · rw [if_neg h, if_neg h, M.one_fs ts c.toNat (by omega)]
theorem Tryz.ofVal1 : (Tryz.prog.info? 33).map (fun i => (i.zero, i.size, i.bytes)) = some (some (.agg #[.int .u64 0, .int .u64 0, .int .u64 0, .int .u64 0, .slice none 0 0, .slice none 0 0, .int .i64 0]), 7, 88) := by kernel_rfl
theorem fill_val {n : Nat} (hn : n = 7) (a0 a1 a2 a3 a4 a5 a6 : Value) : Instr.fill (fun i => some (i * n, n)) ((Array.range (1 * n)).map ((Value.agg #[.int .u64 0, .int .u64 0, .int .u64 0, .int .u64 0, .slice none 0 0, .slice none 0 0, .int .i64 0]).cells[· % (Value.agg #[.int .u64 0, .int .u64 0, .int .u64 0, .int .u64 0, .slice none 0 0, .slice none 0 0, .int .i64 0]).cells.size]!)) [(0, .agg #[a0, a1, a2, a3, a4, a5, a6])] = some #[a0, a1, a2, a3, a4, a5, a6] := by
  subst hn
  rw [show Array.range (1 * 7) = #[0, 1, 2, 3, 4, 5, 6] from rfl]
  simp [Instr.fill, Value.cells]
/-- A slice literal of one Val. -/
theorem wp_build_val {o : Oper} {a : Act} {w : World} {K : Act → World → Prop} {Q : Exit → Act → World → Prop} (x : Operand) (a0 a1 a2 a3 a4 a5 a6 : Value) (ho : o.op = .buildSlice 31 1 #[(0, x)]) (hx : a.eval x = .agg #[a0, a1, a2, a3, a4, a5, a6])
    (h : K (a.put o.dst (.slice (some ⟨w.heap.size, 0, none⟩) 1 1)) (w.alloc (.cells #[a0, a1, a2, a3, a4, a5, a6] 33))) : o.wp Tryz.prog a w K Q := by
  obtain ⟨i0, hi, hz0, hz1, hz2⟩ := info_parts Tryz.ofVal1
  refine wp_buildSlice 31 33 1 _ ho _ i0 _ Tryz.underlying31 hi hz0 (by rw [hz1]; decide) (by rw [hz1]; decide) ?_ h
  have := fill_val hz1 a0 a1 a2 a3 a4 a5 a6
  simpa [hx] using this
set_option maxRecDepth 100000 in
set_option maxHeartbeats 4000000 in
theorem oneOf_any (z : Nat) (ih : Hid (GetC z)) (n : Int) (ts : List M.Ty) (a : Option Addr) (cap : Nat) (s : List UInt8) (w : World) (hs : SizeOf.sizeOf ts ≤ z + 1) (hL : LayT w w.heap.size ts (.slice a ts.length cap)) (hct : M.cntTs ts ≤ 999) (hchk : ∃ d, M.chkTs d ts = 0) (_ht : ts.length ≤ 8) (hl : s.length ≤ 8000) :
    Calls Tryz.prog 68 #[tv 8 n (.slice a ts.length cap), .string ⟨s.toArray⟩] w (GotC w (M.oneG ts s)) := by
  obtain ⟨w0, hw0⟩ : ∃ w0, (w.alloc (.cells #[.int .i64 8, .int .i64 n, .slice a ts.length cap] 24)).alloc (.cells #[.int .u64 0, .int .u64 0, .int .u64 0, .int .u64 0, .slice none 0 0, .slice none 0 0, .int .i64 0] 33) = w0 := ⟨_, rfl⟩
  have hb0 : Below w.heap.size w w0 := by rw [← hw0]; (repeat (first | exact Below.refl _ _ | refine Below.drew ?_ | refine Below.alloc ?_ (by first | omega | (simp; omega) | simp) _ | refine Below.setCell ?_ (by first | omega | (simp; omega) | simp) _))
  have hz0 : w0.heap.size = w.heap.size + 2 := by rw [← hw0]; simp
  have hB0 : BoxT w0 w.heap.size 8 n (.slice a ts.length cap) := by rw [← hw0]; exact ⟨by simp [go_sem], by simp [go_sem], by simp [go_sem]⟩
  have hr0 : w0.heap[w.heap.size + 1]? = some (.cells #[.int .u64 0, .int .u64 0, .int .u64 0, .int .u64 0, .slice none 0 0, .slice none 0 0, .int .i64 0] 33 (0, 0)) := by
    rw [← hw0]
    have := World.alloc_heap_new (w.alloc (.cells #[.int .i64 8, .int .i64 n, .slice a ts.length cap] 24)) (.cells #[.int .u64 0, .int .u64 0, .int .u64 0, .int .u64 0, .slice none 0 0, .slice none 0 0, .int .i64 0] 33)
    rwa [World.size_alloc] at this
  have t2 := hB0.c2
  have HW := Lib.hid hw0
  have HZ0 := Lib.hid hz0
  clear hw0 hz0
  have HN0 := Lib.hid (need_any false 2)
  have HN1 := Lib.hid (need_any true 2)
  have mixed : Tryz.prog.follows .mixedOrders = true := by kernel_rfl
  cases s with
  | nil =>
    rw [show M.oneG ts [] = (M.noV, 2) from rfl]
    go_enter Tryz.func68, Tryz.ntmps68
    go_wp2_with fail
    rw [HW.out]
    refine (HN0.out _).mono ?_
    rintro e X ⟨rfl, hX⟩
    obtain rfl : w0 = X := hX.symm
    exact ⟨rfl, fun h => absurd h (by simp), fun _ => rfl, hb0⟩
  | cons c s =>
    obtain ⟨T, hT⟩ : ∃ T, M.oneG ts (c :: s) = T := ⟨_, rfl⟩
    rw [hT]
    have HT := Lib.hid hT
    clear hT
    have hc := c.toNat_lt
    obtain ⟨pk, hpk⟩ : ∃ pk, c.toNat = pk := ⟨_, rfl⟩
    rw [hpk] at hc
    obtain ⟨S, hS⟩ : ∃ S, c :: s = S := ⟨_, rfl⟩
    have hSl : S.length = s.length + 1 := by rw [← hS]; simp
    have hS0l : 0 < S.length := by omega
    have ec : ((⟨S.toArray⟩ : ByteArray)[0]'(by simpa [ByteArray.size] using hS0l)).toNat = pk := by
      subst hS
      exact hpk
    have he : S.isEmpty = false := by rw [← hS]; rfl
    have hS1 : S.drop 1 = s := by rw [← hS]; rfl
    have hwr : wrap64 (pk : Int) = pk := by unfold wrap64; omega
    rw [hS] at hl
    have HN9 := Lib.hid (need_any (decide (pk < ts.length)) 9)
    rw [hS]
    have HSl := Lib.hid hSl
    have HS1 := Lib.hid hS1
    have HPK := Lib.hid hpk
    clear hSl hS1 hpk hS
    go_enter Tryz.func68, Tryz.ntmps68
    go_wp2_with fail
    rw [HW.out]
    refine (HN1.out _).mono ?_
    rintro e X ⟨rfl, hX⟩
    obtain rfl : w0 = X := hX.symm
    go_wp2_with fail
    refine (HN9.out _).mono ?_
    rintro e X ⟨rfl, hX⟩
    obtain rfl : w0 = X := hX.symm
    by_cases hin : pk < ts.length
    case neg =>
      rw [if_neg (by simp; omega)]
      obtain rfl : T = (M.noV, 9) := by rw [← HT.out]; unfold M.oneG; simp only; rw [if_pos (by rw [HPK.out]; omega)]
      exact ⟨rfl, fun h => absurd h (by simp), fun _ => rfl, hb0⟩
    rw [if_pos (by simp; omega)]
    obtain ⟨b, o, k', n', us', ua, uc, rfl, hbn, hxk, e0, e1, e2, hLt⟩ := hL.at_ hin
    have hmem : M.Ty.mk k' n' us' ∈ ts := List.mem_of_getElem? hxk
    have hsx : SizeOf.sizeOf us' ≤ z := by have := List.sizeOf_lt_of_mem hmem; simp at this; omega
    have hchx : ∃ e, M.chkT e (.mk k' n' us') = 0 := by obtain ⟨e, he⟩ := hchk; exact ⟨e, M.chkTs_ok.1 he _ hmem⟩
    have hctx : M.cntT (.mk k' n' us') ≤ 1000 := Nat.le_trans (M.cntT_part hmem) (by omega)
    have HC : Hid (∀ X, Below w.heap.size w X → Calls Tryz.prog 32 #[pv k' n' (.slice ua us'.length uc) (M.fixedT (.mk k' n' us')) (wdT (.mk k' n' us')), .string ⟨s.toArray⟩] X (GotC X (M.getV (.mk k' n' us') s))) := fun X h =>
      ih.out k' n' us' ua uc s X hsx ((hLt.from_ h).mono h.size) hchx hctx (by have := HSl.out; omega)
    have HP : Hid (∀ X, Below w.heap.size w X → Calls Tryz.prog 33 #[tv k' n' (.slice ua us'.length uc)] X fun e w' => e = .returned (pv k' n' (.slice ua us'.length uc) (M.fixedT (.mk k' n' us')) (wdT (.mk k' n' us'))) ∧ Below X.heap.size X w') := fun X h =>
      partOf_any k' n' us' ua uc X ((hLt.from_ h).mono h.size) hctx
    have HTR : Hid (T = if (M.getV (.mk k' n' us') s).2 ≠ 0 then (M.noV, (M.getV (.mk k' n' us') s).2) else (.mk 0 [] [(M.getV (.mk k' n' us') s).1] (pk : Int), 0)) := by
      show _ = _
      rw [← HT.out]
      unfold M.oneG
      simp only
      rw [if_neg (by rw [HPK.out]; omega), HPK.out, hxk]
      rfl
    have hwd := hb0.size
    have g0 := (hb0.cell (p := ⟨b, o + pk * 3, none⟩) hbn).trans e0
    have g1 := (hb0.cell (p := ⟨b, o + pk * 3 + 1, none⟩) hbn).trans e1
    have g2 := (hb0.cell (p := ⟨b, o + pk * 3 + 2, none⟩) hbn).trans e2
    have hbn0 : b < w0.heap.size := by omega
    have hw0l : w.heap.size < w0.heap.size := by have := HZ0.out; omega
    generalize M.getV (.mk k' n' us') s = r at *
    generalize wdT (.mk k' n' us') = wd at *
    generalize M.fixedT (.mk k' n' us') = fx at *
    have hsl : ∀ Y : World, (Instr.slice 9 (.string ⟨S.toArray⟩) (some (.int .i64 1)) none none).run Tryz.prog Y = .ok (.string ⟨s.toArray⟩) Y := fun Y => by
      go_simp
      rw [if_pos (by omega), cutS, List.take_of_length_le (Nat.le_refl _), HS1.out]
    clear hmem hsx hchx hctx hLt hL hchk hxk e0 e1 e2 HT
    go_wp2_with fail
    refine wp_region_held (S := fun Y => Gr w0 Y (fun b => b = w.heap.size + 1)) mixed ?_
    have hS0 : Below w0.heap.size w0 { w0 with drawn := w0.drawn + 1 } := Below.drew (Below.refl _ _)
    have hG0 : (fun Y => Gr w0 Y (fun b => b = w.heap.size + 1)) { w0 with drawn := w0.drawn + 1 } := Gr.drew (Gr.refl _ _)
    have hbn1 : b ≠ w.heap.size + 1 := by omega
    rw [show Array.replicate (Array.size _) false = #[false, false, false, false, false, false, false, false, false, false, false, false, false] from rfl, show Array.size (α := Oper) _ = 13 from rfl]
    refine wpAnyH_take (i := 0) (v := .int .i64 (pk : Nat)) rfl (by kernel_rfl) (by kernel_rfl) (by kernel_rfl) (fun _ _ _ h => h) (Or.inl ⟨by rfl, ?_⟩) hG0 ?_
    · intro Y hY
      skip
      go_simp
    simp only [Act.put, List.getElem_toArray, List.getElem_cons_zero, List.setIfInBounds_toArray, List.set_cons_zero, List.set_cons_succ]
    refine wpAnyH_take (i := 1) (v := .pointer (some ⟨w.heap.size, 2, none⟩)) rfl (by kernel_rfl) (by kernel_rfl) (by kernel_rfl) (fun _ _ _ h => h) (Or.inl ⟨by rfl, ?_⟩) hG0 ?_
    · intro Y hY
      skip
      go_simp
    simp only [Act.put, List.getElem_toArray, List.getElem_cons_succ, List.getElem_cons_zero, List.setIfInBounds_toArray, List.set_cons_zero, List.set_cons_succ]
    refine wpAnyH_take (i := 2) (v := .slice (some ⟨b, o, none⟩) ts.length cap) rfl (by kernel_rfl) (by kernel_rfl) (by kernel_rfl) (fun _ _ _ h => h) (Or.inl ⟨by rfl, ?_⟩) hG0 ?_
    · intro Y hY
      have y2 := (hY.cell (p := ⟨w.heap.size, 2, none⟩) hw0l (by simp)).trans t2
      go_simp
    simp only [Act.put, List.getElem_toArray, List.getElem_cons_succ, List.getElem_cons_zero, List.setIfInBounds_toArray, List.set_cons_zero, List.set_cons_succ]
    refine wpAnyH_take (i := 3) (v := .int .i64 (pk : Nat)) rfl (by kernel_rfl) (by kernel_rfl) (by kernel_rfl) (fun _ _ _ h => h) (Or.inl ⟨by rfl, ?_⟩) hG0 ?_
    · intro Y hY
      skip
      go_simp
    simp only [Act.put, List.getElem_toArray, List.getElem_cons_succ, List.getElem_cons_zero, List.setIfInBounds_toArray, List.set_cons_zero, List.set_cons_succ]
    refine wpAnyH_take (i := 4) (v := .pointer (some ⟨b, o + pk * 3, none⟩)) rfl (by kernel_rfl) (by kernel_rfl) (by kernel_rfl) (fun _ _ _ h => h) (Or.inl ⟨by rfl, ?_⟩) hG0 ?_
    · intro Y hY
      skip
      go_simp
    simp only [Act.put, List.getElem_toArray, List.getElem_cons_succ, List.getElem_cons_zero, List.setIfInBounds_toArray, List.set_cons_zero, List.set_cons_succ]
    refine wpAnyH_take (i := 5) (v := tv k' n' (.slice ua us'.length uc)) rfl (by kernel_rfl) (by kernel_rfl) (by kernel_rfl) (fun _ _ _ h => h) (Or.inl ⟨by rfl, ?_⟩) hG0 ?_
    · intro Y hY
      have f0 := (hY.cell (p := ⟨b, o + pk * 3, none⟩) hbn0 hbn1).trans g0; have f1 := (hY.cell (p := ⟨b, o + pk * 3 + 1, none⟩) hbn0 hbn1).trans g1; have f2 := (hY.cell (p := ⟨b, o + pk * 3 + 2, none⟩) hbn0 hbn1).trans g2
      go_simp
    simp only [Act.put, List.getElem_toArray, List.getElem_cons_succ, List.getElem_cons_zero, List.setIfInBounds_toArray, List.set_cons_zero, List.set_cons_succ]
    refine wpAnyH_take (i := 7) (v := .string ⟨S.toArray⟩) rfl (by kernel_rfl) (by kernel_rfl) (by kernel_rfl) (fun _ _ _ h => h) (Or.inl ⟨by rfl, ?_⟩) hG0 ?_
    · intro Y hY
      skip
      go_simp
    simp only [Act.put, List.getElem_toArray, List.getElem_cons_succ, List.getElem_cons_zero, List.setIfInBounds_toArray, List.set_cons_zero, List.set_cons_succ]
    refine wpAnyH_take (i := 8) (v := .string ⟨s.toArray⟩) rfl (by kernel_rfl) (by kernel_rfl) (by kernel_rfl) (fun _ _ _ h => h) (Or.inl ⟨by rfl, ?_⟩) hG0 ?_
    · intro Y hY
      skip
      go_simp
    simp only [Act.put, List.getElem_toArray, List.getElem_cons_succ, List.getElem_cons_zero, List.setIfInBounds_toArray, List.set_cons_zero, List.set_cons_succ]
    refine wpAnyH_ready (rs := [6]) (by kernel_rfl) (by simp) ?_
    refine AllReadyH.cons rfl (fun K hK => ?_) AllReadyH.nil
    go_simp
    refine (HP.out _ (hb0.trans (hS0.mono hb0.size))).mono ?_
    rintro e w2 ⟨rfl, hb2⟩
    have hS2 : Below w0.heap.size w0 w2 := hS0.trans (hb2.mono (Nat.le_refl _))
    try go_wp2_with fail
    refine hK.out _ _ ((Gr.refl w0 _).below hS2) (fun _ => ?_)
    clear hK K
    simp only [List.setIfInBounds_toArray, List.set_cons_zero, List.set_cons_succ]
    refine wpAnyH_ready (rs := [9]) (by kernel_rfl) (by simp) ?_
    refine AllReadyH.cons rfl (fun K hK => ?_) AllReadyH.nil
    go_simp
    refine (HC.out _ (hb0.trans (hS2.mono hb0.size))).mono ?_
    rintro e w3 ⟨hok, hno, hb3⟩
    have hS3 : Below w0.heap.size w0 w3 := hS2.trans (hb3.mono hS2.size)
    rcases Nat.eq_zero_or_pos r.2 with hq | hq
    case inr =>
      rw [hno (by omega)]
      obtain rfl : T = (M.noV, r.2) := by rw [HTR.out, if_pos (by omega)]
      exact ⟨rfl, fun h => absurd h (by simp; omega), fun _ => rfl, hb0.trans (Below.mono hS3 hb0.size)⟩
    obtain ⟨N, bs', vs', p, ab, cb, au, cu, hr1, rfl, hV⟩ := hok hq
    obtain rfl : T = (.mk 0 [] [r.1] (pk : Int), 0) := by rw [HTR.out, if_neg (by omega)]
    have HV := Lib.hid hV
    have HR1 := Lib.hid hr1
    clear hok hno hV hr1
    try go_wp2_with fail
    refine hK.out _ _ ((Gr.refl w0 _).below hS3) (fun _ => ?_)
    clear hK K
    simp only [List.setIfInBounds_toArray, List.set_cons_zero, List.set_cons_succ]
    refine wpAnyH_ready (rs := [10]) (by kernel_rfl) (by simp) ?_
    refine AllReadyH.cons rfl (fun K hK => ?_) AllReadyH.nil
    rw [if_pos (by rfl)]
    refine wp_build_val (.tmp 27) _ _ _ _ _ _ _ rfl rfl ?_
    obtain ⟨w4, hw4⟩ : ∃ w4, w3.alloc (.cells #[.int .u64 (M.pt 0 N), .int .u64 (M.pt 1 N), .int .u64 (M.pt 2 N), .int .u64 (M.pt 3 N), .slice ab bs'.length cb, .slice au vs'.length cu, .int .i64 p] 33) = w4 := ⟨_, rfl⟩
    have hb4 : Below w3.heap.size w3 w4 := by rw [← hw4]; exact (Below.refl _ _).alloc (Nat.le_refl _) _
    have hS4 : Below w0.heap.size w0 w4 := hS3.trans (hb4.mono hS3.size)
    have hC4 : Cells7 w4 w3.heap.size 0 N (.slice ab bs'.length cb) (.slice au vs'.length cu) p := by rw [← hw4]; exact Cells7.new w3 N _ _ p _
    have hz4 : w4.heap.size = w3.heap.size + 1 := by rw [← hw4]; simp
    have HC4 := Lib.hid hC4
    have HZ4 := Lib.hid hz4
    rw [hw4]
    clear hw4 hC4 hz4
    have hG4 : Gr w0 w4 (fun b => b = w.heap.size + 1) := (Gr.refl w0 _).below hS4
    refine hK.out _ _ hG4 (fun _ => ?_)
    clear hK K
    simp only [Act.put, List.getElem_toArray, List.getElem_cons_succ, List.getElem_cons_zero, List.setIfInBounds_toArray, List.set_cons_zero, List.set_cons_succ]
    refine wpAnyH_take (i := 11) (v := .agg #[.int .u64 0, .int .u64 0, .int .u64 0, .int .u64 0, .slice none 0 0, .slice (some ⟨w3.heap.size, 0, none⟩) 1 1, .int .i64 (pk : Nat)]) rfl (by kernel_rfl) (by kernel_rfl) (by kernel_rfl) (fun _ _ _ h => h) (Or.inl ⟨by rfl, ?_⟩) hG4 ?_
    · intro Y hY
      go_simp
    simp only [Act.put, List.getElem_toArray, List.getElem_cons_succ, List.getElem_cons_zero, List.setIfInBounds_toArray, List.set_cons_zero, List.set_cons_succ]
    have hr4 := (hS4.block _ (show w.heap.size + 1 < w0.heap.size by have := HZ0.out; omega)).trans hr0
    obtain ⟨⟨_, i0⟩, ⟨_, i1⟩, ⟨_, i2⟩, ⟨_, i3⟩, ⟨_, i4⟩, ⟨_, i5⟩, ⟨_, i6⟩, f0, f1, f2, f3, f4, f5, f6⟩ := cells_w7 hr4
    have hbw4 : Below w.heap.size w w4 := hb0.trans (Below.mono hS4 hb0.size)
    clear t2 g0 g1 g2
    refine wpAnyH_ready (rs := [12]) (by kernel_rfl) (by simp) ?_
    refine AllReadyH.cons rfl (fun K hK => ?_) AllReadyH.nil
    go_simp
    refine hK.out _ _ (((((((hG4.set _ _ (.inr rfl)).set _ _ (.inr rfl)).set _ _ (.inr rfl)).set _ _ (.inr rfl)).set _ _ (.inr rfl)).set _ _ (.inr rfl)).set _ _ (.inr rfl)) (fun _ => ?_)
    clear hK K
    simp only [List.setIfInBounds_toArray, List.set_cons_zero, List.set_cons_succ]
    refine wpAnyH_done (by kernel_rfl) ?_ _
    go_wp2_with fail
    have hs3 := hS3.size
    refine val_post0 rfl w w4 _ _ _ _ _ (by omega) hbw4 _ _ _ _ _ _ _ hr4 _ rfl fun Z hZ hz hk => ⟨fun _ => ⟨0, [], [r.1], pk, none, 0, some ⟨w3.heap.size, 0, none⟩, 1, rfl, rfl, ?_⟩, fun h => absurd rfl h, hZ⟩
    have hz0 := HZ0.out
    have hz4 := HZ4.out
    have hC := (HC4.out).block (hk w3.heap.size (by omega))
    refine VlS.row (by omega) (by omega) (by simp) (by decide) fun i N2 bs2 vs2 q hi => ?_
    cases i with
    | succ i => simp at hi
    | zero =>
      have e : r.1 = .mk N2 bs2 vs2 q := by simpa using hi
      rw [HR1.out] at e
      cases e
      have hs2 := hS2.size
      exact ⟨ab, cb, au, cu, hC, (HV.out.agree (Agree.trans (.below hb4) (.blocks fun b h1 _ => hk b (by omega)))).mono (by omega) (by omega)⟩
end Go.Proofs.YtgloapcfmlijlaaGreatDoor
