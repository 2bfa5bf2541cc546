/- The contract of word.Unfixed. -/
import Derived.Test.YtebjhbeaknokkaaGreatDoorH06
import Derived.Lib.Hide
namespace Go.Proofs.YtebjhbeaknokkaaGreatDoor
open Go Go.RowKit

/-- One more byte behind a number. -/
def st8 (v : Int) (c : UInt8) : Int := bits BinOp.or IntKind.u64 (IntKind.u64.wrap (v * 256)) (IntKind.u64.wrap ↑c.toNat)

/-- Four cells of one block, none of them frozen. -/
structure C4 (W : World) (b : Nat) (a0 a1 a2 a3 : Int) : Prop where
  c0 : W.cell? ⟨b, 0, none⟩ = some (.int .u64 a0)
  c1 : W.cell? ⟨b, 1, none⟩ = some (.int .u64 a1)
  c2 : W.cell? ⟨b, 2, none⟩ = some (.int .u64 a2)
  c3 : W.cell? ⟨b, 3, none⟩ = some (.int .u64 a3)
  f0 : W.frozen? ⟨b, 0, none⟩ = false
  f1 : W.frozen? ⟨b, 1, none⟩ = false
  f2 : W.frozen? ⟨b, 2, none⟩ = false
  f3 : W.frozen? ⟨b, 3, none⟩ = false

theorem C4.step0 {W w : World} {v a0 a1 a2 a3 : Int} (h : C4 W (w.heap.size + 1) a0 a1 a2 a3) (hR : C4 W w.heap.size 0 0 0 0) (hB : Below w.heap.size w W) :
    C4 ((W.setCell ⟨w.heap.size + 1, 0, none⟩ (.int .u64 v)).drew) (w.heap.size + 1) v a1 a2 a3 ∧ C4 ((W.setCell ⟨w.heap.size + 1, 0, none⟩ (.int .u64 v)).drew) w.heap.size 0 0 0 0 ∧ Below w.heap.size w ((W.setCell ⟨w.heap.size + 1, 0, none⟩ (.int .u64 v)).drew) := by
  obtain ⟨c0, c1, c2, c3, f0, f1, f2, f3⟩ := h
  obtain ⟨r0, r1, r2, r3, g0, g1, g2, g3⟩ := hR
  exact ⟨⟨by simp [go_sem, *], by simp [go_sem, *], by simp [go_sem, *], by simp [go_sem, *], by simp [go_sem, *], by simp [go_sem, *], by simp [go_sem, *], by simp [go_sem, *]⟩,
    ⟨by simp [go_sem, *], by simp [go_sem, *], by simp [go_sem, *], by simp [go_sem, *], by simp [go_sem, *], by simp [go_sem, *], by simp [go_sem, *], by simp [go_sem, *]⟩, (hB.setCell (p := ⟨w.heap.size + 1, 0, none⟩) (by simp) _).drew⟩

theorem C4.step1 {W w : World} {v a0 a1 a2 a3 : Int} (h : C4 W (w.heap.size + 1) a0 a1 a2 a3) (hR : C4 W w.heap.size 0 0 0 0) (hB : Below w.heap.size w W) :
    C4 ((W.setCell ⟨w.heap.size + 1, 1, none⟩ (.int .u64 v)).drew) (w.heap.size + 1) a0 v a2 a3 ∧ C4 ((W.setCell ⟨w.heap.size + 1, 1, none⟩ (.int .u64 v)).drew) w.heap.size 0 0 0 0 ∧ Below w.heap.size w ((W.setCell ⟨w.heap.size + 1, 1, none⟩ (.int .u64 v)).drew) := by
  obtain ⟨c0, c1, c2, c3, f0, f1, f2, f3⟩ := h
  obtain ⟨r0, r1, r2, r3, g0, g1, g2, g3⟩ := hR
  exact ⟨⟨by simp [go_sem, *], by simp [go_sem, *], by simp [go_sem, *], by simp [go_sem, *], by simp [go_sem, *], by simp [go_sem, *], by simp [go_sem, *], by simp [go_sem, *]⟩,
    ⟨by simp [go_sem, *], by simp [go_sem, *], by simp [go_sem, *], by simp [go_sem, *], by simp [go_sem, *], by simp [go_sem, *], by simp [go_sem, *], by simp [go_sem, *]⟩, (hB.setCell (p := ⟨w.heap.size + 1, 1, none⟩) (by simp) _).drew⟩

theorem C4.step2 {W w : World} {v a0 a1 a2 a3 : Int} (h : C4 W (w.heap.size + 1) a0 a1 a2 a3) (hR : C4 W w.heap.size 0 0 0 0) (hB : Below w.heap.size w W) :
    C4 ((W.setCell ⟨w.heap.size + 1, 2, none⟩ (.int .u64 v)).drew) (w.heap.size + 1) a0 a1 v a3 ∧ C4 ((W.setCell ⟨w.heap.size + 1, 2, none⟩ (.int .u64 v)).drew) w.heap.size 0 0 0 0 ∧ Below w.heap.size w ((W.setCell ⟨w.heap.size + 1, 2, none⟩ (.int .u64 v)).drew) := by
  obtain ⟨c0, c1, c2, c3, f0, f1, f2, f3⟩ := h
  obtain ⟨r0, r1, r2, r3, g0, g1, g2, g3⟩ := hR
  exact ⟨⟨by simp [go_sem, *], by simp [go_sem, *], by simp [go_sem, *], by simp [go_sem, *], by simp [go_sem, *], by simp [go_sem, *], by simp [go_sem, *], by simp [go_sem, *]⟩,
    ⟨by simp [go_sem, *], by simp [go_sem, *], by simp [go_sem, *], by simp [go_sem, *], by simp [go_sem, *], by simp [go_sem, *], by simp [go_sem, *], by simp [go_sem, *]⟩, (hB.setCell (p := ⟨w.heap.size + 1, 2, none⟩) (by simp) _).drew⟩

theorem C4.step3 {W w : World} {v a0 a1 a2 a3 : Int} (h : C4 W (w.heap.size + 1) a0 a1 a2 a3) (hR : C4 W w.heap.size 0 0 0 0) (hB : Below w.heap.size w W) :
    C4 ((W.setCell ⟨w.heap.size + 1, 3, none⟩ (.int .u64 v)).drew) (w.heap.size + 1) a0 a1 a2 v ∧ C4 ((W.setCell ⟨w.heap.size + 1, 3, none⟩ (.int .u64 v)).drew) w.heap.size 0 0 0 0 ∧ Below w.heap.size w ((W.setCell ⟨w.heap.size + 1, 3, none⟩ (.int .u64 v)).drew) := by
  obtain ⟨c0, c1, c2, c3, f0, f1, f2, f3⟩ := h
  obtain ⟨r0, r1, r2, r3, g0, g1, g2, g3⟩ := hR
  exact ⟨⟨by simp [go_sem, *], by simp [go_sem, *], by simp [go_sem, *], by simp [go_sem, *], by simp [go_sem, *], by simp [go_sem, *], by simp [go_sem, *], by simp [go_sem, *]⟩,
    ⟨by simp [go_sem, *], by simp [go_sem, *], by simp [go_sem, *], by simp [go_sem, *], by simp [go_sem, *], by simp [go_sem, *], by simp [go_sem, *], by simp [go_sem, *]⟩, (hB.setCell (p := ⟨w.heap.size + 1, 3, none⟩) (by simp) _).drew⟩

set_option maxRecDepth 100000 in
set_option maxHeartbeats 8000000 in
theorem unfixed_core (s : ByteArray) (w : World) (V0 V1 V2 V3 : Int) (hs : s.size = 32) (hst : ∀ (v : Int) (c : UInt8), bits BinOp.or IntKind.u64 (IntKind.u64.wrap (v * 256)) (IntKind.u64.wrap ↑c.toNat) = st8 v c) (hst0 : ∀ (c : UInt8), bits BinOp.or IntKind.u64 0 (IntKind.u64.wrap ↑c.toNat) = st8 0 c)
    (h0 : Hid ((st8 (st8 (st8 (st8 (st8 (st8 (st8 (st8 0 (s[24]'(by omega))) (s[25]'(by omega))) (s[26]'(by omega))) (s[27]'(by omega))) (s[28]'(by omega))) (s[29]'(by omega))) (s[30]'(by omega))) (s[31]'(by omega))) = V0)) (h1 : Hid ((st8 (st8 (st8 (st8 (st8 (st8 (st8 (st8 0 (s[16]'(by omega))) (s[17]'(by omega))) (s[18]'(by omega))) (s[19]'(by omega))) (s[20]'(by omega))) (s[21]'(by omega))) (s[22]'(by omega))) (s[23]'(by omega))) = V1)) (h2 : Hid ((st8 (st8 (st8 (st8 (st8 (st8 (st8 (st8 0 (s[8]'(by omega))) (s[9]'(by omega))) (s[10]'(by omega))) (s[11]'(by omega))) (s[12]'(by omega))) (s[13]'(by omega))) (s[14]'(by omega))) (s[15]'(by omega))) = V2)) (h3 : Hid ((st8 (st8 (st8 (st8 (st8 (st8 (st8 (st8 0 (s[0]'(by omega))) (s[1]'(by omega))) (s[2]'(by omega))) (s[3]'(by omega))) (s[4]'(by omega))) (s[5]'(by omega))) (s[6]'(by omega))) (s[7]'(by omega))) = V3)) :
    Calls Tryz.prog 251 #[.string s] w fun e w' => e = .returned (.tuple #[wd V0 V1 V2 V3, .int .i64 0]) ∧ Below w.heap.size w w' := by
  go_enter Tryz.func251, Tryz.ntmps251
  go_wp2_with fail
  go_loopw [11] (fun i wr => (i = .int .i64 0 ∧ C4 wr (w.heap.size + 1) 0 0 0 0 ∧ C4 wr w.heap.size 0 0 0 0 ∧ Below w.heap.size w wr) ∨ (i = .int .i64 1 ∧ C4 wr (w.heap.size + 1) V0 0 0 0 ∧ C4 wr w.heap.size 0 0 0 0 ∧ Below w.heap.size w wr) ∨ (i = .int .i64 2 ∧ C4 wr (w.heap.size + 1) V0 V1 0 0 ∧ C4 wr w.heap.size 0 0 0 0 ∧ Below w.heap.size w wr) ∨ (i = .int .i64 3 ∧ C4 wr (w.heap.size + 1) V0 V1 V2 0 ∧ C4 wr w.heap.size 0 0 0 0 ∧ Below w.heap.size w wr) ∨ (i = .int .i64 4 ∧ C4 wr (w.heap.size + 1) V0 V1 V2 V3 ∧ C4 wr w.heap.size 0 0 0 0 ∧ Below w.heap.size w wr)) (fun i _ => 4 - (intOf i).toNat)
  case atStart =>
    refine .inl ⟨rfl, ⟨?_, ?_, ?_, ?_, ?_, ?_, ?_, ?_⟩, ⟨?_, ?_, ?_, ?_, ?_, ?_, ?_, ?_⟩, ?_⟩
    all_goals first | (simp [go_sem]; done) | (repeat (first | exact Below.refl _ _ | refine Below.drew ?_ | refine Below.alloc ?_ (by first | omega | (simp; omega) | simp) _ | refine Below.setCell ?_ (by first | omega | (simp; omega) | simp) _))
  case round =>
    rcases hrel with ⟨rfl, ⟨c0, c1, c2, c3, f0, f1, f2, f3⟩, hR, hB⟩ | ⟨rfl, ⟨c0, c1, c2, c3, f0, f1, f2, f3⟩, hR, hB⟩ | ⟨rfl, ⟨c0, c1, c2, c3, f0, f1, f2, f3⟩, hR, hB⟩ | ⟨rfl, ⟨c0, c1, c2, c3, f0, f1, f2, f3⟩, hR, hB⟩ | ⟨rfl, ⟨c0, c1, c2, c3, f0, f1, f2, f3⟩, ⟨r0, r1, r2, r3, g0, g1, g2, g3⟩, hB⟩
    · go_wp2_with fail
      refine wp_loop_rounds 9 ?_
      rw [rounds_succ]
      go_wp2_with fail
      go_region
      generalize hv : st8 0 (s[24]'(by omega)) = v1
      have H1 := Lib.hid hv
      obtain ⟨C, R, B⟩ := C4.step0 (v := v1) ⟨c0, c1, c2, c3, f0, f1, f2, f3⟩ hR hB
      clear hv c0 c1 c2 c3 f0 f1 f2 f3 hR hB
      generalize ((wr.setCell ⟨w.heap.size + 1, 0, none⟩ (.int .u64 v1)).drew) = wr at C R B ⊢
      obtain ⟨c0, c1, c2, c3, f0, f1, f2, f3⟩ := C
      have hR := R
      have hB := B
      clear R B
      go_wp2_with fail
      rw [rounds_succ]
      go_wp2_with fail
      go_region
      generalize hv : st8 v1 (s[25]'(by omega)) = v2
      have H2 := Lib.hid hv
      obtain ⟨C, R, B⟩ := C4.step0 (v := v2) ⟨c0, c1, c2, c3, f0, f1, f2, f3⟩ hR hB
      clear hv c0 c1 c2 c3 f0 f1 f2 f3 hR hB
      generalize ((wr.setCell ⟨w.heap.size + 1, 0, none⟩ (.int .u64 v2)).drew) = wr at C R B ⊢
      obtain ⟨c0, c1, c2, c3, f0, f1, f2, f3⟩ := C
      have hR := R
      have hB := B
      clear R B
      go_wp2_with fail
      rw [rounds_succ]
      go_wp2_with fail
      go_region
      generalize hv : st8 v2 (s[26]'(by omega)) = v3
      have H3 := Lib.hid hv
      obtain ⟨C, R, B⟩ := C4.step0 (v := v3) ⟨c0, c1, c2, c3, f0, f1, f2, f3⟩ hR hB
      clear hv c0 c1 c2 c3 f0 f1 f2 f3 hR hB
      generalize ((wr.setCell ⟨w.heap.size + 1, 0, none⟩ (.int .u64 v3)).drew) = wr at C R B ⊢
      obtain ⟨c0, c1, c2, c3, f0, f1, f2, f3⟩ := C
      have hR := R
      have hB := B
      clear R B
      go_wp2_with fail
      rw [rounds_succ]
      go_wp2_with fail
      go_region
      generalize hv : st8 v3 (s[27]'(by omega)) = v4
      have H4 := Lib.hid hv
      obtain ⟨C, R, B⟩ := C4.step0 (v := v4) ⟨c0, c1, c2, c3, f0, f1, f2, f3⟩ hR hB
      clear hv c0 c1 c2 c3 f0 f1 f2 f3 hR hB
      generalize ((wr.setCell ⟨w.heap.size + 1, 0, none⟩ (.int .u64 v4)).drew) = wr at C R B ⊢
      obtain ⟨c0, c1, c2, c3, f0, f1, f2, f3⟩ := C
      have hR := R
      have hB := B
      clear R B
      go_wp2_with fail
      rw [rounds_succ]
      go_wp2_with fail
      go_region
      generalize hv : st8 v4 (s[28]'(by omega)) = v5
      have H5 := Lib.hid hv
      obtain ⟨C, R, B⟩ := C4.step0 (v := v5) ⟨c0, c1, c2, c3, f0, f1, f2, f3⟩ hR hB
      clear hv c0 c1 c2 c3 f0 f1 f2 f3 hR hB
      generalize ((wr.setCell ⟨w.heap.size + 1, 0, none⟩ (.int .u64 v5)).drew) = wr at C R B ⊢
      obtain ⟨c0, c1, c2, c3, f0, f1, f2, f3⟩ := C
      have hR := R
      have hB := B
      clear R B
      go_wp2_with fail
      rw [rounds_succ]
      go_wp2_with fail
      go_region
      generalize hv : st8 v5 (s[29]'(by omega)) = v6
      have H6 := Lib.hid hv
      obtain ⟨C, R, B⟩ := C4.step0 (v := v6) ⟨c0, c1, c2, c3, f0, f1, f2, f3⟩ hR hB
      clear hv c0 c1 c2 c3 f0 f1 f2 f3 hR hB
      generalize ((wr.setCell ⟨w.heap.size + 1, 0, none⟩ (.int .u64 v6)).drew) = wr at C R B ⊢
      obtain ⟨c0, c1, c2, c3, f0, f1, f2, f3⟩ := C
      have hR := R
      have hB := B
      clear R B
      go_wp2_with fail
      rw [rounds_succ]
      go_wp2_with fail
      go_region
      generalize hv : st8 v6 (s[30]'(by omega)) = v7
      have H7 := Lib.hid hv
      obtain ⟨C, R, B⟩ := C4.step0 (v := v7) ⟨c0, c1, c2, c3, f0, f1, f2, f3⟩ hR hB
      clear hv c0 c1 c2 c3 f0 f1 f2 f3 hR hB
      generalize ((wr.setCell ⟨w.heap.size + 1, 0, none⟩ (.int .u64 v7)).drew) = wr at C R B ⊢
      obtain ⟨c0, c1, c2, c3, f0, f1, f2, f3⟩ := C
      have hR := R
      have hB := B
      clear R B
      go_wp2_with fail
      rw [rounds_succ]
      go_wp2_with fail
      go_region
      generalize hv : st8 v7 (s[31]'(by omega)) = v8
      have H8 := Lib.hid hv
      obtain ⟨C, R, B⟩ := C4.step0 (v := v8) ⟨c0, c1, c2, c3, f0, f1, f2, f3⟩ hR hB
      clear hv c0 c1 c2 c3 f0 f1 f2 f3 hR hB
      generalize ((wr.setCell ⟨w.heap.size + 1, 0, none⟩ (.int .u64 v8)).drew) = wr at C R B ⊢
      obtain ⟨c0, c1, c2, c3, f0, f1, f2, f3⟩ := C
      have hR := R
      have hB := B
      clear R B
      go_wp2_with fail
      rw [rounds_succ]
      go_wp2_with fail
      go_roundw
      case rel =>
        have e : v8 = V0 := by rw [← h0.out, H1.out, H2.out, H3.out, H4.out, H5.out, H6.out, H7.out, H8.out]
        rw [e] at c0
        exact .inr (.inl ⟨rfl, ⟨c0, c1, c2, c3, f0, f1, f2, f3⟩, hR, hB⟩)
      case measure => simp [intOf]
    · go_wp2_with fail
      refine wp_loop_rounds 9 ?_
      rw [rounds_succ]
      go_wp2_with fail
      go_region
      generalize hv : st8 0 (s[16]'(by omega)) = v1
      have H1 := Lib.hid hv
      obtain ⟨C, R, B⟩ := C4.step1 (v := v1) ⟨c0, c1, c2, c3, f0, f1, f2, f3⟩ hR hB
      clear hv c0 c1 c2 c3 f0 f1 f2 f3 hR hB
      generalize ((wr.setCell ⟨w.heap.size + 1, 1, none⟩ (.int .u64 v1)).drew) = wr at C R B ⊢
      obtain ⟨c0, c1, c2, c3, f0, f1, f2, f3⟩ := C
      have hR := R
      have hB := B
      clear R B
      go_wp2_with fail
      rw [rounds_succ]
      go_wp2_with fail
      go_region
      generalize hv : st8 v1 (s[17]'(by omega)) = v2
      have H2 := Lib.hid hv
      obtain ⟨C, R, B⟩ := C4.step1 (v := v2) ⟨c0, c1, c2, c3, f0, f1, f2, f3⟩ hR hB
      clear hv c0 c1 c2 c3 f0 f1 f2 f3 hR hB
      generalize ((wr.setCell ⟨w.heap.size + 1, 1, none⟩ (.int .u64 v2)).drew) = wr at C R B ⊢
      obtain ⟨c0, c1, c2, c3, f0, f1, f2, f3⟩ := C
      have hR := R
      have hB := B
      clear R B
      go_wp2_with fail
      rw [rounds_succ]
      go_wp2_with fail
      go_region
      generalize hv : st8 v2 (s[18]'(by omega)) = v3
      have H3 := Lib.hid hv
      obtain ⟨C, R, B⟩ := C4.step1 (v := v3) ⟨c0, c1, c2, c3, f0, f1, f2, f3⟩ hR hB
      clear hv c0 c1 c2 c3 f0 f1 f2 f3 hR hB
      generalize ((wr.setCell ⟨w.heap.size + 1, 1, none⟩ (.int .u64 v3)).drew) = wr at C R B ⊢
      obtain ⟨c0, c1, c2, c3, f0, f1, f2, f3⟩ := C
      have hR := R
      have hB := B
      clear R B
      go_wp2_with fail
      rw [rounds_succ]
      go_wp2_with fail
      go_region
      generalize hv : st8 v3 (s[19]'(by omega)) = v4
      have H4 := Lib.hid hv
      obtain ⟨C, R, B⟩ := C4.step1 (v := v4) ⟨c0, c1, c2, c3, f0, f1, f2, f3⟩ hR hB
      clear hv c0 c1 c2 c3 f0 f1 f2 f3 hR hB
      generalize ((wr.setCell ⟨w.heap.size + 1, 1, none⟩ (.int .u64 v4)).drew) = wr at C R B ⊢
      obtain ⟨c0, c1, c2, c3, f0, f1, f2, f3⟩ := C
      have hR := R
      have hB := B
      clear R B
      go_wp2_with fail
      rw [rounds_succ]
      go_wp2_with fail
      go_region
      generalize hv : st8 v4 (s[20]'(by omega)) = v5
      have H5 := Lib.hid hv
      obtain ⟨C, R, B⟩ := C4.step1 (v := v5) ⟨c0, c1, c2, c3, f0, f1, f2, f3⟩ hR hB
      clear hv c0 c1 c2 c3 f0 f1 f2 f3 hR hB
      generalize ((wr.setCell ⟨w.heap.size + 1, 1, none⟩ (.int .u64 v5)).drew) = wr at C R B ⊢
      obtain ⟨c0, c1, c2, c3, f0, f1, f2, f3⟩ := C
      have hR := R
      have hB := B
      clear R B
      go_wp2_with fail
      rw [rounds_succ]
      go_wp2_with fail
      go_region
      generalize hv : st8 v5 (s[21]'(by omega)) = v6
      have H6 := Lib.hid hv
      obtain ⟨C, R, B⟩ := C4.step1 (v := v6) ⟨c0, c1, c2, c3, f0, f1, f2, f3⟩ hR hB
      clear hv c0 c1 c2 c3 f0 f1 f2 f3 hR hB
      generalize ((wr.setCell ⟨w.heap.size + 1, 1, none⟩ (.int .u64 v6)).drew) = wr at C R B ⊢
      obtain ⟨c0, c1, c2, c3, f0, f1, f2, f3⟩ := C
      have hR := R
      have hB := B
      clear R B
      go_wp2_with fail
      rw [rounds_succ]
      go_wp2_with fail
      go_region
      generalize hv : st8 v6 (s[22]'(by omega)) = v7
      have H7 := Lib.hid hv
      obtain ⟨C, R, B⟩ := C4.step1 (v := v7) ⟨c0, c1, c2, c3, f0, f1, f2, f3⟩ hR hB
      clear hv c0 c1 c2 c3 f0 f1 f2 f3 hR hB
      generalize ((wr.setCell ⟨w.heap.size + 1, 1, none⟩ (.int .u64 v7)).drew) = wr at C R B ⊢
      obtain ⟨c0, c1, c2, c3, f0, f1, f2, f3⟩ := C
      have hR := R
      have hB := B
      clear R B
      go_wp2_with fail
      rw [rounds_succ]
      go_wp2_with fail
      go_region
      generalize hv : st8 v7 (s[23]'(by omega)) = v8
      have H8 := Lib.hid hv
      obtain ⟨C, R, B⟩ := C4.step1 (v := v8) ⟨c0, c1, c2, c3, f0, f1, f2, f3⟩ hR hB
      clear hv c0 c1 c2 c3 f0 f1 f2 f3 hR hB
      generalize ((wr.setCell ⟨w.heap.size + 1, 1, none⟩ (.int .u64 v8)).drew) = wr at C R B ⊢
      obtain ⟨c0, c1, c2, c3, f0, f1, f2, f3⟩ := C
      have hR := R
      have hB := B
      clear R B
      go_wp2_with fail
      rw [rounds_succ]
      go_wp2_with fail
      go_roundw
      case rel =>
        have e : v8 = V1 := by rw [← h1.out, H1.out, H2.out, H3.out, H4.out, H5.out, H6.out, H7.out, H8.out]
        rw [e] at c1
        exact .inr (.inr (.inl ⟨rfl, ⟨c0, c1, c2, c3, f0, f1, f2, f3⟩, hR, hB⟩))
      case measure => simp [intOf]
    · go_wp2_with fail
      refine wp_loop_rounds 9 ?_
      rw [rounds_succ]
      go_wp2_with fail
      go_region
      generalize hv : st8 0 (s[8]'(by omega)) = v1
      have H1 := Lib.hid hv
      obtain ⟨C, R, B⟩ := C4.step2 (v := v1) ⟨c0, c1, c2, c3, f0, f1, f2, f3⟩ hR hB
      clear hv c0 c1 c2 c3 f0 f1 f2 f3 hR hB
      generalize ((wr.setCell ⟨w.heap.size + 1, 2, none⟩ (.int .u64 v1)).drew) = wr at C R B ⊢
      obtain ⟨c0, c1, c2, c3, f0, f1, f2, f3⟩ := C
      have hR := R
      have hB := B
      clear R B
      go_wp2_with fail
      rw [rounds_succ]
      go_wp2_with fail
      go_region
      generalize hv : st8 v1 (s[9]'(by omega)) = v2
      have H2 := Lib.hid hv
      obtain ⟨C, R, B⟩ := C4.step2 (v := v2) ⟨c0, c1, c2, c3, f0, f1, f2, f3⟩ hR hB
      clear hv c0 c1 c2 c3 f0 f1 f2 f3 hR hB
      generalize ((wr.setCell ⟨w.heap.size + 1, 2, none⟩ (.int .u64 v2)).drew) = wr at C R B ⊢
      obtain ⟨c0, c1, c2, c3, f0, f1, f2, f3⟩ := C
      have hR := R
      have hB := B
      clear R B
      go_wp2_with fail
      rw [rounds_succ]
      go_wp2_with fail
      go_region
      generalize hv : st8 v2 (s[10]'(by omega)) = v3
      have H3 := Lib.hid hv
      obtain ⟨C, R, B⟩ := C4.step2 (v := v3) ⟨c0, c1, c2, c3, f0, f1, f2, f3⟩ hR hB
      clear hv c0 c1 c2 c3 f0 f1 f2 f3 hR hB
      generalize ((wr.setCell ⟨w.heap.size + 1, 2, none⟩ (.int .u64 v3)).drew) = wr at C R B ⊢
      obtain ⟨c0, c1, c2, c3, f0, f1, f2, f3⟩ := C
      have hR := R
      have hB := B
      clear R B
      go_wp2_with fail
      rw [rounds_succ]
      go_wp2_with fail
      go_region
      generalize hv : st8 v3 (s[11]'(by omega)) = v4
      have H4 := Lib.hid hv
      obtain ⟨C, R, B⟩ := C4.step2 (v := v4) ⟨c0, c1, c2, c3, f0, f1, f2, f3⟩ hR hB
      clear hv c0 c1 c2 c3 f0 f1 f2 f3 hR hB
      generalize ((wr.setCell ⟨w.heap.size + 1, 2, none⟩ (.int .u64 v4)).drew) = wr at C R B ⊢
      obtain ⟨c0, c1, c2, c3, f0, f1, f2, f3⟩ := C
      have hR := R
      have hB := B
      clear R B
      go_wp2_with fail
      rw [rounds_succ]
      go_wp2_with fail
      go_region
      generalize hv : st8 v4 (s[12]'(by omega)) = v5
      have H5 := Lib.hid hv
      obtain ⟨C, R, B⟩ := C4.step2 (v := v5) ⟨c0, c1, c2, c3, f0, f1, f2, f3⟩ hR hB
      clear hv c0 c1 c2 c3 f0 f1 f2 f3 hR hB
      generalize ((wr.setCell ⟨w.heap.size + 1, 2, none⟩ (.int .u64 v5)).drew) = wr at C R B ⊢
      obtain ⟨c0, c1, c2, c3, f0, f1, f2, f3⟩ := C
      have hR := R
      have hB := B
      clear R B
      go_wp2_with fail
      rw [rounds_succ]
      go_wp2_with fail
      go_region
      generalize hv : st8 v5 (s[13]'(by omega)) = v6
      have H6 := Lib.hid hv
      obtain ⟨C, R, B⟩ := C4.step2 (v := v6) ⟨c0, c1, c2, c3, f0, f1, f2, f3⟩ hR hB
      clear hv c0 c1 c2 c3 f0 f1 f2 f3 hR hB
      generalize ((wr.setCell ⟨w.heap.size + 1, 2, none⟩ (.int .u64 v6)).drew) = wr at C R B ⊢
      obtain ⟨c0, c1, c2, c3, f0, f1, f2, f3⟩ := C
      have hR := R
      have hB := B
      clear R B
      go_wp2_with fail
      rw [rounds_succ]
      go_wp2_with fail
      go_region
      generalize hv : st8 v6 (s[14]'(by omega)) = v7
      have H7 := Lib.hid hv
      obtain ⟨C, R, B⟩ := C4.step2 (v := v7) ⟨c0, c1, c2, c3, f0, f1, f2, f3⟩ hR hB
      clear hv c0 c1 c2 c3 f0 f1 f2 f3 hR hB
      generalize ((wr.setCell ⟨w.heap.size + 1, 2, none⟩ (.int .u64 v7)).drew) = wr at C R B ⊢
      obtain ⟨c0, c1, c2, c3, f0, f1, f2, f3⟩ := C
      have hR := R
      have hB := B
      clear R B
      go_wp2_with fail
      rw [rounds_succ]
      go_wp2_with fail
      go_region
      generalize hv : st8 v7 (s[15]'(by omega)) = v8
      have H8 := Lib.hid hv
      obtain ⟨C, R, B⟩ := C4.step2 (v := v8) ⟨c0, c1, c2, c3, f0, f1, f2, f3⟩ hR hB
      clear hv c0 c1 c2 c3 f0 f1 f2 f3 hR hB
      generalize ((wr.setCell ⟨w.heap.size + 1, 2, none⟩ (.int .u64 v8)).drew) = wr at C R B ⊢
      obtain ⟨c0, c1, c2, c3, f0, f1, f2, f3⟩ := C
      have hR := R
      have hB := B
      clear R B
      go_wp2_with fail
      rw [rounds_succ]
      go_wp2_with fail
      go_roundw
      case rel =>
        have e : v8 = V2 := by rw [← h2.out, H1.out, H2.out, H3.out, H4.out, H5.out, H6.out, H7.out, H8.out]
        rw [e] at c2
        exact .inr (.inr (.inr (.inl ⟨rfl, ⟨c0, c1, c2, c3, f0, f1, f2, f3⟩, hR, hB⟩)))
      case measure => simp [intOf]
    · go_wp2_with fail
      refine wp_loop_rounds 9 ?_
      rw [rounds_succ]
      go_wp2_with fail
      go_region
      generalize hv : st8 0 (s[0]'(by omega)) = v1
      have H1 := Lib.hid hv
      obtain ⟨C, R, B⟩ := C4.step3 (v := v1) ⟨c0, c1, c2, c3, f0, f1, f2, f3⟩ hR hB
      clear hv c0 c1 c2 c3 f0 f1 f2 f3 hR hB
      generalize ((wr.setCell ⟨w.heap.size + 1, 3, none⟩ (.int .u64 v1)).drew) = wr at C R B ⊢
      obtain ⟨c0, c1, c2, c3, f0, f1, f2, f3⟩ := C
      have hR := R
      have hB := B
      clear R B
      go_wp2_with fail
      rw [rounds_succ]
      go_wp2_with fail
      go_region
      generalize hv : st8 v1 (s[1]'(by omega)) = v2
      have H2 := Lib.hid hv
      obtain ⟨C, R, B⟩ := C4.step3 (v := v2) ⟨c0, c1, c2, c3, f0, f1, f2, f3⟩ hR hB
      clear hv c0 c1 c2 c3 f0 f1 f2 f3 hR hB
      generalize ((wr.setCell ⟨w.heap.size + 1, 3, none⟩ (.int .u64 v2)).drew) = wr at C R B ⊢
      obtain ⟨c0, c1, c2, c3, f0, f1, f2, f3⟩ := C
      have hR := R
      have hB := B
      clear R B
      go_wp2_with fail
      rw [rounds_succ]
      go_wp2_with fail
      go_region
      generalize hv : st8 v2 (s[2]'(by omega)) = v3
      have H3 := Lib.hid hv
      obtain ⟨C, R, B⟩ := C4.step3 (v := v3) ⟨c0, c1, c2, c3, f0, f1, f2, f3⟩ hR hB
      clear hv c0 c1 c2 c3 f0 f1 f2 f3 hR hB
      generalize ((wr.setCell ⟨w.heap.size + 1, 3, none⟩ (.int .u64 v3)).drew) = wr at C R B ⊢
      obtain ⟨c0, c1, c2, c3, f0, f1, f2, f3⟩ := C
      have hR := R
      have hB := B
      clear R B
      go_wp2_with fail
      rw [rounds_succ]
      go_wp2_with fail
      go_region
      generalize hv : st8 v3 (s[3]'(by omega)) = v4
      have H4 := Lib.hid hv
      obtain ⟨C, R, B⟩ := C4.step3 (v := v4) ⟨c0, c1, c2, c3, f0, f1, f2, f3⟩ hR hB
      clear hv c0 c1 c2 c3 f0 f1 f2 f3 hR hB
      generalize ((wr.setCell ⟨w.heap.size + 1, 3, none⟩ (.int .u64 v4)).drew) = wr at C R B ⊢
      obtain ⟨c0, c1, c2, c3, f0, f1, f2, f3⟩ := C
      have hR := R
      have hB := B
      clear R B
      go_wp2_with fail
      rw [rounds_succ]
      go_wp2_with fail
      go_region
      generalize hv : st8 v4 (s[4]'(by omega)) = v5
      have H5 := Lib.hid hv
      obtain ⟨C, R, B⟩ := C4.step3 (v := v5) ⟨c0, c1, c2, c3, f0, f1, f2, f3⟩ hR hB
      clear hv c0 c1 c2 c3 f0 f1 f2 f3 hR hB
      generalize ((wr.setCell ⟨w.heap.size + 1, 3, none⟩ (.int .u64 v5)).drew) = wr at C R B ⊢
      obtain ⟨c0, c1, c2, c3, f0, f1, f2, f3⟩ := C
      have hR := R
      have hB := B
      clear R B
      go_wp2_with fail
      rw [rounds_succ]
      go_wp2_with fail
      go_region
      generalize hv : st8 v5 (s[5]'(by omega)) = v6
      have H6 := Lib.hid hv
      obtain ⟨C, R, B⟩ := C4.step3 (v := v6) ⟨c0, c1, c2, c3, f0, f1, f2, f3⟩ hR hB
      clear hv c0 c1 c2 c3 f0 f1 f2 f3 hR hB
      generalize ((wr.setCell ⟨w.heap.size + 1, 3, none⟩ (.int .u64 v6)).drew) = wr at C R B ⊢
      obtain ⟨c0, c1, c2, c3, f0, f1, f2, f3⟩ := C
      have hR := R
      have hB := B
      clear R B
      go_wp2_with fail
      rw [rounds_succ]
      go_wp2_with fail
      go_region
      generalize hv : st8 v6 (s[6]'(by omega)) = v7
      have H7 := Lib.hid hv
      obtain ⟨C, R, B⟩ := C4.step3 (v := v7) ⟨c0, c1, c2, c3, f0, f1, f2, f3⟩ hR hB
      clear hv c0 c1 c2 c3 f0 f1 f2 f3 hR hB
      generalize ((wr.setCell ⟨w.heap.size + 1, 3, none⟩ (.int .u64 v7)).drew) = wr at C R B ⊢
      obtain ⟨c0, c1, c2, c3, f0, f1, f2, f3⟩ := C
      have hR := R
      have hB := B
      clear R B
      go_wp2_with fail
      rw [rounds_succ]
      go_wp2_with fail
      go_region
      generalize hv : st8 v7 (s[7]'(by omega)) = v8
      have H8 := Lib.hid hv
      obtain ⟨C, R, B⟩ := C4.step3 (v := v8) ⟨c0, c1, c2, c3, f0, f1, f2, f3⟩ hR hB
      clear hv c0 c1 c2 c3 f0 f1 f2 f3 hR hB
      generalize ((wr.setCell ⟨w.heap.size + 1, 3, none⟩ (.int .u64 v8)).drew) = wr at C R B ⊢
      obtain ⟨c0, c1, c2, c3, f0, f1, f2, f3⟩ := C
      have hR := R
      have hB := B
      clear R B
      go_wp2_with fail
      rw [rounds_succ]
      go_wp2_with fail
      go_roundw
      case rel =>
        have e : v8 = V3 := by rw [← h3.out, H1.out, H2.out, H3.out, H4.out, H5.out, H6.out, H7.out, H8.out]
        rw [e] at c3
        exact .inr (.inr (.inr (.inr (⟨rfl, ⟨c0, c1, c2, c3, f0, f1, f2, f3⟩, hR, hB⟩))))
      case measure => simp [intOf]
    · go_wp2_with fail
      refine bodyPost_ret (v := .tuple #[wd V0 V1 V2 V3, .int .i64 0]) (by simp [results, Tryz.results251, go_sem, r0, r1, r2, r3]) rfl ⟨rfl, ?_⟩
      refine Below.setCell (Below.setCell (Below.setCell (Below.setCell hB (by first | omega | (simp; omega) | simp) _) (by first | omega | (simp; omega) | simp) _) (by first | omega | (simp; omega) | simp) _) (by first | omega | (simp; omega) | simp) _

end Go.Proofs.YtebjhbeaknokkaaGreatDoor
