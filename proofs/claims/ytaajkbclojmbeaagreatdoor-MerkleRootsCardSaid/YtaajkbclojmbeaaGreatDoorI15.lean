/- The landed package ssz: bytesOf, by kinds. Rows of numbers as blocks of memory: an array by value, loaded and stored whole. A range over a function whose body never leaves, where the assignment makes memory; regions that draw their order, within a round. keccak.at, the library's rotation, keccak.eachLane and what its function tells. The reference's rot, bit and number. The reference's mix and turn. The reference's turn. A range over the lanes of a state; the tables; keccak.moveLanes. The reference's move: lanes to other places. keccak.moveLanes. -/
import Derived.Test.YtaajkbclojmbeaaGreatDoorI14
import Derived.Great.BuildSlice
import Derived.Test.YtaajkbclojmbeaaGreatDoorProg
import Derived.Test.YtaajkbclojmbeaaGreatDoorI01
import Derived.WalkKit
import Derived.Below
import Derived.Laws.Externs
import Derived.Laws.ResultCell
import Derived.Deep.QuietTactic
import Derived.BigQuiet
import Derived.RegionTactic
import Derived.BigRegion
import Derived.LoopTactic
import Derived.LoopN
import Derived.Lib.Hide
import Derived.Deep.WholeRow
import Derived.Laws.Bits64
import Derived.Laws.Bits64b
import Derived.Laws.CopyOwn
import Derived.IntWalk
import Derived.RangeFuncNested
import Derived.TacticsInMore
import Derived.OwnWalkIn
import Derived.Test.YtaajkbclojmbeaaGreatDoorI03
import Derived.RangeFuncBound
import Derived.RangeFuncCalls
import Derived.RangeFuncLeaves
import Derived.Shelf.Abstract
import Derived.Shelf.RegionOpen
import Derived.LoopNIn
import Derived.LoopIn
import Derived.StillTailTactics
import Derived.OrdersIn
namespace Go.Proofs.YtaajkbclojmbeaaGreatDoor
open Go Go.RowKit Go.Lib
attribute [local go_sem] Oper.semAt_some

/-- What bytesOf must do. -/
def BytP (w : World) (l : List UInt8) (e : Ending) (w' : World) : Prop := ((∃ u, e = .returned u ∧ SrB w.heap.size l u w') ∨ (e = pan 5 ∧ 65536 < l.length)) ∧ Below w.heap.size w w'
theorem BytP.of {w w0 w' : World} {l : List UInt8} {e : Ending} (hb : Below w.heap.size w w0) (h : BytP w0 l e w') : BytP w l e w' := by
  obtain ⟨h1, h2⟩ := h
  refine ⟨?_, hb.trans (h2.mono hb.size)⟩
  rcases h1 with ⟨u, rfl, h⟩ | h
  · exact .inl ⟨u, rfl, h.mono hb.size⟩
  · exact .inr h
theorem two_boxesV (w : World) (k n : Int) (a : Value) (N : Nat) (x y : Value) (p : Int) :
    Below w.heap.size w ((w.alloc (.cells #[.int .i64 k, .int .i64 n, a] 32)).alloc (.cells #[.int .u64 (M.pt 0 N), .int .u64 (M.pt 1 N), .int .u64 (M.pt 2 N), .int .u64 (M.pt 3 N), x, y, .int .i64 p] 38)) :=
  ((Below.refl _ _).alloc (Nat.le_refl _) _).alloc (by simp) _
theorem fill_one {x z : Value} {n : Nat} (hn : n = 1) (hz : z.cells = #[z]) (hx : x.cells = #[x]) : Instr.fill (fun i => some (i * n, n)) ((Array.range (1 * n)).map (z.cells[· % z.cells.size]!)) [(0, x)] = some #[x] := by
  subst hn
  rw [show Array.range (1 * 1) = #[0] from rfl]
  simp [Instr.fill, hx, hz]
/-- A slice literal of one value. -/
theorem wp_build_one {P : Program} {o : Oper} {a : Act} {w : World} {K : Act → World → Prop} {Q : Exit → Act → World → Prop} (t e : TypeId) (x : Operand) (v z : Value) (i0 : TypeInfo) (ho : o.op = .buildSlice t 1 #[(0, x)]) (hx : a.eval x = v) (hv : v.cells = #[v])
    (hu : P.underlying t = some (.slice e)) (hi : P.info? e = some i0) (hz0 : i0.zero = some z) (hz1 : i0.size = 1) (hzc : z.cells = #[z])
    (h : K (a.put o.dst (.slice (some ⟨w.heap.size, 0, none⟩) 1 1)) (w.alloc (.cells #[v] e))) : o.wp P a w K Q := by
  refine wp_buildSlice t e 1 _ ho #[v] i0 z hu hi hz0 (by rw [hz1]; decide) (by rw [hz1]; decide) ?_ h
  have := fill_one (z := z) hz1 hzc hv
  simpa [hx] using this
theorem own_new (w : World) (B : Nat) (c : UInt8) (hB : B ≤ w.heap.size) : Ow B [c] (.slice (some ⟨w.heap.size, 0, none⟩) 1 1) (w.alloc (.cells #[.int .u8 (c.toNat : Int)] 5)) :=
  ⟨by simp [bc], .inr ⟨w.heap.size, 1, _, rfl, hB, World.alloc_heap_new _ _, by simp, by decide, by rfl, by rfl⟩⟩
theorem Tryz.ofBool : (Tryz.prog.info? 4).map (fun i => (i.zero, i.size, i.bytes)) = some (some (.bool false), 1, 1) := by kernel_rfl
set_option maxRecDepth 100000 in
set_option maxHeartbeats 4000000 in
theorem byt_1 (n : Int) (ts : List M.Ty) (a : Option Addr) (cap : Nat) (N : Nat) (bs : List Bool) (us : List M.Va) (p : Int) (ab : Option Addr) (cb : Nat) (au : Option Addr) (cu : Nat) (w : World) (hL : LayT w w.heap.size ts (.slice a ts.length cap)) (hV : Vl w w.heap.size N bs us ab cb au cu)
    (hc : ∃ d, M.chkT d (.mk 1 n ts) = 0) (hf : M.fitV (.mk 1 n ts) (.mk N bs us p) = 0) (h1 : M.cntT (.mk 1 n ts) ≤ 1000) (_h2 : M.cntV (.mk N bs us p) ≤ 6000) :
    Calls Tryz.prog 166 #[tv 1 n (.slice a ts.length cap), vv N (.slice ab bs.length cb) (.slice au us.length cu) p] w (BytP w (M.putV (.mk 1 n ts) (.mk N bs us p))) := by
  obtain ⟨d, hc⟩ := hc
  obtain ⟨m, rfl, hm⟩ : ∃ m : Nat, n = (m : Int) ∧ m ≤ 32 := by
    have h2 := (M.chkT_ok.1 hc).2.1
    unfold M.formT at h2
    simp at h2
    exact ⟨n.toNat, by omega, by omega⟩
  obtain ⟨w0, hw0⟩ : ∃ w0, (w.alloc (.cells #[.int .i64 1, .int .i64 (m : Int), .slice a ts.length cap] 32)).alloc (.cells #[.int .u64 (M.pt 0 N), .int .u64 (M.pt 1 N), .int .u64 (M.pt 2 N), .int .u64 (M.pt 3 N), .slice ab bs.length cb, .slice au us.length cu, .int .i64 p] 38) = w0 := ⟨_, rfl⟩
  have hb0 : Below w.heap.size w w0 := by rw [← hw0]; exact two_boxesV _ _ _ _ _ _ _ _
  have hz0 : w0.heap.size = w.heap.size + 2 := by rw [← hw0]; simp
  have hB0 : BoxT w0 w.heap.size 1 m (.slice a ts.length cap) := by rw [← hw0]; exact ⟨by simp [go_sem], by simp [go_sem], by simp [go_sem]⟩
  have hA0 : Cells7 w0 (w.heap.size + 1) 0 N (.slice ab bs.length cb) (.slice au us.length cu) p := by
    rw [← hw0]
    have := Cells7.new (w.alloc (.cells #[.int .i64 1, .int .i64 (m : Int), .slice a ts.length cap] 32)) N (.slice ab bs.length cb) (.slice au us.length cu) p 38
    rwa [World.size_alloc] at this
  have HW := Lib.hid hw0
  have HV0 := Lib.hid ((hV.from_ hb0).mono hb0.size)
  have HT0 := Lib.hid ((hL.from_ hb0).mono hb0.size)
  have HL := Lib.hid (lowest_any N m hV.hN hm w0)
  have HE : M.putV (.mk 1 (m : Int) ts) (.mk N bs us p) = M.le m N := by rw [M.putV]; simp [M.Ty.k, M.Ty.n]
  rw [HE]
  have t0 := hB0.c0
  have t1 := hB0.c1
  have t2 := hB0.c2
  have a0 := hA0.c0
  have a1 := hA0.c1
  have a2 := hA0.c2
  have a3 := hA0.c3
  have a4 := hA0.c4
  have a5 := hA0.c5
  have a6 := hA0.c6
  simp only [Nat.zero_add] at a1 a2 a3 a4 a5 a6
  rw [← HW.out] at t0 t1 t2 a0 a1 a2 a3 a4 a5 a6
  clear hw0 hf hc HE
  go_enter Tryz.func166, Tryz.ntmps166
  go_wp2_with fail
  rw [HW.out]
  refine HL.out.mono ?_
  rintro e w1 ⟨⟨u, rfl, hU⟩, hb1⟩
  go_wp2_with fail
  go_ret
  exact ⟨.inl ⟨u, rfl, hU.mono hb0.size⟩, hb0.trans (Below.mono hb1 hb0.size)⟩
set_option maxRecDepth 100000 in
set_option maxHeartbeats 4000000 in
theorem byt_2 (n : Int) (ts : List M.Ty) (a : Option Addr) (cap : Nat) (N : Nat) (bs : List Bool) (us : List M.Va) (p : Int) (ab : Option Addr) (cb : Nat) (au : Option Addr) (cu : Nat) (w : World) (hL : LayT w w.heap.size ts (.slice a ts.length cap)) (hV : Vl w w.heap.size N bs us ab cb au cu)
    (hc : ∃ d, M.chkT d (.mk 2 n ts) = 0) (_hf : M.fitV (.mk 2 n ts) (.mk N bs us p) = 0) (_h1 : M.cntT (.mk 2 n ts) ≤ 1000) (_h2 : M.cntV (.mk N bs us p) ≤ 6000) :
    Calls Tryz.prog 166 #[tv 2 n (.slice a ts.length cap), vv N (.slice ab bs.length cb) (.slice au us.length cu) p] w (BytP w (M.putV (.mk 2 n ts) (.mk N bs us p))) := by
  obtain ⟨w0, hw0⟩ : ∃ w0, (w.alloc (.cells #[.int .i64 2, .int .i64 n, .slice a ts.length cap] 32)).alloc (.cells #[.int .u64 (M.pt 0 N), .int .u64 (M.pt 1 N), .int .u64 (M.pt 2 N), .int .u64 (M.pt 3 N), .slice ab bs.length cb, .slice au us.length cu, .int .i64 p] 38) = w0 := ⟨_, rfl⟩
  have hb0 : Below w.heap.size w w0 := by rw [← hw0]; exact two_boxesV _ _ _ _ _ _ _ _
  have hz0 : w0.heap.size = w.heap.size + 2 := by rw [← hw0]; simp
  have hB0 : BoxT w0 w.heap.size 2 n (.slice a ts.length cap) := by rw [← hw0]; exact ⟨by simp [go_sem], by simp [go_sem], by simp [go_sem]⟩
  have hA0 : Cells7 w0 (w.heap.size + 1) 0 N (.slice ab bs.length cb) (.slice au us.length cu) p := by
    rw [← hw0]
    have := Cells7.new (w.alloc (.cells #[.int .i64 2, .int .i64 n, .slice a ts.length cap] 32)) N (.slice ab bs.length cb) (.slice au us.length cu) p 38
    rwa [World.size_alloc] at this
  have HW := Lib.hid hw0
  have HV0 := Lib.hid ((hV.from_ hb0).mono hb0.size)
  have HT0 := Lib.hid ((hL.from_ hb0).mono hb0.size)
  have HL := Lib.hid (lowest_any N 1 hV.hN (by omega) w0)
  have HE : M.putV (.mk 2 n ts) (.mk N bs us p) = M.le 1 N := by rw [M.putV]; simp [M.Ty.k]
  rw [HE]
  have t0 := hB0.c0
  have t1 := hB0.c1
  have t2 := hB0.c2
  have a0 := hA0.c0
  have a1 := hA0.c1
  have a2 := hA0.c2
  have a3 := hA0.c3
  have a4 := hA0.c4
  have a5 := hA0.c5
  have a6 := hA0.c6
  simp only [Nat.zero_add] at a1 a2 a3 a4 a5 a6
  rw [← HW.out] at t0 t1 t2 a0 a1 a2 a3 a4 a5 a6
  clear hw0 _hf hc HE
  go_enter Tryz.func166, Tryz.ntmps166
  go_wp2_with fail
  rw [HW.out]
  refine HL.out.mono ?_
  rintro e w1 ⟨⟨u, rfl, hU⟩, hb1⟩
  go_wp2_with fail
  go_ret
  exact ⟨.inl ⟨u, rfl, hU.mono hb0.size⟩, hb0.trans (Below.mono hb1 hb0.size)⟩
set_option maxRecDepth 100000 in
set_option maxHeartbeats 4000000 in
theorem byt_5 (n : Int) (ts : List M.Ty) (a : Option Addr) (cap : Nat) (N : Nat) (bs : List Bool) (us : List M.Va) (p : Int) (ab : Option Addr) (cb : Nat) (au : Option Addr) (cu : Nat) (w : World) (hL : LayT w w.heap.size ts (.slice a ts.length cap)) (hV : Vl w w.heap.size N bs us ab cb au cu)
    (hc : ∃ d, M.chkT d (.mk 5 n ts) = 0) (hf : M.fitV (.mk 5 n ts) (.mk N bs us p) = 0) (_h1 : M.cntT (.mk 5 n ts) ≤ 1000) (_h2 : M.cntV (.mk N bs us p) ≤ 6000) :
    Calls Tryz.prog 166 #[tv 5 n (.slice a ts.length cap), vv N (.slice ab bs.length cb) (.slice au us.length cu) p] w (BytP w (M.putV (.mk 5 n ts) (.mk N bs us p))) := by
  obtain ⟨d, hc⟩ := hc
  have hbl : bs.length ≤ 512 := by
    have h2 := (M.chkT_ok.1 hc).2.1
    have h3 := (M.fit_parts0 hf).2.1
    rw [M.ofV_5] at h3
    unfold M.formT at h2
    simp at h2 h3
    omega
  obtain ⟨w0, hw0⟩ : ∃ w0, (w.alloc (.cells #[.int .i64 5, .int .i64 n, .slice a ts.length cap] 32)).alloc (.cells #[.int .u64 (M.pt 0 N), .int .u64 (M.pt 1 N), .int .u64 (M.pt 2 N), .int .u64 (M.pt 3 N), .slice ab bs.length cb, .slice au us.length cu, .int .i64 p] 38) = w0 := ⟨_, rfl⟩
  have hb0 : Below w.heap.size w w0 := by rw [← hw0]; exact two_boxesV _ _ _ _ _ _ _ _
  have hz0 : w0.heap.size = w.heap.size + 2 := by rw [← hw0]; simp
  have hB0 : BoxT w0 w.heap.size 5 n (.slice a ts.length cap) := by rw [← hw0]; exact ⟨by simp [go_sem], by simp [go_sem], by simp [go_sem]⟩
  have hA0 : Cells7 w0 (w.heap.size + 1) 0 N (.slice ab bs.length cb) (.slice au us.length cu) p := by
    rw [← hw0]
    have := Cells7.new (w.alloc (.cells #[.int .i64 5, .int .i64 n, .slice a ts.length cap] 32)) N (.slice ab bs.length cb) (.slice au us.length cu) p 38
    rwa [World.size_alloc] at this
  have HW := Lib.hid hw0
  have HV0 := Lib.hid ((hV.from_ hb0).mono hb0.size)
  have HT0 := Lib.hid ((hL.from_ hb0).mono hb0.size)
  have HL := Lib.hid (putBits_any bs [] ab none cb 0 w0 HV0.out.b (.nil_ (by decide)) (by omega) (by decide))
  have HE : M.putV (.mk 5 n ts) (.mk N bs us p) = M.packB (bs ++ []) := by rw [M.putV, List.append_nil]; simp [M.Ty.k]
  rw [HE]
  have t0 := hB0.c0
  have t1 := hB0.c1
  have t2 := hB0.c2
  have a0 := hA0.c0
  have a1 := hA0.c1
  have a2 := hA0.c2
  have a3 := hA0.c3
  have a4 := hA0.c4
  have a5 := hA0.c5
  have a6 := hA0.c6
  simp only [Nat.zero_add] at a1 a2 a3 a4 a5 a6
  rw [← HW.out] at t0 t1 t2 a0 a1 a2 a3 a4 a5 a6
  clear hw0 hf hc HE
  go_enter Tryz.func166, Tryz.ntmps166
  go_wp2_with fail
  rw [HW.out]
  refine HL.out.mono ?_
  rintro e w1 ⟨⟨u, rfl, hU⟩, hb1⟩
  go_wp2_with fail
  go_ret
  exact ⟨.inl ⟨u, rfl, hU.mono hb0.size⟩, hb0.trans (Below.mono hb1 hb0.size)⟩
set_option maxRecDepth 100000 in
set_option maxHeartbeats 4000000 in
theorem byt_6 (n : Int) (ts : List M.Ty) (a : Option Addr) (cap : Nat) (N : Nat) (bs : List Bool) (us : List M.Va) (p : Int) (ab : Option Addr) (cb : Nat) (au : Option Addr) (cu : Nat) (w : World) (hL : LayT w w.heap.size ts (.slice a ts.length cap)) (hV : Vl w w.heap.size N bs us ab cb au cu)
    (hc : ∃ d, M.chkT d (.mk 6 n ts) = 0) (hf : M.fitV (.mk 6 n ts) (.mk N bs us p) = 0) (_h1 : M.cntT (.mk 6 n ts) ≤ 1000) (_h2 : M.cntV (.mk N bs us p) ≤ 6000) :
    Calls Tryz.prog 166 #[tv 6 n (.slice a ts.length cap), vv N (.slice ab bs.length cb) (.slice au us.length cu) p] w (BytP w (M.putV (.mk 6 n ts) (.mk N bs us p))) := by
  obtain ⟨d, hc⟩ := hc
  have hbl : bs.length ≤ 512 := by
    have h2 := (M.chkT_ok.1 hc).2.1
    have h3 := (M.fit_parts0 hf).1
    unfold M.formT at h2
    simp at h2 h3
    omega
  obtain ⟨w0, hw0⟩ : ∃ w0, (w.alloc (.cells #[.int .i64 6, .int .i64 n, .slice a ts.length cap] 32)).alloc (.cells #[.int .u64 (M.pt 0 N), .int .u64 (M.pt 1 N), .int .u64 (M.pt 2 N), .int .u64 (M.pt 3 N), .slice ab bs.length cb, .slice au us.length cu, .int .i64 p] 38) = w0 := ⟨_, rfl⟩
  have hb0 : Below w.heap.size w w0 := by rw [← hw0]; exact two_boxesV _ _ _ _ _ _ _ _
  have hz0 : w0.heap.size = w.heap.size + 2 := by rw [← hw0]; simp
  have hB0 : BoxT w0 w.heap.size 6 n (.slice a ts.length cap) := by rw [← hw0]; exact ⟨by simp [go_sem], by simp [go_sem], by simp [go_sem]⟩
  have hA0 : Cells7 w0 (w.heap.size + 1) 0 N (.slice ab bs.length cb) (.slice au us.length cu) p := by
    rw [← hw0]
    have := Cells7.new (w.alloc (.cells #[.int .i64 6, .int .i64 n, .slice a ts.length cap] 32)) N (.slice ab bs.length cb) (.slice au us.length cu) p 38
    rwa [World.size_alloc] at this
  have HW := Lib.hid hw0
  have HV0 := Lib.hid ((hV.from_ hb0).mono hb0.size)
  have HT0 := Lib.hid ((hL.from_ hb0).mono hb0.size)
  have hn0 : (w0.alloc (.cells #[.bool true] 4)).cell? ⟨w0.heap.size, 0, none⟩ = some (.bool true) := by simp [go_sem]
  have hbn : Below w0.heap.size w0 (w0.alloc (.cells #[.bool true] 4)) := (Below.refl _ _).alloc (Nat.le_refl _) _
  have hT1 : LayB (w0.alloc (.cells #[.bool true] 4)) (w0.alloc (.cells #[.bool true] 4)).heap.size [true] (.slice (some ⟨w0.heap.size, 0, none⟩) 1 1) := .row (by simp) (by decide) (by decide) (fun i x e => by
    cases i with
    | zero => cases e; exact hn0
    | succ i => simp at e)
  have HL := Lib.hid (putBits_any bs [true] ab (some ⟨w0.heap.size, 0, none⟩) cb 1 (w0.alloc (.cells #[.bool true] 4)) ((HV0.out.b.from_ hbn).mono hbn.size) hT1 (by omega) (by decide))
  have HE : M.putV (.mk 6 n ts) (.mk N bs us p) = M.packB (bs ++ [true]) := by rw [M.putV]; simp [M.Ty.k, M.listB]
  rw [HE]
  have hbB := hb0.trans (Below.mono hbn hb0.size)
  have hz2 : w.heap.size + 1 + 1 = w0.heap.size := by omega
  have t0 := hB0.c0
  have t1 := hB0.c1
  have t2 := hB0.c2
  have a0 := hA0.c0
  have a1 := hA0.c1
  have a2 := hA0.c2
  have a3 := hA0.c3
  have a4 := hA0.c4
  have a5 := hA0.c5
  have a6 := hA0.c6
  simp only [Nat.zero_add] at a1 a2 a3 a4 a5 a6
  rw [← HW.out] at t0 t1 t2 a0 a1 a2 a3 a4 a5 a6
  have HZ2 := Lib.hid hz2
  clear hw0 hf hc HE hn0 hT1 hz0 hz2
  obtain ⟨i0, hi, hz0', hz1, hz2'⟩ := info_parts Tryz.ofBool
  go_enter Tryz.func166, Tryz.ntmps166
  go_wp2_with fail
  rw [HW.out]
  rw [HZ2.out]
  refine HL.out.mono ?_
  rintro e w1 ⟨⟨u, rfl, hU⟩, hb1⟩
  go_wp2_with fail
  go_ret
  exact ⟨.inl ⟨u, rfl, hU.mono hbB.size⟩, hbB.trans (Below.mono hb1 hbB.size)⟩
set_option maxRecDepth 100000 in
set_option maxHeartbeats 4000000 in
theorem byt_row (z : Nat) (ih : Hid (PutC z)) (k : Int) (hk : k = 3 ∨ k = 4 ∨ k = 7) (n : Int) (ts : List M.Ty) (a : Option Addr) (cap : Nat) (N : Nat) (bs : List Bool) (us : List M.Va) (p : Int) (ab : Option Addr) (cb : Nat) (au : Option Addr) (cu : Nat) (w : World) (hs : SizeOf.sizeOf us ≤ z + 1) (hL : LayT w w.heap.size ts (.slice a ts.length cap)) (hV : Vl w w.heap.size N bs us ab cb au cu)
    (hc : ∃ d, M.chkT d (.mk k n ts) = 0) (hf : M.fitV (.mk k n ts) (.mk N bs us p) = 0) (h1 : M.cntT (.mk k n ts) ≤ 1000) (h2 : M.cntV (.mk N bs us p) ≤ 6000) :
    Calls Tryz.prog 166 #[tv k n (.slice a ts.length cap), vv N (.slice ab bs.length cb) (.slice au us.length cu) p] w (BytP w (M.putV (.mk k n ts) (.mk N bs us p))) := by
  obtain ⟨d, hc⟩ := hc
  have hR := rowP hk hc hf hV.v.inVs h2
  have ht : us.length ≠ 0 → 1 ≤ ts.length := fun hn => by
    have := (M.in_row hk hc hf 0 (by omega)).2
    exact List.length_pos_of_mem this
  have hct : M.cntTs ts ≤ 999 := by rw [M.cntT] at h1; omega
  have hcv : M.cntVs us ≤ 5999 := by rw [M.cntV] at h2; omega
  obtain ⟨w0, hw0⟩ : ∃ w0, (w.alloc (.cells #[.int .i64 k, .int .i64 n, .slice a ts.length cap] 32)).alloc (.cells #[.int .u64 (M.pt 0 N), .int .u64 (M.pt 1 N), .int .u64 (M.pt 2 N), .int .u64 (M.pt 3 N), .slice ab bs.length cb, .slice au us.length cu, .int .i64 p] 38) = w0 := ⟨_, rfl⟩
  have hb0 : Below w.heap.size w w0 := by rw [← hw0]; exact two_boxesV _ _ _ _ _ _ _ _
  have hz0 : w0.heap.size = w.heap.size + 2 := by rw [← hw0]; simp
  have hB0 : BoxT w0 w.heap.size k n (.slice a ts.length cap) := by rw [← hw0]; exact ⟨by simp [go_sem], by simp [go_sem], by simp [go_sem]⟩
  have hA0 : Cells7 w0 (w.heap.size + 1) 0 N (.slice ab bs.length cb) (.slice au us.length cu) p := by
    rw [← hw0]
    have := Cells7.new (w.alloc (.cells #[.int .i64 k, .int .i64 n, .slice a ts.length cap] 32)) N (.slice ab bs.length cb) (.slice au us.length cu) p 38
    rwa [World.size_alloc] at this
  have HW := Lib.hid hw0
  have HV0 := Lib.hid ((hV.from_ hb0).mono hb0.size)
  have HT0 := Lib.hid ((hL.from_ hb0).mono hb0.size)
  have HL := Lib.hid (putRow_n z ih k n ts a cap us au cu p w0 HT0.out HV0.out.v hct hcv ht hs (Lib.hid hR.hin) (Lib.hid hR.hchk) (Lib.hid hR.hfit) hR.hwd _ _ (Lib.hid hR.hdE) (Lib.hid hR.hLE) (Lib.hid hR.hLm) (Lib.hid hR.hLp) (Lib.hid hR.hLh) hR.hL3)
  have n1 : (k == 1) = false := by rcases hk with rfl | rfl | rfl <;> decide
  have n2 : (k == 2) = false := by rcases hk with rfl | rfl | rfl <;> decide
  have n5 : (k == 5) = false := by rcases hk with rfl | rfl | rfl <;> decide
  have n6 : (k == 6) = false := by rcases hk with rfl | rfl | rfl <;> decide
  have n8 : (k == 8) = false := by rcases hk with rfl | rfl | rfl <;> decide
  have m1 : k ≠ 1 := by rcases hk with rfl | rfl | rfl <;> decide
  have m2 : k ≠ 2 := by rcases hk with rfl | rfl | rfl <;> decide
  have m5 : k ≠ 5 := by rcases hk with rfl | rfl | rfl <;> decide
  have m6 : k ≠ 6 := by rcases hk with rfl | rfl | rfl <;> decide
  have m8 : k ≠ 8 := by rcases hk with rfl | rfl | rfl <;> decide
  have t0 := hB0.c0
  have t1 := hB0.c1
  have t2 := hB0.c2
  have a0 := hA0.c0
  have a1 := hA0.c1
  have a2 := hA0.c2
  have a3 := hA0.c3
  have a4 := hA0.c4
  have a5 := hA0.c5
  have a6 := hA0.c6
  simp only [Nat.zero_add] at a1 a2 a3 a4 a5 a6
  rw [← HW.out] at t0 t1 t2 a0 a1 a2 a3 a4 a5 a6
  have HK := Lib.hid hk
  clear hk hw0 hf hc hR ih ht hs h1 h2 hct hcv
  go_enter Tryz.func166, Tryz.ntmps166
  go_wp2_with fail
  rw [HW.out]
  refine HL.out.mono ?_
  rintro e w1 ⟨hE, hb1⟩
  rcases hE with ⟨u, rfl, hU⟩ | ⟨rfl, hlt⟩
  · go_wp2_with fail
    go_ret
    exact ⟨.inl ⟨u, rfl, hU.mono hb0.size⟩, hb0.trans (Below.mono hb1 hb0.size)⟩
  · try go_wp2_with fail
    exact ⟨rfl, .inr ⟨rfl, hlt⟩, hb0.trans (Below.mono hb1 hb0.size)⟩
set_option maxRecDepth 100000 in
set_option maxHeartbeats 4000000 in
theorem byt_8 (z : Nat) (ih : Hid (PutC z)) (n : Int) (ts : List M.Ty) (a : Option Addr) (cap : Nat) (N : Nat) (bs : List Bool) (us : List M.Va) (p : Int) (ab : Option Addr) (cb : Nat) (au : Option Addr) (cu : Nat) (w : World) (hs : SizeOf.sizeOf us ≤ z + 1) (hL : LayT w w.heap.size ts (.slice a ts.length cap)) (hV : Vl w w.heap.size N bs us ab cb au cu)
    (hc : ∃ d, M.chkT d (.mk 8 n ts) = 0) (hf : M.fitV (.mk 8 n ts) (.mk N bs us p) = 0) (h1 : M.cntT (.mk 8 n ts) ≤ 1000) (h2 : M.cntV (.mk N bs us p) ≤ 6000) :
    Calls Tryz.prog 166 #[tv 8 n (.slice a ts.length cap), vv N (.slice ab bs.length cb) (.slice au us.length cu) p] w (BytP w (M.putV (.mk 8 n ts) (.mk N bs us p))) := by
  obtain ⟨d, hc⟩ := hc
  have hfp := M.fit_parts0 hf
  have ho := hfp.2.1
  rw [M.ofV_8] at ho
  simp only [Bool.and_eq_true, beq_iff_eq, decide_eq_true_eq] at ho
  obtain ⟨⟨⟨⟨rfl, hbl⟩, hul⟩, hp0⟩, hp1⟩ := ho
  obtain ⟨pk, rfl⟩ : ∃ pk : Nat, p = (pk : Int) := ⟨p.toNat, by omega⟩
  have hpk : pk < ts.length := by omega
  have htl : ts.length ≤ 8 := by
    have h3 := (M.chkT_ok.1 hc).2.1
    unfold M.formT at h3
    simp at h3
    omega
  obtain ⟨x, rfl⟩ : ∃ x, us = [x] := by
    cases us with
    | nil => simp at hul
    | cons x us => cases us with
      | nil => exact ⟨x, rfl⟩
      | cons y us => simp at hul
  obtain ⟨w0, hw0⟩ : ∃ w0, (w.alloc (.cells #[.int .i64 8, .int .i64 n, .slice a ts.length cap] 32)).alloc (.cells #[.int .u64 (M.pt 0 0), .int .u64 (M.pt 1 0), .int .u64 (M.pt 2 0), .int .u64 (M.pt 3 0), .slice ab bs.length cb, .slice au 1 cu, .int .i64 (pk : Int)] 38) = w0 := ⟨_, rfl⟩
  have hb0 : Below w.heap.size w w0 := by rw [← hw0]; exact two_boxesV _ _ _ _ _ _ _ _
  have hz0 : w0.heap.size = w.heap.size + 2 := by rw [← hw0]; simp
  have hB0 : BoxT w0 w.heap.size 8 n (.slice a ts.length cap) := by rw [← hw0]; exact ⟨by simp [go_sem], by simp [go_sem], by simp [go_sem]⟩
  have hA0 : Cells7 w0 (w.heap.size + 1) 0 0 (.slice ab bs.length cb) (.slice au 1 cu) (pk : Int) := by
    rw [← hw0]
    have := Cells7.new (w.alloc (.cells #[.int .i64 8, .int .i64 n, .slice a ts.length cap] 32)) 0 (.slice ab bs.length cb) (.slice au 1 cu) (pk : Int) 38
    rwa [World.size_alloc] at this
  have HW := Lib.hid hw0
  have HV0 := Lib.hid ((hV.from_ hb0).mono hb0.size)
  have HT0 := Lib.hid ((hL.from_ hb0).mono hb0.size)
  obtain ⟨b, o, k', n', us', ua, uc, rfl, hbn, hts, q0, q1, q2, hLt⟩ := HT0.out.at_ hpk
  obtain ⟨b2, o2, N2, bs2, vs2, p2, ab2, cb2, av2, cv2, rfl, hbn2, hxk, h7, hVl⟩ := HV0.out.v.at_ (i := 0) (by simp)
  obtain rfl : x = .mk N2 bs2 vs2 p2 := by simpa using hxk
  have hin : M.inT 8 ts (pk : Int) 0 = .mk k' n' us' := by simp [M.inT, hts]
  have hfx : M.fitV (.mk k' n' us') (.mk N2 bs2 vs2 p2) = 0 := by
    have := M.fitVs_at 8 ts (pk : Int) _ 0 0 _ hfp.2.2 (by rfl : [M.Va.mk N2 bs2 vs2 p2][0]? = some _)
    rw [Nat.zero_add, hin] at this
    exact this
  have hcx : M.chkT (d + 1) (.mk k' n' us') = 0 := M.chkTs_ok.1 (M.chkT_ok.1 hc).2.2.2 _ (List.mem_of_getElem? hts)
  have hcT := M.cntT_part (List.mem_of_getElem? hts)
  rw [M.cntT] at h1
  rw [M.cntV, M.cntVs, M.cntVs] at h2
  have hsv : SizeOf.sizeOf vs2 ≤ z := by simp at hs; omega
  have HE : M.putV (.mk 8 n ts) (.mk 0 bs [.mk N2 bs2 vs2 p2] (pk : Int)) = [UInt8.ofNat pk] ++ M.putV (.mk k' n' us') (.mk N2 bs2 vs2 p2) := by
    rw [M.putV]
    simp [M.Ty.k, M.putVs, M.Ty.ins, hin]
  rw [HE]
  have HC : Hid (∀ X, Below w0.heap.size w0 X → Calls Tryz.prog 144 #[tv k' n' (.slice ua us'.length uc), vv N2 (.slice ab2 bs2.length cb2) (.slice av2 vs2.length cv2) p2] X (PutP X (M.putV (.mk k' n' us') (.mk N2 bs2 vs2 p2)))) := fun X h =>
    ih.out k' n' us' ua uc N2 bs2 vs2 p2 ab2 cb2 av2 cv2 X hsv ((hLt.from_ h).mono h.size) ((hVl.from_ h).mono h.size) ⟨d + 1, hcx⟩ hfx (by omega) (by omega)
  have HC7 := Lib.hid h7
  have hpl : (M.putV (.mk k' n' us') (.mk N2 bs2 vs2 p2)).length ≤ 300000 := by
    have := M.put_len _ (M.chk_small _ _ hcx) (.mk N2 bs2 vs2 p2)
    omega
  generalize M.putV (.mk k' n' us') (.mk N2 bs2 vs2 p2) = s at *
  have hpk8 : (pk : Int) < 8 := by omega
  have hw1 : w.heap.size + 1 < w0.heap.size := by omega
  have hw9 : w.heap.size < w0.heap.size := by omega
  have hwr : IntKind.u8.wrap (pk : Int) = pk := by
    simp only [IntKind.wrap, IntKind.bits, IntKind.signed]
    simp
    omega
  have mixed : Tryz.prog.follows .mixedOrders = true := by kernel_rfl
  have t0 := hB0.c0
  have t1 := hB0.c1
  have t2 := hB0.c2
  have a0 := hA0.c0
  have a1 := hA0.c1
  have a2 := hA0.c2
  have a3 := hA0.c3
  have a4 := hA0.c4
  have a5 := hA0.c5
  have a6 := hA0.c6
  simp only [Nat.zero_add] at a1 a2 a3 a4 a5 a6
  rw [← HW.out] at t0 t1 t2 a0 a1 a2 a3 a4 a5 a6
  clear hw0 hf hc HE hfp hfx hcx hcT hsv hs h1 h2 hin ih hp0 hp1 hbl hul hV hL hxk hz0
  go_enter Tryz.func166, Tryz.ntmps166
  go_wp2_with fail
  rw [HW.out]
  refine wp_region_held (S := fun Y => Below w0.heap.size w0 Y) mixed ?_
  have hS0 : (fun Y => Below w0.heap.size w0 Y) { w0 with drawn := w0.drawn + 1 } := Below.drew (Below.refl _ _)
  rw [show Array.replicate (Array.size _) false = #[false, false, false, false, false, false, false, false, false, false, false, false, false, false, false, false, false] from rfl, show Array.size (α := Oper) _ = 17 from rfl]
  refine wpAnyH_take (i := 0) (v := .pointer (some ⟨w.heap.size + 1, 6, none⟩)) rfl (by kernel_rfl) (by kernel_rfl) (by kernel_rfl) (fun _ _ _ h => h) (Or.inl ⟨by rfl, ?_⟩) hS0 ?_
  · intro Y hY
    skip
    go_simp
  simp only [Act.put, List.getElem_toArray, List.getElem_cons_zero, List.setIfInBounds_toArray, List.set_cons_zero, List.set_cons_succ]
  refine wpAnyH_take (i := 1) (v := .int .i64 (pk : Int)) rfl (by kernel_rfl) (by kernel_rfl) (by kernel_rfl) (fun _ _ _ h => h) (Or.inl ⟨by rfl, ?_⟩) hS0 ?_
  · intro Y hY
    have e6 := (hY.cell (p := ⟨w.heap.size + 1, 6, none⟩) hw1).trans hA0.c6
    go_simp
  simp only [Act.put, List.getElem_toArray, List.getElem_cons_succ, List.getElem_cons_zero, List.setIfInBounds_toArray, List.set_cons_zero, List.set_cons_succ]
  refine wpAnyH_take (i := 2) (v := .int .u8 (pk : Int)) rfl (by kernel_rfl) (by kernel_rfl) (by kernel_rfl) (fun _ _ _ h => h) (Or.inl ⟨by rfl, ?_⟩) hS0 ?_
  · intro Y hY
    skip
    go_simp
  simp only [Act.put, List.getElem_toArray, List.getElem_cons_succ, List.getElem_cons_zero, List.setIfInBounds_toArray, List.set_cons_zero, List.set_cons_succ]
  refine wpAnyH_take (i := 4) (v := .pointer (some ⟨w.heap.size, 2, none⟩)) rfl (by kernel_rfl) (by kernel_rfl) (by kernel_rfl) (fun _ _ _ h => h) (Or.inl ⟨by rfl, ?_⟩) hS0 ?_
  · intro Y hY
    skip
    go_simp
  simp only [Act.put, List.getElem_toArray, List.getElem_cons_succ, List.getElem_cons_zero, List.setIfInBounds_toArray, List.set_cons_zero, List.set_cons_succ]
  refine wpAnyH_take (i := 5) (v := .slice (some ⟨b, o, none⟩) ts.length cap) rfl (by kernel_rfl) (by kernel_rfl) (by kernel_rfl) (fun _ _ _ h => h) (Or.inl ⟨by rfl, ?_⟩) hS0 ?_
  · intro Y hY
    have e2 := (hY.cell (p := ⟨w.heap.size, 2, none⟩) hw9).trans hB0.c2
    go_simp
  simp only [Act.put, List.getElem_toArray, List.getElem_cons_succ, List.getElem_cons_zero, List.setIfInBounds_toArray, List.set_cons_zero, List.set_cons_succ]
  refine wpAnyH_take (i := 6) (v := .pointer (some ⟨w.heap.size + 1, 6, none⟩)) rfl (by kernel_rfl) (by kernel_rfl) (by kernel_rfl) (fun _ _ _ h => h) (Or.inl ⟨by rfl, ?_⟩) hS0 ?_
  · intro Y hY
    skip
    go_simp
  simp only [Act.put, List.getElem_toArray, List.getElem_cons_succ, List.getElem_cons_zero, List.setIfInBounds_toArray, List.set_cons_zero, List.set_cons_succ]
  refine wpAnyH_take (i := 7) (v := .int .i64 (pk : Int)) rfl (by kernel_rfl) (by kernel_rfl) (by kernel_rfl) (fun _ _ _ h => h) (Or.inl ⟨by rfl, ?_⟩) hS0 ?_
  · intro Y hY
    have e6 := (hY.cell (p := ⟨w.heap.size + 1, 6, none⟩) hw1).trans hA0.c6
    go_simp
  simp only [Act.put, List.getElem_toArray, List.getElem_cons_succ, List.getElem_cons_zero, List.setIfInBounds_toArray, List.set_cons_zero, List.set_cons_succ]
  refine wpAnyH_take (i := 8) (v := .pointer (some ⟨b, o + pk * 3, none⟩)) rfl (by kernel_rfl) (by kernel_rfl) (by kernel_rfl) (fun _ _ _ h => h) (Or.inl ⟨by rfl, ?_⟩) hS0 ?_
  · intro Y hY
    skip
    go_simp
  simp only [Act.put, List.getElem_toArray, List.getElem_cons_succ, List.getElem_cons_zero, List.setIfInBounds_toArray, List.set_cons_zero, List.set_cons_succ]
  refine wpAnyH_take (i := 9) (v := tv k' n' (.slice ua us'.length uc)) rfl (by kernel_rfl) (by kernel_rfl) (by kernel_rfl) (fun _ _ _ h => h) (Or.inl ⟨by rfl, ?_⟩) hS0 ?_
  · intro Y hY
    have f0 := (hY.cell (p := ⟨b, o + pk * 3, none⟩) hbn).trans q0; have f1 := (hY.cell (p := ⟨b, o + pk * 3 + 1, none⟩) hbn).trans q1; have f2 := (hY.cell (p := ⟨b, o + pk * 3 + 2, none⟩) hbn).trans q2
    go_simp
  simp only [Act.put, List.getElem_toArray, List.getElem_cons_succ, List.getElem_cons_zero, List.setIfInBounds_toArray, List.set_cons_zero, List.set_cons_succ]
  refine wpAnyH_take (i := 10) (v := .pointer (some ⟨w.heap.size + 1, 5, none⟩)) rfl (by kernel_rfl) (by kernel_rfl) (by kernel_rfl) (fun _ _ _ h => h) (Or.inl ⟨by rfl, ?_⟩) hS0 ?_
  · intro Y hY
    skip
    go_simp
  simp only [Act.put, List.getElem_toArray, List.getElem_cons_succ, List.getElem_cons_zero, List.setIfInBounds_toArray, List.set_cons_zero, List.set_cons_succ]
  refine wpAnyH_take (i := 11) (v := .slice (some ⟨b2, o2, none⟩) 1 cu) rfl (by kernel_rfl) (by kernel_rfl) (by kernel_rfl) (fun _ _ _ h => h) (Or.inl ⟨by rfl, ?_⟩) hS0 ?_
  · intro Y hY
    have e5 := (hY.cell (p := ⟨w.heap.size + 1, 5, none⟩) hw1).trans hA0.c5
    go_simp
  simp only [Act.put, List.getElem_toArray, List.getElem_cons_succ, List.getElem_cons_zero, List.setIfInBounds_toArray, List.set_cons_zero, List.set_cons_succ]
  refine wpAnyH_take (i := 12) (v := .pointer (some ⟨b2, o2, none⟩)) rfl (by kernel_rfl) (by kernel_rfl) (by kernel_rfl) (fun _ _ _ h => h) (Or.inl ⟨by rfl, ?_⟩) hS0 ?_
  · intro Y hY
    skip
    go_simp
  simp only [Act.put, List.getElem_toArray, List.getElem_cons_succ, List.getElem_cons_zero, List.setIfInBounds_toArray, List.set_cons_zero, List.set_cons_succ]
  refine wpAnyH_take (i := 13) (v := vv N2 (.slice ab2 bs2.length cb2) (.slice av2 vs2.length cv2) p2) rfl (by kernel_rfl) (by kernel_rfl) (by kernel_rfl) (fun _ _ _ h => h) (Or.inl ⟨by rfl, ?_⟩) hS0 ?_
  · intro Y hY
    have h7Y := HC7.out.from_ hY hbn2; have e0 := h7Y.c0; have e1 := h7Y.c1; have e2 := h7Y.c2; have e3 := h7Y.c3; have e4 := h7Y.c4; have e5 := h7Y.c5; have e6 := h7Y.c6; simp only [Nat.zero_mul, Nat.add_zero] at e0 e1 e2 e3 e4 e5 e6
    go_simp
  simp only [Act.put, List.getElem_toArray, List.getElem_cons_succ, List.getElem_cons_zero, List.setIfInBounds_toArray, List.set_cons_zero, List.set_cons_succ]
  obtain ⟨i0, hi, hz0', hz1, hz2⟩ := info_parts Tryz.ofU8
  have hu8 : Hid ((pk : Int) = ((UInt8.ofNat pk).toNat : Int)) := by
    show (pk : Int) = ((UInt8.ofNat pk).toNat : Int)
    simp
    omega
  refine wpAnyH_ready (rs := [3, 14]) (by kernel_rfl) (by simp) ?_
  refine AllReadyH.cons rfl (fun K hK => ?rA) (AllReadyH.cons rfl (fun K hK => ?rB) AllReadyH.nil)
  case' rA =>
    rw [if_pos (by rfl)]
    refine wp_build_one 41 5 (.tmp 34) (.int .u8 (pk : Int)) (.int .u8 0) i0 rfl rfl rfl Tryz.underlying41 hi hz0' hz1 rfl ?_
    obtain ⟨w1, hw1'⟩ : ∃ w1, World.alloc { w0 with drawn := w0.drawn + 1 } (.cells #[.int .u8 (pk : Int)] 5) = w1 := ⟨_, rfl⟩
    have hS1 : Below w0.heap.size w0 w1 := by rw [← hw1']; exact hS0.alloc (Nat.le_refl _) _
    have hO1 : Ow w0.heap.size [UInt8.ofNat pk] (.slice (some ⟨w0.heap.size, 0, none⟩) 1 1) w1 := by rw [← hw1', hu8.out]; exact own_new _ _ _ (Nat.le_refl _)
    rw [hw1']
    refine hK.out _ _ hS1 (fun _ => ?_)
    clear hK K hw1'
    simp only [Act.put, List.getElem_toArray, List.getElem_cons_succ, List.getElem_cons_zero, List.setIfInBounds_toArray, List.set_cons_zero, List.set_cons_succ]
    refine wpAnyH_ready (rs := [14]) (by kernel_rfl) (by simp) ?_
    refine AllReadyH.cons rfl (fun K hK => ?_) AllReadyH.nil
    go_simp
    refine (HC.out _ hS1).mono ?_
    rintro e w2 ⟨hok, hno, hb2⟩
    have hS2 : Below w0.heap.size w0 w2 := hS1.trans (hb2.mono hS1.size)
    rcases Nat.lt_or_ge 65536 s.length with hsl | hsl
    · rw [hno (by omega)]
      exact ⟨rfl, .inr ⟨rfl, by simp; omega⟩, hb0.trans (Below.mono hS2 hb0.size)⟩
    obtain ⟨u, rfl, hU⟩ := hok hsl
    have hO2 := hO1.from_ hb2
    have hU2 := hU.sr
    try go_wp2_with fail
    refine hK.out _ _ hS2 (fun _ => ?_)
    clear hK K hok hno hO1
    simp only [List.setIfInBounds_toArray, List.set_cons_zero, List.set_cons_succ]
  case' rB =>
    go_simp
    refine (HC.out _ hS0).mono ?_
    rintro e w1 ⟨hok, hno, hb2⟩
    have hS1 : Below w0.heap.size w0 w1 := hS0.trans (hb2.mono (Nat.le_refl _))
    rcases Nat.lt_or_ge 65536 s.length with hsl | hsl
    · rw [hno (by omega)]
      exact ⟨rfl, .inr ⟨rfl, by simp; omega⟩, hb0.trans (Below.mono hS1 hb0.size)⟩
    obtain ⟨u, rfl, hU⟩ := hok hsl
    try go_wp2_with fail
    refine hK.out _ _ hS1 (fun _ => ?_)
    clear hK K hok hno
    simp only [List.setIfInBounds_toArray, List.set_cons_zero, List.set_cons_succ]
    refine wpAnyH_ready (rs := [3]) (by kernel_rfl) (by simp) ?_
    refine AllReadyH.cons rfl (fun K hK => ?_) AllReadyH.nil
    rw [if_pos (by rfl)]
    refine wp_build_one 41 5 (.tmp 34) (.int .u8 (pk : Int)) (.int .u8 0) i0 rfl rfl rfl Tryz.underlying41 hi hz0' hz1 rfl ?_
    obtain ⟨w2, hw2'⟩ : ∃ w2, World.alloc w1 (.cells #[.int .u8 (pk : Int)] 5) = w2 := ⟨_, rfl⟩
    have hbn2 : Below w1.heap.size w1 w2 := by rw [← hw2']; exact (Below.refl _ _).alloc (Nat.le_refl _) _
    have hS2 : Below w0.heap.size w0 w2 := hS1.trans (hbn2.mono hS1.size)
    have hO2 : Ow w0.heap.size [UInt8.ofNat pk] (.slice (some ⟨w1.heap.size, 0, none⟩) 1 1) w2 := by rw [← hw2', hu8.out]; exact own_new _ _ _ hS1.size
    have hU2 := (hU.from_ hbn2).sr
    rw [hw2']
    refine hK.out _ _ hS2 (fun _ => ?_)
    clear hK K hw2'
    simp only [Act.put, List.getElem_toArray, List.getElem_cons_succ, List.getElem_cons_zero, List.setIfInBounds_toArray, List.set_cons_zero, List.set_cons_succ]
  all_goals
    refine wpAnyH_ready (rs := [15]) (by kernel_rfl) (by simp) ?_
    refine AllReadyH.cons rfl (fun K hK => ?_) AllReadyH.nil
    rw [if_pos (by rfl)]
    refine wp_append_by _ _ _ rfl w0.heap.size [UInt8.ofNat pk] s _ u rfl rfl hO2 hU2 (by simp; omega) hS2.size ?_
    intro v' w3 hA3
    have hS3 : Below w0.heap.size w0 w3 := hS2.grown hA3.grown hS2.size (fun k e => (hO2.lt k e).1)
    refine hK.out _ _ hS3 (fun _ => ?_)
    clear hK K
    simp only [Act.put, List.getElem_toArray, List.getElem_cons_succ, List.getElem_cons_zero, List.setIfInBounds_toArray, List.set_cons_zero, List.set_cons_succ]
    refine wpAnyH_ready (rs := [16]) (by kernel_rfl) (by simp) ?_
    refine AllReadyH.cons rfl (fun K hK => ?_) AllReadyH.nil
    go_simp
    refine hK.out _ _ hS3 (fun _ => ?_)
    clear hK K
    simp only [List.setIfInBounds_toArray, List.set_cons_zero, List.set_cons_succ]
    refine wpAnyH_done (by kernel_rfl) ?_ _
    go_wp2_with fail
    go_ret
    exact ⟨.inl ⟨v', rfl, hA3.own.srB.mono hb0.size⟩, hb0.trans (Below.mono hS3 hb0.size)⟩
end Go.Proofs.YtaajkbclojmbeaaGreatDoor
namespace Go.Proofs.YtaajkbclojmbeaaGreatDoor
open Go Go.RowKit

/-- Numbers as the cells of an array. -/
def lv (a : List Nat) : Array Value := (a.map fun (n : Nat) => Value.int .u64 (n : Int)).toArray
theorem lv_size (a : List Nat) : (lv a).size = a.length := by simp [lv]
theorem lv_get {a : List Nat} {i : Nat} (h : i < a.length) : (lv a)[i]? = some (.int .u64 ((M.gl a i : Nat) : Int)) := by
  simp [lv, M.gl, h]
theorem lv_set (a : List Nat) (i m : Nat) : (lv a).setIfInBounds i (.int .u64 (m : Int)) = lv (a.set i m) := by
  simp [lv, List.map_set]
theorem lv_one (a : List Nat) : (lv a).all (·.oneCell') = true := by
  rw [Array.all_eq_true_iff_forall_mem]
  intro x hx
  simp only [lv, List.mem_toArray, List.mem_map] at hx
  obtain ⟨n, _, rfl⟩ := hx
  rfl
/-- Zeros. -/
def z25 : List Nat := List.replicate 25 0
def z5 : List Nat := List.replicate 5 0
theorem z25_length : z25.length = 25 := rfl
theorem lv_zero : #[Value.int .u64 0, Value.int .u64 0, Value.int .u64 0, Value.int .u64 0, Value.int .u64 0, Value.int .u64 0, Value.int .u64 0, Value.int .u64 0, Value.int .u64 0, Value.int .u64 0, Value.int .u64 0, Value.int .u64 0, Value.int .u64 0, Value.int .u64 0, Value.int .u64 0, Value.int .u64 0, Value.int .u64 0, Value.int .u64 0, Value.int .u64 0, Value.int .u64 0, Value.int .u64 0, Value.int .u64 0, Value.int .u64 0, Value.int .u64 0, Value.int .u64 0] = lv z25 := rfl
theorem lv_zero5 : #[Value.int .u64 0, Value.int .u64 0, Value.int .u64 0, Value.int .u64 0, Value.int .u64 0] = lv z5 := rfl
/-- A state as a value. -/
abbrev st (a : List Nat) : Value := .agg (lv a)

/-- A block that is just these numbers. -/
def Rw (W : World) (b : Nat) (t : TypeId) (a : List Nat) : Prop := W.heap[b]? = some (.cells (lv a) t (0, 0))
section
variable {W W' : World} {b : Nat} {t : TypeId} {a : List Nat}
theorem Rw.lt (h : Rw W b t a) : b < W.heap.size := (Array.getElem?_eq_some_iff.1 h).1
theorem Rw.cell (h : Rw W b t a) {i : Nat} (hi : i < a.length) : W.cell? ⟨b, i, none⟩ = some (.int .u64 ((M.gl a i : Nat) : Int)) := (cell_of_row W b i _ t (0, 0) h).trans (lv_get hi)
theorem Rw.frozen (h : Rw W b t a) (i : Nat) : W.frozen? ⟨b, i, none⟩ = false := frozen_of_row W b i _ t h
theorem Rw.new (W : World) (t : TypeId) (a : List Nat) : Rw (W.alloc (.cells (lv a) t)) W.heap.size t a := heap_alloc_new W _
theorem Rw.at_ (W : World) (t : TypeId) (a : List Nat) {k : Nat} (h : W.heap.size = k) : Rw (W.alloc (.cells (lv a) t)) k t a := h ▸ Rw.new W t a
theorem Rw.alloc (h : Rw W b t a) (o : Obj) : Rw (W.alloc o) b t a := (Below.heap_alloc W o b h.lt).trans h
theorem Rw.drew (h : Rw W b t a) : Rw W.drew b t a := h
theorem Rw.set_ (h : Rw W b t a) (i m : Nat) : Rw (W.setCell ⟨b, i, none⟩ (.int .u64 (m : Int))) b t (a.set i m) := by
  have := heap_setCell_same W b i _ t (.int .u64 (m : Int)) h
  rw [lv_set] at this
  exact this
theorem Rw.far (h : Rw W b t a) {p : Addr} (hp : b ≠ p.block) (u : Value) : Rw (W.setCell p u) b t a := (Below.heap_setCell W p u b hp).trans h
theorem Rw.below {B : Nat} (h : Rw W b t a) (hb : Below B W W') (hl : b < B) : Rw W' b t a := (hb.block b hl).trans h
theorem Rw.keep (h : Rw W b t a) (hb : Below W.heap.size W W') : Rw W' b t a := h.below hb h.lt
theorem Rw.row (h : Rw W b t a) (c : List Nat) : Rw (W.setRow b (lv c)) b t c := setRow_heap W b _ _ t (0, 0) h
theorem Rw.rowFar (h : Rw W b t a) {g : Nat} (hp : b ≠ g) (c : Array Value) : Rw (W.setRow g c) b t a := (setRow_other W g b c hp).trans h
theorem Rw.grown {row : Option Nat} (h : Rw W b t a) (hb : W.grownBy W' row) (hg : some b ≠ row) : Rw W' b t a := (hb.block b h.lt hg).trans h
end

section
variable {P : Program}
theorem wpList_load_st {ops : Array Oper} {rest : List Oper} {o : Oper} {a : Act} {w : World} {Q : Exit → Act → World → Prop} (hgd : o.guard = none) (ty : TypeId) (x : Operand) (ho : o.op = .load ty x) (g : Nat) (hx : a.eval x = .pointer (some ⟨g, 0, none⟩)) (t : TypeId) (c : List Nat) (n : Nat) (e : TypeId) (hr : Rw w g t c)
    (hu : P.underlying ty = some (.array n e)) (hi : (P.info? ty).map (·.size) = some n) (hc : c.length = n) (h : wpList P ops Q rest (a.put o.dst (st c)) w) : wpList P ops Q (o :: rest) a w :=
  wpList_load_row hgd ty x ho g hx t (lv c) (0, 0) _ hr hu rfl (by rw [lv_size, hc]; exact hi) h
theorem wpList_store_st {ops : Array Oper} {rest : List Oper} {o : Oper} {a : Act} {w : World} {Q : Exit → Act → World → Prop} (hgd : o.guard = none) (ty : TypeId) (x y : Operand) (ho : o.op = .store ty x y) (g : Nat) (c : List Nat) (hx : a.eval x = .pointer (some ⟨g, 0, none⟩)) (hy : a.eval y = st c) (t : TypeId) (d : List Nat) (n : Nat) (hr : Rw w g t d)
    (hi : (P.info? ty).map (·.size) = some n) (hc : c.length = n) (hd : d.length = n) (h : wpList P ops Q rest (a.put o.dst undef) (w.setRow g (lv c))) : wpList P ops Q (o :: rest) a w :=
  wpList_store_row hgd ty x y ho g (lv c) hx hy t (lv d) hr (by rw [lv_size, hc]; exact hi) (by rw [lv_size, lv_size, hc, hd]) (lv_one c) h
theorem wpListIn_load_st {F : Fence} {m : Nat} {ops : Array Oper} {rest : List Oper} {o : Oper} {a : Act} {w : World} {Q : Exit → Act → World → Prop} (hgd : o.guard = none) (ty : TypeId) (x : Operand) (ho : o.op = .load ty x) (g : Nat) (hx : a.eval x = .pointer (some ⟨g, 0, none⟩)) (t : TypeId) (c : List Nat) (n : Nat) (e : TypeId) (hr : Rw w g t c)
    (hu : P.underlying ty = some (.array n e)) (hi : (P.info? ty).map (·.size) = some n) (hc : c.length = n) (h : wpListIn F m P ops Q rest (a.put o.dst (st c)) w) : wpListIn F m P ops Q (o :: rest) a w := by
  refine wpListIn_plain hgd fun K hK => ?_
  unfold Oper.wpIn
  rw [Oper.semAt_plain F _ _ (by intro c; rw [ho]; exact fun h => nomatch h)]
  refine ⟨by intro f hf; simp [Oper.about, ho] at hf, ?_⟩
  unfold execOp
  simp only [ho, hx, Instr.loadAt, Instr.sureAddr, Sem.run_bind, Sem.run_pure, Result.andThen_ok, run_loadVar_row w g t ty (lv c) (0, 0) _ hr hu rfl (by rw [lv_size, hc]; exact hi)]
  exact hK _ _ h
theorem wpListIn_store_st {F : Fence} {m : Nat} {ops : Array Oper} {rest : List Oper} {o : Oper} {a : Act} {w : World} {Q : Exit → Act → World → Prop} (hgd : o.guard = none) (ty : TypeId) (x y : Operand) (ho : o.op = .store ty x y) (g : Nat) (c : List Nat) (hx : a.eval x = .pointer (some ⟨g, 0, none⟩)) (hy : a.eval y = st c) (t : TypeId) (d : List Nat) (n : Nat) (hr : Rw w g t d)
    (hi : (P.info? ty).map (·.size) = some n) (hc : c.length = n) (hd : d.length = n) (h : wpListIn F m P ops Q rest (a.put o.dst undef) (w.setRow g (lv c))) : wpListIn F m P ops Q (o :: rest) a w := by
  refine wpListIn_plain hgd fun K hK => ?_
  unfold Oper.wpIn
  rw [Oper.semAt_plain F _ _ (by intro c; rw [ho]; exact fun h => nomatch h)]
  refine ⟨by intro f hf; simp [Oper.about, ho] at hf, ?_⟩
  unfold execOp
  simp only [ho, hx, hy, Instr.storeAt, Instr.sureAddr, Sem.run_bind, Sem.run_pure, Result.andThen_ok, run_storeVar_row w g t ty (lv d) (lv c) hr (by rw [lv_size, hc]; exact hi) (by rw [lv_size, lv_size, hc, hd]) (lv_one c)]
  exact hK _ _ h
end

theorem Tryz.size25 : (Tryz.prog.info? 54).map (·.size) = some 25 := by kernel_rfl
theorem Tryz.array25 : Tryz.prog.underlying 54 = some (.array 25 23) := by kernel_rfl
/-- The result of a function that lies in a cell. -/
theorem res_row {fn : Func} {p : Tmp} (h : fn.results = #[.cell p 54]) (tmps : Array Value) (w : World) (g : Nat) (t : TypeId) (c : List Nat) (hp : tmps.getD p undef = .pointer (some ⟨g, 0, none⟩)) (hg : Rw w g t c) (hc : c.length = 25) :
    (results fn tmps).run Tryz.prog w = .ok (st c) w :=
  results_cell_row h tmps w g t (lv c) (0, 0) _ hp hg Tryz.array25 rfl (by rw [lv_size, hc]; exact Tryz.size25)
theorem gl_set {a : List Nat} {i m : Nat} (j : Nat) (hi : i < a.length) : M.gl (a.set i m) j = if j = i then m else M.gl a j := by
  unfold M.gl
  rw [List.getD_eq_getElem?_getD, List.getElem?_set]
  by_cases h : i = j
  · subst h; simp [hi]
  · have : ¬ j = i := fun e => h e.symm
    simp [h, this, List.getD_eq_getElem?_getD]
end Go.Proofs.YtaajkbclojmbeaaGreatDoor
namespace Go.Proofs.YtaajkbclojmbeaaGreatDoor
open Go Go.RowKit

/-- The loop's record while it is ready. -/
abbrev recOfq (fn : FuncId) (tmps : Array Value) (ps : Array Tmp) (assign body : Code) (d : Nat) (st : LoopState) : Loop :=
  { state := st, pending := none, fn, tmps, params := ps, assign, body, defers := d }

theorem keeps_putq {W : World} {l : Nat} {o : Obj} (o' : Obj) {k : Nat} {x : Obj} (hk : W.heap[k]? = some x) (hne : k ≠ l) (_h : W.heap[l]? = some o) : (W.putObj l o').heap[k]? = some x :=
  (World.putObj_heap_other hne).trans hk

theorem range_ax {α : Type} {P : Program} {n : Nat} {g : Operand} {ps : Array Tmp} {assign body : Code} {Q : Exit → Act → World → Prop} {a : Act} {w : World} (h1 : 1 ≤ n)
    {gf : Nat} {lb : Array Value} (hg : a.eval g = .func (.func gf) #[] lb) (eg : ∀ args w, (callFunc gf args).run P w = .ok (.enter gf args) w)
    {encs : α → Array Value} (hps : ∀ x, (encs x).size = ps.size) (xs : List α) (I : List α → World → Prop) (hI : OwnFrom w.heap.size I)
    (hseq : ∀ (l : Nat) (J : List α → World → Prop) (W : World), (∀ pre W, J pre W → I pre W) → (∀ pre W, J pre W → J pre W.drew) →
      (∀ pre x post W1, xs = pre ++ x :: post → J pre W1 → YieldAt Fence.wide (n - 1 - 1) P l (encs x) W1 fun e W' => e = .returned (.bool true) ∧ J (pre ++ [x]) W') →
      J [] W → CallsIn Fence.wide (n - 1) P gf (#[.func (.yield l) #[] #[]] ++ lb) W fun e W' => (∃ v, e = .returned v) ∧ J xs W')
    (h0 : I [] w) (Ax : List α → α → Act → World → Prop) (hAx : ∀ pre x a', OwnFrom w.heap.size (fun (_ : Unit) W => Ax pre x a' W))
    (hassign : ∀ (l : Nat) (pre : List α) (x : α) (post : List α) (W : World) (K : Act → World → Prop), xs = pre ++ x :: post → I pre W → (∀ a' W', KeepsOthers W W' → Ax pre x a' W' → K a' W') →
      assign.wpIn (Fence.wide.inRound l) (n - 1 - 1) P (Exit.then K (fun _ _ _ => False)) { tmps := (ps.zip (encs x)).foldl (fun t (p, v) => t.setIfInBounds p v) a.tmps, defers := [] } W)
    (hbody : ∀ (l : Nat) (pre : List α) (x : α) (post : List α) (a' : Act) (W : World), xs = pre ++ x :: post → Ax pre x a' W →
      body.wpIn (Fence.wide.inRound l) (n - 1 - 1) P (fun e _ W' => e = .normal ∧ KeepsOthers W W' ∧ I (pre ++ [x]) W') a' W)
    (hdone : ∀ (D : Nat) (W : World), w.heap.size ≤ D → I xs W → W.heap[D]? = some (.deferred (some [])) → Q .normal { a with defers := { target := .collected D, args := #[] } :: a.defers } W) :
    (Code.rangeFunc g ps assign body).wpIn Fence.wide n P Q a w := by
  refine wpIn_rangeFunc ?_
  intro fn hfn
  have hro : Fence.wide.round = none := rfl
  rw [hro]
  have hrun := run_enterLoop_outer (P := P) (w := w) fn a.tmps ps assign body
  obtain ⟨W1, hW1⟩ : ∃ W1, (w.alloc (.deferred (some []))).alloc (.loop (recOfq fn a.tmps ps assign body w.heap.size .ready)) = W1 := ⟨_, rfl⟩
  replace hrun : (Instr.enterLoop fn a.tmps ps assign body none).run P w = .ok (w.heap.size + 1, [{ target := .collected w.heap.size, args := #[] }]) W1 := hW1 ▸ hrun
  have hL : W1.heap[w.heap.size + 1]? = some (.loop (recOfq fn a.tmps ps assign body w.heap.size .ready)) := by
    rw [← hW1]
    have := World.alloc_heap_new (w.alloc (.deferred (some []))) (.loop (recOfq fn a.tmps ps assign body w.heap.size .ready))
    rwa [World.size_alloc] at this
  have hD : W1.heap[w.heap.size]? = some (.deferred (some [])) := by
    rw [← hW1]
    exact (Below.heap_alloc _ _ _ (by simp)).trans (World.alloc_heap_new w _)
  have hI1 : I [] W1 := by rw [← hW1]; exact hI.alloc _ (hI.alloc _ h0)
  refine ⟨w.heap.size + 1, _, W1, { target := .fn (.func gf) lb, args := #[.func (.yield (w.heap.size + 1)) #[] #[]] }, W1, gf, #[.func (.yield (w.heap.size + 1)) #[] #[]] ++ lb, W1, hrun, ?_, fun _ _ => trivial, ?_, fun _ => h1, ?_⟩
  · simp only [resolve, hg]
    simp [go_sem]
  · simp [invoke, go_sem, eg]
  · refine (hseq (w.heap.size + 1) (fun pre W => I pre W ∧ W.heap[w.heap.size + 1]? = some (.loop (recOfq fn a.tmps ps assign body w.heap.size .ready)) ∧ W.heap[w.heap.size]? = some (.deferred (some []))) W1
      (fun _ _ h => h.1) (fun pre W h => ⟨hI pre W W.drew none h.1 ⟨rfl, rfl, rfl, Nat.le_refl _, fun _ _ _ => rfl⟩ (fun r e => by cases e), h.2⟩) ?_ ⟨hI1, hL, hD⟩).mono ?_
    · rintro pre x post W hx ⟨hi, hl, hd⟩
      refine ⟨fn, _, assign, body, run_yield hl (hps x), roundIn_of_wpIn trivial (hassign _ pre x post W _ hx hi ?_)⟩
      intro a' W' hk1 hax
      have hl1 := hk1.same _ _ hl rfl
      have hd1 := hk1.same _ _ hd rfl
      have hlt : w.heap.size + 1 < W'.heap.size := (Array.getElem?_eq_some_iff.1 hl1).1
      refine ⟨_, run_beginRound hl1 rfl, ?_⟩
      refine wpIn_mono (hbody _ pre x post _ _ hx ((hAx pre x a').putObj (s := ()) _ hax (by omega) hl1 rfl)) ?_
      rintro e b W2 ⟨rfl, hk, hi2⟩
      have hl2 := hk.same _ _ (World.putObj_heap_same hlt) rfl
      have hd2 := hk.same _ _ (keeps_putq _ hd1 (by omega) hl1) rfl
      exact ⟨_, _, run_endRound none hl2, rfl, hI.putObj _ hi2 (by omega) hl2 rfl, World.putObj_heap_same (Array.getElem?_eq_some_iff.1 hl2).1, keeps_putq _ hd2 (by omega) hl2⟩
    · rintro e W2 ⟨⟨v, rfl⟩, hi, hl, hd⟩
      exact ⟨none, _, run_endLoop hl (by simp), hdone _ _ (Nat.le_refl _) (hI.putObj _ hi (by omega) hl rfl) (keeps_putq _ hd (by omega) hl)⟩

section
variable {P : Program} {ops : Array Oper} {Q : Exit → Act → World → Prop} {md : Region.Mode}
/-- Reads and quiet calls, and a store at last, in a round. -/
theorem round_still_tailq {r m id : Nat} {Q : Exit → Act → World → Prop} {a : Act} {w : World} {l : List Oper} (n : Nat) (hm : P.follows .mixedOrders = true) (hB : Region.lexTailB .any l.toArray n = true) (hd : noDefer l.toArray = true)
    (h : wpStill P l.toArray { w with drawn := w.drawn + 1 } (fun a' => wpList P l.toArray (nrm (fun b u => Q .normal b u)) (l.drop n) a' { w with drawn := w.drawn + 1 }) (l.take n) a) : (Code.region id l.toArray true).wpIn (Fence.wide.inRound r) m P Q a w := by
  refine wpIn_mono' (R := fun b u => Q .normal b u) ?_ (fun _ _ h => h)
  simp only [Region.lexTailB, Bool.and_eq_true, decide_eq_true_eq] at hB
  obtain ⟨⟨⟨⟨hsel, hn⟩, hs⟩, hc⟩, hlex⟩ := hB
  have hn' : n < l.length := by simpa using hn
  have htl : (l.take n).length = n := by simp; omega
  have hdl : (l.drop n).length = l.toArray.size - n := by simp
  have inv0 : HeadInv .any l.toArray n (Array.replicate l.toArray.size false) :=
    ⟨by simp, fun j oj _ hl => (by rw [getD_replicate_false] at hl; cases hl), fun t _ ht => getD_in (by simpa using ht) (getD_replicate_false _ _)⟩
  have H := wpAnyL_lex (md := .any) (g := l.toArray.size - n) hsel hs hc hn (l.take n) 0 _ a (fun j hj => by
    have hj' : j < n := by rw [htl] at hj; exact hj
    simp [hj']) (by simpa using htl) inv0 (by rw [htl]; exact hlex) h
  refine wpIn_region_any hm (wpAny_round hd _ _ _ _ ?_)
  have := wpAny_of_head (Q' := nrm (fun b u => Q .normal b u)) (g := l.toArray.size - n) (fun listed a' hL => by
    have := wpAny_of_seq (md := .any) (Q' := nrm (fun b u => Q .normal b u)) (l.drop n) n listed a' { w with drawn := w.drawn + 1 } (fun j => by simp [List.getElem?_drop]) (by rw [hdl]; exact hL.1) hL.2
    rwa [hdl] at this) _ _ _ H
  rw [htl, show n + (l.toArray.size - n) = l.toArray.size by omega] at this
  exact this
/-- Reads and quiet calls alone, in a round. -/
theorem round_stillq {r m id : Nat} {Q : Exit → Act → World → Prop} {a : Act} {w : World} {l : List Oper} (hm : P.follows .mixedOrders = true) (hB : Region.lexB .any l.toArray = true) (hd : noDefer l.toArray = true)
    (h : wpStill P l.toArray { w with drawn := w.drawn + 1 } (fun a' => Q .normal a' { w with drawn := w.drawn + 1 }) l a) : (Code.region id l.toArray true).wpIn (Fence.wide.inRound r) m P Q a w := by
  refine wpIn_mono' (R := fun b u => Q .normal b u) ?_ (fun _ _ h => h)
  simp only [Region.lexB, Bool.and_eq_true] at hB
  refine wpIn_region_any hm (wpAny_round hd _ _ _ _ (wpAny_of_still (Q := fun a' => Q .normal a' { w with drawn := w.drawn + 1 }) (Q' := nrm (fun b u => Q .normal b u)) (fun _ h => h) _ _ _ ?_))
  have := wpAnyS_lex (md := .any) hB.1 l 0 (Array.replicate l.toArray.size false) a (by simp) (by simpa using hB.2) h
  simpa using this
end
end Go.Proofs.YtaajkbclojmbeaaGreatDoor
namespace Go.Proofs.YtaajkbclojmbeaaGreatDoor
open Go Go.RowKit Go.Shelf
attribute [local go_sem] Oper.semAt_some

/-- A lane's place. -/
def px (i : Nat) : Nat := i % 5
def py (i : Nat) : Nat := i / 5
theorem at_any (x y p : Nat) (w : World) (hx : x ≤ 100) (hy : y ≤ 100) (hp : x % 5 + 5 * (y % 5) = p) :
    Calls Tryz.prog 121 #[.int .i64 (x : Int), .int .i64 (y : Int)] w fun e w' => e = .returned (.int .i64 (p : Int)) ∧ w = w' := by
  have e : (x : Int) % 5 + 5 * ((y : Int) % 5) = (p : Int) := by omega
  clear hp
  go_enter Tryz.func121, Tryz.ntmps121
  go_wp2_with fail
  go_ret
  exact ⟨rfl, rfl⟩

theorem mask64 : ∀ k : Fin 64, bits .and .u64 ((k.val : Nat) : Int) 63 = ((k.val : Nat) : Int) := by decide +kernel

set_option maxRecDepth 100000 in
set_option maxHeartbeats 2000000 in
theorem rotl (n k : Nat) (w : World) (hn : n < 18446744073709551616) (hk : k < 64) :
    Calls Tryz.prog 122 #[.int .u64 (n : Int), .int .i64 (k : Int)] w fun e w' => e = .returned (.int .u64 ((M.rotN n k : Nat) : Int)) ∧ w = w' := by
  have HN := Lib.hid hn
  have hm := mask64 ⟨k, hk⟩
  simp only at hm
  clear hn
  go_enter Tryz.func122, Tryz.ntmps122
  go_wp2_with fail
  go_ret
  rw [M.rot_model HN.out hk]
  exact ⟨rfl, rfl⟩

theorem lane_in (n : Nat) (a : List Nat) (w : World) :
    CallsIn Fence.wide n Tryz.prog 120 #[st a] w fun e w' =>
      e = .returned (.func (.func 152) #[] #[.pointer (some ⟨w.heap.size, 0, none⟩)]) ∧ w' = w.alloc (.cells (lv a) 54) := by
  refine callsIn_of_wp Tryz.func120 rfl trivial ?_ rfl
  simp only [Tryz.ntmps120, List.size_toArray, List.length_cons, List.length_nil, Nat.reduceAdd, Nat.reduceSub, Array.replicate_succ, Array.replicate_zero, List.push_toArray, List.append_toArray, List.nil_append, List.cons_append]
  gi_wp2
  go_ret
  exact ⟨rfl, rfl⟩

set_option maxRecDepth 100000 in
set_option maxHeartbeats 4000000 in
theorem lanes_run (n : Nat) (a : List Nat) (ha : a.length = 25) (l b : Nat) (J : List Nat → World → Prop) (hJ : ∀ pre W, J pre W → Rw W b 54 a)
    (hY : ∀ i W, i < 25 → J (List.range i) W → YieldAt Fence.wide n Tryz.prog l #[.agg #[.int .i64 ((px i : Nat) : Int), .int .i64 ((py i : Nat) : Int)], .int .u64 ((M.gl a i : Nat) : Int)] W fun e W' => e = .returned (.bool true) ∧ J (List.range (i + 1)) W')
    (W : World) (h0 : J [] W) :
    CallsIn Fence.wide (n + 1) Tryz.prog 152 #[.func (.yield l) #[] #[], .pointer (some ⟨b, 0, none⟩)] W fun e W' => (∃ v, e = .returned v) ∧ J (List.range 25) W' := by
  have HA := Lib.hid ha
  have HJ := Lib.hid hJ
  have HY := Lib.hid hY
  clear ha hJ hY
  have hro : Fence.wide.round = none := rfl
  refine callsIn_of_wp Tryz.func152 rfl trivial ?_ rfl
  simp only [Tryz.ntmps152, List.size_toArray, List.length_cons, List.length_nil, Nat.reduceAdd, Nat.reduceSub, Array.replicate_succ, Array.replicate_zero, List.push_toArray, List.append_toArray, List.nil_append, List.cons_append]
  gi_wp2
  gi_loopw [5] (fun i wr => ∃ y : Nat, y ≤ 5 ∧ i = .int .i64 (y : Int) ∧ J (List.range (5 * y)) wr) (fun i _ => 5 - (intOf i).toNat)
  case atStart => exact ⟨0, Nat.zero_le _, rfl, h0⟩
  case round =>
    obtain ⟨y, hy, rfl, hJs⟩ := hrel
    by_cases hlt : y < 5
    · have hlt' : (y : Int) < 5 := by omega
      gi_wp2
      gi_loopw [8] (fun i wq => ∃ x : Nat, x ≤ 5 ∧ i = .int .i64 (x : Int) ∧ J (List.range (5 * y + x)) wq) (fun i _ => 5 - (intOf i).toNat)
      case atStart => exact ⟨0, Nat.zero_le _, rfl, hJs⟩
      case round =>
        clear hJs
        obtain ⟨x, hx, rfl, hJs⟩ := hrel
        by_cases hltx : x < 5
        · have hltx' : (x : Int) < 5 := by omega
          have hR := HJ.out _ _ hJs
          have hi : 5 * y + x < 25 := by omega
          have cc := hR.cell (i := 5 * y + x) (by rw [HA.out]; exact hi)
          obtain ⟨fn, tmps, asg, body, hyy, hRR⟩ := HY.out (5 * y + x) wr hi hJs
          rw [show px (5 * y + x) = x by unfold px; omega, show py (5 * y + x) = y by unfold py; omega] at hyy
          have HS : Hid (5 * y + x + 1 = 5 * y + (x + 1)) := rfl
          obtain ⟨p, hp⟩ : ∃ p, p = 5 * y + x := ⟨_, rfl⟩
          have hp' := at_any x y p wr (by omega) (by omega) (by omega)
          rw [← hp] at cc hi hRR hyy HS
          have HP := Lib.hid hp
          have hi' : (p : Int) < 25 := by omega
          clear hp
          gi_wp2_with (refine ⟨trivial, ?_⟩; (with_reducible refine (callsIn_wide.2 hp').mono ?_); rintro e w' ⟨rfl, rfl⟩)
          refine hRR.mono ?_
          rintro e W3 ⟨rfl, hJ3⟩
          clear hRR hyy hp' cc hR hJs
          gi_wp2
          go_roundw
          case rel => exact ⟨x + 1, by omega, by simp <;> omega, by rw [← HS.out]; exact hJ3⟩
          case measure => simp [intOf]; omega
        · obtain rfl : x = 5 := by omega
          gi_wp2
          go_roundw
          case rel => exact ⟨y + 1, by omega, by simp <;> omega, hJs⟩
          case measure => simp [intOf]; omega
    · obtain rfl : y = 5 := by omega
      gi_wp2
      go_end0
      exact ⟨⟨_, rfl⟩, hJs⟩
end Go.Proofs.YtaajkbclojmbeaaGreatDoor
namespace Go.Proofs.YtaajkbclojmbeaaGreatDoor
open Go Go.RowKit

theorem rot_zero {n k : Nat} (hn : n < 18446744073709551616) (hk : k % 64 = 0) : M.rotN n k = n := by
  unfold M.rotN
  rw [hk]
  have e : n >>> 64 = 0 := by rw [Nat.shiftRight_eq_div_pow]; exact Nat.div_eq_of_lt (by omega)
  simp [e]
  omega
theorem rot_mod (n k : Nat) : M.rotN n (k % 64) = M.rotN n k := by unfold M.rotN; rw [Nat.mod_mod]

set_option maxRecDepth 100000 in
set_option maxHeartbeats 2000000 in
theorem rrot (n k : Nat) (w : World) (hn : n < 18446744073709551616) (hk : k < 1000) :
    Calls Tryz.prog 158 #[.int .u64 (n : Int), .int .i64 (k : Int)] w fun e w' => e = .returned (.int .u64 ((M.rotN n k : Nat) : Int)) ∧ w = w' := by
  have HN := Lib.hid hn
  clear hn
  by_cases h0 : k % 64 = 0
  · have hz : (((k : Int) % 64) == 0) = true := by simp; omega
    have HZ := Lib.hid h0
    clear h0
    go_enter Tryz.func158, Tryz.ntmps158
    go_wp2_with fail
    go_ret
    rw [rot_zero HN.out HZ.out]
    exact ⟨rfl, rfl⟩
  · have hz : (((k : Int) % 64) == 0) = false := by simp; omega
    have h1 : (0 : Int) < (k : Int) % 64 := by omega
    have h2 : (k : Int) % 64 < 64 := by omega
    have HZ := Lib.hid h0
    clear h0
    obtain ⟨q, hq⟩ : ∃ q, q = (k : Int) % 64 := ⟨_, rfl⟩
    go_enter Tryz.func158, Tryz.ntmps158
    go_wp2_with fail
    go_ret
    rw [M.rot_model HN.out (by omega), rot_mod]
    exact ⟨rfl, rfl⟩

/-- What a round's numbers are made of. -/
def bitR : Nat → Nat
  | 0 => 1
  | k + 1 => if 256 ≤ bitR k * 2 then (bitR k * 2) ^^^ 369 else bitR k * 2
theorem bitR_lt (k : Nat) : bitR k < 256 := by
  induction k with
  | zero => decide
  | succ k ih =>
    unfold bitR
    by_cases h : 256 ≤ bitR k * 2
    · rw [if_pos h]
      have : ∀ r : Fin 256, 256 ≤ r.val * 2 → (r.val * 2) ^^^ 369 < 256 := by decide +kernel
      exact this ⟨_, ih⟩ h
    · rw [if_neg h]; omega
theorem bitR_yes {k : Nat} (h : 256 ≤ bitR k * 2) : bits .xor .i64 (((bitR k : Nat) : Int) * 2) 369 = ((bitR (k + 1) : Nat) : Int) := by
  have e : bitR (k + 1) = (bitR k * 2) ^^^ 369 := by rw [bitR, if_pos h]
  rw [e]
  have : ∀ r : Fin 256, bits .xor .i64 (((r.val : Nat) : Int) * 2) 369 = (((r.val * 2) ^^^ 369 : Nat) : Int) := by decide +kernel
  exact this ⟨_, bitR_lt k⟩
theorem bitR_no {k : Nat} (h : ¬ 256 ≤ bitR k * 2) : bitR (k + 1) = bitR k * 2 := by rw [bitR, if_neg h]
def bitV (t : Nat) : Nat := bitR (t % 255) % 2

set_option maxRecDepth 100000 in
set_option maxHeartbeats 2000000 in
theorem rbit (t : Nat) (w : World) (ht : t < 1000) :
    Calls Tryz.prog 159 #[.int .i64 (t : Int)] w fun e w' => e = .returned (.int .u64 ((bitV t : Nat) : Int)) ∧ w = w' := by
  go_enter Tryz.func159, Tryz.ntmps159
  go_wp2_with fail
  go_loop [3, 4] (fun r i => ∃ k : Nat, k ≤ t % 255 ∧ i = .int .i64 (k : Int) ∧ r = .int .i64 ((bitR k : Nat) : Int)) (fun _ i => 255 - (intOf i).toNat)
  case atStart => exact ⟨0, Nat.zero_le _, rfl, rfl⟩
  case round =>
    obtain ⟨k, hk, rfl, rfl⟩ := hrel
    have hl := bitR_lt k
    by_cases hlt : k < t % 255
    · have hlt' : (k : Int) < (t : Int) % 255 := by omega
      by_cases h : 256 ≤ bitR k * 2
      · have hx := bitR_yes h
        have h' : (256 : Int) ≤ ((bitR k : Nat) : Int) * 2 := by omega
        clear h
        go_wp2_with fail
        go_round
        case rel => exact ⟨k + 1, by omega, by go_num, rfl⟩
        case measure => simp [intOf]; omega
      · have HX := Lib.hid (bitR_no h)
        have h' : ((bitR k : Nat) : Int) * 2 < 256 := by omega
        clear h
        go_wp2_with fail
        go_round
        case rel => exact ⟨k + 1, by omega, by go_num, by rw [HX.out]; go_num⟩
        case measure => simp [intOf]; omega
    · obtain rfl : k = t % 255 := by omega
      have HV : Hid (bitV t = bitR (t % 255) % 2) := rfl
      go_wp2_with fail
      go_ret
      rw [HV.out]
      exact ⟨by simp, rfl⟩

def numP (i : Nat) (j : Nat) : Nat := (List.range j).foldl (fun n j => n ||| bitV (7 * i + j) * 2 ^ (2 ^ j - 1)) 0
theorem numP_succ (i j : Nat) : numP i (j + 1) = numP i j ||| bitV (7 * i + j) * 2 ^ (2 ^ j - 1) := by simp [numP, List.range_succ]
theorem numP_all : ∀ i : Fin 24, numP i.val 7 = M.gl M.rcs i.val := by decide +kernel
theorem numP_lt : ∀ i : Fin 24, ∀ j : Fin 8, numP i.val j.val < 18446744073709551616 := by decide +kernel
theorem bitV_lt (t : Nat) : bitV t < 2 := Nat.mod_lt _ (by omega)
theorem shl_is : ∀ j : Fin 7, ∀ b : Fin 2, IntKind.u64.wrap (((b.val : Nat) : Int) * 2 ^ ((((2 ^ j.val : Nat) : Int) - 1).toNat)) = ((b.val * 2 ^ (2 ^ j.val - 1) : Nat) : Int) ∧ b.val * 2 ^ (2 ^ j.val - 1) < 18446744073709551616 := by decide +kernel

set_option maxRecDepth 100000 in
set_option maxHeartbeats 2000000 in
theorem rnum (i : Nat) (w : World) (hi : i < 24) :
    Calls Tryz.prog 133 #[.int .i64 (i : Int)] w fun e w' => e = .returned (.int .u64 ((M.gl M.rcs i : Nat) : Int)) ∧ w = w' := by
  go_enter Tryz.func133, Tryz.ntmps133
  go_wp2_with fail
  go_loop [3, 4, 5] (fun n a q => ∃ (j : Nat) (A : Int), j ≤ 7 ∧ Hid (A = ((2 ^ j : Nat) : Int)) ∧ q = .int .i64 (j : Int) ∧ a = .int .i64 A ∧ n = .int .u64 ((numP i j : Nat) : Int)) (fun _ _ q => 7 - (intOf q).toNat)
  case atStart => exact ⟨0, 1, by omega, rfl, rfl, rfl, rfl⟩
  case round =>
    obtain ⟨j, A, hj, HA, rfl, rfl, rfl⟩ := hrel
    by_cases hlt : j < 7
    · have hA0 : 1 ≤ A := by rw [HA.out]; have := Nat.two_pow_pos j; omega
      have hA1 : A ≤ 64 := by
        rw [HA.out]
        have := Nat.pow_le_pow_right (show 1 ≤ 2 by omega) (show j ≤ 6 by omega)
        omega
      obtain ⟨s1, s2⟩ := shl_is ⟨j, hlt⟩ ⟨bitV (7 * i + j), bitV_lt _⟩
      simp only at s1 s2
      rw [← HA.out] at s1
      have hor := bits_or_u64_nat _ _ (numP_lt ⟨i, hi⟩ ⟨j, by omega⟩) s2
      simp only at hor
      rw [← numP_succ] at hor
      clear s2
      have hN : ((bitV (7 * i + j) * 2 ^ (2 ^ j - 1) : Nat) : Int) = ((bitV (7 * i + j) * 2 ^ (2 ^ j - 1) : Nat) : Int) := rfl
      have HS := Lib.hid s1
      have HO := Lib.hid hor
      clear s1 hor hN
      have hc : Calls Tryz.prog 159 #[.int .i64 (7 * (i : Int) + (j : Int))] w fun e w' => e = .returned (.int .u64 ((bitV (7 * i + j) : Nat) : Int)) ∧ w = w' := by
        have := rbit (7 * i + j) w (by omega)
        simpa using this
      obtain ⟨b, hb⟩ : ∃ b, b = bitV (7 * i + j) := ⟨_, rfl⟩
      rw [← hb] at hc HS HO
      clear hb
      go_wp2_with ((with_reducible refine hc.mono ?_); rintro e w' ⟨rfl, rfl⟩)
      go_round
      case rel =>
        refine ⟨j + 1, A * 2, by omega, ?_, by go_num, rfl, ?_⟩
        · show A * 2 = _
          rw [HA.out, Nat.pow_succ]; simp
        · rw [show A.toNat - 1 = (A - 1).toNat by omega, HS.out, HO.out]
      case measure => simp [intOf]; omega
    · obtain rfl : j = 7 := by omega
      have e := numP_all ⟨i, hi⟩
      simp only at e
      rw [e]
      clear e
      go_wp2_with fail
      go_ret
      exact ⟨rfl, rfl⟩
end Go.Proofs.YtaajkbclojmbeaaGreatDoor
namespace Go.Proofs.YtaajkbclojmbeaaGreatDoor
open Go Go.RowKit

/-- The lanes below k by f, the others as they were. -/
def upto (f : Nat → Nat) (a : List Nat) (k : Nat) : List Nat := M.lanesOf fun i => if i < k then f i else M.gl a i
theorem upto_length (f : Nat → Nat) (a : List Nat) (k : Nat) : (upto f a k).length = 25 := M.of_length _
theorem upto_zero (f : Nat → Nat) {a : List Nat} (ha : a.length = 25) : upto f a 0 = a :=
  M.lanes_ext (M.of_length _) ha fun i hi => by unfold upto; rw [M.gl_of _ hi]; simp
theorem upto_all (f : Nat → Nat) (a : List Nat) : upto f a 25 = M.lanesOf f :=
  M.lanes_ext (M.of_length _) (M.of_length _) fun i hi => by unfold upto; rw [M.gl_of _ hi, M.gl_of _ hi, if_pos hi]
theorem upto_at (f : Nat → Nat) (a : List Nat) {k i : Nat} (hk : k ≤ i) (hi : i < 25) : M.gl (upto f a k) i = M.gl a i := by
  unfold upto; rw [M.gl_of _ hi, if_neg (by omega)]
theorem upto_succ (f : Nat → Nat) (a : List Nat) {k : Nat} (hk : k < 25) : (upto f a k).set k (f k) = upto f a (k + 1) := by
  refine M.lanes_ext (by rw [List.length_set, upto_length]) (M.of_length _) fun i hi => ?_
  rw [gl_set i (by rw [upto_length]; exact hk)]
  unfold upto
  rw [M.gl_of _ hi, M.gl_of _ hi]
  by_cases h : i = k
  · subst h; rw [if_pos rfl, if_pos (by omega)]
  · rw [if_neg h]
    by_cases h2 : i < k
    · rw [if_pos h2, if_pos (by omega)]
    · rw [if_neg h2, if_neg (by omega)]

/-- The columns, when k lanes have gone in. -/
def colP (a : List Nat) (k : Nat) : List Nat := (List.range k).foldl (fun c i => c.set (i % 5) (M.gl c (i % 5) ^^^ M.gl a i)) z5
theorem colP_succ (a : List Nat) (k : Nat) : colP a (k + 1) = (colP a k).set (k % 5) (M.gl (colP a k) (k % 5) ^^^ M.gl a k) := by simp [colP, List.range_succ]
theorem colP_length (a : List Nat) (k : Nat) : (colP a k).length = 5 := by
  induction k with
  | zero => rfl
  | succ k ih => rw [colP_succ, List.length_set, ih]
theorem colP_lt {a : List Nat} (ha : M.Lanes a) (k : Nat) : ∀ x, M.gl (colP a k) x < 18446744073709551616 := by
  induction k with
  | zero => intro x; have : ∀ x, M.gl z5 x = 0 := fun x => by unfold M.gl z5; rw [List.getD_eq_getElem?_getD, List.getElem?_replicate]; split <;> simp
            rw [show colP a 0 = z5 from rfl, this]; omega
  | succ k ih =>
    intro x
    rw [colP_succ, gl_set _ (by rw [colP_length]; omega)]
    by_cases h : x = k % 5
    · rw [if_pos h]; exact M.xor_lt64 (ih _) (ha.2 _)
    · rw [if_neg h]; exact ih x
theorem colP_all (a : List Nat) {x : Nat} (hx : x < 5) : M.gl (colP a 25) x = M.col a x := by
  have h0 : M.gl (colP a 25) 0 = 0 ^^^ M.gl a 0 ^^^ M.gl a 5 ^^^ M.gl a 10 ^^^ M.gl a 15 ^^^ M.gl a 20 := by kernel_rfl
  have h1 : M.gl (colP a 25) 1 = 0 ^^^ M.gl a 1 ^^^ M.gl a 6 ^^^ M.gl a 11 ^^^ M.gl a 16 ^^^ M.gl a 21 := by kernel_rfl
  have h2 : M.gl (colP a 25) 2 = 0 ^^^ M.gl a 2 ^^^ M.gl a 7 ^^^ M.gl a 12 ^^^ M.gl a 17 ^^^ M.gl a 22 := by kernel_rfl
  have h3 : M.gl (colP a 25) 3 = 0 ^^^ M.gl a 3 ^^^ M.gl a 8 ^^^ M.gl a 13 ^^^ M.gl a 18 ^^^ M.gl a 23 := by kernel_rfl
  have h4 : M.gl (colP a 25) 4 = 0 ^^^ M.gl a 4 ^^^ M.gl a 9 ^^^ M.gl a 14 ^^^ M.gl a 19 ^^^ M.gl a 24 := by kernel_rfl
  have : x = 0 ∨ x = 1 ∨ x = 2 ∨ x = 3 ∨ x = 4 := by omega
  rcases this with rfl | rfl | rfl | rfl | rfl
  · rw [h0, Nat.zero_xor]; rfl
  · rw [h1, Nat.zero_xor]; rfl
  · rw [h2, Nat.zero_xor]; rfl
  · rw [h3, Nat.zero_xor]; rfl
  · rw [h4, Nat.zero_xor]; rfl
def mixF (a : List Nat) (i : Nat) : Nat := M.gl a i ^^^ M.col a ((i % 5 + 4) % 5) ^^^ M.rotN (M.col a ((i % 5 + 1) % 5)) 1

set_option maxRecDepth 100000 in
set_option maxHeartbeats 4000000 in
theorem rmix (a : List Nat) (w : World) (ha : M.Lanes a) :
    Calls Tryz.prog 132 #[st a] w fun e w' => e = .returned (st (M.mixL a)) ∧ Below w.heap.size w w' := by
  have HA := Lib.hid ha
  clear ha
  have mixed : Tryz.prog.follows .mixedOrders = true := by kernel_rfl
  go_enter Tryz.func132, Tryz.ntmps132
  go_wp2_with fail
  go_loopw [4] (fun i wr => ∃ k : Nat, k ≤ 25 ∧ i = .int .i64 (k : Int) ∧ Rw wr w.heap.size 54 a ∧ Rw wr (w.heap.size + 1) 54 z25 ∧ Rw wr (w.heap.size + 1 + 1) 119 (colP a k) ∧ Below w.heap.size w wr)
    (fun i _ => 25 - (intOf i).toNat)
  case atStart =>
    rw [lv_zero, lv_zero5]
    refine ⟨0, by omega, rfl, ((Rw.new _ _ _).alloc _).alloc _, (Rw.at_ _ _ _ (by simp)).alloc _, Rw.at_ _ _ _ (by simp), ?_⟩
    (repeat (first | exact Below.refl _ _ | refine Below.drew ?_ | refine Below.alloc ?_ (by first | omega | (simp; omega) | simp) _ | refine Below.setCell ?_ (by first | omega | (simp; omega) | simp) _))
  case round =>
    obtain ⟨k, hk, rfl, hA, hR, hC, hW⟩ := hrel
    by_cases hlt : k < 25
    · obtain ⟨c, hc⟩ : ∃ c, c = k % 5 := ⟨_, rfl⟩
      have t0 : (c : Int) < 5 := by omega
      have ca := hA.cell (i := k) (by rw [HA.out.1]; exact hlt)
      have cc := hC.cell (i := c) (by rw [colP_length]; omega)
      have fc := hC.frozen c
      have hx := bits_xor_u64_nat _ _ (colP_lt HA.out k c) (HA.out.2 k)
      have tm : ((k : Int)).tmod 5 = (c : Int) := by rw [Int.tmod_eq_emod_of_nonneg (by omega)]; omega
      have HC := Lib.hid hc
      clear hc
      go_wp2_with fail
      go_still_tail 11, mixed
      change wpList _ _ _ _ _ wr.drew
      go_wp2_with fail
      go_roundw
      case rel => exact ⟨k + 1, by omega, by go_num, hA.drew.far (by simp; omega) _, hR.drew.far (by simp) _, by rw [colP_succ, ← HC.out]; exact hC.drew.set_ _ _, hW.drew.setCell (by simp; omega) _⟩
      case measure => simp [intOf]; omega
    · obtain rfl : k = 25 := by omega
      clear hlt hk
      rw [show ((25 : Nat) : Int) = 25 from rfl]
      go_wp2_with fail
      go_loopw [5] (fun i wq => ∃ k : Nat, k ≤ 25 ∧ i = .int .i64 (k : Int) ∧ Rw wq w.heap.size 54 (upto (mixF a) a k) ∧ Rw wq (w.heap.size + 1) 54 z25 ∧ Rw wq (w.heap.size + 1 + 1) 119 (colP a 25) ∧ Below w.heap.size w wq)
        (fun i _ => 25 - (intOf i).toNat)
      case atStart => exact ⟨0, by omega, rfl, by rw [upto_zero _ HA.out.1]; exact hA, hR, hC, hW⟩
      case round =>
        clear hA hR hC hW
        obtain ⟨k, hk, rfl, hA, hR, hC, hW⟩ := hrel
        by_cases hlt : k < 25
        · obtain ⟨c, hc⟩ : ∃ c, c = k % 5 := ⟨_, rfl⟩
          obtain ⟨d, hd⟩ : ∃ d, d = (c + 4) % 5 := ⟨_, rfl⟩
          obtain ⟨e, he⟩ : ∃ e, e = (c + 1) % 5 := ⟨_, rfl⟩
          have t0 : (c : Int) < 5 := by omega
          have td : (d : Int) < 5 := by omega
          have te : (e : Int) < 5 := by omega
          have hm : (k : Int) % 5 = (c : Int) := by omega
          have w4 : IntKind.i64.wrap ((c : Int) + 4) = (c : Int) + 4 := IntWalk.i64_in _ (by omega)
          have w1 : IntKind.i64.wrap ((c : Int) + 1) = (c : Int) + 1 := IntWalk.i64_in _ (by omega)
          have md : ((c : Int) + 4).tmod 5 = (d : Int) := by rw [Int.tmod_eq_emod_of_nonneg (by omega)]; omega
          have me : ((c : Int) + 1).tmod 5 = (e : Int) := by rw [Int.tmod_eq_emod_of_nonneg (by omega)]; omega
          have ca := hA.cell (i := k) (by rw [upto_length]; exact hlt)
          rw [upto_at _ _ (Nat.le_refl k) hlt] at ca
          have fa := hA.frozen k
          have cd := hC.cell (i := d) (by rw [colP_length]; omega)
          have ce := hC.cell (i := e) (by rw [colP_length]; omega)
          rw [colP_all _ (by omega)] at cd ce
          have x1 := bits_xor_u64_nat _ _ (HA.out.2 k) (M.col_lt HA.out d)
          have x2 := bits_xor_u64_nat _ _ (M.xor_lt64 (HA.out.2 k) (M.col_lt HA.out d)) (M.rot_lt (M.col a e) 1)
          have L := Lib.hid (M.col_lt HA.out e)
          have HC : Hid (M.gl a k ^^^ M.col a d ^^^ M.rotN (M.col a e) 1 = mixF a k) := by
            show _ = mixF a k
            unfold mixF
            rw [hd, he, hc]
          clear hc hd he
          go_wp2_with fail
          go_still_tail 18, mixed
          still_call ((rrot _ 1 _ L.out (by omega)).mono (fun _ _ h => ⟨h.1, h.2.symm⟩))
          repeat still_step
          refine wpStill_nil ?_
          change wpList _ _ _ _ _ wr.drew
          go_wp2_with fail
          go_roundw
          case rel =>
            rw [HC.out]
            refine ⟨k + 1, by omega, by go_num, ?_, ?_, ?_, ?_⟩
            · rw [← upto_succ _ _ hlt]; exact (hA.set_ _ _).drew
            · exact (hR.far (by simp) _).drew
            · exact (hC.far (by simp; omega) _).drew
            · exact (hW.setCell (by simp) _).drew
          case measure => simp [intOf]; omega
        · obtain rfl : k = 25 := by omega
          rw [upto_all] at hA
          replace hA : Rw wr w.heap.size 54 (M.mixL a) := hA
          go_wp2_with (first | (refine wpList_load_st rfl _ _ rfl _ rfl _ _ 25 23 hA Tryz.array25 Tryz.size25 (M.of_length _) ?_) | (refine wpList_store_st rfl _ _ _ rfl _ _ rfl rfl _ _ 25 hR Tryz.size25 (M.of_length _) z25_length ?_))
          exact bodyPost_ret (v := st (M.mixL a)) (res_row rfl _ _ _ _ _ rfl (hR.row _) (M.of_length _)) rfl ⟨rfl, below_setRow hW (by omega) _⟩
end Go.Proofs.YtaajkbclojmbeaaGreatDoor
namespace Go.Proofs.YtaajkbclojmbeaaGreatDoor
open Go Go.RowKit

/-- Where the t-th turn is. -/
def txy : Nat → Nat × Nat
  | 0 => (1, 0)
  | t + 1 => ((txy t).2, (2 * (txy t).1 + 3 * (txy t).2) % 5)
theorem txy_lt : ∀ t, (txy t).1 < 5 ∧ (txy t).2 < 5
  | 0 => by decide
  | t + 1 => ⟨(txy_lt t).2, Nat.mod_lt _ (by omega)⟩
def tp (t : Nat) : Nat := (txy t).1 + 5 * (txy t).2
theorem tp_lt (t : Nat) : tp t < 25 := by have := txy_lt t; unfold tp; omega
def trP (a : List Nat) (t : Nat) : List Nat := (List.range t).foldl (fun b t => b.set (tp t) (M.rotN (M.gl b (tp t)) ((t + 1) * (t + 2) / 2))) a
theorem trP_succ (a : List Nat) (t : Nat) : trP a (t + 1) = (trP a t).set (tp t) (M.rotN (M.gl (trP a t) (tp t)) ((t + 1) * (t + 2) / 2)) := by simp [trP, List.range_succ]
theorem trP_lanes {a : List Nat} (ha : M.Lanes a) (t : Nat) : M.Lanes (trP a t) := by
  induction t with
  | zero => exact ha
  | succ t ih =>
    rw [trP_succ]
    refine ⟨by rw [List.length_set]; exact ih.1, fun i => ?_⟩
    rw [gl_set _ (by rw [ih.1]; exact tp_lt t)]
    by_cases h : i = tp t
    · rw [if_pos h]; exact M.rot_lt _ _
    · rw [if_neg h]; exact ih.2 i
theorem trP_list (a0 a1 a2 a3 a4 a5 a6 a7 a8 a9 a10 a11 a12 a13 a14 a15 a16 a17 a18 a19 a20 a21 a22 a23 a24 : Nat) : trP [a0, a1, a2, a3, a4, a5, a6, a7, a8, a9, a10, a11, a12, a13, a14, a15, a16, a17, a18, a19, a20, a21, a22, a23, a24] 24 = [a0, M.rotN a1 1, M.rotN a2 62, M.rotN a3 28, M.rotN a4 27, M.rotN a5 36, M.rotN a6 44, M.rotN a7 6, M.rotN a8 55, M.rotN a9 20, M.rotN a10 3, M.rotN a11 10, M.rotN a12 43, M.rotN a13 25, M.rotN a14 39, M.rotN a15 41, M.rotN a16 45, M.rotN a17 15, M.rotN a18 21, M.rotN a19 8, M.rotN a20 18, M.rotN a21 2, M.rotN a22 61, M.rotN a23 56, M.rotN a24 14] := by kernel_rfl
theorem turn_list (a0 a1 a2 a3 a4 a5 a6 a7 a8 a9 a10 a11 a12 a13 a14 a15 a16 a17 a18 a19 a20 a21 a22 a23 a24 : Nat) : M.turnL [a0, a1, a2, a3, a4, a5, a6, a7, a8, a9, a10, a11, a12, a13, a14, a15, a16, a17, a18, a19, a20, a21, a22, a23, a24] = [M.rotN a0 0, M.rotN a1 1, M.rotN a2 62, M.rotN a3 28, M.rotN a4 27, M.rotN a5 36, M.rotN a6 44, M.rotN a7 6, M.rotN a8 55, M.rotN a9 20, M.rotN a10 3, M.rotN a11 10, M.rotN a12 43, M.rotN a13 25, M.rotN a14 39, M.rotN a15 41, M.rotN a16 45, M.rotN a17 15, M.rotN a18 21, M.rotN a19 8, M.rotN a20 18, M.rotN a21 2, M.rotN a22 61, M.rotN a23 56, M.rotN a24 14] := by kernel_rfl
theorem trP_all {a : List Nat} (ha : M.Lanes a) : trP a 24 = M.turnL a := by
  match a, ha with
  | [a0, a1, a2, a3, a4, a5, a6, a7, a8, a9, a10, a11, a12, a13, a14, a15, a16, a17, a18, a19, a20, a21, a22, a23, a24], ha =>
    have r0 : M.rotN a0 0 = a0 := rot_zero (ha.2 0) rfl
    rw [trP_list, turn_list, r0]

set_option maxRecDepth 100000 in
set_option maxHeartbeats 4000000 in
theorem rturn (a : List Nat) (w : World) (ha : M.Lanes a) :
    Calls Tryz.prog 131 #[st a] w fun e w' => e = .returned (st (M.turnL a)) ∧ Below w.heap.size w w' := by
  have HA := Lib.hid ha
  clear ha
  go_enter Tryz.func131, Tryz.ntmps131
  go_wp2_with fail
  go_loopw [3, 4, 5] (fun x y i wr => ∃ t : Nat, t ≤ 24 ∧ i = .int .i64 (t : Int) ∧ x = .int .i64 ((txy t).1 : Int) ∧ y = .int .i64 ((txy t).2 : Int) ∧ Rw wr w.heap.size 54 (trP a t) ∧ Rw wr (w.heap.size + 1) 54 z25 ∧ Below w.heap.size w wr)
    (fun _ _ i _ => 24 - (intOf i).toNat)
  case atStart =>
    rw [lv_zero]
    refine ⟨0, by omega, rfl, rfl, rfl, (Rw.new _ _ _).alloc _, Rw.at_ _ _ _ (by simp), ?_⟩
    (repeat (first | exact Below.refl _ _ | refine Below.drew ?_ | refine Below.alloc ?_ (by first | omega | (simp; omega) | simp) _ | refine Below.setCell ?_ (by first | omega | (simp; omega) | simp) _))
  case round =>
    obtain ⟨t, hk, rfl, rfl, rfl, hA, hR, hW⟩ := hrel
    by_cases hlt : t < 24
    · obtain ⟨hX, hY⟩ := txy_lt t
      have HL := trP_lanes HA.out t
      have hp := tp_lt t
      have hS := trP_succ a t
      have ca := hA.cell (i := tp t) (by rw [HL.1]; exact hp)
      have fa := hA.frozen (tp t)
      have h2 : (txy (t + 1)).1 = (txy t).2 := rfl
      have h3 : (txy (t + 1)).2 = (2 * (txy t).1 + 3 * (txy t).2) % 5 := rfl
      have eP : ((txy t).1 : Int) + 5 * ((txy t).2 : Int) = ((tp t : Nat) : Int) := by unfold tp; omega
      generalize (txy t).1 = X at *
      generalize (txy t).2 = Y at *
      generalize tp t = p at *
      obtain ⟨Z, hZ⟩ : ∃ Z, Z = (2 * X + 3 * Y) % 5 := ⟨_, rfl⟩
      have eZ : (2 * (X : Int) + 3 * (Y : Int)) % 5 = (Z : Int) := by omega
      rw [← hZ] at h3
      have L := Lib.hid (HL.2 p)
      have H2 := Lib.hid h2
      have H3 := Lib.hid h3
      have HS := Lib.hid hS
      clear h2 h3 hS HL hZ
      obtain ⟨N, hN⟩ : ∃ N, N = (t + 1) * (t + 2) := ⟨_, rfl⟩
      have hN2 : N ≤ 625 := by rw [hN]; exact Nat.mul_le_mul (show t + 1 ≤ 25 by omega) (show t + 2 ≤ 25 by omega)
      have em : ((t : Int) + 1) * ((t : Int) + 2) = (N : Int) := by rw [hN]; simp
      have HM := Lib.hid hN
      clear hN
      have hc : ∀ W, Calls Tryz.prog 158 #[.int .u64 ((M.gl (trP a t) p : Nat) : Int), .int .i64 ((N : Int) / 2)] W fun e w' => e = .returned (.int .u64 ((M.rotN (M.gl (trP a t) p) (N / 2) : Nat) : Int)) ∧ W = w' := fun W => by
        have := rrot (M.gl (trP a t) p) (N / 2) W L.out (by omega)
        rwa [show ((N / 2 : Nat) : Int) = (N : Int) / 2 by simp] at this
      go_wp2_with ((with_reducible refine (hc _).mono ?_); rintro e w' ⟨rfl, rfl⟩)
      go_roundw
      case rel =>
        refine ⟨t + 1, by omega, by go_num, ?_, ?_, ?_, ?_, ?_⟩
        · rw [H2.out]
        · rw [H3.out, eZ]
        · rw [HS.out, ← HM.out]; exact hA.set_ _ _
        · exact hR.far (by simp) _
        · exact hW.setCell (by simp) _
      case measure => simp [intOf]; omega
    · obtain rfl : t = 24 := by omega
      rw [trP_all HA.out] at hA
      go_wp2_with (first | (refine wpList_load_st rfl _ _ rfl _ rfl _ _ 25 23 hA Tryz.array25 Tryz.size25 (M.of_length _) ?_) | (refine wpList_store_st rfl _ _ _ rfl _ _ rfl rfl _ _ 25 hR Tryz.size25 (M.of_length _) z25_length ?_))
      exact bodyPost_ret (v := st (M.turnL a)) (res_row rfl _ _ _ _ _ rfl (hR.row _) (M.of_length _)) rfl ⟨rfl, below_setRow hW (by omega) _⟩
end Go.Proofs.YtaajkbclojmbeaaGreatDoor
namespace Go.Proofs.YtaajkbclojmbeaaGreatDoor
open Go Go.RowKit Go.Shelf
attribute [local go_sem] Oper.semAt_some

/-- The tables of the program, as they read. -/
structure Tab (W : World) : Prop where
  rc : ∀ i, i < 24 → W.cell? ⟨0, i, none⟩ = some (.int .u64 ((M.gl M.rcs i : Nat) : Int))
  off : ∀ i, i < 25 → W.cell? ⟨1, i, none⟩ = some (.int .i64 ((M.gl M.offs i : Nat) : Int))
theorem Tab.lt {W : World} (h : Tab W) : 0 < W.heap.size ∧ 1 < W.heap.size :=
  ⟨block_lt_of_cell (h.rc 0 (by omega)), block_lt_of_cell (h.off 0 (by omega))⟩
theorem Tab.below {B : Nat} {W W' : World} (h : Tab W) (hb : Below B W W') (hB : W.heap.size ≤ B) : Tab W' :=
  ⟨fun i hi => (hb.cell (p := ⟨_, i, none⟩) (Nat.lt_of_lt_of_le h.lt.1 hB)).trans (h.rc i hi), fun i hi => (hb.cell (p := ⟨_, i, none⟩) (Nat.lt_of_lt_of_le h.lt.2 hB)).trans (h.off i hi)⟩
theorem Tab.from {w W : World} (h : Tab w) (hb : Below w.heap.size w W) : Tab W := h.below hb (Nat.le_refl _)

theorem range_cutq {m i : Nat} (h : i < m) : ∃ post, List.range m = List.range i ++ i :: post := by
  obtain ⟨k, rfl⟩ : ∃ k, m = i + (k + 1) := ⟨m - i - 1, by omega⟩
  refine ⟨(List.range k).map (fun x => i + (x + 1)), ?_⟩
  rw [List.range_add, List.range_succ_eq_map]
  simp [List.map_map, Function.comp_def]
theorem range_partq {m x : Nat} {pre post : List Nat} (h : List.range m = pre ++ x :: post) : pre = List.range pre.length ∧ x = pre.length ∧ pre.length < m := by
  have hl := congrArg List.length h
  simp at hl
  have hx : (List.range m)[pre.length]? = some x := by rw [h]; simp
  rw [List.getElem?_range (by omega)] at hx
  have ht : (List.range m).take pre.length = pre := by rw [h]; simp
  rw [List.take_range, Nat.min_eq_left (by omega)] at ht
  exact ⟨ht.symm, (Option.some.inj hx).symm, by omega⟩

/-- A lane's place, as a value. -/
abbrev plc (i : Nat) : Array Value := #[.int .i64 ((px i : Nat) : Int), .int .i64 ((py i : Nat) : Int)]
/-- The box of a place. -/
def Pl (W : World) (B i : Nat) : Prop := W.heap[B]? = some (.cells (plc i) 115 (0, 0))
theorem Pl.new (W : World) (i : Nat) : Pl (W.alloc (.cells (plc i) 115)) W.heap.size i := heap_alloc_new W _
theorem Pl.lt {W : World} {B i : Nat} (h : Pl W B i) : B < W.heap.size := (Array.getElem?_eq_some_iff.1 h).1
theorem Pl.x {W : World} {B i : Nat} (h : Pl W B i) : W.cell? ⟨B, 0, none⟩ = some (.int .i64 ((px i : Nat) : Int)) := cell_of_row W B 0 _ _ (0, 0) h
theorem Pl.y {W : World} {B i : Nat} (h : Pl W B i) : W.cell? ⟨B, 1, none⟩ = some (.int .i64 ((py i : Nat) : Int)) := cell_of_row W B 1 _ _ (0, 0) h

theorem range_lanes {a : List Nat} (ha : a.length = 25) {g : Operand} {ps : Array Tmp} {assign body : Code} {Q : Exit → Act → World → Prop} {act : Act} {w : World} {b : Nat}
    (hg : act.eval g = .func (.func 152) #[] #[.pointer (some ⟨b, 0, none⟩)]) (hps : ps.size = 2)
    (I : Nat → World → Prop) (hI : OwnFrom w.heap.size I) (hc : ∀ i W, I i W → Rw W b 54 a ∧ w.heap.size ≤ W.heap.size) (h0 : I 0 w) (f : Nat → Nat → Array Value → Array Value)
    (hassign : ∀ (l i : Nat) (W : World) (K : Act → World → Prop), i < 25 → K { tmps := f W.heap.size i act.tmps, defers := [] } (W.alloc (.cells (plc i) 115)) →
      assign.wpIn (Fence.wide.inRound l) 2 Tryz.prog (Exit.then K (fun _ _ _ => False)) { tmps := (ps.zip #[.agg (plc i), .int .u64 ((M.gl a i : Nat) : Int)]).foldl (fun t (p, v) => t.setIfInBounds p v) act.tmps, defers := [] } W)
    (hbody : ∀ (l i B : Nat) (W : World), i < 25 → I i W → Pl W B i → w.heap.size ≤ B → body.wpIn (Fence.wide.inRound l) 2 Tryz.prog (fun e _ W' => e = .normal ∧ KeepsOthers W W' ∧ I (i + 1) W') { tmps := f B i act.tmps, defers := [] } W)
    (hdone : ∀ (D : Nat) (W : World), w.heap.size ≤ D → I 25 W → W.heap[D]? = some (.deferred (some [])) → Q .normal { act with defers := { target := .collected D, args := #[] } :: act.defers } W) :
    (Code.rangeFunc g ps assign body).wpIn Fence.wide 4 Tryz.prog Q act w := by
  refine range_ax (n := 4) (by omega) hg (enters_of Tryz.func152 (by kernel_rfl) rfl) (encs := fun i : Nat => #[.agg (plc i), .int .u64 ((M.gl a i : Nat) : Int)]) (fun _ => hps.symm) (List.range 25)
    (fun pre W => I pre.length W) (fun pre => hI pre.length) ?_ h0
    (fun _ i a' W => ∃ B, Pl W B i ∧ w.heap.size ≤ B ∧ a' = { tmps := f B i act.tmps, defers := [] } ∧ I i W) ?_ ?_ ?_ hdone
  · intro l J W hJI hd hY hJ0
    refine (lanes_run 2 a ha l b J (fun pre W h => (hc _ _ (hJI pre W h)).1) ?_ W hJ0).mono ?_
    · intro i W1 hi hJ1
      obtain ⟨post, hp⟩ := range_cutq hi
      have := hY _ i post W1 hp hJ1
      rwa [← List.range_succ] at this
    · rintro e W' ⟨hv, hj⟩
      exact ⟨hv, hj⟩
  · rintro pre i a' s A B row ⟨Bx, hp, hB, e, hi⟩ hg' hr
    refine ⟨Bx, (hg'.block Bx hp.lt ?_).trans hp, hB, e, hI i A B row hi hg' hr⟩
    intro he
    obtain ⟨_, o, ho, hcell⟩ := hr Bx he.symm
    rw [show A.heap[Bx]? = _ from hp] at ho
    cases ho
    cases hcell
  · intro l pre x post W K hx hi hK
    obtain ⟨h1, h2, h3⟩ := range_partq hx
    subst h2
    refine hassign l pre.length W K h3 (hK _ _ (KeepsOthers.alloc _ _) ⟨W.heap.size, Pl.new W _, (hc _ _ hi).2, rfl, hI.alloc _ hi⟩)
  · rintro l pre x post a' W hx ⟨B, hp, hB, rfl, hi⟩
    obtain ⟨h1, h2, h3⟩ := range_partq hx
    subst h2
    rw [List.length_append, List.length_singleton]
    exact hbody l pre.length B W h3 hi hp hB
end Go.Proofs.YtaajkbclojmbeaaGreatDoor
namespace Go.Proofs.YtaajkbclojmbeaaGreatDoor
open Go Go.RowKit

def mvI (i : Nat) : Nat := i / 5 + 5 * ((2 * (i % 5) + 3 * (i / 5)) % 5)
def mvP (a : List Nat) (k : Nat) : List Nat := (List.range k).foldl (fun b i => b.set (mvI i) (M.gl a i)) z25
theorem mvP_succ (a : List Nat) (k : Nat) : mvP a (k + 1) = (mvP a k).set (mvI k) (M.gl a k) := by simp [mvP, List.range_succ]
theorem mvP_length (a : List Nat) (k : Nat) : (mvP a k).length = 25 := by
  induction k with
  | zero => rfl
  | succ k ih => rw [mvP_succ, List.length_set, ih]
theorem mvP_all (a : List Nat) : mvP a 25 = M.moveL a := by kernel_rfl

set_option maxRecDepth 100000 in
set_option maxHeartbeats 2000000 in
theorem rmove (a : List Nat) (w : World) (ha : a.length = 25) :
    Calls Tryz.prog 130 #[st a] w fun e w' => e = .returned (st (M.moveL a)) ∧ Below w.heap.size w w' := by
  have HA := Lib.hid ha
  clear ha
  go_enter Tryz.func130, Tryz.ntmps130
  go_wp2_with fail
  go_loopw [4] (fun i wr => ∃ k : Nat, k ≤ 25 ∧ i = .int .i64 (k : Int) ∧ Rw wr w.heap.size 54 a ∧ Rw wr (w.heap.size + 1 + 1) 54 (mvP a k) ∧ Rw wr (w.heap.size + 1) 54 z25 ∧ Below w.heap.size w wr)
    (fun i _ => 25 - (intOf i).toNat)
  case atStart =>
    rw [lv_zero]
    refine ⟨0, by omega, rfl, ((Rw.new _ _ _).alloc _).alloc _, Rw.at_ _ _ _ (by simp), (Rw.at_ _ _ _ (by simp)).alloc _, ?_⟩
    (repeat (first | exact Below.refl _ _ | refine Below.drew ?_ | refine Below.alloc ?_ (by first | omega | (simp; omega) | simp) _ | refine Below.setCell ?_ (by first | omega | (simp; omega) | simp) _))
  case round =>
    obtain ⟨k, hk, rfl, hA, hB, hR, hW⟩ := hrel
    by_cases hlt : k < 25
    · have ca := hA.cell (i := k) (by rw [HA.out]; exact hlt)
      obtain ⟨cb, hcb⟩ : ∃ v, wr.cell? ⟨w.heap.size + 1 + 1, mvI k, none⟩ = some v := ⟨_, hB.cell (by rw [mvP_length]; unfold mvI; omega)⟩
      have fb := hB.frozen (mvI k)
      have hI : ((k : Int) / 5 + 5 * ((2 * ((k : Int) % 5) + 3 * ((k : Int) / 5)) % 5)) = ((mvI k : Nat) : Int) := by unfold mvI; omega
      have hI2 : mvI k < 25 := by unfold mvI; omega
      go_wp2_with fail
      go_roundw
      case rel => exact ⟨k + 1, by omega, by go_num, hA.far (by simp; omega) _, by rw [mvP_succ]; exact hB.set_ _ _, hR.far (by simp) _, hW.setCell (by simp; omega) _⟩
      case measure => simp [intOf]; omega
    · obtain rfl : k = 25 := by omega
      rw [mvP_all] at hB
      go_wp2_with (first | (refine wpList_load_st rfl _ _ rfl _ rfl _ _ 25 23 hB Tryz.array25 Tryz.size25 (M.of_length _) ?_) | (refine wpList_store_st rfl _ _ _ rfl _ _ rfl rfl _ _ 25 hR Tryz.size25 (M.of_length _) z25_length ?_))
      exact bodyPost_ret (v := st (M.moveL a)) (res_row rfl _ _ _ _ _ rfl (hR.row _) (M.of_length _)) rfl ⟨rfl, below_setRow hW (by omega) _⟩
end Go.Proofs.YtaajkbclojmbeaaGreatDoor
namespace Go.Proofs.YtaajkbclojmbeaaGreatDoor
open Go Go.RowKit Go.Shelf
attribute [local go_sem] Oper.semAt_some

theorem rw_own {β : Type} (B : Nat) (t : TypeId) (f : β → List Nat) : Own (fun s W => Rw W B t (f s)) := fun s X Y row hs hg hrow => by
  refine (hg.block B hs.lt ?_).trans hs
  intro e
  obtain ⟨o, ho, hc⟩ := hrow B e.symm
  rw [show X.heap[B]? = _ from hs] at ho
  cases ho
  cases hc

theorem Rw.put {W : World} {b l : Nat} {t : TypeId} {a : List Nat} (h : Rw W b t a) (hne : b ≠ l) (o : Obj) : Rw (W.putObj l o) b t a := (World.putObj_heap_other hne).trans h
theorem offs_lt : ∀ i : Fin 25, M.gl M.offs i.val < 64 := by decide

set_option maxRecDepth 100000 in
set_option maxHeartbeats 4000000 in
theorem move_in (a : List Nat) (w : World) (ha : M.Lanes a) (hT : Tab w) :
    CallsIn Fence.wide 4 Tryz.prog 65 #[st a] w fun e w' => e = .returned (st (M.moveL (M.turnL a))) ∧ Below w.heap.size w w' := by
  have HA := Lib.hid ha
  have HT := Lib.hid hT
  have HL := Lib.hid ha.1
  clear ha hT
  have hro : Fence.wide.round = none := rfl
  refine callsIn_of_wp_marks Tryz.func65 rfl trivial ?_ hro
  simp only [Tryz.ntmps65, List.size_toArray, List.length_cons, List.length_nil, Nat.reduceAdd, Nat.reduceSub, Array.replicate_succ, Array.replicate_zero, List.push_toArray, List.append_toArray, List.nil_append, List.cons_append]
  gi_wp2_with (first | (refine wpListIn_load_st rfl _ _ rfl _ rfl _ _ 25 23 (((Rw.new w 54 a).alloc _).alloc _) Tryz.array25 Tryz.size25 HL.out ?_) | (refine ⟨trivial, ?_⟩; refine (lane_in _ _ _).mono ?_; rintro e w' ⟨rfl, rfl⟩))
  rw [lv_zero]
  have mixed : Tryz.prog.follows .mixedOrders = true := by kernel_rfl
  obtain ⟨h, hh⟩ : ∃ h, h = w.heap.size := ⟨_, rfl⟩
  obtain ⟨W0, hW0⟩ : ∃ W0, ((((w.alloc (Obj.cells (lv a) 54)).alloc (Obj.cells (lv z25) 54)).alloc (Obj.cells (lv z25) 54)).alloc (Obj.cells (lv a) 54)) = W0 := ⟨_, rfl⟩
  have hA : Rw W0 (h + 1 + 1 + 1) 54 a := by rw [← hW0, hh]; exact Rw.at_ _ _ _ (by simp)
  have hO : Rw W0 (h + 1 + 1) 54 z25 := by rw [← hW0, hh]; exact (Rw.at_ _ _ _ (by simp)).alloc _
  have hR : Rw W0 (h + 1) 54 z25 := by rw [← hW0, hh]; exact ((Rw.at_ _ _ _ (by simp)).alloc _).alloc _
  have hW : Below w.heap.size w W0 := by rw [← hW0]; (repeat (first | exact Below.refl _ _ | refine Below.drew ?_ | refine Below.alloc ?_ (by first | omega | (simp; omega) | simp) _ | refine Below.setCell ?_ (by first | omega | (simp; omega) | simp) _))
  have hsz : W0.heap.size = h + 4 := by rw [← hW0, hh]; simp
  rw [hW0, ← hh]
  have HH := Lib.hid hh
  clear hW0 hh
  refine range_lanes (b := h + 1 + 1 + 1) HL.out rfl rfl
    (fun i W => Rw W (h + 1 + 1 + 1) 54 a ∧ Rw W (h + 1 + 1) 54 (mvP (M.turnL a) i) ∧ Rw W (h + 1) 54 z25 ∧ Below w.heap.size w W ∧ W0.heap.size ≤ W.heap.size)
    ?own ?get ⟨hA, hO, hR, hW, Nat.le_refl _⟩ (fun B i t => (((t.setIfInBounds 8 (.agg (plc i))).setIfInBounds 9 (.int .u64 ((M.gl a i : Nat) : Int))).setIfInBounds 4 (.pointer (some ⟨B, 0, none⟩))).setIfInBounds 5 (.int .u64 ((M.gl a i : Nat) : Int))) ?assign ?body ?done
  case own =>
    exact ((rw_own _ _ (fun _ => a)).from _).and (((rw_own _ _ (fun i => mvP (M.turnL a) i)).from _).and (((rw_own _ _ (fun _ => z25)).from _).and ((ownFrom_below (Nat.le_refl _) hW.size).and (fun _ _ _ _ hs hg _ => Nat.le_trans hs hg.size))))
  case get =>
    exact fun i W hi => ⟨hi.1, hi.2.2.2.2⟩
  case assign =>
    intro l i W K hi hK
    clear hA hO hR hW hsz
    simp only [List.setIfInBounds_toArray, List.set_cons_zero, List.set_cons_succ] at hK
    gi_wp2
    exact hK
  case body =>
    intro l i B W hi hI hP hB
    obtain ⟨iA, iO, iR, iW, i0⟩ := hI
    have cx := hP.x
    have cy := hP.y
    have hlP := hP.lt
    clear hA hO hR hW hsz
    have hT2 := HT.out.from iW
    have co := hT2.off i hi
    obtain ⟨cb, hcb⟩ : ∃ v, W.cell? ⟨h + 1 + 1, mvI i, none⟩ = some v := ⟨_, iO.cell (by rw [mvP_length]; unfold mvI; omega)⟩
    have fb := iO.frozen (mvI i)
    have hl := HA.out.2 i
    have ho := offs_lt ⟨i, hi⟩
    simp only at ho
    have hx : px i < 5 := Nat.mod_lt _ (by omega)
    have hy : py i < 5 := by unfold py; omega
    have hp1 : px i % 5 + 5 * (py i % 5) = i := by unfold px py; omega
    have hmv : mvI i = py i % 5 + 5 * ((2 * px i + 3 * py i) % 5) := by unfold mvI px py; omega
    have hmv2 : mvI i < 25 := by unfold mvI; omega
    have HS := Lib.hid (mvP_succ (M.turnL a) i)
    have HG : Hid (M.gl (M.turnL a) i = M.rotN (M.gl a i) (M.gl M.offs i)) := by
      show _ = _
      unfold M.turnL
      rw [M.gl_of _ hi]
    generalize px i = X at *
    generalize py i = Y at *
    generalize mvI i = p at *
    obtain ⟨X2, hX2⟩ : ∃ q, q = 2 * X := ⟨_, rfl⟩
    obtain ⟨Y3, hY3⟩ : ∃ q, q = 3 * Y := ⟨_, rfl⟩
    obtain ⟨S, hS⟩ : ∃ q, q = X2 + Y3 := ⟨_, rfl⟩
    have w1 : IntKind.i64.wrap (2 * (X : Int)) = (X2 : Int) := by rw [IntWalk.i64_in _ (by omega)]; omega
    have w2 : IntKind.i64.wrap (3 * (Y : Int)) = (Y3 : Int) := by rw [IntWalk.i64_in _ (by omega)]; omega
    have w3 : IntKind.i64.wrap ((X2 : Int) + (Y3 : Int)) = (S : Int) := by rw [IntWalk.i64_in _ (by omega)]; omega
    have a1 := fun W => at_any Y S p W (by omega) (by omega) (by rw [hmv, hS, hX2, hY3])
    have a2 := fun W => at_any X Y i W (by omega) (by omega) hp1
    have a3 := fun W => rotl (M.gl a i) (M.gl M.offs i) W hl ho
    have hpi : (p : Int) < 25 := by omega
    have hii : (i : Int) < 25 := by omega
    have L := Lib.hid hl
    clear hl ho hx hy hp1 hmv hX2 hY3 hS
    simp only [List.setIfInBounds_toArray, List.set_cons_zero, List.set_cons_succ]
    gi_wp2
    refine round_still_tailq 20 mixed (by kernel_rfl) (by kernel_rfl) ?_
    simp only [List.take_succ_cons, List.take_zero, List.drop_succ_cons, List.drop_zero]
    repeat still_step
    still_call ((a1 _).mono (fun _ _ h => ⟨h.1, h.2.symm⟩))
    repeat still_step
    still_call ((a2 _).mono (fun _ _ h => ⟨h.1, h.2.symm⟩))
    repeat still_step
    still_call ((a3 _).mono (fun _ _ h => ⟨h.1, h.2.symm⟩))
    repeat still_step
    refine wpStill_nil ?_
    change wpList _ _ _ _ _ W.drew
    go_wp2_with fail
    refine ⟨rfl, (KeepsOthers.setCell _ _ _).trans (KeepsOthers.drew _), (iA.far (by simp) _).drew, ?_, (iR.far (by simp) _).drew, (iW.setCell (by have := HH.out; simp; omega) _).drew, ?_⟩
    · rw [HS.out, HG.out]; exact (iO.set_ _ _).drew
    · simpa using i0
  case done =>
    intro D W hD hI hK
    obtain ⟨iA, iO, iR, iW, i0⟩ := hI
    clear hA hO hR hW
    rw [mvP_all] at iO
    have hDR : D ≠ h + 1 := by omega
    gi_wp2_with (first | (refine wpListIn_load_st rfl _ _ rfl _ rfl _ _ 25 23 iO Tryz.array25 Tryz.size25 (M.of_length _) ?_) | (refine wpListIn_store_st rfl _ _ _ rfl _ _ rfl rfl _ _ 25 iR Tryz.size25 (M.of_length _) z25_length ?_))
    have hK2 : (W.setRow (h + 1) (lv (M.moveL (M.turnL a)))).heap[D]? = some (.deferred (some [])) := (setRow_other W _ D _ hDR).trans hK
    have hh := HH.out
    refine ⟨by simp, .inl ⟨_, _, rfl, run_takeDeferred hK2, ?_⟩⟩
    exact ⟨st (M.moveL (M.turnL a)), res_row rfl _ _ _ _ _ rfl ((iR.row _).put (by omega) _) (M.of_length _), rfl, (below_setRow iW (by omega) _).trans (belowK_b (w := w) (Nat.le_refl _) _ D _ _ (by omega) hK2 rfl rfl)⟩
end Go.Proofs.YtaajkbclojmbeaaGreatDoor
