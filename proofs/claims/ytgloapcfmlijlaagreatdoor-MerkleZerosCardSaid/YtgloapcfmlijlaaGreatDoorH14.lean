/- The landed package ssz: bytesOf, by kinds. Rows of numbers as blocks of memory: an array by value, loaded and stored whole. A range over a function whose body never leaves, where the assignment makes memory; regions that draw their order, within a round. keccak.at, the library's rotation, keccak.eachLane and what its function tells. The reference's rot, bit and number. The reference's mix and turn. The reference's turn. A range over the lanes of a state; the tables; keccak.moveLanes. The reference's move: lanes to other places. keccak.moveLanes. The reference's Permute. -/
import Derived.Test.YtgloapcfmlijlaaGreatDoorH13
import Derived.Great.BuildSlice
import Derived.Test.YtgloapcfmlijlaaGreatDoorProg
import Derived.Test.YtgloapcfmlijlaaGreatDoorH01
import Derived.WalkKit
import Derived.Below
import Derived.Laws.Externs
import Derived.Laws.ResultCell
import Derived.Deep.QuietTactic
import Derived.BigQuiet
import Derived.RegionTactic
import Derived.BigRegion
import Derived.LoopTactic
import Derived.LoopN
import Derived.Lib.Hide
import Derived.Deep.WholeRow
import Derived.Laws.Bits64
import Derived.Laws.Bits64b
import Derived.Laws.CopyOwn
import Derived.IntWalk
import Derived.RangeFuncNested
import Derived.TacticsInMore
import Derived.OwnWalkIn
import Derived.Test.YtgloapcfmlijlaaGreatDoorH03
import Derived.RangeFuncBound
import Derived.RangeFuncCalls
import Derived.RangeFuncLeaves
import Derived.Shelf.Abstract
import Derived.Shelf.RegionOpen
import Derived.LoopNIn
import Derived.LoopIn
import Derived.StillTailTactics
import Derived.OrdersIn
namespace Go.Proofs.YtgloapcfmlijlaaGreatDoor
open Go Go.RowKit Go.Lib
attribute [local go_sem] Oper.semAt_some

/-- What bytesOf must do. -/
def BytP (w : World) (l : List UInt8) (e : Ending) (w' : World) : Prop := ((∃ u, e = .returned u ∧ SrB w.heap.size l u w') ∨ (e = pan 5 ∧ 65536 < l.length)) ∧ Below w.heap.size w w'
theorem BytP.of {w w0 w' : World} {l : List UInt8} {e : Ending} (hb : Below w.heap.size w w0) (h : BytP w0 l e w') : BytP w l e w' := by
  obtain ⟨h1, h2⟩ := h
  refine ⟨?_, hb.trans (h2.mono hb.size)⟩
  rcases h1 with ⟨u, rfl, h⟩ | h
  · exact .inl ⟨u, rfl, h.mono hb.size⟩
  · exact .inr h
theorem two_boxesV (w : World) (k n : Int) (a : Value) (N : Nat) (x y : Value) (p : Int) :
    Below w.heap.size w ((w.alloc (.cells #[.int .i64 k, .int .i64 n, a] 24)).alloc (.cells #[.int .u64 (M.pt 0 N), .int .u64 (M.pt 1 N), .int .u64 (M.pt 2 N), .int .u64 (M.pt 3 N), x, y, .int .i64 p] 33)) :=
  ((Below.refl _ _).alloc (Nat.le_refl _) _).alloc (by simp) _
theorem fill_one {x z : Value} {n : Nat} (hn : n = 1) (hz : z.cells = #[z]) (hx : x.cells = #[x]) : Instr.fill (fun i => some (i * n, n)) ((Array.range (1 * n)).map (z.cells[· % z.cells.size]!)) [(0, x)] = some #[x] := by
  subst hn
  rw [show Array.range (1 * 1) = #[0] from rfl]
  simp [Instr.fill, hx, hz]
/-- A slice literal of one value. -/
theorem wp_build_one {P : Program} {o : Oper} {a : Act} {w : World} {K : Act → World → Prop} {Q : Exit → Act → World → Prop} (t e : TypeId) (x : Operand) (v z : Value) (i0 : TypeInfo) (ho : o.op = .buildSlice t 1 #[(0, x)]) (hx : a.eval x = v) (hv : v.cells = #[v])
    (hu : P.underlying t = some (.slice e)) (hi : P.info? e = some i0) (hz0 : i0.zero = some z) (hz1 : i0.size = 1) (hzc : z.cells = #[z])
    (h : K (a.put o.dst (.slice (some ⟨w.heap.size, 0, none⟩) 1 1)) (w.alloc (.cells #[v] e))) : o.wp P a w K Q := by
  refine wp_buildSlice t e 1 _ ho #[v] i0 z hu hi hz0 (by rw [hz1]; decide) (by rw [hz1]; decide) ?_ h
  have := fill_one (z := z) hz1 hzc hv
  simpa [hx] using this
theorem own_new (w : World) (B : Nat) (c : UInt8) (hB : B ≤ w.heap.size) : Ow B [c] (.slice (some ⟨w.heap.size, 0, none⟩) 1 1) (w.alloc (.cells #[.int .u8 (c.toNat : Int)] 5)) :=
  ⟨by simp [bc], .inr ⟨w.heap.size, 1, _, rfl, hB, World.alloc_heap_new _ _, by simp, by decide, by rfl, by rfl⟩⟩
theorem Tryz.ofBool : (Tryz.prog.info? 4).map (fun i => (i.zero, i.size, i.bytes)) = some (some (.bool false), 1, 1) := by kernel_rfl
set_option maxRecDepth 100000 in
set_option maxHeartbeats 4000000 in
theorem byt_1 (n : Int) (ts : List M.Ty) (a : Option Addr) (cap : Nat) (N : Nat) (bs : List Bool) (us : List M.Va) (p : Int) (ab : Option Addr) (cb : Nat) (au : Option Addr) (cu : Nat) (w : World) (hL : LayT w w.heap.size ts (.slice a ts.length cap)) (hV : Vl w w.heap.size N bs us ab cb au cu)
    (hc : ∃ d, M.chkT d (.mk 1 n ts) = 0) (hf : M.fitV (.mk 1 n ts) (.mk N bs us p) = 0) (h1 : M.cntT (.mk 1 n ts) ≤ 1000) (_h2 : M.cntV (.mk N bs us p) ≤ 6000) :
    Calls Tryz.prog 143 #[tv 1 n (.slice a ts.length cap), vv N (.slice ab bs.length cb) (.slice au us.length cu) p] w (BytP w (M.putV (.mk 1 n ts) (.mk N bs us p))) := by
  obtain ⟨d, hc⟩ := hc
  obtain ⟨m, rfl, hm⟩ : ∃ m : Nat, n = (m : Int) ∧ m ≤ 32 := by
    have h2 := (M.chkT_ok.1 hc).2.1
    unfold M.formT at h2
    simp at h2
    exact ⟨n.toNat, by omega, by omega⟩
  obtain ⟨w0, hw0⟩ : ∃ w0, (w.alloc (.cells #[.int .i64 1, .int .i64 (m : Int), .slice a ts.length cap] 24)).alloc (.cells #[.int .u64 (M.pt 0 N), .int .u64 (M.pt 1 N), .int .u64 (M.pt 2 N), .int .u64 (M.pt 3 N), .slice ab bs.length cb, .slice au us.length cu, .int .i64 p] 33) = w0 := ⟨_, rfl⟩
  have hb0 : Below w.heap.size w w0 := by rw [← hw0]; exact two_boxesV _ _ _ _ _ _ _ _
  have hz0 : w0.heap.size = w.heap.size + 2 := by rw [← hw0]; simp
  have hB0 : BoxT w0 w.heap.size 1 m (.slice a ts.length cap) := by rw [← hw0]; exact ⟨by simp [go_sem], by simp [go_sem], by simp [go_sem]⟩
  have hA0 : Cells7 w0 (w.heap.size + 1) 0 N (.slice ab bs.length cb) (.slice au us.length cu) p := by
    rw [← hw0]
    have := Cells7.new (w.alloc (.cells #[.int .i64 1, .int .i64 (m : Int), .slice a ts.length cap] 24)) N (.slice ab bs.length cb) (.slice au us.length cu) p 33
    rwa [World.size_alloc] at this
  have HW := Lib.hid hw0
  have HV0 := Lib.hid ((hV.from_ hb0).mono hb0.size)
  have HT0 := Lib.hid ((hL.from_ hb0).mono hb0.size)
  have HL := Lib.hid (lowest_any N m hV.hN hm w0)
  have HE : M.putV (.mk 1 (m : Int) ts) (.mk N bs us p) = M.le m N := by rw [M.putV]; simp [M.Ty.k, M.Ty.n]
  rw [HE]
  have t0 := hB0.c0
  have t1 := hB0.c1
  have t2 := hB0.c2
  have a0 := hA0.c0
  have a1 := hA0.c1
  have a2 := hA0.c2
  have a3 := hA0.c3
  have a4 := hA0.c4
  have a5 := hA0.c5
  have a6 := hA0.c6
  simp only [Nat.zero_add] at a1 a2 a3 a4 a5 a6
  rw [← HW.out] at t0 t1 t2 a0 a1 a2 a3 a4 a5 a6
  clear hw0 hf hc HE
  go_enter Tryz.func143, Tryz.ntmps143
  go_wp2_with fail
  rw [HW.out]
  refine HL.out.mono ?_
  rintro e w1 ⟨⟨u, rfl, hU⟩, hb1⟩
  go_wp2_with fail
  go_ret
  exact ⟨.inl ⟨u, rfl, hU.mono hb0.size⟩, hb0.trans (Below.mono hb1 hb0.size)⟩
set_option maxRecDepth 100000 in
set_option maxHeartbeats 4000000 in
theorem byt_2 (n : Int) (ts : List M.Ty) (a : Option Addr) (cap : Nat) (N : Nat) (bs : List Bool) (us : List M.Va) (p : Int) (ab : Option Addr) (cb : Nat) (au : Option Addr) (cu : Nat) (w : World) (hL : LayT w w.heap.size ts (.slice a ts.length cap)) (hV : Vl w w.heap.size N bs us ab cb au cu)
    (hc : ∃ d, M.chkT d (.mk 2 n ts) = 0) (_hf : M.fitV (.mk 2 n ts) (.mk N bs us p) = 0) (_h1 : M.cntT (.mk 2 n ts) ≤ 1000) (_h2 : M.cntV (.mk N bs us p) ≤ 6000) :
    Calls Tryz.prog 143 #[tv 2 n (.slice a ts.length cap), vv N (.slice ab bs.length cb) (.slice au us.length cu) p] w (BytP w (M.putV (.mk 2 n ts) (.mk N bs us p))) := by
  obtain ⟨w0, hw0⟩ : ∃ w0, (w.alloc (.cells #[.int .i64 2, .int .i64 n, .slice a ts.length cap] 24)).alloc (.cells #[.int .u64 (M.pt 0 N), .int .u64 (M.pt 1 N), .int .u64 (M.pt 2 N), .int .u64 (M.pt 3 N), .slice ab bs.length cb, .slice au us.length cu, .int .i64 p] 33) = w0 := ⟨_, rfl⟩
  have hb0 : Below w.heap.size w w0 := by rw [← hw0]; exact two_boxesV _ _ _ _ _ _ _ _
  have hz0 : w0.heap.size = w.heap.size + 2 := by rw [← hw0]; simp
  have hB0 : BoxT w0 w.heap.size 2 n (.slice a ts.length cap) := by rw [← hw0]; exact ⟨by simp [go_sem], by simp [go_sem], by simp [go_sem]⟩
  have hA0 : Cells7 w0 (w.heap.size + 1) 0 N (.slice ab bs.length cb) (.slice au us.length cu) p := by
    rw [← hw0]
    have := Cells7.new (w.alloc (.cells #[.int .i64 2, .int .i64 n, .slice a ts.length cap] 24)) N (.slice ab bs.length cb) (.slice au us.length cu) p 33
    rwa [World.size_alloc] at this
  have HW := Lib.hid hw0
  have HV0 := Lib.hid ((hV.from_ hb0).mono hb0.size)
  have HT0 := Lib.hid ((hL.from_ hb0).mono hb0.size)
  have HL := Lib.hid (lowest_any N 1 hV.hN (by omega) w0)
  have HE : M.putV (.mk 2 n ts) (.mk N bs us p) = M.le 1 N := by rw [M.putV]; simp [M.Ty.k]
  rw [HE]
  have t0 := hB0.c0
  have t1 := hB0.c1
  have t2 := hB0.c2
  have a0 := hA0.c0
  have a1 := hA0.c1
  have a2 := hA0.c2
  have a3 := hA0.c3
  have a4 := hA0.c4
  have a5 := hA0.c5
  have a6 := hA0.c6
  simp only [Nat.zero_add] at a1 a2 a3 a4 a5 a6
  rw [← HW.out] at t0 t1 t2 a0 a1 a2 a3 a4 a5 a6
  clear hw0 _hf hc HE
  go_enter Tryz.func143, Tryz.ntmps143
  go_wp2_with fail
  rw [HW.out]
  refine HL.out.mono ?_
  rintro e w1 ⟨⟨u, rfl, hU⟩, hb1⟩
  go_wp2_with fail
  go_ret
  exact ⟨.inl ⟨u, rfl, hU.mono hb0.size⟩, hb0.trans (Below.mono hb1 hb0.size)⟩
set_option maxRecDepth 100000 in
set_option maxHeartbeats 4000000 in
theorem byt_5 (n : Int) (ts : List M.Ty) (a : Option Addr) (cap : Nat) (N : Nat) (bs : List Bool) (us : List M.Va) (p : Int) (ab : Option Addr) (cb : Nat) (au : Option Addr) (cu : Nat) (w : World) (hL : LayT w w.heap.size ts (.slice a ts.length cap)) (hV : Vl w w.heap.size N bs us ab cb au cu)
    (hc : ∃ d, M.chkT d (.mk 5 n ts) = 0) (hf : M.fitV (.mk 5 n ts) (.mk N bs us p) = 0) (_h1 : M.cntT (.mk 5 n ts) ≤ 1000) (_h2 : M.cntV (.mk N bs us p) ≤ 6000) :
    Calls Tryz.prog 143 #[tv 5 n (.slice a ts.length cap), vv N (.slice ab bs.length cb) (.slice au us.length cu) p] w (BytP w (M.putV (.mk 5 n ts) (.mk N bs us p))) := by
  obtain ⟨d, hc⟩ := hc
  have hbl : bs.length ≤ 512 := by
    have h2 := (M.chkT_ok.1 hc).2.1
    have h3 := (M.fit_parts0 hf).2.1
    rw [M.ofV_5] at h3
    unfold M.formT at h2
    simp at h2 h3
    omega
  obtain ⟨w0, hw0⟩ : ∃ w0, (w.alloc (.cells #[.int .i64 5, .int .i64 n, .slice a ts.length cap] 24)).alloc (.cells #[.int .u64 (M.pt 0 N), .int .u64 (M.pt 1 N), .int .u64 (M.pt 2 N), .int .u64 (M.pt 3 N), .slice ab bs.length cb, .slice au us.length cu, .int .i64 p] 33) = w0 := ⟨_, rfl⟩
  have hb0 : Below w.heap.size w w0 := by rw [← hw0]; exact two_boxesV _ _ _ _ _ _ _ _
  have hz0 : w0.heap.size = w.heap.size + 2 := by rw [← hw0]; simp
  have hB0 : BoxT w0 w.heap.size 5 n (.slice a ts.length cap) := by rw [← hw0]; exact ⟨by simp [go_sem], by simp [go_sem], by simp [go_sem]⟩
  have hA0 : Cells7 w0 (w.heap.size + 1) 0 N (.slice ab bs.length cb) (.slice au us.length cu) p := by
    rw [← hw0]
    have := Cells7.new (w.alloc (.cells #[.int .i64 5, .int .i64 n, .slice a ts.length cap] 24)) N (.slice ab bs.length cb) (.slice au us.length cu) p 33
    rwa [World.size_alloc] at this
  have HW := Lib.hid hw0
  have HV0 := Lib.hid ((hV.from_ hb0).mono hb0.size)
  have HT0 := Lib.hid ((hL.from_ hb0).mono hb0.size)
  have HL := Lib.hid (putBits_any bs [] ab none cb 0 w0 HV0.out.b (.nil_ (by decide)) (by omega) (by decide))
  have HE : M.putV (.mk 5 n ts) (.mk N bs us p) = M.packB (bs ++ []) := by rw [M.putV, List.append_nil]; simp [M.Ty.k]
  rw [HE]
  have t0 := hB0.c0
  have t1 := hB0.c1
  have t2 := hB0.c2
  have a0 := hA0.c0
  have a1 := hA0.c1
  have a2 := hA0.c2
  have a3 := hA0.c3
  have a4 := hA0.c4
  have a5 := hA0.c5
  have a6 := hA0.c6
  simp only [Nat.zero_add] at a1 a2 a3 a4 a5 a6
  rw [← HW.out] at t0 t1 t2 a0 a1 a2 a3 a4 a5 a6
  clear hw0 hf hc HE
  go_enter Tryz.func143, Tryz.ntmps143
  go_wp2_with fail
  rw [HW.out]
  refine HL.out.mono ?_
  rintro e w1 ⟨⟨u, rfl, hU⟩, hb1⟩
  go_wp2_with fail
  go_ret
  exact ⟨.inl ⟨u, rfl, hU.mono hb0.size⟩, hb0.trans (Below.mono hb1 hb0.size)⟩
set_option maxRecDepth 100000 in
set_option maxHeartbeats 4000000 in
theorem byt_6 (n : Int) (ts : List M.Ty) (a : Option Addr) (cap : Nat) (N : Nat) (bs : List Bool) (us : List M.Va) (p : Int) (ab : Option Addr) (cb : Nat) (au : Option Addr) (cu : Nat) (w : World) (hL : LayT w w.heap.size ts (.slice a ts.length cap)) (hV : Vl w w.heap.size N bs us ab cb au cu)
    (hc : ∃ d, M.chkT d (.mk 6 n ts) = 0) (hf : M.fitV (.mk 6 n ts) (.mk N bs us p) = 0) (_h1 : M.cntT (.mk 6 n ts) ≤ 1000) (_h2 : M.cntV (.mk N bs us p) ≤ 6000) :
    Calls Tryz.prog 143 #[tv 6 n (.slice a ts.length cap), vv N (.slice ab bs.length cb) (.slice au us.length cu) p] w (BytP w (M.putV (.mk 6 n ts) (.mk N bs us p))) := by
  obtain ⟨d, hc⟩ := hc
  have hbl : bs.length ≤ 512 := by
    have h2 := (M.chkT_ok.1 hc).2.1
    have h3 := (M.fit_parts0 hf).1
    unfold M.formT at h2
    simp at h2 h3
    omega
  obtain ⟨w0, hw0⟩ : ∃ w0, (w.alloc (.cells #[.int .i64 6, .int .i64 n, .slice a ts.length cap] 24)).alloc (.cells #[.int .u64 (M.pt 0 N), .int .u64 (M.pt 1 N), .int .u64 (M.pt 2 N), .int .u64 (M.pt 3 N), .slice ab bs.length cb, .slice au us.length cu, .int .i64 p] 33) = w0 := ⟨_, rfl⟩
  have hb0 : Below w.heap.size w w0 := by rw [← hw0]; exact two_boxesV _ _ _ _ _ _ _ _
  have hz0 : w0.heap.size = w.heap.size + 2 := by rw [← hw0]; simp
  have hB0 : BoxT w0 w.heap.size 6 n (.slice a ts.length cap) := by rw [← hw0]; exact ⟨by simp [go_sem], by simp [go_sem], by simp [go_sem]⟩
  have hA0 : Cells7 w0 (w.heap.size + 1) 0 N (.slice ab bs.length cb) (.slice au us.length cu) p := by
    rw [← hw0]
    have := Cells7.new (w.alloc (.cells #[.int .i64 6, .int .i64 n, .slice a ts.length cap] 24)) N (.slice ab bs.length cb) (.slice au us.length cu) p 33
    rwa [World.size_alloc] at this
  have HW := Lib.hid hw0
  have HV0 := Lib.hid ((hV.from_ hb0).mono hb0.size)
  have HT0 := Lib.hid ((hL.from_ hb0).mono hb0.size)
  have hn0 : (w0.alloc (.cells #[.bool true] 4)).cell? ⟨w0.heap.size, 0, none⟩ = some (.bool true) := by simp [go_sem]
  have hbn : Below w0.heap.size w0 (w0.alloc (.cells #[.bool true] 4)) := (Below.refl _ _).alloc (Nat.le_refl _) _
  have hT1 : LayB (w0.alloc (.cells #[.bool true] 4)) (w0.alloc (.cells #[.bool true] 4)).heap.size [true] (.slice (some ⟨w0.heap.size, 0, none⟩) 1 1) := .row (by simp) (by decide) (by decide) (fun i x e => by
    cases i with
    | zero => cases e; exact hn0
    | succ i => simp at e)
  have HL := Lib.hid (putBits_any bs [true] ab (some ⟨w0.heap.size, 0, none⟩) cb 1 (w0.alloc (.cells #[.bool true] 4)) ((HV0.out.b.from_ hbn).mono hbn.size) hT1 (by omega) (by decide))
  have HE : M.putV (.mk 6 n ts) (.mk N bs us p) = M.packB (bs ++ [true]) := by rw [M.putV]; simp [M.Ty.k, M.listB]
  rw [HE]
  have hbB := hb0.trans (Below.mono hbn hb0.size)
  have hz2 : w.heap.size + 1 + 1 = w0.heap.size := by omega
  have t0 := hB0.c0
  have t1 := hB0.c1
  have t2 := hB0.c2
  have a0 := hA0.c0
  have a1 := hA0.c1
  have a2 := hA0.c2
  have a3 := hA0.c3
  have a4 := hA0.c4
  have a5 := hA0.c5
  have a6 := hA0.c6
  simp only [Nat.zero_add] at a1 a2 a3 a4 a5 a6
  rw [← HW.out] at t0 t1 t2 a0 a1 a2 a3 a4 a5 a6
  have HZ2 := Lib.hid hz2
  clear hw0 hf hc HE hn0 hT1 hz0 hz2
  obtain ⟨i0, hi, hz0', hz1, hz2'⟩ := info_parts Tryz.ofBool
  go_enter Tryz.func143, Tryz.ntmps143
  go_wp2_with fail
  rw [HW.out]
  rw [HZ2.out]
  refine HL.out.mono ?_
  rintro e w1 ⟨⟨u, rfl, hU⟩, hb1⟩
  go_wp2_with fail
  go_ret
  exact ⟨.inl ⟨u, rfl, hU.mono hbB.size⟩, hbB.trans (Below.mono hb1 hbB.size)⟩
set_option maxRecDepth 100000 in
set_option maxHeartbeats 4000000 in
theorem byt_row (z : Nat) (ih : Hid (PutC z)) (k : Int) (hk : k = 3 ∨ k = 4 ∨ k = 7) (n : Int) (ts : List M.Ty) (a : Option Addr) (cap : Nat) (N : Nat) (bs : List Bool) (us : List M.Va) (p : Int) (ab : Option Addr) (cb : Nat) (au : Option Addr) (cu : Nat) (w : World) (hs : SizeOf.sizeOf us ≤ z + 1) (hL : LayT w w.heap.size ts (.slice a ts.length cap)) (hV : Vl w w.heap.size N bs us ab cb au cu)
    (hc : ∃ d, M.chkT d (.mk k n ts) = 0) (hf : M.fitV (.mk k n ts) (.mk N bs us p) = 0) (h1 : M.cntT (.mk k n ts) ≤ 1000) (h2 : M.cntV (.mk N bs us p) ≤ 6000) :
    Calls Tryz.prog 143 #[tv k n (.slice a ts.length cap), vv N (.slice ab bs.length cb) (.slice au us.length cu) p] w (BytP w (M.putV (.mk k n ts) (.mk N bs us p))) := by
  obtain ⟨d, hc⟩ := hc
  have hR := rowP hk hc hf hV.v.inVs h2
  have ht : us.length ≠ 0 → 1 ≤ ts.length := fun hn => by
    have := (M.in_row hk hc hf 0 (by omega)).2
    exact List.length_pos_of_mem this
  have hct : M.cntTs ts ≤ 999 := by rw [M.cntT] at h1; omega
  have hcv : M.cntVs us ≤ 5999 := by rw [M.cntV] at h2; omega
  obtain ⟨w0, hw0⟩ : ∃ w0, (w.alloc (.cells #[.int .i64 k, .int .i64 n, .slice a ts.length cap] 24)).alloc (.cells #[.int .u64 (M.pt 0 N), .int .u64 (M.pt 1 N), .int .u64 (M.pt 2 N), .int .u64 (M.pt 3 N), .slice ab bs.length cb, .slice au us.length cu, .int .i64 p] 33) = w0 := ⟨_, rfl⟩
  have hb0 : Below w.heap.size w w0 := by rw [← hw0]; exact two_boxesV _ _ _ _ _ _ _ _
  have hz0 : w0.heap.size = w.heap.size + 2 := by rw [← hw0]; simp
  have hB0 : BoxT w0 w.heap.size k n (.slice a ts.length cap) := by rw [← hw0]; exact ⟨by simp [go_sem], by simp [go_sem], by simp [go_sem]⟩
  have hA0 : Cells7 w0 (w.heap.size + 1) 0 N (.slice ab bs.length cb) (.slice au us.length cu) p := by
    rw [← hw0]
    have := Cells7.new (w.alloc (.cells #[.int .i64 k, .int .i64 n, .slice a ts.length cap] 24)) N (.slice ab bs.length cb) (.slice au us.length cu) p 33
    rwa [World.size_alloc] at this
  have HW := Lib.hid hw0
  have HV0 := Lib.hid ((hV.from_ hb0).mono hb0.size)
  have HT0 := Lib.hid ((hL.from_ hb0).mono hb0.size)
  have HL := Lib.hid (putRow_n z ih k n ts a cap us au cu p w0 HT0.out HV0.out.v hct hcv ht hs (Lib.hid hR.hin) (Lib.hid hR.hchk) (Lib.hid hR.hfit) hR.hwd _ _ (Lib.hid hR.hdE) (Lib.hid hR.hLE) (Lib.hid hR.hLm) (Lib.hid hR.hLp) (Lib.hid hR.hLh) hR.hL3)
  have n1 : (k == 1) = false := by rcases hk with rfl | rfl | rfl <;> decide
  have n2 : (k == 2) = false := by rcases hk with rfl | rfl | rfl <;> decide
  have n5 : (k == 5) = false := by rcases hk with rfl | rfl | rfl <;> decide
  have n6 : (k == 6) = false := by rcases hk with rfl | rfl | rfl <;> decide
  have n8 : (k == 8) = false := by rcases hk with rfl | rfl | rfl <;> decide
  have m1 : k ≠ 1 := by rcases hk with rfl | rfl | rfl <;> decide
  have m2 : k ≠ 2 := by rcases hk with rfl | rfl | rfl <;> decide
  have m5 : k ≠ 5 := by rcases hk with rfl | rfl | rfl <;> decide
  have m6 : k ≠ 6 := by rcases hk with rfl | rfl | rfl <;> decide
  have m8 : k ≠ 8 := by rcases hk with rfl | rfl | rfl <;> decide
  have t0 := hB0.c0
  have t1 := hB0.c1
  have t2 := hB0.c2
  have a0 := hA0.c0
  have a1 := hA0.c1
  have a2 := hA0.c2
  have a3 := hA0.c3
  have a4 := hA0.c4
  have a5 := hA0.c5
  have a6 := hA0.c6
  simp only [Nat.zero_add] at a1 a2 a3 a4 a5 a6
  rw [← HW.out] at t0 t1 t2 a0 a1 a2 a3 a4 a5 a6
  have HK := Lib.hid hk
  clear hk hw0 hf hc hR ih ht hs h1 h2 hct hcv
  go_enter Tryz.func143, Tryz.ntmps143
  go_wp2_with fail
  rw [HW.out]
  refine HL.out.mono ?_
  rintro e w1 ⟨hE, hb1⟩
  rcases hE with ⟨u, rfl, hU⟩ | ⟨rfl, hlt⟩
  · go_wp2_with fail
    go_ret
    exact ⟨.inl ⟨u, rfl, hU.mono hb0.size⟩, hb0.trans (Below.mono hb1 hb0.size)⟩
  · try go_wp2_with fail
    exact ⟨rfl, .inr ⟨rfl, hlt⟩, hb0.trans (Below.mono hb1 hb0.size)⟩
set_option maxRecDepth 100000 in
set_option maxHeartbeats 4000000 in
theorem byt_8 (z : Nat) (ih : Hid (PutC z)) (n : Int) (ts : List M.Ty) (a : Option Addr) (cap : Nat) (N : Nat) (bs : List Bool) (us : List M.Va) (p : Int) (ab : Option Addr) (cb : Nat) (au : Option Addr) (cu : Nat) (w : World) (hs : SizeOf.sizeOf us ≤ z + 1) (hL : LayT w w.heap.size ts (.slice a ts.length cap)) (hV : Vl w w.heap.size N bs us ab cb au cu)
    (hc : ∃ d, M.chkT d (.mk 8 n ts) = 0) (hf : M.fitV (.mk 8 n ts) (.mk N bs us p) = 0) (h1 : M.cntT (.mk 8 n ts) ≤ 1000) (h2 : M.cntV (.mk N bs us p) ≤ 6000) :
    Calls Tryz.prog 143 #[tv 8 n (.slice a ts.length cap), vv N (.slice ab bs.length cb) (.slice au us.length cu) p] w (BytP w (M.putV (.mk 8 n ts) (.mk N bs us p))) := by
  obtain ⟨d, hc⟩ := hc
  have hfp := M.fit_parts0 hf
  have ho := hfp.2.1
  rw [M.ofV_8] at ho
  simp only [Bool.and_eq_true, beq_iff_eq, decide_eq_true_eq] at ho
  obtain ⟨⟨⟨⟨rfl, hbl⟩, hul⟩, hp0⟩, hp1⟩ := ho
  obtain ⟨pk, rfl⟩ : ∃ pk : Nat, p = (pk : Int) := ⟨p.toNat, by omega⟩
  have hpk : pk < ts.length := by omega
  have htl : ts.length ≤ 8 := by
    have h3 := (M.chkT_ok.1 hc).2.1
    unfold M.formT at h3
    simp at h3
    omega
  obtain ⟨x, rfl⟩ : ∃ x, us = [x] := by
    cases us with
    | nil => simp at hul
    | cons x us => cases us with
      | nil => exact ⟨x, rfl⟩
      | cons y us => simp at hul
  obtain ⟨w0, hw0⟩ : ∃ w0, (w.alloc (.cells #[.int .i64 8, .int .i64 n, .slice a ts.length cap] 24)).alloc (.cells #[.int .u64 (M.pt 0 0), .int .u64 (M.pt 1 0), .int .u64 (M.pt 2 0), .int .u64 (M.pt 3 0), .slice ab bs.length cb, .slice au 1 cu, .int .i64 (pk : Int)] 33) = w0 := ⟨_, rfl⟩
  have hb0 : Below w.heap.size w w0 := by rw [← hw0]; exact two_boxesV _ _ _ _ _ _ _ _
  have hz0 : w0.heap.size = w.heap.size + 2 := by rw [← hw0]; simp
  have hB0 : BoxT w0 w.heap.size 8 n (.slice a ts.length cap) := by rw [← hw0]; exact ⟨by simp [go_sem], by simp [go_sem], by simp [go_sem]⟩
  have hA0 : Cells7 w0 (w.heap.size + 1) 0 0 (.slice ab bs.length cb) (.slice au 1 cu) (pk : Int) := by
    rw [← hw0]
    have := Cells7.new (w.alloc (.cells #[.int .i64 8, .int .i64 n, .slice a ts.length cap] 24)) 0 (.slice ab bs.length cb) (.slice au 1 cu) (pk : Int) 33
    rwa [World.size_alloc] at this
  have HW := Lib.hid hw0
  have HV0 := Lib.hid ((hV.from_ hb0).mono hb0.size)
  have HT0 := Lib.hid ((hL.from_ hb0).mono hb0.size)
  obtain ⟨b, o, k', n', us', ua, uc, rfl, hbn, hts, q0, q1, q2, hLt⟩ := HT0.out.at_ hpk
  obtain ⟨b2, o2, N2, bs2, vs2, p2, ab2, cb2, av2, cv2, rfl, hbn2, hxk, h7, hVl⟩ := HV0.out.v.at_ (i := 0) (by simp)
  obtain rfl : x = .mk N2 bs2 vs2 p2 := by simpa using hxk
  have hin : M.inT 8 ts (pk : Int) 0 = .mk k' n' us' := by simp [M.inT, hts]
  have hfx : M.fitV (.mk k' n' us') (.mk N2 bs2 vs2 p2) = 0 := by
    have := M.fitVs_at 8 ts (pk : Int) _ 0 0 _ hfp.2.2 (by rfl : [M.Va.mk N2 bs2 vs2 p2][0]? = some _)
    rw [Nat.zero_add, hin] at this
    exact this
  have hcx : M.chkT (d + 1) (.mk k' n' us') = 0 := M.chkTs_ok.1 (M.chkT_ok.1 hc).2.2.2 _ (List.mem_of_getElem? hts)
  have hcT := M.cntT_part (List.mem_of_getElem? hts)
  rw [M.cntT] at h1
  rw [M.cntV, M.cntVs, M.cntVs] at h2
  have hsv : SizeOf.sizeOf vs2 ≤ z := by simp at hs; omega
  have HE : M.putV (.mk 8 n ts) (.mk 0 bs [.mk N2 bs2 vs2 p2] (pk : Int)) = [UInt8.ofNat pk] ++ M.putV (.mk k' n' us') (.mk N2 bs2 vs2 p2) := by
    rw [M.putV]
    simp [M.Ty.k, M.putVs, M.Ty.ins, hin]
  rw [HE]
  have HC : Hid (∀ X, Below w0.heap.size w0 X → Calls Tryz.prog 57 #[tv k' n' (.slice ua us'.length uc), vv N2 (.slice ab2 bs2.length cb2) (.slice av2 vs2.length cv2) p2] X (PutP X (M.putV (.mk k' n' us') (.mk N2 bs2 vs2 p2)))) := fun X h =>
    ih.out k' n' us' ua uc N2 bs2 vs2 p2 ab2 cb2 av2 cv2 X hsv ((hLt.from_ h).mono h.size) ((hVl.from_ h).mono h.size) ⟨d + 1, hcx⟩ hfx (by omega) (by omega)
  have HC7 := Lib.hid h7
  have hpl : (M.putV (.mk k' n' us') (.mk N2 bs2 vs2 p2)).length ≤ 300000 := by
    have := M.put_len _ (M.chk_small _ _ hcx) (.mk N2 bs2 vs2 p2)
    omega
  generalize M.putV (.mk k' n' us') (.mk N2 bs2 vs2 p2) = s at *
  have hpk8 : (pk : Int) < 8 := by omega
  have hw1 : w.heap.size + 1 < w0.heap.size := by omega
  have hw9 : w.heap.size < w0.heap.size := by omega
  have hwr : IntKind.u8.wrap (pk : Int) = pk := by
    simp only [IntKind.wrap, IntKind.bits, IntKind.signed]
    simp
    omega
  have mixed : Tryz.prog.follows .mixedOrders = true := by kernel_rfl
  have t0 := hB0.c0
  have t1 := hB0.c1
  have t2 := hB0.c2
  have a0 := hA0.c0
  have a1 := hA0.c1
  have a2 := hA0.c2
  have a3 := hA0.c3
  have a4 := hA0.c4
  have a5 := hA0.c5
  have a6 := hA0.c6
  simp only [Nat.zero_add] at a1 a2 a3 a4 a5 a6
  rw [← HW.out] at t0 t1 t2 a0 a1 a2 a3 a4 a5 a6
  clear hw0 hf hc HE hfp hfx hcx hcT hsv hs h1 h2 hin ih hp0 hp1 hbl hul hV hL hxk hz0
  go_enter Tryz.func143, Tryz.ntmps143
  go_wp2_with fail
  rw [HW.out]
  refine wp_region_held (S := fun Y => Below w0.heap.size w0 Y) mixed ?_
  have hS0 : (fun Y => Below w0.heap.size w0 Y) { w0 with drawn := w0.drawn + 1 } := Below.drew (Below.refl _ _)
  rw [show Array.replicate (Array.size _) false = #[false, false, false, false, false, false, false, false, false, false, false, false, false, false, false, false, false] from rfl, show Array.size (α := Oper) _ = 17 from rfl]
  refine wpAnyH_take (i := 0) (v := .pointer (some ⟨w.heap.size + 1, 6, none⟩)) rfl (by kernel_rfl) (by kernel_rfl) (by kernel_rfl) (fun _ _ _ h => h) (Or.inl ⟨by rfl, ?_⟩) hS0 ?_
  · intro Y hY
    skip
    go_simp
  simp only [Act.put, List.getElem_toArray, List.getElem_cons_zero, List.setIfInBounds_toArray, List.set_cons_zero, List.set_cons_succ]
  refine wpAnyH_take (i := 1) (v := .int .i64 (pk : Int)) rfl (by kernel_rfl) (by kernel_rfl) (by kernel_rfl) (fun _ _ _ h => h) (Or.inl ⟨by rfl, ?_⟩) hS0 ?_
  · intro Y hY
    have e6 := (hY.cell (p := ⟨w.heap.size + 1, 6, none⟩) hw1).trans hA0.c6
    go_simp
  simp only [Act.put, List.getElem_toArray, List.getElem_cons_succ, List.getElem_cons_zero, List.setIfInBounds_toArray, List.set_cons_zero, List.set_cons_succ]
  refine wpAnyH_take (i := 2) (v := .int .u8 (pk : Int)) rfl (by kernel_rfl) (by kernel_rfl) (by kernel_rfl) (fun _ _ _ h => h) (Or.inl ⟨by rfl, ?_⟩) hS0 ?_
  · intro Y hY
    skip
    go_simp
  simp only [Act.put, List.getElem_toArray, List.getElem_cons_succ, List.getElem_cons_zero, List.setIfInBounds_toArray, List.set_cons_zero, List.set_cons_succ]
  refine wpAnyH_take (i := 4) (v := .pointer (some ⟨w.heap.size, 2, none⟩)) rfl (by kernel_rfl) (by kernel_rfl) (by kernel_rfl) (fun _ _ _ h => h) (Or.inl ⟨by rfl, ?_⟩) hS0 ?_
  · intro Y hY
    skip
    go_simp
  simp only [Act.put, List.getElem_toArray, List.getElem_cons_succ, List.getElem_cons_zero, List.setIfInBounds_toArray, List.set_cons_zero, List.set_cons_succ]
  refine wpAnyH_take (i := 5) (v := .slice (some ⟨b, o, none⟩) ts.length cap) rfl (by kernel_rfl) (by kernel_rfl) (by kernel_rfl) (fun _ _ _ h => h) (Or.inl ⟨by rfl, ?_⟩) hS0 ?_
  · intro Y hY
    have e2 := (hY.cell (p := ⟨w.heap.size, 2, none⟩) hw9).trans hB0.c2
    go_simp
  simp only [Act.put, List.getElem_toArray, List.getElem_cons_succ, List.getElem_cons_zero, List.setIfInBounds_toArray, List.set_cons_zero, List.set_cons_succ]
  refine wpAnyH_take (i := 6) (v := .pointer (some ⟨w.heap.size + 1, 6, none⟩)) rfl (by kernel_rfl) (by kernel_rfl) (by kernel_rfl) (fun _ _ _ h => h) (Or.inl ⟨by rfl, ?_⟩) hS0 ?_
  · intro Y hY
    skip
    go_simp
  simp only [Act.put, List.getElem_toArray, List.getElem_cons_succ, List.getElem_cons_zero, List.setIfInBounds_toArray, List.set_cons_zero, List.set_cons_succ]
  refine wpAnyH_take (i := 7) (v := .int .i64 (pk : Int)) rfl (by kernel_rfl) (by kernel_rfl) (by kernel_rfl) (fun _ _ _ h => h) (Or.inl ⟨by rfl, ?_⟩) hS0 ?_
  · intro Y hY
    have e6 := (hY.cell (p := ⟨w.heap.size + 1, 6, none⟩) hw1).trans hA0.c6
    go_simp
  simp only [Act.put, List.getElem_toArray, List.getElem_cons_succ, List.getElem_cons_zero, List.setIfInBounds_toArray, List.set_cons_zero, List.set_cons_succ]
  refine wpAnyH_take (i := 8) (v := .pointer (some ⟨b, o + pk * 3, none⟩)) rfl (by kernel_rfl) (by kernel_rfl) (by kernel_rfl) (fun _ _ _ h => h) (Or.inl ⟨by rfl, ?_⟩) hS0 ?_
  · intro Y hY
    skip
    go_simp
  simp only [Act.put, List.getElem_toArray, List.getElem_cons_succ, List.getElem_cons_zero, List.setIfInBounds_toArray, List.set_cons_zero, List.set_cons_succ]
  refine wpAnyH_take (i := 9) (v := tv k' n' (.slice ua us'.length uc)) rfl (by kernel_rfl) (by kernel_rfl) (by kernel_rfl) (fun _ _ _ h => h) (Or.inl ⟨by rfl, ?_⟩) hS0 ?_
  · intro Y hY
    have f0 := (hY.cell (p := ⟨b, o + pk * 3, none⟩) hbn).trans q0; have f1 := (hY.cell (p := ⟨b, o + pk * 3 + 1, none⟩) hbn).trans q1; have f2 := (hY.cell (p := ⟨b, o + pk * 3 + 2, none⟩) hbn).trans q2
    go_simp
  simp only [Act.put, List.getElem_toArray, List.getElem_cons_succ, List.getElem_cons_zero, List.setIfInBounds_toArray, List.set_cons_zero, List.set_cons_succ]
  refine wpAnyH_take (i := 10) (v := .pointer (some ⟨w.heap.size + 1, 5, none⟩)) rfl (by kernel_rfl) (by kernel_rfl) (by kernel_rfl) (fun _ _ _ h => h) (Or.inl ⟨by rfl, ?_⟩) hS0 ?_
  · intro Y hY
    skip
    go_simp
  simp only [Act.put, List.getElem_toArray, List.getElem_cons_succ, List.getElem_cons_zero, List.setIfInBounds_toArray, List.set_cons_zero, List.set_cons_succ]
  refine wpAnyH_take (i := 11) (v := .slice (some ⟨b2, o2, none⟩) 1 cu) rfl (by kernel_rfl) (by kernel_rfl) (by kernel_rfl) (fun _ _ _ h => h) (Or.inl ⟨by rfl, ?_⟩) hS0 ?_
  · intro Y hY
    have e5 := (hY.cell (p := ⟨w.heap.size + 1, 5, none⟩) hw1).trans hA0.c5
    go_simp
  simp only [Act.put, List.getElem_toArray, List.getElem_cons_succ, List.getElem_cons_zero, List.setIfInBounds_toArray, List.set_cons_zero, List.set_cons_succ]
  refine wpAnyH_take (i := 12) (v := .pointer (some ⟨b2, o2, none⟩)) rfl (by kernel_rfl) (by kernel_rfl) (by kernel_rfl) (fun _ _ _ h => h) (Or.inl ⟨by rfl, ?_⟩) hS0 ?_
  · intro Y hY
    skip
    go_simp
  simp only [Act.put, List.getElem_toArray, List.getElem_cons_succ, List.getElem_cons_zero, List.setIfInBounds_toArray, List.set_cons_zero, List.set_cons_succ]
  refine wpAnyH_take (i := 13) (v := vv N2 (.slice ab2 bs2.length cb2) (.slice av2 vs2.length cv2) p2) rfl (by kernel_rfl) (by kernel_rfl) (by kernel_rfl) (fun _ _ _ h => h) (Or.inl ⟨by rfl, ?_⟩) hS0 ?_
  · intro Y hY
    have h7Y := HC7.out.from_ hY hbn2; have e0 := h7Y.c0; have e1 := h7Y.c1; have e2 := h7Y.c2; have e3 := h7Y.c3; have e4 := h7Y.c4; have e5 := h7Y.c5; have e6 := h7Y.c6; simp only [Nat.zero_mul, Nat.add_zero] at e0 e1 e2 e3 e4 e5 e6
    go_simp
  simp only [Act.put, List.getElem_toArray, List.getElem_cons_succ, List.getElem_cons_zero, List.setIfInBounds_toArray, List.set_cons_zero, List.set_cons_succ]
  obtain ⟨i0, hi, hz0', hz1, hz2⟩ := info_parts Tryz.ofU8
  have hu8 : Hid ((pk : Int) = ((UInt8.ofNat pk).toNat : Int)) := by
    show (pk : Int) = ((UInt8.ofNat pk).toNat : Int)
    simp
    omega
  refine wpAnyH_ready (rs := [3, 14]) (by kernel_rfl) (by simp) ?_
  refine AllReadyH.cons rfl (fun K hK => ?rA) (AllReadyH.cons rfl (fun K hK => ?rB) AllReadyH.nil)
  case' rA =>
    rw [if_pos (by rfl)]
    refine wp_build_one 48 5 (.tmp 34) (.int .u8 (pk : Int)) (.int .u8 0) i0 rfl rfl rfl Tryz.underlying48 hi hz0' hz1 rfl ?_
    obtain ⟨w1, hw1'⟩ : ∃ w1, World.alloc { w0 with drawn := w0.drawn + 1 } (.cells #[.int .u8 (pk : Int)] 5) = w1 := ⟨_, rfl⟩
    have hS1 : Below w0.heap.size w0 w1 := by rw [← hw1']; exact hS0.alloc (Nat.le_refl _) _
    have hO1 : Ow w0.heap.size [UInt8.ofNat pk] (.slice (some ⟨w0.heap.size, 0, none⟩) 1 1) w1 := by rw [← hw1', hu8.out]; exact own_new _ _ _ (Nat.le_refl _)
    rw [hw1']
    refine hK.out _ _ hS1 (fun _ => ?_)
    clear hK K hw1'
    simp only [Act.put, List.getElem_toArray, List.getElem_cons_succ, List.getElem_cons_zero, List.setIfInBounds_toArray, List.set_cons_zero, List.set_cons_succ]
    refine wpAnyH_ready (rs := [14]) (by kernel_rfl) (by simp) ?_
    refine AllReadyH.cons rfl (fun K hK => ?_) AllReadyH.nil
    go_simp
    refine (HC.out _ hS1).mono ?_
    rintro e w2 ⟨hok, hno, hb2⟩
    have hS2 : Below w0.heap.size w0 w2 := hS1.trans (hb2.mono hS1.size)
    rcases Nat.lt_or_ge 65536 s.length with hsl | hsl
    · rw [hno (by omega)]
      exact ⟨rfl, .inr ⟨rfl, by simp; omega⟩, hb0.trans (Below.mono hS2 hb0.size)⟩
    obtain ⟨u, rfl, hU⟩ := hok hsl
    have hO2 := hO1.from_ hb2
    have hU2 := hU.sr
    try go_wp2_with fail
    refine hK.out _ _ hS2 (fun _ => ?_)
    clear hK K hok hno hO1
    simp only [List.setIfInBounds_toArray, List.set_cons_zero, List.set_cons_succ]
  case' rB =>
    go_simp
    refine (HC.out _ hS0).mono ?_
    rintro e w1 ⟨hok, hno, hb2⟩
    have hS1 : Below w0.heap.size w0 w1 := hS0.trans (hb2.mono (Nat.le_refl _))
    rcases Nat.lt_or_ge 65536 s.length with hsl | hsl
    · rw [hno (by omega)]
      exact ⟨rfl, .inr ⟨rfl, by simp; omega⟩, hb0.trans (Below.mono hS1 hb0.size)⟩
    obtain ⟨u, rfl, hU⟩ := hok hsl
    try go_wp2_with fail
    refine hK.out _ _ hS1 (fun _ => ?_)
    clear hK K hok hno
    simp only [List.setIfInBounds_toArray, List.set_cons_zero, List.set_cons_succ]
    refine wpAnyH_ready (rs := [3]) (by kernel_rfl) (by simp) ?_
    refine AllReadyH.cons rfl (fun K hK => ?_) AllReadyH.nil
    rw [if_pos (by rfl)]
    refine wp_build_one 48 5 (.tmp 34) (.int .u8 (pk : Int)) (.int .u8 0) i0 rfl rfl rfl Tryz.underlying48 hi hz0' hz1 rfl ?_
    obtain ⟨w2, hw2'⟩ : ∃ w2, World.alloc w1 (.cells #[.int .u8 (pk : Int)] 5) = w2 := ⟨_, rfl⟩
    have hbn2 : Below w1.heap.size w1 w2 := by rw [← hw2']; exact (Below.refl _ _).alloc (Nat.le_refl _) _
    have hS2 : Below w0.heap.size w0 w2 := hS1.trans (hbn2.mono hS1.size)
    have hO2 : Ow w0.heap.size [UInt8.ofNat pk] (.slice (some ⟨w1.heap.size, 0, none⟩) 1 1) w2 := by rw [← hw2', hu8.out]; exact own_new _ _ _ hS1.size
    have hU2 := (hU.from_ hbn2).sr
    rw [hw2']
    refine hK.out _ _ hS2 (fun _ => ?_)
    clear hK K hw2'
    simp only [Act.put, List.getElem_toArray, List.getElem_cons_succ, List.getElem_cons_zero, List.setIfInBounds_toArray, List.set_cons_zero, List.set_cons_succ]
  all_goals
    refine wpAnyH_ready (rs := [15]) (by kernel_rfl) (by simp) ?_
    refine AllReadyH.cons rfl (fun K hK => ?_) AllReadyH.nil
    rw [if_pos (by rfl)]
    refine wp_append_by _ _ _ rfl w0.heap.size [UInt8.ofNat pk] s _ u rfl rfl hO2 hU2 (by simp; omega) hS2.size ?_
    intro v' w3 hA3
    have hS3 : Below w0.heap.size w0 w3 := hS2.grown hA3.grown hS2.size (fun k e => (hO2.lt k e).1)
    refine hK.out _ _ hS3 (fun _ => ?_)
    clear hK K
    simp only [Act.put, List.getElem_toArray, List.getElem_cons_succ, List.getElem_cons_zero, List.setIfInBounds_toArray, List.set_cons_zero, List.set_cons_succ]
    refine wpAnyH_ready (rs := [16]) (by kernel_rfl) (by simp) ?_
    refine AllReadyH.cons rfl (fun K hK => ?_) AllReadyH.nil
    go_simp
    refine hK.out _ _ hS3 (fun _ => ?_)
    clear hK K
    simp only [List.setIfInBounds_toArray, List.set_cons_zero, List.set_cons_succ]
    refine wpAnyH_done (by kernel_rfl) ?_ _
    go_wp2_with fail
    go_ret
    exact ⟨.inl ⟨v', rfl, hA3.own.srB.mono hb0.size⟩, hb0.trans (Below.mono hS3 hb0.size)⟩
end Go.Proofs.YtgloapcfmlijlaaGreatDoor
namespace Go.Proofs.YtgloapcfmlijlaaGreatDoor
open Go Go.RowKit

/-- Numbers as the cells of an array. -/
def lv (a : List Nat) : Array Value := (a.map fun (n : Nat) => Value.int .u64 (n : Int)).toArray
theorem lv_size (a : List Nat) : (lv a).size = a.length := by simp [lv]
theorem lv_get {a : List Nat} {i : Nat} (h : i < a.length) : (lv a)[i]? = some (.int .u64 ((M.gl a i : Nat) : Int)) := by
  simp [lv, M.gl, h]
theorem lv_set (a : List Nat) (i m : Nat) : (lv a).setIfInBounds i (.int .u64 (m : Int)) = lv (a.set i m) := by
  simp [lv, List.map_set]
theorem lv_one (a : List Nat) : (lv a).all (·.oneCell') = true := by
  rw [Array.all_eq_true_iff_forall_mem]
  intro x hx
  simp only [lv, List.mem_toArray, List.mem_map] at hx
  obtain ⟨n, _, rfl⟩ := hx
  rfl
/-- Zeros. -/
def z25 : List Nat := List.replicate 25 0
def z5 : List Nat := List.replicate 5 0
theorem z25_length : z25.length = 25 := rfl
theorem lv_zero : #[Value.int .u64 0, Value.int .u64 0, Value.int .u64 0, Value.int .u64 0, Value.int .u64 0, Value.int .u64 0, Value.int .u64 0, Value.int .u64 0, Value.int .u64 0, Value.int .u64 0, Value.int .u64 0, Value.int .u64 0, Value.int .u64 0, Value.int .u64 0, Value.int .u64 0, Value.int .u64 0, Value.int .u64 0, Value.int .u64 0, Value.int .u64 0, Value.int .u64 0, Value.int .u64 0, Value.int .u64 0, Value.int .u64 0, Value.int .u64 0, Value.int .u64 0] = lv z25 := rfl
theorem lv_zero5 : #[Value.int .u64 0, Value.int .u64 0, Value.int .u64 0, Value.int .u64 0, Value.int .u64 0] = lv z5 := rfl
/-- A state as a value. -/
abbrev st (a : List Nat) : Value := .agg (lv a)

/-- A block that is just these numbers. -/
def Rw (W : World) (b : Nat) (t : TypeId) (a : List Nat) : Prop := W.heap[b]? = some (.cells (lv a) t (0, 0))
section
variable {W W' : World} {b : Nat} {t : TypeId} {a : List Nat}
theorem Rw.lt (h : Rw W b t a) : b < W.heap.size := (Array.getElem?_eq_some_iff.1 h).1
theorem Rw.cell (h : Rw W b t a) {i : Nat} (hi : i < a.length) : W.cell? ⟨b, i, none⟩ = some (.int .u64 ((M.gl a i : Nat) : Int)) := (cell_of_row W b i _ t (0, 0) h).trans (lv_get hi)
theorem Rw.frozen (h : Rw W b t a) (i : Nat) : W.frozen? ⟨b, i, none⟩ = false := frozen_of_row W b i _ t h
theorem Rw.new (W : World) (t : TypeId) (a : List Nat) : Rw (W.alloc (.cells (lv a) t)) W.heap.size t a := heap_alloc_new W _
theorem Rw.at_ (W : World) (t : TypeId) (a : List Nat) {k : Nat} (h : W.heap.size = k) : Rw (W.alloc (.cells (lv a) t)) k t a := h ▸ Rw.new W t a
theorem Rw.alloc (h : Rw W b t a) (o : Obj) : Rw (W.alloc o) b t a := (Below.heap_alloc W o b h.lt).trans h
theorem Rw.drew (h : Rw W b t a) : Rw W.drew b t a := h
theorem Rw.set_ (h : Rw W b t a) (i m : Nat) : Rw (W.setCell ⟨b, i, none⟩ (.int .u64 (m : Int))) b t (a.set i m) := by
  have := heap_setCell_same W b i _ t (.int .u64 (m : Int)) h
  rw [lv_set] at this
  exact this
theorem Rw.far (h : Rw W b t a) {p : Addr} (hp : b ≠ p.block) (u : Value) : Rw (W.setCell p u) b t a := (Below.heap_setCell W p u b hp).trans h
theorem Rw.below {B : Nat} (h : Rw W b t a) (hb : Below B W W') (hl : b < B) : Rw W' b t a := (hb.block b hl).trans h
theorem Rw.keep (h : Rw W b t a) (hb : Below W.heap.size W W') : Rw W' b t a := h.below hb h.lt
theorem Rw.row (h : Rw W b t a) (c : List Nat) : Rw (W.setRow b (lv c)) b t c := setRow_heap W b _ _ t (0, 0) h
theorem Rw.rowFar (h : Rw W b t a) {g : Nat} (hp : b ≠ g) (c : Array Value) : Rw (W.setRow g c) b t a := (setRow_other W g b c hp).trans h
theorem Rw.grown {row : Option Nat} (h : Rw W b t a) (hb : W.grownBy W' row) (hg : some b ≠ row) : Rw W' b t a := (hb.block b h.lt hg).trans h
end

section
variable {P : Program}
theorem wpList_load_st {ops : Array Oper} {rest : List Oper} {o : Oper} {a : Act} {w : World} {Q : Exit → Act → World → Prop} (hgd : o.guard = none) (ty : TypeId) (x : Operand) (ho : o.op = .load ty x) (g : Nat) (hx : a.eval x = .pointer (some ⟨g, 0, none⟩)) (t : TypeId) (c : List Nat) (n : Nat) (e : TypeId) (hr : Rw w g t c)
    (hu : P.underlying ty = some (.array n e)) (hi : (P.info? ty).map (·.size) = some n) (hc : c.length = n) (h : wpList P ops Q rest (a.put o.dst (st c)) w) : wpList P ops Q (o :: rest) a w :=
  wpList_load_row hgd ty x ho g hx t (lv c) (0, 0) _ hr hu rfl (by rw [lv_size, hc]; exact hi) h
theorem wpList_store_st {ops : Array Oper} {rest : List Oper} {o : Oper} {a : Act} {w : World} {Q : Exit → Act → World → Prop} (hgd : o.guard = none) (ty : TypeId) (x y : Operand) (ho : o.op = .store ty x y) (g : Nat) (c : List Nat) (hx : a.eval x = .pointer (some ⟨g, 0, none⟩)) (hy : a.eval y = st c) (t : TypeId) (d : List Nat) (n : Nat) (hr : Rw w g t d)
    (hi : (P.info? ty).map (·.size) = some n) (hc : c.length = n) (hd : d.length = n) (h : wpList P ops Q rest (a.put o.dst undef) (w.setRow g (lv c))) : wpList P ops Q (o :: rest) a w :=
  wpList_store_row hgd ty x y ho g (lv c) hx hy t (lv d) hr (by rw [lv_size, hc]; exact hi) (by rw [lv_size, lv_size, hc, hd]) (lv_one c) h
theorem wpListIn_load_st {F : Fence} {m : Nat} {ops : Array Oper} {rest : List Oper} {o : Oper} {a : Act} {w : World} {Q : Exit → Act → World → Prop} (hgd : o.guard = none) (ty : TypeId) (x : Operand) (ho : o.op = .load ty x) (g : Nat) (hx : a.eval x = .pointer (some ⟨g, 0, none⟩)) (t : TypeId) (c : List Nat) (n : Nat) (e : TypeId) (hr : Rw w g t c)
    (hu : P.underlying ty = some (.array n e)) (hi : (P.info? ty).map (·.size) = some n) (hc : c.length = n) (h : wpListIn F m P ops Q rest (a.put o.dst (st c)) w) : wpListIn F m P ops Q (o :: rest) a w := by
  refine wpListIn_plain hgd fun K hK => ?_
  unfold Oper.wpIn
  rw [Oper.semAt_plain F _ _ (by intro c; rw [ho]; exact fun h => nomatch h)]
  refine ⟨by intro f hf; simp [Oper.about, ho] at hf, ?_⟩
  unfold execOp
  simp only [ho, hx, Instr.loadAt, Instr.sureAddr, Sem.run_bind, Sem.run_pure, Result.andThen_ok, run_loadVar_row w g t ty (lv c) (0, 0) _ hr hu rfl (by rw [lv_size, hc]; exact hi)]
  exact hK _ _ h
theorem wpListIn_store_st {F : Fence} {m : Nat} {ops : Array Oper} {rest : List Oper} {o : Oper} {a : Act} {w : World} {Q : Exit → Act → World → Prop} (hgd : o.guard = none) (ty : TypeId) (x y : Operand) (ho : o.op = .store ty x y) (g : Nat) (c : List Nat) (hx : a.eval x = .pointer (some ⟨g, 0, none⟩)) (hy : a.eval y = st c) (t : TypeId) (d : List Nat) (n : Nat) (hr : Rw w g t d)
    (hi : (P.info? ty).map (·.size) = some n) (hc : c.length = n) (hd : d.length = n) (h : wpListIn F m P ops Q rest (a.put o.dst undef) (w.setRow g (lv c))) : wpListIn F m P ops Q (o :: rest) a w := by
  refine wpListIn_plain hgd fun K hK => ?_
  unfold Oper.wpIn
  rw [Oper.semAt_plain F _ _ (by intro c; rw [ho]; exact fun h => nomatch h)]
  refine ⟨by intro f hf; simp [Oper.about, ho] at hf, ?_⟩
  unfold execOp
  simp only [ho, hx, hy, Instr.storeAt, Instr.sureAddr, Sem.run_bind, Sem.run_pure, Result.andThen_ok, run_storeVar_row w g t ty (lv d) (lv c) hr (by rw [lv_size, hc]; exact hi) (by rw [lv_size, lv_size, hc, hd]) (lv_one c)]
  exact hK _ _ h
end

theorem Tryz.size25 : (Tryz.prog.info? 70).map (·.size) = some 25 := by kernel_rfl
theorem Tryz.array25 : Tryz.prog.underlying 70 = some (.array 25 27) := by kernel_rfl
/-- The result of a function that lies in a cell. -/
theorem res_row {fn : Func} {p : Tmp} (h : fn.results = #[.cell p 70]) (tmps : Array Value) (w : World) (g : Nat) (t : TypeId) (c : List Nat) (hp : tmps.getD p undef = .pointer (some ⟨g, 0, none⟩)) (hg : Rw w g t c) (hc : c.length = 25) :
    (results fn tmps).run Tryz.prog w = .ok (st c) w :=
  results_cell_row h tmps w g t (lv c) (0, 0) _ hp hg Tryz.array25 rfl (by rw [lv_size, hc]; exact Tryz.size25)
theorem gl_set {a : List Nat} {i m : Nat} (j : Nat) (hi : i < a.length) : M.gl (a.set i m) j = if j = i then m else M.gl a j := by
  unfold M.gl
  rw [List.getD_eq_getElem?_getD, List.getElem?_set]
  by_cases h : i = j
  · subst h; simp [hi]
  · have : ¬ j = i := fun e => h e.symm
    simp [h, this, List.getD_eq_getElem?_getD]
end Go.Proofs.YtgloapcfmlijlaaGreatDoor
namespace Go.Proofs.YtgloapcfmlijlaaGreatDoor
open Go Go.RowKit

/-- The loop's record while it is ready. -/
abbrev recOfq (fn : FuncId) (tmps : Array Value) (ps : Array Tmp) (assign body : Code) (d : Nat) (st : LoopState) : Loop :=
  { state := st, pending := none, fn, tmps, params := ps, assign, body, defers := d }

theorem keeps_putq {W : World} {l : Nat} {o : Obj} (o' : Obj) {k : Nat} {x : Obj} (hk : W.heap[k]? = some x) (hne : k ≠ l) (_h : W.heap[l]? = some o) : (W.putObj l o').heap[k]? = some x :=
  (World.putObj_heap_other hne).trans hk

theorem range_ax {α : Type} {P : Program} {n : Nat} {g : Operand} {ps : Array Tmp} {assign body : Code} {Q : Exit → Act → World → Prop} {a : Act} {w : World} (h1 : 1 ≤ n)
    {gf : Nat} {lb : Array Value} (hg : a.eval g = .func (.func gf) #[] lb) (eg : ∀ args w, (callFunc gf args).run P w = .ok (.enter gf args) w)
    {encs : α → Array Value} (hps : ∀ x, (encs x).size = ps.size) (xs : List α) (I : List α → World → Prop) (hI : OwnFrom w.heap.size I)
    (hseq : ∀ (l : Nat) (J : List α → World → Prop) (W : World), (∀ pre W, J pre W → I pre W) → (∀ pre W, J pre W → J pre W.drew) →
      (∀ pre x post W1, xs = pre ++ x :: post → J pre W1 → YieldAt Fence.wide (n - 1 - 1) P l (encs x) W1 fun e W' => e = .returned (.bool true) ∧ J (pre ++ [x]) W') →
      J [] W → CallsIn Fence.wide (n - 1) P gf (#[.func (.yield l) #[] #[]] ++ lb) W fun e W' => (∃ v, e = .returned v) ∧ J xs W')
    (h0 : I [] w) (Ax : List α → α → Act → World → Prop) (hAx : ∀ pre x a', OwnFrom w.heap.size (fun (_ : Unit) W => Ax pre x a' W))
    (hassign : ∀ (l : Nat) (pre : List α) (x : α) (post : List α) (W : World) (K : Act → World → Prop), xs = pre ++ x :: post → I pre W → (∀ a' W', KeepsOthers W W' → Ax pre x a' W' → K a' W') →
      assign.wpIn (Fence.wide.inRound l) (n - 1 - 1) P (Exit.then K (fun _ _ _ => False)) { tmps := (ps.zip (encs x)).foldl (fun t (p, v) => t.setIfInBounds p v) a.tmps, defers := [] } W)
    (hbody : ∀ (l : Nat) (pre : List α) (x : α) (post : List α) (a' : Act) (W : World), xs = pre ++ x :: post → Ax pre x a' W →
      body.wpIn (Fence.wide.inRound l) (n - 1 - 1) P (fun e _ W' => e = .normal ∧ KeepsOthers W W' ∧ I (pre ++ [x]) W') a' W)
    (hdone : ∀ (D : Nat) (W : World), w.heap.size ≤ D → I xs W → W.heap[D]? = some (.deferred (some [])) → Q .normal { a with defers := { target := .collected D, args := #[] } :: a.defers } W) :
    (Code.rangeFunc g ps assign body).wpIn Fence.wide n P Q a w := by
  refine wpIn_rangeFunc ?_
  intro fn hfn
  have hro : Fence.wide.round = none := rfl
  rw [hro]
  have hrun := run_enterLoop_outer (P := P) (w := w) fn a.tmps ps assign body
  obtain ⟨W1, hW1⟩ : ∃ W1, (w.alloc (.deferred (some []))).alloc (.loop (recOfq fn a.tmps ps assign body w.heap.size .ready)) = W1 := ⟨_, rfl⟩
  replace hrun : (Instr.enterLoop fn a.tmps ps assign body none).run P w = .ok (w.heap.size + 1, [{ target := .collected w.heap.size, args := #[] }]) W1 := hW1 ▸ hrun
  have hL : W1.heap[w.heap.size + 1]? = some (.loop (recOfq fn a.tmps ps assign body w.heap.size .ready)) := by
    rw [← hW1]
    have := World.alloc_heap_new (w.alloc (.deferred (some []))) (.loop (recOfq fn a.tmps ps assign body w.heap.size .ready))
    rwa [World.size_alloc] at this
  have hD : W1.heap[w.heap.size]? = some (.deferred (some [])) := by
    rw [← hW1]
    exact (Below.heap_alloc _ _ _ (by simp)).trans (World.alloc_heap_new w _)
  have hI1 : I [] W1 := by rw [← hW1]; exact hI.alloc _ (hI.alloc _ h0)
  refine ⟨w.heap.size + 1, _, W1, { target := .fn (.func gf) lb, args := #[.func (.yield (w.heap.size + 1)) #[] #[]] }, W1, gf, #[.func (.yield (w.heap.size + 1)) #[] #[]] ++ lb, W1, hrun, ?_, fun _ _ => trivial, ?_, fun _ => h1, ?_⟩
  · simp only [resolve, hg]
    simp [go_sem]
  · simp [invoke, go_sem, eg]
  · refine (hseq (w.heap.size + 1) (fun pre W => I pre W ∧ W.heap[w.heap.size + 1]? = some (.loop (recOfq fn a.tmps ps assign body w.heap.size .ready)) ∧ W.heap[w.heap.size]? = some (.deferred (some []))) W1
      (fun _ _ h => h.1) (fun pre W h => ⟨hI pre W W.drew none h.1 ⟨rfl, rfl, rfl, Nat.le_refl _, fun _ _ _ => rfl⟩ (fun r e => by cases e), h.2⟩) ?_ ⟨hI1, hL, hD⟩).mono ?_
    · rintro pre x post W hx ⟨hi, hl, hd⟩
      refine ⟨fn, _, assign, body, run_yield hl (hps x), roundIn_of_wpIn trivial (hassign _ pre x post W _ hx hi ?_)⟩
      intro a' W' hk1 hax
      have hl1 := hk1.same _ _ hl rfl
      have hd1 := hk1.same _ _ hd rfl
      have hlt : w.heap.size + 1 < W'.heap.size := (Array.getElem?_eq_some_iff.1 hl1).1
      refine ⟨_, run_beginRound hl1 rfl, ?_⟩
      refine wpIn_mono (hbody _ pre x post _ _ hx ((hAx pre x a').putObj (s := ()) _ hax (by omega) hl1 rfl)) ?_
      rintro e b W2 ⟨rfl, hk, hi2⟩
      have hl2 := hk.same _ _ (World.putObj_heap_same hlt) rfl
      have hd2 := hk.same _ _ (keeps_putq _ hd1 (by omega) hl1) rfl
      exact ⟨_, _, run_endRound none hl2, rfl, hI.putObj _ hi2 (by omega) hl2 rfl, World.putObj_heap_same (Array.getElem?_eq_some_iff.1 hl2).1, keeps_putq _ hd2 (by omega) hl2⟩
    · rintro e W2 ⟨⟨v, rfl⟩, hi, hl, hd⟩
      exact ⟨none, _, run_endLoop hl (by simp), hdone _ _ (Nat.le_refl _) (hI.putObj _ hi (by omega) hl rfl) (keeps_putq _ hd (by omega) hl)⟩

section
variable {P : Program} {ops : Array Oper} {Q : Exit → Act → World → Prop} {md : Region.Mode}
/-- Reads and quiet calls, and a store at last, in a round. -/
theorem round_still_tailq {r m id : Nat} {Q : Exit → Act → World → Prop} {a : Act} {w : World} {l : List Oper} (n : Nat) (hm : P.follows .mixedOrders = true) (hB : Region.lexTailB .any l.toArray n = true) (hd : noDefer l.toArray = true)
    (h : wpStill P l.toArray { w with drawn := w.drawn + 1 } (fun a' => wpList P l.toArray (nrm (fun b u => Q .normal b u)) (l.drop n) a' { w with drawn := w.drawn + 1 }) (l.take n) a) : (Code.region id l.toArray true).wpIn (Fence.wide.inRound r) m P Q a w := by
  refine wpIn_mono' (R := fun b u => Q .normal b u) ?_ (fun _ _ h => h)
  simp only [Region.lexTailB, Bool.and_eq_true, decide_eq_true_eq] at hB
  obtain ⟨⟨⟨⟨hsel, hn⟩, hs⟩, hc⟩, hlex⟩ := hB
  have hn' : n < l.length := by simpa using hn
  have htl : (l.take n).length = n := by simp; omega
  have hdl : (l.drop n).length = l.toArray.size - n := by simp
  have inv0 : HeadInv .any l.toArray n (Array.replicate l.toArray.size false) :=
    ⟨by simp, fun j oj _ hl => (by rw [getD_replicate_false] at hl; cases hl), fun t _ ht => getD_in (by simpa using ht) (getD_replicate_false _ _)⟩
  have H := wpAnyL_lex (md := .any) (g := l.toArray.size - n) hsel hs hc hn (l.take n) 0 _ a (fun j hj => by
    have hj' : j < n := by rw [htl] at hj; exact hj
    simp [hj']) (by simpa using htl) inv0 (by rw [htl]; exact hlex) h
  refine wpIn_region_any hm (wpAny_round hd _ _ _ _ ?_)
  have := wpAny_of_head (Q' := nrm (fun b u => Q .normal b u)) (g := l.toArray.size - n) (fun listed a' hL => by
    have := wpAny_of_seq (md := .any) (Q' := nrm (fun b u => Q .normal b u)) (l.drop n) n listed a' { w with drawn := w.drawn + 1 } (fun j => by simp [List.getElem?_drop]) (by rw [hdl]; exact hL.1) hL.2
    rwa [hdl] at this) _ _ _ H
  rw [htl, show n + (l.toArray.size - n) = l.toArray.size by omega] at this
  exact this
/-- Reads and quiet calls alone, in a round. -/
theorem round_stillq {r m id : Nat} {Q : Exit → Act → World → Prop} {a : Act} {w : World} {l : List Oper} (hm : P.follows .mixedOrders = true) (hB : Region.lexB .any l.toArray = true) (hd : noDefer l.toArray = true)
    (h : wpStill P l.toArray { w with drawn := w.drawn + 1 } (fun a' => Q .normal a' { w with drawn := w.drawn + 1 }) l a) : (Code.region id l.toArray true).wpIn (Fence.wide.inRound r) m P Q a w := by
  refine wpIn_mono' (R := fun b u => Q .normal b u) ?_ (fun _ _ h => h)
  simp only [Region.lexB, Bool.and_eq_true] at hB
  refine wpIn_region_any hm (wpAny_round hd _ _ _ _ (wpAny_of_still (Q := fun a' => Q .normal a' { w with drawn := w.drawn + 1 }) (Q' := nrm (fun b u => Q .normal b u)) (fun _ h => h) _ _ _ ?_))
  have := wpAnyS_lex (md := .any) hB.1 l 0 (Array.replicate l.toArray.size false) a (by simp) (by simpa using hB.2) h
  simpa using this
end
end Go.Proofs.YtgloapcfmlijlaaGreatDoor
namespace Go.Proofs.YtgloapcfmlijlaaGreatDoor
open Go Go.RowKit Go.Shelf
attribute [local go_sem] Oper.semAt_some

/-- A lane's place. -/
def px (i : Nat) : Nat := i % 5
def py (i : Nat) : Nat := i / 5
theorem at_any (x y p : Nat) (w : World) (hx : x ≤ 100) (hy : y ≤ 100) (hp : x % 5 + 5 * (y % 5) = p) :
    Calls Tryz.prog 174 #[.int .i64 (x : Int), .int .i64 (y : Int)] w fun e w' => e = .returned (.int .i64 (p : Int)) ∧ w = w' := by
  have e : (x : Int) % 5 + 5 * ((y : Int) % 5) = (p : Int) := by omega
  clear hp
  go_enter Tryz.func174, Tryz.ntmps174
  go_wp2_with fail
  go_ret
  exact ⟨rfl, rfl⟩

theorem mask64 : ∀ k : Fin 64, bits .and .u64 ((k.val : Nat) : Int) 63 = ((k.val : Nat) : Int) := by decide +kernel

set_option maxRecDepth 100000 in
set_option maxHeartbeats 2000000 in
theorem rotl (n k : Nat) (w : World) (hn : n < 18446744073709551616) (hk : k < 64) :
    Calls Tryz.prog 175 #[.int .u64 (n : Int), .int .i64 (k : Int)] w fun e w' => e = .returned (.int .u64 ((M.rotN n k : Nat) : Int)) ∧ w = w' := by
  have HN := Lib.hid hn
  have hm := mask64 ⟨k, hk⟩
  simp only at hm
  clear hn
  go_enter Tryz.func175, Tryz.ntmps175
  go_wp2_with fail
  go_ret
  rw [M.rot_model HN.out hk]
  exact ⟨rfl, rfl⟩

theorem lane_in (n : Nat) (a : List Nat) (w : World) :
    CallsIn Fence.wide n Tryz.prog 173 #[st a] w fun e w' =>
      e = .returned (.func (.func 208) #[] #[.pointer (some ⟨w.heap.size, 0, none⟩)]) ∧ w' = w.alloc (.cells (lv a) 70) := by
  refine callsIn_of_wp Tryz.func173 rfl trivial ?_ rfl
  simp only [Tryz.ntmps173, List.size_toArray, List.length_cons, List.length_nil, Nat.reduceAdd, Nat.reduceSub, Array.replicate_succ, Array.replicate_zero, List.push_toArray, List.append_toArray, List.nil_append, List.cons_append]
  gi_wp2
  go_ret
  exact ⟨rfl, rfl⟩

set_option maxRecDepth 100000 in
set_option maxHeartbeats 4000000 in
theorem lanes_run (n : Nat) (a : List Nat) (ha : a.length = 25) (l b : Nat) (J : List Nat → World → Prop) (hJ : ∀ pre W, J pre W → Rw W b 70 a)
    (hY : ∀ i W, i < 25 → J (List.range i) W → YieldAt Fence.wide n Tryz.prog l #[.agg #[.int .i64 ((px i : Nat) : Int), .int .i64 ((py i : Nat) : Int)], .int .u64 ((M.gl a i : Nat) : Int)] W fun e W' => e = .returned (.bool true) ∧ J (List.range (i + 1)) W')
    (W : World) (h0 : J [] W) :
    CallsIn Fence.wide (n + 1) Tryz.prog 208 #[.func (.yield l) #[] #[], .pointer (some ⟨b, 0, none⟩)] W fun e W' => (∃ v, e = .returned v) ∧ J (List.range 25) W' := by
  have HA := Lib.hid ha
  have HJ := Lib.hid hJ
  have HY := Lib.hid hY
  clear ha hJ hY
  have hro : Fence.wide.round = none := rfl
  refine callsIn_of_wp Tryz.func208 rfl trivial ?_ rfl
  simp only [Tryz.ntmps208, List.size_toArray, List.length_cons, List.length_nil, Nat.reduceAdd, Nat.reduceSub, Array.replicate_succ, Array.replicate_zero, List.push_toArray, List.append_toArray, List.nil_append, List.cons_append]
  gi_wp2
  gi_loopw [5] (fun i wr => ∃ y : Nat, y ≤ 5 ∧ i = .int .i64 (y : Int) ∧ J (List.range (5 * y)) wr) (fun i _ => 5 - (intOf i).toNat)
  case atStart => exact ⟨0, Nat.zero_le _, rfl, h0⟩
  case round =>
    obtain ⟨y, hy, rfl, hJs⟩ := hrel
    by_cases hlt : y < 5
    · have hlt' : (y : Int) < 5 := by omega
      gi_wp2
      gi_loopw [8] (fun i wq => ∃ x : Nat, x ≤ 5 ∧ i = .int .i64 (x : Int) ∧ J (List.range (5 * y + x)) wq) (fun i _ => 5 - (intOf i).toNat)
      case atStart => exact ⟨0, Nat.zero_le _, rfl, hJs⟩
      case round =>
        clear hJs
        obtain ⟨x, hx, rfl, hJs⟩ := hrel
        by_cases hltx : x < 5
        · have hltx' : (x : Int) < 5 := by omega
          have hR := HJ.out _ _ hJs
          have hi : 5 * y + x < 25 := by omega
          have cc := hR.cell (i := 5 * y + x) (by rw [HA.out]; exact hi)
          obtain ⟨fn, tmps, asg, body, hyy, hRR⟩ := HY.out (5 * y + x) wr hi hJs
          rw [show px (5 * y + x) = x by unfold px; omega, show py (5 * y + x) = y by unfold py; omega] at hyy
          have HS : Hid (5 * y + x + 1 = 5 * y + (x + 1)) := rfl
          obtain ⟨p, hp⟩ : ∃ p, p = 5 * y + x := ⟨_, rfl⟩
          have hp' := at_any x y p wr (by omega) (by omega) (by omega)
          rw [← hp] at cc hi hRR hyy HS
          have HP := Lib.hid hp
          have hi' : (p : Int) < 25 := by omega
          clear hp
          gi_wp2_with (refine ⟨trivial, ?_⟩; (with_reducible refine (callsIn_wide.2 hp').mono ?_); rintro e w' ⟨rfl, rfl⟩)
          refine hRR.mono ?_
          rintro e W3 ⟨rfl, hJ3⟩
          clear hRR hyy hp' cc hR hJs
          gi_wp2
          go_roundw
          case rel => exact ⟨x + 1, by omega, by simp <;> omega, by rw [← HS.out]; exact hJ3⟩
          case measure => simp [intOf]; omega
        · obtain rfl : x = 5 := by omega
          gi_wp2
          go_roundw
          case rel => exact ⟨y + 1, by omega, by simp <;> omega, hJs⟩
          case measure => simp [intOf]; omega
    · obtain rfl : y = 5 := by omega
      gi_wp2
      go_end0
      exact ⟨⟨_, rfl⟩, hJs⟩
end Go.Proofs.YtgloapcfmlijlaaGreatDoor
namespace Go.Proofs.YtgloapcfmlijlaaGreatDoor
open Go Go.RowKit

end Go.Proofs.YtgloapcfmlijlaaGreatDoor
namespace Go.Proofs.YtgloapcfmlijlaaGreatDoor
open Go Go.RowKit

/-- The lanes below k by f, the others as they were. -/
def upto (f : Nat → Nat) (a : List Nat) (k : Nat) : List Nat := M.lanesOf fun i => if i < k then f i else M.gl a i
theorem upto_length (f : Nat → Nat) (a : List Nat) (k : Nat) : (upto f a k).length = 25 := M.of_length _
theorem upto_zero (f : Nat → Nat) {a : List Nat} (ha : a.length = 25) : upto f a 0 = a :=
  M.lanes_ext (M.of_length _) ha fun i hi => by unfold upto; rw [M.gl_of _ hi]; simp
theorem upto_all (f : Nat → Nat) (a : List Nat) : upto f a 25 = M.lanesOf f :=
  M.lanes_ext (M.of_length _) (M.of_length _) fun i hi => by unfold upto; rw [M.gl_of _ hi, M.gl_of _ hi, if_pos hi]
theorem upto_succ (f : Nat → Nat) (a : List Nat) {k : Nat} (hk : k < 25) : (upto f a k).set k (f k) = upto f a (k + 1) := by
  refine M.lanes_ext (by rw [List.length_set, upto_length]) (M.of_length _) fun i hi => ?_
  rw [gl_set i (by rw [upto_length]; exact hk)]
  unfold upto
  rw [M.gl_of _ hi, M.gl_of _ hi]
  by_cases h : i = k
  · subst h; rw [if_pos rfl, if_pos (by omega)]
  · rw [if_neg h]
    by_cases h2 : i < k
    · rw [if_pos h2, if_pos (by omega)]
    · rw [if_neg h2, if_neg (by omega)]

/-- The columns, when k lanes have gone in. -/
def colP (a : List Nat) (k : Nat) : List Nat := (List.range k).foldl (fun c i => c.set (i % 5) (M.gl c (i % 5) ^^^ M.gl a i)) z5
theorem colP_succ (a : List Nat) (k : Nat) : colP a (k + 1) = (colP a k).set (k % 5) (M.gl (colP a k) (k % 5) ^^^ M.gl a k) := by simp [colP, List.range_succ]
theorem colP_length (a : List Nat) (k : Nat) : (colP a k).length = 5 := by
  induction k with
  | zero => rfl
  | succ k ih => rw [colP_succ, List.length_set, ih]
theorem colP_lt {a : List Nat} (ha : M.Lanes a) (k : Nat) : ∀ x, M.gl (colP a k) x < 18446744073709551616 := by
  induction k with
  | zero => intro x; have : ∀ x, M.gl z5 x = 0 := fun x => by unfold M.gl z5; rw [List.getD_eq_getElem?_getD, List.getElem?_replicate]; split <;> simp
            rw [show colP a 0 = z5 from rfl, this]; omega
  | succ k ih =>
    intro x
    rw [colP_succ, gl_set _ (by rw [colP_length]; omega)]
    by_cases h : x = k % 5
    · rw [if_pos h]; exact M.xor_lt64 (ih _) (ha.2 _)
    · rw [if_neg h]; exact ih x
theorem colP_all (a : List Nat) {x : Nat} (hx : x < 5) : M.gl (colP a 25) x = M.col a x := by
  have h0 : M.gl (colP a 25) 0 = 0 ^^^ M.gl a 0 ^^^ M.gl a 5 ^^^ M.gl a 10 ^^^ M.gl a 15 ^^^ M.gl a 20 := by kernel_rfl
  have h1 : M.gl (colP a 25) 1 = 0 ^^^ M.gl a 1 ^^^ M.gl a 6 ^^^ M.gl a 11 ^^^ M.gl a 16 ^^^ M.gl a 21 := by kernel_rfl
  have h2 : M.gl (colP a 25) 2 = 0 ^^^ M.gl a 2 ^^^ M.gl a 7 ^^^ M.gl a 12 ^^^ M.gl a 17 ^^^ M.gl a 22 := by kernel_rfl
  have h3 : M.gl (colP a 25) 3 = 0 ^^^ M.gl a 3 ^^^ M.gl a 8 ^^^ M.gl a 13 ^^^ M.gl a 18 ^^^ M.gl a 23 := by kernel_rfl
  have h4 : M.gl (colP a 25) 4 = 0 ^^^ M.gl a 4 ^^^ M.gl a 9 ^^^ M.gl a 14 ^^^ M.gl a 19 ^^^ M.gl a 24 := by kernel_rfl
  have : x = 0 ∨ x = 1 ∨ x = 2 ∨ x = 3 ∨ x = 4 := by omega
  rcases this with rfl | rfl | rfl | rfl | rfl
  · rw [h0, Nat.zero_xor]; rfl
  · rw [h1, Nat.zero_xor]; rfl
  · rw [h2, Nat.zero_xor]; rfl
  · rw [h3, Nat.zero_xor]; rfl
  · rw [h4, Nat.zero_xor]; rfl
def mixF (a : List Nat) (i : Nat) : Nat := M.gl a i ^^^ M.col a ((i % 5 + 4) % 5) ^^^ M.rotN (M.col a ((i % 5 + 1) % 5)) 1

end Go.Proofs.YtgloapcfmlijlaaGreatDoor
namespace Go.Proofs.YtgloapcfmlijlaaGreatDoor
open Go Go.RowKit

end Go.Proofs.YtgloapcfmlijlaaGreatDoor
namespace Go.Proofs.YtgloapcfmlijlaaGreatDoor
open Go Go.RowKit Go.Shelf
attribute [local go_sem] Oper.semAt_some

/-- The tables of the program, as they read. -/
structure Tab (W : World) : Prop where
  rc : ∀ i, i < 24 → W.cell? ⟨0, i, none⟩ = some (.int .u64 ((M.gl M.rcs i : Nat) : Int))
  off : ∀ i, i < 25 → W.cell? ⟨1, i, none⟩ = some (.int .i64 ((M.gl M.offs i : Nat) : Int))
theorem Tab.lt {W : World} (h : Tab W) : 0 < W.heap.size ∧ 1 < W.heap.size :=
  ⟨block_lt_of_cell (h.rc 0 (by omega)), block_lt_of_cell (h.off 0 (by omega))⟩
theorem Tab.below {B : Nat} {W W' : World} (h : Tab W) (hb : Below B W W') (hB : W.heap.size ≤ B) : Tab W' :=
  ⟨fun i hi => (hb.cell (p := ⟨_, i, none⟩) (Nat.lt_of_lt_of_le h.lt.1 hB)).trans (h.rc i hi), fun i hi => (hb.cell (p := ⟨_, i, none⟩) (Nat.lt_of_lt_of_le h.lt.2 hB)).trans (h.off i hi)⟩
theorem Tab.from {w W : World} (h : Tab w) (hb : Below w.heap.size w W) : Tab W := h.below hb (Nat.le_refl _)

theorem range_cutq {m i : Nat} (h : i < m) : ∃ post, List.range m = List.range i ++ i :: post := by
  obtain ⟨k, rfl⟩ : ∃ k, m = i + (k + 1) := ⟨m - i - 1, by omega⟩
  refine ⟨(List.range k).map (fun x => i + (x + 1)), ?_⟩
  rw [List.range_add, List.range_succ_eq_map]
  simp [List.map_map, Function.comp_def]
theorem range_partq {m x : Nat} {pre post : List Nat} (h : List.range m = pre ++ x :: post) : pre = List.range pre.length ∧ x = pre.length ∧ pre.length < m := by
  have hl := congrArg List.length h
  simp at hl
  have hx : (List.range m)[pre.length]? = some x := by rw [h]; simp
  rw [List.getElem?_range (by omega)] at hx
  have ht : (List.range m).take pre.length = pre := by rw [h]; simp
  rw [List.take_range, Nat.min_eq_left (by omega)] at ht
  exact ⟨ht.symm, (Option.some.inj hx).symm, by omega⟩

/-- A lane's place, as a value. -/
abbrev plc (i : Nat) : Array Value := #[.int .i64 ((px i : Nat) : Int), .int .i64 ((py i : Nat) : Int)]
/-- The box of a place. -/
def Pl (W : World) (B i : Nat) : Prop := W.heap[B]? = some (.cells (plc i) 154 (0, 0))
theorem Pl.new (W : World) (i : Nat) : Pl (W.alloc (.cells (plc i) 154)) W.heap.size i := heap_alloc_new W _
theorem Pl.lt {W : World} {B i : Nat} (h : Pl W B i) : B < W.heap.size := (Array.getElem?_eq_some_iff.1 h).1
theorem Pl.x {W : World} {B i : Nat} (h : Pl W B i) : W.cell? ⟨B, 0, none⟩ = some (.int .i64 ((px i : Nat) : Int)) := cell_of_row W B 0 _ _ (0, 0) h
theorem Pl.y {W : World} {B i : Nat} (h : Pl W B i) : W.cell? ⟨B, 1, none⟩ = some (.int .i64 ((py i : Nat) : Int)) := cell_of_row W B 1 _ _ (0, 0) h

theorem range_lanes {a : List Nat} (ha : a.length = 25) {g : Operand} {ps : Array Tmp} {assign body : Code} {Q : Exit → Act → World → Prop} {act : Act} {w : World} {b : Nat}
    (hg : act.eval g = .func (.func 208) #[] #[.pointer (some ⟨b, 0, none⟩)]) (hps : ps.size = 2)
    (I : Nat → World → Prop) (hI : OwnFrom w.heap.size I) (hc : ∀ i W, I i W → Rw W b 70 a ∧ w.heap.size ≤ W.heap.size) (h0 : I 0 w) (f : Nat → Nat → Array Value → Array Value)
    (hassign : ∀ (l i : Nat) (W : World) (K : Act → World → Prop), i < 25 → K { tmps := f W.heap.size i act.tmps, defers := [] } (W.alloc (.cells (plc i) 154)) →
      assign.wpIn (Fence.wide.inRound l) 2 Tryz.prog (Exit.then K (fun _ _ _ => False)) { tmps := (ps.zip #[.agg (plc i), .int .u64 ((M.gl a i : Nat) : Int)]).foldl (fun t (p, v) => t.setIfInBounds p v) act.tmps, defers := [] } W)
    (hbody : ∀ (l i B : Nat) (W : World), i < 25 → I i W → Pl W B i → w.heap.size ≤ B → body.wpIn (Fence.wide.inRound l) 2 Tryz.prog (fun e _ W' => e = .normal ∧ KeepsOthers W W' ∧ I (i + 1) W') { tmps := f B i act.tmps, defers := [] } W)
    (hdone : ∀ (D : Nat) (W : World), w.heap.size ≤ D → I 25 W → W.heap[D]? = some (.deferred (some [])) → Q .normal { act with defers := { target := .collected D, args := #[] } :: act.defers } W) :
    (Code.rangeFunc g ps assign body).wpIn Fence.wide 4 Tryz.prog Q act w := by
  refine range_ax (n := 4) (by omega) hg (enters_of Tryz.func208 (by kernel_rfl) rfl) (encs := fun i : Nat => #[.agg (plc i), .int .u64 ((M.gl a i : Nat) : Int)]) (fun _ => hps.symm) (List.range 25)
    (fun pre W => I pre.length W) (fun pre => hI pre.length) ?_ h0
    (fun _ i a' W => ∃ B, Pl W B i ∧ w.heap.size ≤ B ∧ a' = { tmps := f B i act.tmps, defers := [] } ∧ I i W) ?_ ?_ ?_ hdone
  · intro l J W hJI hd hY hJ0
    refine (lanes_run 2 a ha l b J (fun pre W h => (hc _ _ (hJI pre W h)).1) ?_ W hJ0).mono ?_
    · intro i W1 hi hJ1
      obtain ⟨post, hp⟩ := range_cutq hi
      have := hY _ i post W1 hp hJ1
      rwa [← List.range_succ] at this
    · rintro e W' ⟨hv, hj⟩
      exact ⟨hv, hj⟩
  · rintro pre i a' s A B row ⟨Bx, hp, hB, e, hi⟩ hg' hr
    refine ⟨Bx, (hg'.block Bx hp.lt ?_).trans hp, hB, e, hI i A B row hi hg' hr⟩
    intro he
    obtain ⟨_, o, ho, hcell⟩ := hr Bx he.symm
    rw [show A.heap[Bx]? = _ from hp] at ho
    cases ho
    cases hcell
  · intro l pre x post W K hx hi hK
    obtain ⟨h1, h2, h3⟩ := range_partq hx
    subst h2
    refine hassign l pre.length W K h3 (hK _ _ (KeepsOthers.alloc _ _) ⟨W.heap.size, Pl.new W _, (hc _ _ hi).2, rfl, hI.alloc _ hi⟩)
  · rintro l pre x post a' W hx ⟨B, hp, hB, rfl, hi⟩
    obtain ⟨h1, h2, h3⟩ := range_partq hx
    subst h2
    rw [List.length_append, List.length_singleton]
    exact hbody l pre.length B W h3 hi hp hB
end Go.Proofs.YtgloapcfmlijlaaGreatDoor
namespace Go.Proofs.YtgloapcfmlijlaaGreatDoor
open Go Go.RowKit

def mvI (i : Nat) : Nat := i / 5 + 5 * ((2 * (i % 5) + 3 * (i / 5)) % 5)
def mvP (a : List Nat) (k : Nat) : List Nat := (List.range k).foldl (fun b i => b.set (mvI i) (M.gl a i)) z25
theorem mvP_succ (a : List Nat) (k : Nat) : mvP a (k + 1) = (mvP a k).set (mvI k) (M.gl a k) := by simp [mvP, List.range_succ]
theorem mvP_length (a : List Nat) (k : Nat) : (mvP a k).length = 25 := by
  induction k with
  | zero => rfl
  | succ k ih => rw [mvP_succ, List.length_set, ih]
theorem mvP_all (a : List Nat) : mvP a 25 = M.moveL a := by kernel_rfl

end Go.Proofs.YtgloapcfmlijlaaGreatDoor
namespace Go.Proofs.YtgloapcfmlijlaaGreatDoor
open Go Go.RowKit Go.Shelf
attribute [local go_sem] Oper.semAt_some

theorem rw_own {β : Type} (B : Nat) (t : TypeId) (f : β → List Nat) : Own (fun s W => Rw W B t (f s)) := fun s X Y row hs hg hrow => by
  refine (hg.block B hs.lt ?_).trans hs
  intro e
  obtain ⟨o, ho, hc⟩ := hrow B e.symm
  rw [show X.heap[B]? = _ from hs] at ho
  cases ho
  cases hc

theorem Rw.put {W : World} {b l : Nat} {t : TypeId} {a : List Nat} (h : Rw W b t a) (hne : b ≠ l) (o : Obj) : Rw (W.putObj l o) b t a := (World.putObj_heap_other hne).trans h
theorem offs_lt : ∀ i : Fin 25, M.gl M.offs i.val < 64 := by decide

set_option maxRecDepth 100000 in
set_option maxHeartbeats 4000000 in
theorem move_in (a : List Nat) (w : World) (ha : M.Lanes a) (hT : Tab w) :
    CallsIn Fence.wide 4 Tryz.prog 105 #[st a] w fun e w' => e = .returned (st (M.moveL (M.turnL a))) ∧ Below w.heap.size w w' := by
  have HA := Lib.hid ha
  have HT := Lib.hid hT
  have HL := Lib.hid ha.1
  clear ha hT
  have hro : Fence.wide.round = none := rfl
  refine callsIn_of_wp_marks Tryz.func105 rfl trivial ?_ hro
  simp only [Tryz.ntmps105, List.size_toArray, List.length_cons, List.length_nil, Nat.reduceAdd, Nat.reduceSub, Array.replicate_succ, Array.replicate_zero, List.push_toArray, List.append_toArray, List.nil_append, List.cons_append]
  gi_wp2_with (first | (refine wpListIn_load_st rfl _ _ rfl _ rfl _ _ 25 27 (((Rw.new w 70 a).alloc _).alloc _) Tryz.array25 Tryz.size25 HL.out ?_) | (refine ⟨trivial, ?_⟩; refine (lane_in _ _ _).mono ?_; rintro e w' ⟨rfl, rfl⟩))
  rw [lv_zero]
  have mixed : Tryz.prog.follows .mixedOrders = true := by kernel_rfl
  obtain ⟨h, hh⟩ : ∃ h, h = w.heap.size := ⟨_, rfl⟩
  obtain ⟨W0, hW0⟩ : ∃ W0, ((((w.alloc (Obj.cells (lv a) 70)).alloc (Obj.cells (lv z25) 70)).alloc (Obj.cells (lv z25) 70)).alloc (Obj.cells (lv a) 70)) = W0 := ⟨_, rfl⟩
  have hA : Rw W0 (h + 1 + 1 + 1) 70 a := by rw [← hW0, hh]; exact Rw.at_ _ _ _ (by simp)
  have hO : Rw W0 (h + 1 + 1) 70 z25 := by rw [← hW0, hh]; exact (Rw.at_ _ _ _ (by simp)).alloc _
  have hR : Rw W0 (h + 1) 70 z25 := by rw [← hW0, hh]; exact ((Rw.at_ _ _ _ (by simp)).alloc _).alloc _
  have hW : Below w.heap.size w W0 := by rw [← hW0]; (repeat (first | exact Below.refl _ _ | refine Below.drew ?_ | refine Below.alloc ?_ (by first | omega | (simp; omega) | simp) _ | refine Below.setCell ?_ (by first | omega | (simp; omega) | simp) _))
  have hsz : W0.heap.size = h + 4 := by rw [← hW0, hh]; simp
  rw [hW0, ← hh]
  have HH := Lib.hid hh
  clear hW0 hh
  refine range_lanes (b := h + 1 + 1 + 1) HL.out rfl rfl
    (fun i W => Rw W (h + 1 + 1 + 1) 70 a ∧ Rw W (h + 1 + 1) 70 (mvP (M.turnL a) i) ∧ Rw W (h + 1) 70 z25 ∧ Below w.heap.size w W ∧ W0.heap.size ≤ W.heap.size)
    ?own ?get ⟨hA, hO, hR, hW, Nat.le_refl _⟩ (fun B i t => (((t.setIfInBounds 8 (.agg (plc i))).setIfInBounds 9 (.int .u64 ((M.gl a i : Nat) : Int))).setIfInBounds 4 (.pointer (some ⟨B, 0, none⟩))).setIfInBounds 5 (.int .u64 ((M.gl a i : Nat) : Int))) ?assign ?body ?done
  case own =>
    exact ((rw_own _ _ (fun _ => a)).from _).and (((rw_own _ _ (fun i => mvP (M.turnL a) i)).from _).and (((rw_own _ _ (fun _ => z25)).from _).and ((ownFrom_below (Nat.le_refl _) hW.size).and (fun _ _ _ _ hs hg _ => Nat.le_trans hs hg.size))))
  case get =>
    exact fun i W hi => ⟨hi.1, hi.2.2.2.2⟩
  case assign =>
    intro l i W K hi hK
    clear hA hO hR hW hsz
    simp only [List.setIfInBounds_toArray, List.set_cons_zero, List.set_cons_succ] at hK
    gi_wp2
    exact hK
  case body =>
    intro l i B W hi hI hP hB
    obtain ⟨iA, iO, iR, iW, i0⟩ := hI
    have cx := hP.x
    have cy := hP.y
    have hlP := hP.lt
    clear hA hO hR hW hsz
    have hT2 := HT.out.from iW
    have co := hT2.off i hi
    obtain ⟨cb, hcb⟩ : ∃ v, W.cell? ⟨h + 1 + 1, mvI i, none⟩ = some v := ⟨_, iO.cell (by rw [mvP_length]; unfold mvI; omega)⟩
    have fb := iO.frozen (mvI i)
    have hl := HA.out.2 i
    have ho := offs_lt ⟨i, hi⟩
    simp only at ho
    have hx : px i < 5 := Nat.mod_lt _ (by omega)
    have hy : py i < 5 := by unfold py; omega
    have hp1 : px i % 5 + 5 * (py i % 5) = i := by unfold px py; omega
    have hmv : mvI i = py i % 5 + 5 * ((2 * px i + 3 * py i) % 5) := by unfold mvI px py; omega
    have hmv2 : mvI i < 25 := by unfold mvI; omega
    have HS := Lib.hid (mvP_succ (M.turnL a) i)
    have HG : Hid (M.gl (M.turnL a) i = M.rotN (M.gl a i) (M.gl M.offs i)) := by
      show _ = _
      unfold M.turnL
      rw [M.gl_of _ hi]
    generalize px i = X at *
    generalize py i = Y at *
    generalize mvI i = p at *
    obtain ⟨X2, hX2⟩ : ∃ q, q = 2 * X := ⟨_, rfl⟩
    obtain ⟨Y3, hY3⟩ : ∃ q, q = 3 * Y := ⟨_, rfl⟩
    obtain ⟨S, hS⟩ : ∃ q, q = X2 + Y3 := ⟨_, rfl⟩
    have w1 : IntKind.i64.wrap (2 * (X : Int)) = (X2 : Int) := by rw [IntWalk.i64_in _ (by omega)]; omega
    have w2 : IntKind.i64.wrap (3 * (Y : Int)) = (Y3 : Int) := by rw [IntWalk.i64_in _ (by omega)]; omega
    have w3 : IntKind.i64.wrap ((X2 : Int) + (Y3 : Int)) = (S : Int) := by rw [IntWalk.i64_in _ (by omega)]; omega
    have a1 := fun W => at_any Y S p W (by omega) (by omega) (by rw [hmv, hS, hX2, hY3])
    have a2 := fun W => at_any X Y i W (by omega) (by omega) hp1
    have a3 := fun W => rotl (M.gl a i) (M.gl M.offs i) W hl ho
    have hpi : (p : Int) < 25 := by omega
    have hii : (i : Int) < 25 := by omega
    have L := Lib.hid hl
    clear hl ho hx hy hp1 hmv hX2 hY3 hS
    simp only [List.setIfInBounds_toArray, List.set_cons_zero, List.set_cons_succ]
    gi_wp2
    refine round_still_tailq 20 mixed (by kernel_rfl) (by kernel_rfl) ?_
    simp only [List.take_succ_cons, List.take_zero, List.drop_succ_cons, List.drop_zero]
    repeat still_step
    still_call ((a1 _).mono (fun _ _ h => ⟨h.1, h.2.symm⟩))
    repeat still_step
    still_call ((a2 _).mono (fun _ _ h => ⟨h.1, h.2.symm⟩))
    repeat still_step
    still_call ((a3 _).mono (fun _ _ h => ⟨h.1, h.2.symm⟩))
    repeat still_step
    refine wpStill_nil ?_
    change wpList _ _ _ _ _ W.drew
    go_wp2_with fail
    refine ⟨rfl, (KeepsOthers.setCell _ _ _).trans (KeepsOthers.drew _), (iA.far (by simp) _).drew, ?_, (iR.far (by simp) _).drew, (iW.setCell (by have := HH.out; simp; omega) _).drew, ?_⟩
    · rw [HS.out, HG.out]; exact (iO.set_ _ _).drew
    · simpa using i0
  case done =>
    intro D W hD hI hK
    obtain ⟨iA, iO, iR, iW, i0⟩ := hI
    clear hA hO hR hW
    rw [mvP_all] at iO
    have hDR : D ≠ h + 1 := by omega
    gi_wp2_with (first | (refine wpListIn_load_st rfl _ _ rfl _ rfl _ _ 25 27 iO Tryz.array25 Tryz.size25 (M.of_length _) ?_) | (refine wpListIn_store_st rfl _ _ _ rfl _ _ rfl rfl _ _ 25 iR Tryz.size25 (M.of_length _) z25_length ?_))
    have hK2 : (W.setRow (h + 1) (lv (M.moveL (M.turnL a)))).heap[D]? = some (.deferred (some [])) := (setRow_other W _ D _ hDR).trans hK
    have hh := HH.out
    refine ⟨by simp, .inl ⟨_, _, rfl, run_takeDeferred hK2, ?_⟩⟩
    exact ⟨st (M.moveL (M.turnL a)), res_row rfl _ _ _ _ _ rfl ((iR.row _).put (by omega) _) (M.of_length _), rfl, (below_setRow iW (by omega) _).trans (belowK_b (w := w) (Nat.le_refl _) _ D _ _ (by omega) hK2 rfl rfl)⟩
end Go.Proofs.YtgloapcfmlijlaaGreatDoor
namespace Go.Proofs.YtgloapcfmlijlaaGreatDoor
open Go Go.RowKit

def chiF (b : List Nat) (k : Nat) : Nat := M.gl b k ^^^ ((M.gl b (k - k % 5 + (k % 5 + 1) % 5) ^^^ 18446744073709551615) &&& M.gl b (k - k % 5 + (k % 5 + 2) % 5))
theorem chi_all (b a : List Nat) : upto (chiF b) a 25 = M.chiL b := upto_all _ _
/-- The state behind i rounds. -/
def permP (a : List Nat) (i : Nat) : List Nat := (M.rcs.take i).foldl (fun a n => M.rndL n a) a
theorem rcs_length : M.rcs.length = 24 := rfl
theorem permP_succ (a : List Nat) {i : Nat} (hi : i < 24) : permP a (i + 1) = M.rndL (M.gl M.rcs i) (permP a i) := by
  unfold permP
  rw [List.take_succ_eq_append_getElem (by rw [rcs_length]; exact hi), List.foldl_append]
  have : M.rcs[i]'(by rw [rcs_length]; exact hi) = M.gl M.rcs i := by unfold M.gl; rw [List.getD_eq_getElem?_getD, List.getElem?_eq_getElem (by rw [rcs_length]; exact hi), Option.getD_some]
  rw [this]
  rfl
theorem permP_all (a : List Nat) : permP a 24 = M.permL a := rfl
theorem rc_lt (i : Nat) : M.gl M.rcs i < 18446744073709551616 := by
  rcases Nat.lt_or_ge i 24 with h | h
  · have : M.gl M.rcs i = M.rcs[i]'(by rw [rcs_length]; exact h) := by unfold M.gl; rw [List.getD_eq_getElem?_getD, List.getElem?_eq_getElem (by rw [rcs_length]; exact h), Option.getD_some]
    rw [this]
    exact M.rcs_lt _ (List.getElem_mem _)
  · have : M.gl M.rcs i = 0 := by unfold M.gl; rw [List.getD_eq_getElem?_getD, List.getElem?_eq_none (by rw [rcs_length]; exact h)]; rfl
    rw [this]; omega
theorem permP_lanes {a : List Nat} (ha : M.Lanes a) : ∀ i, i ≤ 24 → M.Lanes (permP a i)
  | 0, _ => ha
  | i + 1, h => by rw [permP_succ a (by omega)]; exact M.rnd_lanes _ (rc_lt i)
theorem iota_set {b : List Nat} (hb : b.length = 25) (n : Nat) : b.set 0 (M.gl b 0 ^^^ n) = M.iotaL n b := by
  refine M.lanes_ext (by rw [List.length_set]; exact hb) (M.of_length _) fun i hi => ?_
  rw [gl_set i (by omega)]
  unfold M.iotaL
  rw [M.gl_of _ hi]

end Go.Proofs.YtgloapcfmlijlaaGreatDoor
