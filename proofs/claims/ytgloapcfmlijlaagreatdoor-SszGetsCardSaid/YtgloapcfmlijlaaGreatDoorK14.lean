/- The landed package ssz: bytesOf, by kinds. The landed package ssz: put, Put. The landed package ssz: an offset read, a number read. The landed package ssz: yesOrNo, bits read. The landed package ssz: bits of bytes. The landed package ssz: bits alone. The landed package ssz: bits up to the one that ends them. -/
import Derived.Test.YtgloapcfmlijlaaGreatDoorK13
import Derived.Test.YtgloapcfmlijlaaGreatDoorK06
import Derived.Great.BuildSlice
import Derived.Test.YtgloapcfmlijlaaGreatDoorK10
import Derived.Test.YtgloapcfmlijlaaGreatDoorK05
import Derived.Laws.BytesArg
import Derived.Test.YtgloapcfmlijlaaGreatDoorK11
import Derived.Test.YtgloapcfmlijlaaGreatDoorK09
import Derived.Lib.BufferWrite
namespace Go.Proofs.YtgloapcfmlijlaaGreatDoor
open Go Go.RowKit Go.Lib
attribute [local go_sem] Oper.semAt_some

/-- What bytesOf must do. -/
def BytP (w : World) (l : List UInt8) (e : Ending) (w' : World) : Prop := ((∃ u, e = .returned u ∧ SrB w.heap.size l u w') ∨ (e = pan 5 ∧ 65536 < l.length)) ∧ Below w.heap.size w w'
theorem BytP.of {w w0 w' : World} {l : List UInt8} {e : Ending} (hb : Below w.heap.size w w0) (h : BytP w0 l e w') : BytP w l e w' := by
  obtain ⟨h1, h2⟩ := h
  refine ⟨?_, hb.trans (h2.mono hb.size)⟩
  rcases h1 with ⟨u, rfl, h⟩ | h
  · exact .inl ⟨u, rfl, h.mono hb.size⟩
  · exact .inr h
theorem two_boxesV (w : World) (k n : Int) (a : Value) (N : Nat) (x y : Value) (p : Int) :
    Below w.heap.size w ((w.alloc (.cells #[.int .i64 k, .int .i64 n, a] 24)).alloc (.cells #[.int .u64 (M.pt 0 N), .int .u64 (M.pt 1 N), .int .u64 (M.pt 2 N), .int .u64 (M.pt 3 N), x, y, .int .i64 p] 33)) :=
  ((Below.refl _ _).alloc (Nat.le_refl _) _).alloc (by simp) _
theorem fill_one {x z : Value} {n : Nat} (hn : n = 1) (hz : z.cells = #[z]) (hx : x.cells = #[x]) : Instr.fill (fun i => some (i * n, n)) ((Array.range (1 * n)).map (z.cells[· % z.cells.size]!)) [(0, x)] = some #[x] := by
  subst hn
  rw [show Array.range (1 * 1) = #[0] from rfl]
  simp [Instr.fill, hx, hz]
/-- A slice literal of one value. -/
theorem wp_build_one {P : Program} {o : Oper} {a : Act} {w : World} {K : Act → World → Prop} {Q : Exit → Act → World → Prop} (t e : TypeId) (x : Operand) (v z : Value) (i0 : TypeInfo) (ho : o.op = .buildSlice t 1 #[(0, x)]) (hx : a.eval x = v) (hv : v.cells = #[v])
    (hu : P.underlying t = some (.slice e)) (hi : P.info? e = some i0) (hz0 : i0.zero = some z) (hz1 : i0.size = 1) (hzc : z.cells = #[z])
    (h : K (a.put o.dst (.slice (some ⟨w.heap.size, 0, none⟩) 1 1)) (w.alloc (.cells #[v] e))) : o.wp P a w K Q := by
  refine wp_buildSlice t e 1 _ ho #[v] i0 z hu hi hz0 (by rw [hz1]; decide) (by rw [hz1]; decide) ?_ h
  have := fill_one (z := z) hz1 hzc hv
  simpa [hx] using this
theorem own_new (w : World) (B : Nat) (c : UInt8) (hB : B ≤ w.heap.size) : Ow B [c] (.slice (some ⟨w.heap.size, 0, none⟩) 1 1) (w.alloc (.cells #[.int .u8 (c.toNat : Int)] 5)) :=
  ⟨by simp [bc], .inr ⟨w.heap.size, 1, _, rfl, hB, World.alloc_heap_new _ _, by simp, by decide, by rfl, by rfl⟩⟩
theorem Tryz.ofBool : (Tryz.prog.info? 4).map (fun i => (i.zero, i.size, i.bytes)) = some (some (.bool false), 1, 1) := by kernel_rfl
set_option maxRecDepth 100000 in
set_option maxHeartbeats 4000000 in
theorem byt_1 (n : Int) (ts : List M.Ty) (a : Option Addr) (cap : Nat) (N : Nat) (bs : List Bool) (us : List M.Va) (p : Int) (ab : Option Addr) (cb : Nat) (au : Option Addr) (cu : Nat) (w : World) (hL : LayT w w.heap.size ts (.slice a ts.length cap)) (hV : Vl w w.heap.size N bs us ab cb au cu)
    (hc : ∃ d, M.chkT d (.mk 1 n ts) = 0) (hf : M.fitV (.mk 1 n ts) (.mk N bs us p) = 0) (h1 : M.cntT (.mk 1 n ts) ≤ 1000) (_h2 : M.cntV (.mk N bs us p) ≤ 6000) :
    Calls Tryz.prog 143 #[tv 1 n (.slice a ts.length cap), vv N (.slice ab bs.length cb) (.slice au us.length cu) p] w (BytP w (M.putV (.mk 1 n ts) (.mk N bs us p))) := by
  obtain ⟨d, hc⟩ := hc
  obtain ⟨m, rfl, hm⟩ : ∃ m : Nat, n = (m : Int) ∧ m ≤ 32 := by
    have h2 := (M.chkT_ok.1 hc).2.1
    unfold M.formT at h2
    simp at h2
    exact ⟨n.toNat, by omega, by omega⟩
  obtain ⟨w0, hw0⟩ : ∃ w0, (w.alloc (.cells #[.int .i64 1, .int .i64 (m : Int), .slice a ts.length cap] 24)).alloc (.cells #[.int .u64 (M.pt 0 N), .int .u64 (M.pt 1 N), .int .u64 (M.pt 2 N), .int .u64 (M.pt 3 N), .slice ab bs.length cb, .slice au us.length cu, .int .i64 p] 33) = w0 := ⟨_, rfl⟩
  have hb0 : Below w.heap.size w w0 := by rw [← hw0]; exact two_boxesV _ _ _ _ _ _ _ _
  have hz0 : w0.heap.size = w.heap.size + 2 := by rw [← hw0]; simp
  have hB0 : BoxT w0 w.heap.size 1 m (.slice a ts.length cap) := by rw [← hw0]; exact ⟨by simp [go_sem], by simp [go_sem], by simp [go_sem]⟩
  have hA0 : Cells7 w0 (w.heap.size + 1) 0 N (.slice ab bs.length cb) (.slice au us.length cu) p := by
    rw [← hw0]
    have := Cells7.new (w.alloc (.cells #[.int .i64 1, .int .i64 (m : Int), .slice a ts.length cap] 24)) N (.slice ab bs.length cb) (.slice au us.length cu) p 33
    rwa [World.size_alloc] at this
  have HW := Lib.hid hw0
  have HV0 := Lib.hid ((hV.from_ hb0).mono hb0.size)
  have HT0 := Lib.hid ((hL.from_ hb0).mono hb0.size)
  have HL := Lib.hid (lowest_any N m hV.hN hm w0)
  have HE : M.putV (.mk 1 (m : Int) ts) (.mk N bs us p) = M.le m N := by rw [M.putV]; simp [M.Ty.k, M.Ty.n]
  rw [HE]
  have t0 := hB0.c0
  have t1 := hB0.c1
  have t2 := hB0.c2
  have a0 := hA0.c0
  have a1 := hA0.c1
  have a2 := hA0.c2
  have a3 := hA0.c3
  have a4 := hA0.c4
  have a5 := hA0.c5
  have a6 := hA0.c6
  simp only [Nat.zero_add] at a1 a2 a3 a4 a5 a6
  rw [← HW.out] at t0 t1 t2 a0 a1 a2 a3 a4 a5 a6
  clear hw0 hf hc HE
  go_enter Tryz.func143, Tryz.ntmps143
  go_wp2_with fail
  rw [HW.out]
  refine HL.out.mono ?_
  rintro e w1 ⟨⟨u, rfl, hU⟩, hb1⟩
  go_wp2_with fail
  go_ret
  exact ⟨.inl ⟨u, rfl, hU.mono hb0.size⟩, hb0.trans (Below.mono hb1 hb0.size)⟩
set_option maxRecDepth 100000 in
set_option maxHeartbeats 4000000 in
theorem byt_2 (n : Int) (ts : List M.Ty) (a : Option Addr) (cap : Nat) (N : Nat) (bs : List Bool) (us : List M.Va) (p : Int) (ab : Option Addr) (cb : Nat) (au : Option Addr) (cu : Nat) (w : World) (hL : LayT w w.heap.size ts (.slice a ts.length cap)) (hV : Vl w w.heap.size N bs us ab cb au cu)
    (hc : ∃ d, M.chkT d (.mk 2 n ts) = 0) (_hf : M.fitV (.mk 2 n ts) (.mk N bs us p) = 0) (_h1 : M.cntT (.mk 2 n ts) ≤ 1000) (_h2 : M.cntV (.mk N bs us p) ≤ 6000) :
    Calls Tryz.prog 143 #[tv 2 n (.slice a ts.length cap), vv N (.slice ab bs.length cb) (.slice au us.length cu) p] w (BytP w (M.putV (.mk 2 n ts) (.mk N bs us p))) := by
  obtain ⟨w0, hw0⟩ : ∃ w0, (w.alloc (.cells #[.int .i64 2, .int .i64 n, .slice a ts.length cap] 24)).alloc (.cells #[.int .u64 (M.pt 0 N), .int .u64 (M.pt 1 N), .int .u64 (M.pt 2 N), .int .u64 (M.pt 3 N), .slice ab bs.length cb, .slice au us.length cu, .int .i64 p] 33) = w0 := ⟨_, rfl⟩
  have hb0 : Below w.heap.size w w0 := by rw [← hw0]; exact two_boxesV _ _ _ _ _ _ _ _
  have hz0 : w0.heap.size = w.heap.size + 2 := by rw [← hw0]; simp
  have hB0 : BoxT w0 w.heap.size 2 n (.slice a ts.length cap) := by rw [← hw0]; exact ⟨by simp [go_sem], by simp [go_sem], by simp [go_sem]⟩
  have hA0 : Cells7 w0 (w.heap.size + 1) 0 N (.slice ab bs.length cb) (.slice au us.length cu) p := by
    rw [← hw0]
    have := Cells7.new (w.alloc (.cells #[.int .i64 2, .int .i64 n, .slice a ts.length cap] 24)) N (.slice ab bs.length cb) (.slice au us.length cu) p 33
    rwa [World.size_alloc] at this
  have HW := Lib.hid hw0
  have HV0 := Lib.hid ((hV.from_ hb0).mono hb0.size)
  have HT0 := Lib.hid ((hL.from_ hb0).mono hb0.size)
  have HL := Lib.hid (lowest_any N 1 hV.hN (by omega) w0)
  have HE : M.putV (.mk 2 n ts) (.mk N bs us p) = M.le 1 N := by rw [M.putV]; simp [M.Ty.k]
  rw [HE]
  have t0 := hB0.c0
  have t1 := hB0.c1
  have t2 := hB0.c2
  have a0 := hA0.c0
  have a1 := hA0.c1
  have a2 := hA0.c2
  have a3 := hA0.c3
  have a4 := hA0.c4
  have a5 := hA0.c5
  have a6 := hA0.c6
  simp only [Nat.zero_add] at a1 a2 a3 a4 a5 a6
  rw [← HW.out] at t0 t1 t2 a0 a1 a2 a3 a4 a5 a6
  clear hw0 _hf hc HE
  go_enter Tryz.func143, Tryz.ntmps143
  go_wp2_with fail
  rw [HW.out]
  refine HL.out.mono ?_
  rintro e w1 ⟨⟨u, rfl, hU⟩, hb1⟩
  go_wp2_with fail
  go_ret
  exact ⟨.inl ⟨u, rfl, hU.mono hb0.size⟩, hb0.trans (Below.mono hb1 hb0.size)⟩
set_option maxRecDepth 100000 in
set_option maxHeartbeats 4000000 in
theorem byt_5 (n : Int) (ts : List M.Ty) (a : Option Addr) (cap : Nat) (N : Nat) (bs : List Bool) (us : List M.Va) (p : Int) (ab : Option Addr) (cb : Nat) (au : Option Addr) (cu : Nat) (w : World) (hL : LayT w w.heap.size ts (.slice a ts.length cap)) (hV : Vl w w.heap.size N bs us ab cb au cu)
    (hc : ∃ d, M.chkT d (.mk 5 n ts) = 0) (hf : M.fitV (.mk 5 n ts) (.mk N bs us p) = 0) (_h1 : M.cntT (.mk 5 n ts) ≤ 1000) (_h2 : M.cntV (.mk N bs us p) ≤ 6000) :
    Calls Tryz.prog 143 #[tv 5 n (.slice a ts.length cap), vv N (.slice ab bs.length cb) (.slice au us.length cu) p] w (BytP w (M.putV (.mk 5 n ts) (.mk N bs us p))) := by
  obtain ⟨d, hc⟩ := hc
  have hbl : bs.length ≤ 512 := by
    have h2 := (M.chkT_ok.1 hc).2.1
    have h3 := (M.fit_parts0 hf).2.1
    rw [M.ofV_5] at h3
    unfold M.formT at h2
    simp at h2 h3
    omega
  obtain ⟨w0, hw0⟩ : ∃ w0, (w.alloc (.cells #[.int .i64 5, .int .i64 n, .slice a ts.length cap] 24)).alloc (.cells #[.int .u64 (M.pt 0 N), .int .u64 (M.pt 1 N), .int .u64 (M.pt 2 N), .int .u64 (M.pt 3 N), .slice ab bs.length cb, .slice au us.length cu, .int .i64 p] 33) = w0 := ⟨_, rfl⟩
  have hb0 : Below w.heap.size w w0 := by rw [← hw0]; exact two_boxesV _ _ _ _ _ _ _ _
  have hz0 : w0.heap.size = w.heap.size + 2 := by rw [← hw0]; simp
  have hB0 : BoxT w0 w.heap.size 5 n (.slice a ts.length cap) := by rw [← hw0]; exact ⟨by simp [go_sem], by simp [go_sem], by simp [go_sem]⟩
  have hA0 : Cells7 w0 (w.heap.size + 1) 0 N (.slice ab bs.length cb) (.slice au us.length cu) p := by
    rw [← hw0]
    have := Cells7.new (w.alloc (.cells #[.int .i64 5, .int .i64 n, .slice a ts.length cap] 24)) N (.slice ab bs.length cb) (.slice au us.length cu) p 33
    rwa [World.size_alloc] at this
  have HW := Lib.hid hw0
  have HV0 := Lib.hid ((hV.from_ hb0).mono hb0.size)
  have HT0 := Lib.hid ((hL.from_ hb0).mono hb0.size)
  have HL := Lib.hid (putBits_any bs [] ab none cb 0 w0 HV0.out.b (.nil_ (by decide)) (by omega) (by decide))
  have HE : M.putV (.mk 5 n ts) (.mk N bs us p) = M.packB (bs ++ []) := by rw [M.putV, List.append_nil]; simp [M.Ty.k]
  rw [HE]
  have t0 := hB0.c0
  have t1 := hB0.c1
  have t2 := hB0.c2
  have a0 := hA0.c0
  have a1 := hA0.c1
  have a2 := hA0.c2
  have a3 := hA0.c3
  have a4 := hA0.c4
  have a5 := hA0.c5
  have a6 := hA0.c6
  simp only [Nat.zero_add] at a1 a2 a3 a4 a5 a6
  rw [← HW.out] at t0 t1 t2 a0 a1 a2 a3 a4 a5 a6
  clear hw0 hf hc HE
  go_enter Tryz.func143, Tryz.ntmps143
  go_wp2_with fail
  rw [HW.out]
  refine HL.out.mono ?_
  rintro e w1 ⟨⟨u, rfl, hU⟩, hb1⟩
  go_wp2_with fail
  go_ret
  exact ⟨.inl ⟨u, rfl, hU.mono hb0.size⟩, hb0.trans (Below.mono hb1 hb0.size)⟩
set_option maxRecDepth 100000 in
set_option maxHeartbeats 4000000 in
theorem byt_6 (n : Int) (ts : List M.Ty) (a : Option Addr) (cap : Nat) (N : Nat) (bs : List Bool) (us : List M.Va) (p : Int) (ab : Option Addr) (cb : Nat) (au : Option Addr) (cu : Nat) (w : World) (hL : LayT w w.heap.size ts (.slice a ts.length cap)) (hV : Vl w w.heap.size N bs us ab cb au cu)
    (hc : ∃ d, M.chkT d (.mk 6 n ts) = 0) (hf : M.fitV (.mk 6 n ts) (.mk N bs us p) = 0) (_h1 : M.cntT (.mk 6 n ts) ≤ 1000) (_h2 : M.cntV (.mk N bs us p) ≤ 6000) :
    Calls Tryz.prog 143 #[tv 6 n (.slice a ts.length cap), vv N (.slice ab bs.length cb) (.slice au us.length cu) p] w (BytP w (M.putV (.mk 6 n ts) (.mk N bs us p))) := by
  obtain ⟨d, hc⟩ := hc
  have hbl : bs.length ≤ 512 := by
    have h2 := (M.chkT_ok.1 hc).2.1
    have h3 := (M.fit_parts0 hf).1
    unfold M.formT at h2
    simp at h2 h3
    omega
  obtain ⟨w0, hw0⟩ : ∃ w0, (w.alloc (.cells #[.int .i64 6, .int .i64 n, .slice a ts.length cap] 24)).alloc (.cells #[.int .u64 (M.pt 0 N), .int .u64 (M.pt 1 N), .int .u64 (M.pt 2 N), .int .u64 (M.pt 3 N), .slice ab bs.length cb, .slice au us.length cu, .int .i64 p] 33) = w0 := ⟨_, rfl⟩
  have hb0 : Below w.heap.size w w0 := by rw [← hw0]; exact two_boxesV _ _ _ _ _ _ _ _
  have hz0 : w0.heap.size = w.heap.size + 2 := by rw [← hw0]; simp
  have hB0 : BoxT w0 w.heap.size 6 n (.slice a ts.length cap) := by rw [← hw0]; exact ⟨by simp [go_sem], by simp [go_sem], by simp [go_sem]⟩
  have hA0 : Cells7 w0 (w.heap.size + 1) 0 N (.slice ab bs.length cb) (.slice au us.length cu) p := by
    rw [← hw0]
    have := Cells7.new (w.alloc (.cells #[.int .i64 6, .int .i64 n, .slice a ts.length cap] 24)) N (.slice ab bs.length cb) (.slice au us.length cu) p 33
    rwa [World.size_alloc] at this
  have HW := Lib.hid hw0
  have HV0 := Lib.hid ((hV.from_ hb0).mono hb0.size)
  have HT0 := Lib.hid ((hL.from_ hb0).mono hb0.size)
  have hn0 : (w0.alloc (.cells #[.bool true] 4)).cell? ⟨w0.heap.size, 0, none⟩ = some (.bool true) := by simp [go_sem]
  have hbn : Below w0.heap.size w0 (w0.alloc (.cells #[.bool true] 4)) := (Below.refl _ _).alloc (Nat.le_refl _) _
  have hT1 : LayB (w0.alloc (.cells #[.bool true] 4)) (w0.alloc (.cells #[.bool true] 4)).heap.size [true] (.slice (some ⟨w0.heap.size, 0, none⟩) 1 1) := .row (by simp) (by decide) (by decide) (fun i x e => by
    cases i with
    | zero => cases e; exact hn0
    | succ i => simp at e)
  have HL := Lib.hid (putBits_any bs [true] ab (some ⟨w0.heap.size, 0, none⟩) cb 1 (w0.alloc (.cells #[.bool true] 4)) ((HV0.out.b.from_ hbn).mono hbn.size) hT1 (by omega) (by decide))
  have HE : M.putV (.mk 6 n ts) (.mk N bs us p) = M.packB (bs ++ [true]) := by rw [M.putV]; simp [M.Ty.k, M.listB]
  rw [HE]
  have hbB := hb0.trans (Below.mono hbn hb0.size)
  have hz2 : w.heap.size + 1 + 1 = w0.heap.size := by omega
  have t0 := hB0.c0
  have t1 := hB0.c1
  have t2 := hB0.c2
  have a0 := hA0.c0
  have a1 := hA0.c1
  have a2 := hA0.c2
  have a3 := hA0.c3
  have a4 := hA0.c4
  have a5 := hA0.c5
  have a6 := hA0.c6
  simp only [Nat.zero_add] at a1 a2 a3 a4 a5 a6
  rw [← HW.out] at t0 t1 t2 a0 a1 a2 a3 a4 a5 a6
  have HZ2 := Lib.hid hz2
  clear hw0 hf hc HE hn0 hT1 hz0 hz2
  obtain ⟨i0, hi, hz0', hz1, hz2'⟩ := info_parts Tryz.ofBool
  go_enter Tryz.func143, Tryz.ntmps143
  go_wp2_with fail
  rw [HW.out]
  rw [HZ2.out]
  refine HL.out.mono ?_
  rintro e w1 ⟨⟨u, rfl, hU⟩, hb1⟩
  go_wp2_with fail
  go_ret
  exact ⟨.inl ⟨u, rfl, hU.mono hbB.size⟩, hbB.trans (Below.mono hb1 hbB.size)⟩
set_option maxRecDepth 100000 in
set_option maxHeartbeats 4000000 in
theorem byt_row (z : Nat) (ih : Hid (PutC z)) (k : Int) (hk : k = 3 ∨ k = 4 ∨ k = 7) (n : Int) (ts : List M.Ty) (a : Option Addr) (cap : Nat) (N : Nat) (bs : List Bool) (us : List M.Va) (p : Int) (ab : Option Addr) (cb : Nat) (au : Option Addr) (cu : Nat) (w : World) (hs : SizeOf.sizeOf us ≤ z + 1) (hL : LayT w w.heap.size ts (.slice a ts.length cap)) (hV : Vl w w.heap.size N bs us ab cb au cu)
    (hc : ∃ d, M.chkT d (.mk k n ts) = 0) (hf : M.fitV (.mk k n ts) (.mk N bs us p) = 0) (h1 : M.cntT (.mk k n ts) ≤ 1000) (h2 : M.cntV (.mk N bs us p) ≤ 6000) :
    Calls Tryz.prog 143 #[tv k n (.slice a ts.length cap), vv N (.slice ab bs.length cb) (.slice au us.length cu) p] w (BytP w (M.putV (.mk k n ts) (.mk N bs us p))) := by
  obtain ⟨d, hc⟩ := hc
  have hR := rowP hk hc hf hV.v.inVs h2
  have ht : us.length ≠ 0 → 1 ≤ ts.length := fun hn => by
    have := (M.in_row hk hc hf 0 (by omega)).2
    exact List.length_pos_of_mem this
  have hct : M.cntTs ts ≤ 999 := by rw [M.cntT] at h1; omega
  have hcv : M.cntVs us ≤ 5999 := by rw [M.cntV] at h2; omega
  obtain ⟨w0, hw0⟩ : ∃ w0, (w.alloc (.cells #[.int .i64 k, .int .i64 n, .slice a ts.length cap] 24)).alloc (.cells #[.int .u64 (M.pt 0 N), .int .u64 (M.pt 1 N), .int .u64 (M.pt 2 N), .int .u64 (M.pt 3 N), .slice ab bs.length cb, .slice au us.length cu, .int .i64 p] 33) = w0 := ⟨_, rfl⟩
  have hb0 : Below w.heap.size w w0 := by rw [← hw0]; exact two_boxesV _ _ _ _ _ _ _ _
  have hz0 : w0.heap.size = w.heap.size + 2 := by rw [← hw0]; simp
  have hB0 : BoxT w0 w.heap.size k n (.slice a ts.length cap) := by rw [← hw0]; exact ⟨by simp [go_sem], by simp [go_sem], by simp [go_sem]⟩
  have hA0 : Cells7 w0 (w.heap.size + 1) 0 N (.slice ab bs.length cb) (.slice au us.length cu) p := by
    rw [← hw0]
    have := Cells7.new (w.alloc (.cells #[.int .i64 k, .int .i64 n, .slice a ts.length cap] 24)) N (.slice ab bs.length cb) (.slice au us.length cu) p 33
    rwa [World.size_alloc] at this
  have HW := Lib.hid hw0
  have HV0 := Lib.hid ((hV.from_ hb0).mono hb0.size)
  have HT0 := Lib.hid ((hL.from_ hb0).mono hb0.size)
  have HL := Lib.hid (putRow_n z ih k n ts a cap us au cu p w0 HT0.out HV0.out.v hct hcv ht hs (Lib.hid hR.hin) (Lib.hid hR.hchk) (Lib.hid hR.hfit) hR.hwd _ _ (Lib.hid hR.hdE) (Lib.hid hR.hLE) (Lib.hid hR.hLm) (Lib.hid hR.hLp) (Lib.hid hR.hLh) hR.hL3)
  have n1 : (k == 1) = false := by rcases hk with rfl | rfl | rfl <;> decide
  have n2 : (k == 2) = false := by rcases hk with rfl | rfl | rfl <;> decide
  have n5 : (k == 5) = false := by rcases hk with rfl | rfl | rfl <;> decide
  have n6 : (k == 6) = false := by rcases hk with rfl | rfl | rfl <;> decide
  have n8 : (k == 8) = false := by rcases hk with rfl | rfl | rfl <;> decide
  have m1 : k ≠ 1 := by rcases hk with rfl | rfl | rfl <;> decide
  have m2 : k ≠ 2 := by rcases hk with rfl | rfl | rfl <;> decide
  have m5 : k ≠ 5 := by rcases hk with rfl | rfl | rfl <;> decide
  have m6 : k ≠ 6 := by rcases hk with rfl | rfl | rfl <;> decide
  have m8 : k ≠ 8 := by rcases hk with rfl | rfl | rfl <;> decide
  have t0 := hB0.c0
  have t1 := hB0.c1
  have t2 := hB0.c2
  have a0 := hA0.c0
  have a1 := hA0.c1
  have a2 := hA0.c2
  have a3 := hA0.c3
  have a4 := hA0.c4
  have a5 := hA0.c5
  have a6 := hA0.c6
  simp only [Nat.zero_add] at a1 a2 a3 a4 a5 a6
  rw [← HW.out] at t0 t1 t2 a0 a1 a2 a3 a4 a5 a6
  have HK := Lib.hid hk
  clear hk hw0 hf hc hR ih ht hs h1 h2 hct hcv
  go_enter Tryz.func143, Tryz.ntmps143
  go_wp2_with fail
  rw [HW.out]
  refine HL.out.mono ?_
  rintro e w1 ⟨hE, hb1⟩
  rcases hE with ⟨u, rfl, hU⟩ | ⟨rfl, hlt⟩
  · go_wp2_with fail
    go_ret
    exact ⟨.inl ⟨u, rfl, hU.mono hb0.size⟩, hb0.trans (Below.mono hb1 hb0.size)⟩
  · try go_wp2_with fail
    exact ⟨rfl, .inr ⟨rfl, hlt⟩, hb0.trans (Below.mono hb1 hb0.size)⟩
set_option maxRecDepth 100000 in
set_option maxHeartbeats 4000000 in
theorem byt_8 (z : Nat) (ih : Hid (PutC z)) (n : Int) (ts : List M.Ty) (a : Option Addr) (cap : Nat) (N : Nat) (bs : List Bool) (us : List M.Va) (p : Int) (ab : Option Addr) (cb : Nat) (au : Option Addr) (cu : Nat) (w : World) (hs : SizeOf.sizeOf us ≤ z + 1) (hL : LayT w w.heap.size ts (.slice a ts.length cap)) (hV : Vl w w.heap.size N bs us ab cb au cu)
    (hc : ∃ d, M.chkT d (.mk 8 n ts) = 0) (hf : M.fitV (.mk 8 n ts) (.mk N bs us p) = 0) (h1 : M.cntT (.mk 8 n ts) ≤ 1000) (h2 : M.cntV (.mk N bs us p) ≤ 6000) :
    Calls Tryz.prog 143 #[tv 8 n (.slice a ts.length cap), vv N (.slice ab bs.length cb) (.slice au us.length cu) p] w (BytP w (M.putV (.mk 8 n ts) (.mk N bs us p))) := by
  obtain ⟨d, hc⟩ := hc
  have hfp := M.fit_parts0 hf
  have ho := hfp.2.1
  rw [M.ofV_8] at ho
  simp only [Bool.and_eq_true, beq_iff_eq, decide_eq_true_eq] at ho
  obtain ⟨⟨⟨⟨rfl, hbl⟩, hul⟩, hp0⟩, hp1⟩ := ho
  obtain ⟨pk, rfl⟩ : ∃ pk : Nat, p = (pk : Int) := ⟨p.toNat, by omega⟩
  have hpk : pk < ts.length := by omega
  have htl : ts.length ≤ 8 := by
    have h3 := (M.chkT_ok.1 hc).2.1
    unfold M.formT at h3
    simp at h3
    omega
  obtain ⟨x, rfl⟩ : ∃ x, us = [x] := by
    cases us with
    | nil => simp at hul
    | cons x us => cases us with
      | nil => exact ⟨x, rfl⟩
      | cons y us => simp at hul
  obtain ⟨w0, hw0⟩ : ∃ w0, (w.alloc (.cells #[.int .i64 8, .int .i64 n, .slice a ts.length cap] 24)).alloc (.cells #[.int .u64 (M.pt 0 0), .int .u64 (M.pt 1 0), .int .u64 (M.pt 2 0), .int .u64 (M.pt 3 0), .slice ab bs.length cb, .slice au 1 cu, .int .i64 (pk : Int)] 33) = w0 := ⟨_, rfl⟩
  have hb0 : Below w.heap.size w w0 := by rw [← hw0]; exact two_boxesV _ _ _ _ _ _ _ _
  have hz0 : w0.heap.size = w.heap.size + 2 := by rw [← hw0]; simp
  have hB0 : BoxT w0 w.heap.size 8 n (.slice a ts.length cap) := by rw [← hw0]; exact ⟨by simp [go_sem], by simp [go_sem], by simp [go_sem]⟩
  have hA0 : Cells7 w0 (w.heap.size + 1) 0 0 (.slice ab bs.length cb) (.slice au 1 cu) (pk : Int) := by
    rw [← hw0]
    have := Cells7.new (w.alloc (.cells #[.int .i64 8, .int .i64 n, .slice a ts.length cap] 24)) 0 (.slice ab bs.length cb) (.slice au 1 cu) (pk : Int) 33
    rwa [World.size_alloc] at this
  have HW := Lib.hid hw0
  have HV0 := Lib.hid ((hV.from_ hb0).mono hb0.size)
  have HT0 := Lib.hid ((hL.from_ hb0).mono hb0.size)
  obtain ⟨b, o, k', n', us', ua, uc, rfl, hbn, hts, q0, q1, q2, hLt⟩ := HT0.out.at_ hpk
  obtain ⟨b2, o2, N2, bs2, vs2, p2, ab2, cb2, av2, cv2, rfl, hbn2, hxk, h7, hVl⟩ := HV0.out.v.at_ (i := 0) (by simp)
  obtain rfl : x = .mk N2 bs2 vs2 p2 := by simpa using hxk
  have hin : M.inT 8 ts (pk : Int) 0 = .mk k' n' us' := by simp [M.inT, hts]
  have hfx : M.fitV (.mk k' n' us') (.mk N2 bs2 vs2 p2) = 0 := by
    have := M.fitVs_at 8 ts (pk : Int) _ 0 0 _ hfp.2.2 (by rfl : [M.Va.mk N2 bs2 vs2 p2][0]? = some _)
    rw [Nat.zero_add, hin] at this
    exact this
  have hcx : M.chkT (d + 1) (.mk k' n' us') = 0 := M.chkTs_ok.1 (M.chkT_ok.1 hc).2.2.2 _ (List.mem_of_getElem? hts)
  have hcT := M.cntT_part (List.mem_of_getElem? hts)
  rw [M.cntT] at h1
  rw [M.cntV, M.cntVs, M.cntVs] at h2
  have hsv : SizeOf.sizeOf vs2 ≤ z := by simp at hs; omega
  have HE : M.putV (.mk 8 n ts) (.mk 0 bs [.mk N2 bs2 vs2 p2] (pk : Int)) = [UInt8.ofNat pk] ++ M.putV (.mk k' n' us') (.mk N2 bs2 vs2 p2) := by
    rw [M.putV]
    simp [M.Ty.k, M.putVs, M.Ty.ins, hin]
  rw [HE]
  have HC : Hid (∀ X, Below w0.heap.size w0 X → Calls Tryz.prog 57 #[tv k' n' (.slice ua us'.length uc), vv N2 (.slice ab2 bs2.length cb2) (.slice av2 vs2.length cv2) p2] X (PutP X (M.putV (.mk k' n' us') (.mk N2 bs2 vs2 p2)))) := fun X h =>
    ih.out k' n' us' ua uc N2 bs2 vs2 p2 ab2 cb2 av2 cv2 X hsv ((hLt.from_ h).mono h.size) ((hVl.from_ h).mono h.size) ⟨d + 1, hcx⟩ hfx (by omega) (by omega)
  have HC7 := Lib.hid h7
  have hpl : (M.putV (.mk k' n' us') (.mk N2 bs2 vs2 p2)).length ≤ 300000 := by
    have := M.put_len _ (M.chk_small _ _ hcx) (.mk N2 bs2 vs2 p2)
    omega
  generalize M.putV (.mk k' n' us') (.mk N2 bs2 vs2 p2) = s at *
  have hpk8 : (pk : Int) < 8 := by omega
  have hw1 : w.heap.size + 1 < w0.heap.size := by omega
  have hw9 : w.heap.size < w0.heap.size := by omega
  have hwr : IntKind.u8.wrap (pk : Int) = pk := by
    simp only [IntKind.wrap, IntKind.bits, IntKind.signed]
    simp
    omega
  have mixed : Tryz.prog.follows .mixedOrders = true := by kernel_rfl
  have t0 := hB0.c0
  have t1 := hB0.c1
  have t2 := hB0.c2
  have a0 := hA0.c0
  have a1 := hA0.c1
  have a2 := hA0.c2
  have a3 := hA0.c3
  have a4 := hA0.c4
  have a5 := hA0.c5
  have a6 := hA0.c6
  simp only [Nat.zero_add] at a1 a2 a3 a4 a5 a6
  rw [← HW.out] at t0 t1 t2 a0 a1 a2 a3 a4 a5 a6
  clear hw0 hf hc HE hfp hfx hcx hcT hsv hs h1 h2 hin ih hp0 hp1 hbl hul hV hL hxk hz0
  go_enter Tryz.func143, Tryz.ntmps143
  go_wp2_with fail
  rw [HW.out]
  refine wp_region_held (S := fun Y => Below w0.heap.size w0 Y) mixed ?_
  have hS0 : (fun Y => Below w0.heap.size w0 Y) { w0 with drawn := w0.drawn + 1 } := Below.drew (Below.refl _ _)
  rw [show Array.replicate (Array.size _) false = #[false, false, false, false, false, false, false, false, false, false, false, false, false, false, false, false, false] from rfl, show Array.size (α := Oper) _ = 17 from rfl]
  refine wpAnyH_take (i := 0) (v := .pointer (some ⟨w.heap.size + 1, 6, none⟩)) rfl (by kernel_rfl) (by kernel_rfl) (by kernel_rfl) (fun _ _ _ h => h) (Or.inl ⟨by rfl, ?_⟩) hS0 ?_
  · intro Y hY
    skip
    go_simp
  simp only [Act.put, List.getElem_toArray, List.getElem_cons_zero, List.setIfInBounds_toArray, List.set_cons_zero, List.set_cons_succ]
  refine wpAnyH_take (i := 1) (v := .int .i64 (pk : Int)) rfl (by kernel_rfl) (by kernel_rfl) (by kernel_rfl) (fun _ _ _ h => h) (Or.inl ⟨by rfl, ?_⟩) hS0 ?_
  · intro Y hY
    have e6 := (hY.cell (p := ⟨w.heap.size + 1, 6, none⟩) hw1).trans hA0.c6
    go_simp
  simp only [Act.put, List.getElem_toArray, List.getElem_cons_succ, List.getElem_cons_zero, List.setIfInBounds_toArray, List.set_cons_zero, List.set_cons_succ]
  refine wpAnyH_take (i := 2) (v := .int .u8 (pk : Int)) rfl (by kernel_rfl) (by kernel_rfl) (by kernel_rfl) (fun _ _ _ h => h) (Or.inl ⟨by rfl, ?_⟩) hS0 ?_
  · intro Y hY
    skip
    go_simp
  simp only [Act.put, List.getElem_toArray, List.getElem_cons_succ, List.getElem_cons_zero, List.setIfInBounds_toArray, List.set_cons_zero, List.set_cons_succ]
  refine wpAnyH_take (i := 4) (v := .pointer (some ⟨w.heap.size, 2, none⟩)) rfl (by kernel_rfl) (by kernel_rfl) (by kernel_rfl) (fun _ _ _ h => h) (Or.inl ⟨by rfl, ?_⟩) hS0 ?_
  · intro Y hY
    skip
    go_simp
  simp only [Act.put, List.getElem_toArray, List.getElem_cons_succ, List.getElem_cons_zero, List.setIfInBounds_toArray, List.set_cons_zero, List.set_cons_succ]
  refine wpAnyH_take (i := 5) (v := .slice (some ⟨b, o, none⟩) ts.length cap) rfl (by kernel_rfl) (by kernel_rfl) (by kernel_rfl) (fun _ _ _ h => h) (Or.inl ⟨by rfl, ?_⟩) hS0 ?_
  · intro Y hY
    have e2 := (hY.cell (p := ⟨w.heap.size, 2, none⟩) hw9).trans hB0.c2
    go_simp
  simp only [Act.put, List.getElem_toArray, List.getElem_cons_succ, List.getElem_cons_zero, List.setIfInBounds_toArray, List.set_cons_zero, List.set_cons_succ]
  refine wpAnyH_take (i := 6) (v := .pointer (some ⟨w.heap.size + 1, 6, none⟩)) rfl (by kernel_rfl) (by kernel_rfl) (by kernel_rfl) (fun _ _ _ h => h) (Or.inl ⟨by rfl, ?_⟩) hS0 ?_
  · intro Y hY
    skip
    go_simp
  simp only [Act.put, List.getElem_toArray, List.getElem_cons_succ, List.getElem_cons_zero, List.setIfInBounds_toArray, List.set_cons_zero, List.set_cons_succ]
  refine wpAnyH_take (i := 7) (v := .int .i64 (pk : Int)) rfl (by kernel_rfl) (by kernel_rfl) (by kernel_rfl) (fun _ _ _ h => h) (Or.inl ⟨by rfl, ?_⟩) hS0 ?_
  · intro Y hY
    have e6 := (hY.cell (p := ⟨w.heap.size + 1, 6, none⟩) hw1).trans hA0.c6
    go_simp
  simp only [Act.put, List.getElem_toArray, List.getElem_cons_succ, List.getElem_cons_zero, List.setIfInBounds_toArray, List.set_cons_zero, List.set_cons_succ]
  refine wpAnyH_take (i := 8) (v := .pointer (some ⟨b, o + pk * 3, none⟩)) rfl (by kernel_rfl) (by kernel_rfl) (by kernel_rfl) (fun _ _ _ h => h) (Or.inl ⟨by rfl, ?_⟩) hS0 ?_
  · intro Y hY
    skip
    go_simp
  simp only [Act.put, List.getElem_toArray, List.getElem_cons_succ, List.getElem_cons_zero, List.setIfInBounds_toArray, List.set_cons_zero, List.set_cons_succ]
  refine wpAnyH_take (i := 9) (v := tv k' n' (.slice ua us'.length uc)) rfl (by kernel_rfl) (by kernel_rfl) (by kernel_rfl) (fun _ _ _ h => h) (Or.inl ⟨by rfl, ?_⟩) hS0 ?_
  · intro Y hY
    have f0 := (hY.cell (p := ⟨b, o + pk * 3, none⟩) hbn).trans q0; have f1 := (hY.cell (p := ⟨b, o + pk * 3 + 1, none⟩) hbn).trans q1; have f2 := (hY.cell (p := ⟨b, o + pk * 3 + 2, none⟩) hbn).trans q2
    go_simp
  simp only [Act.put, List.getElem_toArray, List.getElem_cons_succ, List.getElem_cons_zero, List.setIfInBounds_toArray, List.set_cons_zero, List.set_cons_succ]
  refine wpAnyH_take (i := 10) (v := .pointer (some ⟨w.heap.size + 1, 5, none⟩)) rfl (by kernel_rfl) (by kernel_rfl) (by kernel_rfl) (fun _ _ _ h => h) (Or.inl ⟨by rfl, ?_⟩) hS0 ?_
  · intro Y hY
    skip
    go_simp
  simp only [Act.put, List.getElem_toArray, List.getElem_cons_succ, List.getElem_cons_zero, List.setIfInBounds_toArray, List.set_cons_zero, List.set_cons_succ]
  refine wpAnyH_take (i := 11) (v := .slice (some ⟨b2, o2, none⟩) 1 cu) rfl (by kernel_rfl) (by kernel_rfl) (by kernel_rfl) (fun _ _ _ h => h) (Or.inl ⟨by rfl, ?_⟩) hS0 ?_
  · intro Y hY
    have e5 := (hY.cell (p := ⟨w.heap.size + 1, 5, none⟩) hw1).trans hA0.c5
    go_simp
  simp only [Act.put, List.getElem_toArray, List.getElem_cons_succ, List.getElem_cons_zero, List.setIfInBounds_toArray, List.set_cons_zero, List.set_cons_succ]
  refine wpAnyH_take (i := 12) (v := .pointer (some ⟨b2, o2, none⟩)) rfl (by kernel_rfl) (by kernel_rfl) (by kernel_rfl) (fun _ _ _ h => h) (Or.inl ⟨by rfl, ?_⟩) hS0 ?_
  · intro Y hY
    skip
    go_simp
  simp only [Act.put, List.getElem_toArray, List.getElem_cons_succ, List.getElem_cons_zero, List.setIfInBounds_toArray, List.set_cons_zero, List.set_cons_succ]
  refine wpAnyH_take (i := 13) (v := vv N2 (.slice ab2 bs2.length cb2) (.slice av2 vs2.length cv2) p2) rfl (by kernel_rfl) (by kernel_rfl) (by kernel_rfl) (fun _ _ _ h => h) (Or.inl ⟨by rfl, ?_⟩) hS0 ?_
  · intro Y hY
    have h7Y := HC7.out.from_ hY hbn2; have e0 := h7Y.c0; have e1 := h7Y.c1; have e2 := h7Y.c2; have e3 := h7Y.c3; have e4 := h7Y.c4; have e5 := h7Y.c5; have e6 := h7Y.c6; simp only [Nat.zero_mul, Nat.add_zero] at e0 e1 e2 e3 e4 e5 e6
    go_simp
  simp only [Act.put, List.getElem_toArray, List.getElem_cons_succ, List.getElem_cons_zero, List.setIfInBounds_toArray, List.set_cons_zero, List.set_cons_succ]
  obtain ⟨i0, hi, hz0', hz1, hz2⟩ := info_parts Tryz.ofU8
  have hu8 : Hid ((pk : Int) = ((UInt8.ofNat pk).toNat : Int)) := by
    show (pk : Int) = ((UInt8.ofNat pk).toNat : Int)
    simp
    omega
  refine wpAnyH_ready (rs := [3, 14]) (by kernel_rfl) (by simp) ?_
  refine AllReadyH.cons rfl (fun K hK => ?rA) (AllReadyH.cons rfl (fun K hK => ?rB) AllReadyH.nil)
  case' rA =>
    rw [if_pos (by rfl)]
    refine wp_build_one 48 5 (.tmp 34) (.int .u8 (pk : Int)) (.int .u8 0) i0 rfl rfl rfl Tryz.underlying48 hi hz0' hz1 rfl ?_
    obtain ⟨w1, hw1'⟩ : ∃ w1, World.alloc { w0 with drawn := w0.drawn + 1 } (.cells #[.int .u8 (pk : Int)] 5) = w1 := ⟨_, rfl⟩
    have hS1 : Below w0.heap.size w0 w1 := by rw [← hw1']; exact hS0.alloc (Nat.le_refl _) _
    have hO1 : Ow w0.heap.size [UInt8.ofNat pk] (.slice (some ⟨w0.heap.size, 0, none⟩) 1 1) w1 := by rw [← hw1', hu8.out]; exact own_new _ _ _ (Nat.le_refl _)
    rw [hw1']
    refine hK.out _ _ hS1 (fun _ => ?_)
    clear hK K hw1'
    simp only [Act.put, List.getElem_toArray, List.getElem_cons_succ, List.getElem_cons_zero, List.setIfInBounds_toArray, List.set_cons_zero, List.set_cons_succ]
    refine wpAnyH_ready (rs := [14]) (by kernel_rfl) (by simp) ?_
    refine AllReadyH.cons rfl (fun K hK => ?_) AllReadyH.nil
    go_simp
    refine (HC.out _ hS1).mono ?_
    rintro e w2 ⟨hok, hno, hb2⟩
    have hS2 : Below w0.heap.size w0 w2 := hS1.trans (hb2.mono hS1.size)
    rcases Nat.lt_or_ge 65536 s.length with hsl | hsl
    · rw [hno (by omega)]
      exact ⟨rfl, .inr ⟨rfl, by simp; omega⟩, hb0.trans (Below.mono hS2 hb0.size)⟩
    obtain ⟨u, rfl, hU⟩ := hok hsl
    have hO2 := hO1.from_ hb2
    have hU2 := hU.sr
    try go_wp2_with fail
    refine hK.out _ _ hS2 (fun _ => ?_)
    clear hK K hok hno hO1
    simp only [List.setIfInBounds_toArray, List.set_cons_zero, List.set_cons_succ]
  case' rB =>
    go_simp
    refine (HC.out _ hS0).mono ?_
    rintro e w1 ⟨hok, hno, hb2⟩
    have hS1 : Below w0.heap.size w0 w1 := hS0.trans (hb2.mono (Nat.le_refl _))
    rcases Nat.lt_or_ge 65536 s.length with hsl | hsl
    · rw [hno (by omega)]
      exact ⟨rfl, .inr ⟨rfl, by simp; omega⟩, hb0.trans (Below.mono hS1 hb0.size)⟩
    obtain ⟨u, rfl, hU⟩ := hok hsl
    try go_wp2_with fail
    refine hK.out _ _ hS1 (fun _ => ?_)
    clear hK K hok hno
    simp only [List.setIfInBounds_toArray, List.set_cons_zero, List.set_cons_succ]
    refine wpAnyH_ready (rs := [3]) (by kernel_rfl) (by simp) ?_
    refine AllReadyH.cons rfl (fun K hK => ?_) AllReadyH.nil
    rw [if_pos (by rfl)]
    refine wp_build_one 48 5 (.tmp 34) (.int .u8 (pk : Int)) (.int .u8 0) i0 rfl rfl rfl Tryz.underlying48 hi hz0' hz1 rfl ?_
    obtain ⟨w2, hw2'⟩ : ∃ w2, World.alloc w1 (.cells #[.int .u8 (pk : Int)] 5) = w2 := ⟨_, rfl⟩
    have hbn2 : Below w1.heap.size w1 w2 := by rw [← hw2']; exact (Below.refl _ _).alloc (Nat.le_refl _) _
    have hS2 : Below w0.heap.size w0 w2 := hS1.trans (hbn2.mono hS1.size)
    have hO2 : Ow w0.heap.size [UInt8.ofNat pk] (.slice (some ⟨w1.heap.size, 0, none⟩) 1 1) w2 := by rw [← hw2', hu8.out]; exact own_new _ _ _ hS1.size
    have hU2 := (hU.from_ hbn2).sr
    rw [hw2']
    refine hK.out _ _ hS2 (fun _ => ?_)
    clear hK K hw2'
    simp only [Act.put, List.getElem_toArray, List.getElem_cons_succ, List.getElem_cons_zero, List.setIfInBounds_toArray, List.set_cons_zero, List.set_cons_succ]
  all_goals
    refine wpAnyH_ready (rs := [15]) (by kernel_rfl) (by simp) ?_
    refine AllReadyH.cons rfl (fun K hK => ?_) AllReadyH.nil
    rw [if_pos (by rfl)]
    refine wp_append_by _ _ _ rfl w0.heap.size [UInt8.ofNat pk] s _ u rfl rfl hO2 hU2 (by simp; omega) hS2.size ?_
    intro v' w3 hA3
    have hS3 : Below w0.heap.size w0 w3 := hS2.grown hA3.grown hS2.size (fun k e => (hO2.lt k e).1)
    refine hK.out _ _ hS3 (fun _ => ?_)
    clear hK K
    simp only [Act.put, List.getElem_toArray, List.getElem_cons_succ, List.getElem_cons_zero, List.setIfInBounds_toArray, List.set_cons_zero, List.set_cons_succ]
    refine wpAnyH_ready (rs := [16]) (by kernel_rfl) (by simp) ?_
    refine AllReadyH.cons rfl (fun K hK => ?_) AllReadyH.nil
    go_simp
    refine hK.out _ _ hS3 (fun _ => ?_)
    clear hK K
    simp only [List.setIfInBounds_toArray, List.set_cons_zero, List.set_cons_succ]
    refine wpAnyH_done (by kernel_rfl) ?_ _
    go_wp2_with fail
    go_ret
    exact ⟨.inl ⟨v', rfl, hA3.own.srB.mono hb0.size⟩, hb0.trans (Below.mono hS3 hb0.size)⟩
end Go.Proofs.YtgloapcfmlijlaaGreatDoor
namespace Go.Proofs.YtgloapcfmlijlaaGreatDoor
open Go Go.RowKit Go.Lib
attribute [local go_sem] Oper.semAt_some

set_option maxRecDepth 100000 in
set_option maxHeartbeats 4000000 in
theorem put_step (z : Nat) (ih : Hid (PutC z)) : PutC (z + 1) := by
  intro k n ts a cap N bs us p ab cb au cu w hs hL hV hc hf h1 h2
  obtain ⟨w0, hw0⟩ : ∃ w0, (w.alloc (.cells #[.int .i64 k, .int .i64 n, .slice a ts.length cap] 24)).alloc (.cells #[.int .u64 (M.pt 0 N), .int .u64 (M.pt 1 N), .int .u64 (M.pt 2 N), .int .u64 (M.pt 3 N), .slice ab bs.length cb, .slice au us.length cu, .int .i64 p] 33) = w0 := ⟨_, rfl⟩
  have hb0 : Below w.heap.size w w0 := by rw [← hw0]; exact two_boxesV _ _ _ _ _ _ _ _
  have hB0 : BoxT w0 w.heap.size k n (.slice a ts.length cap) := by rw [← hw0]; exact ⟨by simp [go_sem], by simp [go_sem], by simp [go_sem]⟩
  have hA0 : Cells7 w0 (w.heap.size + 1) 0 N (.slice ab bs.length cb) (.slice au us.length cu) p := by
    rw [← hw0]
    have := Cells7.new (w.alloc (.cells #[.int .i64 k, .int .i64 n, .slice a ts.length cap] 24)) N (.slice ab bs.length cb) (.slice au us.length cu) p 33
    rwa [World.size_alloc] at this
  have HW := Lib.hid hw0
  have HL0 := (hL.from_ hb0).mono hb0.size
  have HV0 := (hV.from_ hb0).mono hb0.size
  have HB : Hid (Calls Tryz.prog 143 #[tv k n (.slice a ts.length cap), vv N (.slice ab bs.length cb) (.slice au us.length cu) p] w0 (BytP w0 (M.putV (.mk k n ts) (.mk N bs us p)))) := by
    show Calls _ _ _ _ _
    by_cases k1 : k = 1
    · subst k1; exact byt_1 n ts a cap N bs us p ab cb au cu w0 HL0 HV0 hc hf h1 h2
    by_cases k2 : k = 2
    · subst k2; exact byt_2 n ts a cap N bs us p ab cb au cu w0 HL0 HV0 hc hf h1 h2
    by_cases k5 : k = 5
    · subst k5; exact byt_5 n ts a cap N bs us p ab cb au cu w0 HL0 HV0 hc hf h1 h2
    by_cases k6 : k = 6
    · subst k6; exact byt_6 n ts a cap N bs us p ab cb au cu w0 HL0 HV0 hc hf h1 h2
    by_cases k8 : k = 8
    · subst k8; exact byt_8 z ih n ts a cap N bs us p ab cb au cu w0 hs HL0 HV0 hc hf h1 h2
    · exact byt_row z ih k (by obtain ⟨d, hd⟩ := hc; have := (M.chkT_ok.1 hd).1; omega) n ts a cap N bs us p ab cb au cu w0 hs HL0 HV0 hc hf h1 h2
  have t0 := hB0.c0
  have t1 := hB0.c1
  have t2 := hB0.c2
  have a0 := hA0.c0
  have a1 := hA0.c1
  have a2 := hA0.c2
  have a3 := hA0.c3
  have a4 := hA0.c4
  have a5 := hA0.c5
  have a6 := hA0.c6
  simp only [Nat.zero_add] at a1 a2 a3 a4 a5 a6
  rw [← HW.out] at t0 t1 t2 a0 a1 a2 a3 a4 a5 a6
  generalize M.putV (.mk k n ts) (.mk N bs us p) = L at *
  clear hw0 hf hc ih hs h1 h2 HL0 HV0 hL hV
  go_enter Tryz.func57, Tryz.ntmps57
  go_wp2_with fail
  rw [HW.out]
  refine HB.out.mono ?_
  rintro e w1 ⟨hE, hb1⟩
  rcases hE with ⟨u, rfl, hU⟩ | ⟨rfl, hlt⟩
  · obtain ⟨ux, uy, rfl⟩ := hU.slice
    have HU := Lib.hid hU
    clear hU
    by_cases hl : L.length ≤ 65536
    · have hl' : (L.length : Int) ≤ 65536 := by omega
      have HN := Lib.hid (need_any true 5)
      go_wp2_with fail
      refine (HN.out _).mono ?_
      rintro e X ⟨rfl, hX⟩
      obtain rfl : w1 = X := hX.symm
      go_wp2_with fail
      go_ret
      exact ⟨fun _ => ⟨_, rfl, HU.out.mono hb0.size⟩, fun h => absurd h (by omega), hb0.trans (Below.mono hb1 hb0.size)⟩
    · have hl' : ¬ (L.length : Int) ≤ 65536 := by omega
      have HN := Lib.hid (need_any false 5)
      go_wp2_with fail
      rw [show decide ((L.length : Int) ≤ 65536) = false from decide_eq_false (by omega)]
      refine (HN.out _).mono ?_
      rintro e X ⟨rfl, hX⟩
      obtain rfl : w1 = X := hX.symm
      exact ⟨rfl, fun h => absurd h hl, fun _ => rfl, hb0.trans (Below.mono hb1 hb0.size)⟩
  · exact ⟨rfl, fun h => absurd hlt (by omega), fun _ => rfl, hb0.trans (Below.mono hb1 hb0.size)⟩
theorem put_c : ∀ z, PutC z
  | 0 => by intro k n ts a cap N bs us p ab cb au cu w hs; cases us <;> simp at hs
  | z + 1 => put_step z (Lib.hid (put_c z))

theorem SrB.conv {B : Nat} {l : List UInt8} {v : Value} {w : World} (h : SrB B l v w) : (convert 48 9 v).run Tryz.prog w = .ok (.string ⟨l.toArray⟩) w := by
  rcases h with ⟨rfl, rfl⟩ | ⟨ad, c, rfl, _, _, hc⟩
  · rw [run_convert_bytes_string w 48 9 5 none 0 0 Tryz.underlying48 Tryz.underlying5 Tryz.underlying9]
    rfl
  · refine run_convert_bytes_back w 48 9 5 ad c l Tryz.underlying48 Tryz.underlying5 Tryz.underlying9 ?_
    intro j hj
    exact hc j _ (by simp [bc, hj])

set_option maxRecDepth 100000 in
set_option maxHeartbeats 4000000 in
theorem put1_any (k n : Int) (ts : List M.Ty) (a : Option Addr) (cap : Nat) (N : Nat) (bs : List Bool) (us : List M.Va) (p : Int) (ab : Option Addr) (cb : Nat) (au : Option Addr) (cu : Nat) (bt bv bo : Nat) (W : World) (hL : LayT W W.heap.size ts (.slice a ts.length cap)) (hV : Vl W W.heap.size N bs us ab cb au cu)
    (hc : ∃ d, M.chkT d (.mk k n ts) = 0) (hf : M.fitV (.mk k n ts) (.mk N bs us p) = 0) (h1 : M.cntT (.mk k n ts) ≤ 1000) (h2 : M.cntV (.mk N bs us p) ≤ 6000)
    (hB : BoxT W bt k n (.slice a ts.length cap)) (hA : Cells7 W bv 0 N (.slice ab bs.length cb) (.slice au us.length cu) p) (hO : Boxed W bo 9 (.string ⟨#[]⟩)) :
    Calls Tryz.prog 56 #[.pointer (some ⟨bt, 0, none⟩), .pointer (some ⟨bv, 0, none⟩), .pointer (some ⟨bo, 0, none⟩)] W fun e w' =>
      ((M.putV (.mk k n ts) (.mk N bs us p)).length ≤ 65536 → e = .returned (.tuple #[]) ∧ ∃ w1, Below W.heap.size W w1 ∧ w' = w1.setCell ⟨bo, 0, none⟩ (.string ⟨(M.putV (.mk k n ts) (.mk N bs us p)).toArray⟩)) ∧
      (65536 < (M.putV (.mk k n ts) (.mk N bs us p)).length → e = pan 5 ∧ Below W.heap.size W w') := by
  have HC := Lib.hid (put_c _ k n ts a cap N bs us p ab cb au cu W (Nat.le_refl _) hL hV hc hf h1 h2)
  have t0 := hB.c0
  have t1 := hB.c1
  have t2 := hB.c2
  have a0 := hA.c0
  have a1 := hA.c1
  have a2 := hA.c2
  have a3 := hA.c3
  have a4 := hA.c4
  have a5 := hA.c5
  have a6 := hA.c6
  simp only [Nat.zero_add] at a1 a2 a3 a4 a5 a6
  generalize M.putV (.mk k n ts) (.mk N bs us p) = L at *
  clear hf hc h1 h2 hL hV
  go_enter Tryz.func56, Tryz.ntmps56
  go_wp2_with fail
  refine HC.out.mono ?_
  rintro e w1 ⟨hok, hno, hb1⟩
  rcases Nat.lt_or_ge 65536 L.length with hl | hl
  · rw [hno hl]
    exact ⟨rfl, fun h => absurd hl (by omega), fun _ => ⟨rfl, hb1⟩⟩
  · obtain ⟨u, rfl, hU⟩ := hok hl
    obtain ⟨ux, uy, rfl⟩ := hU.slice
    have hcv := hU.conv
    have hO1 : Boxed w1 bo 9 (.string ⟨#[]⟩) := (hb1.block _ hO.lt).trans hO
    have y1 := hO1.cell
    have y2 := hO1.frozen
    have HL := Lib.hid hl
    clear hok hno hU hl
    go_wp2_with fail
    go_end0
    exact ⟨fun _ => ⟨rfl, w1, hb1, rfl⟩, fun h => absurd h (by have := HL.out; omega)⟩

theorem boxT_below {w W : World} {b : Nat} {k n : Int} {v : Value} (h : BoxT w b k n v) (hb : Below w.heap.size w W) (hlt : b < w.heap.size) : BoxT W b k n v :=
  ⟨(hb.cell (p := ⟨b, 0, none⟩) hlt).trans h.c0, (hb.cell (p := ⟨b, 1, none⟩) hlt).trans h.c1, (hb.cell (p := ⟨b, 2, none⟩) hlt).trans h.c2⟩
set_option maxRecDepth 100000 in
set_option maxHeartbeats 4000000 in
theorem ssz_put : SPutOk := by
  intro k n ts a cap N bs us p ab cb au cu w hL hV h1 h2
  obtain ⟨w0, hw0⟩ : ∃ w0, (w.alloc (.cells #[.int .i64 k, .int .i64 n, .slice a ts.length cap] 24)).alloc (.cells #[.int .u64 (M.pt 0 N), .int .u64 (M.pt 1 N), .int .u64 (M.pt 2 N), .int .u64 (M.pt 3 N), .slice ab bs.length cb, .slice au us.length cu, .int .i64 p] 33) = w0 := ⟨_, rfl⟩
  have hb0 : Below w.heap.size w w0 := by rw [← hw0]; exact two_boxesV _ _ _ _ _ _ _ _
  have hz0 : w.heap.size + 2 ≤ w0.heap.size := by rw [← hw0]; simp
  have hB0 : BoxT w0 w.heap.size k n (.slice a ts.length cap) := by rw [← hw0]; exact ⟨by simp [go_sem], by simp [go_sem], by simp [go_sem]⟩
  have hA0 : Cells7 w0 (w.heap.size + 1) 0 N (.slice ab bs.length cb) (.slice au us.length cu) p := by
    rw [← hw0]
    have := Cells7.new (w.alloc (.cells #[.int .i64 k, .int .i64 n, .slice a ts.length cap] 24)) N (.slice ab bs.length cb) (.slice au us.length cu) p 33
    rwa [World.size_alloc] at this
  have HW := Lib.hid hw0
  have HL0 := Lib.hid ((hL.from_ hb0).mono hb0.size)
  have HV0 := Lib.hid ((hV.from_ hb0).mono hb0.size)
  have HF := Lib.hid (shape_fits k n ts a cap N bs us p ab cb au cu w0 HL0.out HV0.out h1 h2)
  have t0 := hB0.c0
  have t1 := hB0.c1
  have t2 := hB0.c2
  have a0 := hA0.c0
  have a1 := hA0.c1
  have a2 := hA0.c2
  have a3 := hA0.c3
  have a4 := hA0.c4
  have a5 := hA0.c5
  have a6 := hA0.c6
  simp only [Nat.zero_add] at a1 a2 a3 a4 a5 a6
  rw [← HW.out] at t0 t1 t2 a0 a1 a2 a3 a4 a5 a6
  have hmf : ∀ (fn : Fn) (first cap : Array Value) (w : World), (Instr.makeFunc fn first cap).run Tryz.prog w = .ok (.func fn first cap) w := fun _ _ _ _ => rfl
  have HP : Hid (M.putT (.mk k n ts) (.mk N bs us p) = if M.fitsV (.mk k n ts) (.mk N bs us p) ≠ 0 then ([], M.fitsV (.mk k n ts) (.mk N bs us p)) else if 65536 < (M.putV (.mk k n ts) (.mk N bs us p)).length then ([], 5) else (M.putV (.mk k n ts) (.mk N bs us p), 0)) := rfl
  clear hw0 hL hV
  by_cases hq : M.fitsV (.mk k n ts) (.mk N bs us p) = 0
  · have hc0 := M.fitsV_fits hq
    have hf0 : M.fitV (.mk k n ts) (.mk N bs us p) = 0 := by rw [← M.fitsV_in hc0]; exact hq
    rw [hq] at HF
    have HP' : Hid (M.putT (.mk k n ts) (.mk N bs us p) = if 65536 < (M.putV (.mk k n ts) (.mk N bs us p)).length then ([], 5) else (M.putV (.mk k n ts) (.mk N bs us p), 0)) := by
      show _ = _
      rw [HP.out, if_neg (by simp [hq])]
    have hen : ∀ args w, (callFunc 56 args).run Tryz.prog w = .ok (.enter 56 args) w := by
      intro args w
      simp [callFunc, go_sem, Tryz.f56]
    have HG : Hid (∀ w1 : World, Below w0.heap.size w0 w1 → Calls Tryz.prog 30 #[.func (.func 56) #[] #[.pointer (some ⟨w.heap.size, 0, none⟩), .pointer (some ⟨w.heap.size + 1, 0, none⟩), .pointer (some ⟨w1.heap.size, 0, none⟩)]] (w1.alloc (.cells #[.string ⟨#[]⟩] 9)) fun e w' =>
        ∃ q : Nat, e = .returned (.int .i64 (q : Nat)) ∧ Boxed w' w1.heap.size 9 (.string ⟨(M.putT (.mk k n ts) (.mk N bs us p)).1.toArray⟩) ∧ q = (M.putT (.mk k n ts) (.mk N bs us p)).2 ∧ Below w0.heap.size w0 w') := by
      intro w1 hb1
      obtain ⟨w2, hw2⟩ : ∃ w2, w1.alloc (.cells #[.string ⟨#[]⟩] 9) = w2 := ⟨_, rfl⟩
      have hO2 : Boxed w2 w1.heap.size 9 (.string ⟨#[]⟩) := by rw [← hw2]; exact Boxed.new _ _ _
      have hb2 : Below w0.heap.size w0 w2 := by rw [← hw2]; exact hb1.alloc hb1.size _
      have hz2 : w2.heap.size = w1.heap.size + 1 := by rw [← hw2]; simp
      rw [hw2]
      have hb3 : Below w2.heap.size w2 (w2.alloc (.cells #[.int .i64 0] 34)) := (Below.refl _ _).alloc (Nat.le_refl _) _
      have hb03 : Below w0.heap.size w0 (w2.alloc (.cells #[.int .i64 0] 34)) := hb2.trans (hb3.mono hb2.size)
      have hE3 : Boxed (w2.alloc (.cells #[.int .i64 0] 34)) w2.heap.size 34 (.int .i64 0) := Boxed.new _ _ _
      have hO3 : Boxed (w2.alloc (.cells #[.int .i64 0] 34)) w1.heap.size 9 (.string ⟨#[]⟩) := (hb3.block _ hO2.lt).trans hO2
      have hb1s := hb1.size
      have H1 := put1_any k n ts a cap N bs us p ab cb au cu w.heap.size (w.heap.size + 1) w1.heap.size (w2.alloc (.cells #[.int .i64 0] 34)) ((HL0.out.from_ hb03).mono hb03.size) ((HV0.out.from_ hb03).mono hb03.size) ⟨0, hc0⟩ hf0 h1 h2 (boxT_below hB0 hb03 (by omega)) (hA0.from_ hb03 (by omega)) hO3
      refine (given_any 56 _ hen w2 (fun q W => Boxed W w1.heap.size 9 (.string ⟨(M.putT (.mk k n ts) (.mk N bs us p)).1.toArray⟩) ∧ q = (M.putT (.mk k n ts) (.mk N bs us p)).2 ∧ Below w0.heap.size w0 W ∧ w2.heap.size < W.heap.size) (H1.mono ?_)).mono ?_
      · rintro e w' ⟨hok, hno⟩
        rw [HP'.out]
        rcases Nat.lt_or_ge 65536 (M.putV (.mk k n ts) (.mk N bs us p)).length with hl | hl
        · obtain ⟨rfl, hb4⟩ := hno hl
          rw [if_pos hl]
          have hs4 := hb4.size
          exact ⟨5, rfl, ⟨(hb4.block _ hO3.lt).trans hO3, rfl, hb03.trans (hb4.mono hb03.size), by simp at hs4; omega⟩, (hb4.block _ hE3.lt).trans hE3⟩
        · obtain ⟨rfl, w4, hb4, rfl⟩ := hok hl
          rw [if_neg (by omega)]
          have hs4 := hb4.size
          have hs5 := (grownBy_setCell' w4 w1.heap.size (.string ⟨(M.putV (.mk k n ts) (.mk N bs us p)).toArray⟩)).size
          refine ⟨0, rfl, ⟨(show Boxed w4 w1.heap.size 9 (.string ⟨#[]⟩) from (hb4.block _ hO3.lt).trans hO3).set _, rfl, (hb03.trans (hb4.mono hb03.size)).grown (grownBy_setCell' _ _ _) (by have := hb03.size; omega) (fun q e => by cases e; omega), by simp at hs4; omega⟩, (show Boxed w4 w2.heap.size 34 (.int .i64 0) from (hb4.block _ hE3.lt).trans hE3).other (by omega) _⟩
      · rintro e w' ⟨q, W, rfl, ⟨hB, hq2, hbW, hsW⟩, rfl⟩
        exact ⟨q, rfl, hB.other (by omega) _, hq2, hbW.grown (grownBy_setCell' _ _ _) hbW.size (fun r e => by cases e; have := hb2.size; omega)⟩
    generalize M.putT (.mk k n ts) (.mk N bs us p) = g at *
    clear hq hc0 hf0 HP HP' h1 h2 hen hz0
    go_enter Tryz.func25, Tryz.ntmps25
    go_wp2_with fail
    rw [HW.out]
    refine HF.out.mono ?_
    rintro e w1 ⟨rfl, hb1⟩
    go_wp2_with fail
    refine (HG.out w1 hb1).mono ?_
    rintro e w2 ⟨q, rfl, hO, rfl, hb2⟩
    have y1 := hO.cell
    go_wp2_with fail
    go_ret2
    exact ⟨rfl, hb0.trans (Below.mono hb2 hb0.size)⟩
  · rw [if_pos hq] at HP
    generalize M.fitsV (.mk k n ts) (.mk N bs us p) = q at *
    rw [HP.out]
    have hq1 : ¬ (q : Int) = 0 := by omega
    go_enter Tryz.func25, Tryz.ntmps25
    go_wp2_with fail
    rw [HW.out]
    refine HF.out.mono ?_
    rintro e w1 ⟨rfl, hb1⟩
    go_wp2_with fail
    go_ret2
    exact ⟨rfl, hb0.trans (Below.mono hb1 hb0.size)⟩
end Go.Proofs.YtgloapcfmlijlaaGreatDoor
namespace Go.Proofs.YtgloapcfmlijlaaGreatDoor
open Go Go.RowKit Go.Lib
attribute [local go_sem] Oper.semAt_some

theorem unoffset_any (s : List UInt8) (w : World) (h : s.length = 4) : Calls Tryz.prog 151 #[.string ⟨s.toArray⟩] w fun e w' => e = .returned (.int .i64 (M.led s : Nat)) ∧ w' = w := by
  have HU := Lib.hid (unle_ok s w (by omega) (by omega))
  have hlt := M.led_lt s
  rw [h] at hlt
  have hw : IntKind.i64.wrap ((M.led s : Nat) : Int) = ((M.led s : Nat) : Int) := by
    simp only [IntKind.wrap, IntKind.bits, IntKind.signed]
    simp
    omega
  generalize M.led s = q at *
  go_enter Tryz.func151, Tryz.ntmps151
  go_wp2_with fail
  refine HU.out.mono ?_
  rintro e w' ⟨rfl, rfl⟩
  go_wp2_with fail
  go_ret
  exact ⟨rfl, rfl⟩

theorem M.dg_rev : ∀ s : List UInt8, M.dg s.reverse = M.led s
  | [] => rfl
  | c :: s => by rw [List.reverse_cons, M.dg_snoc, M.dg_rev s, M.led, Nat.mul_comm, Nat.add_comm]
theorem M.led_zeros (s : List UInt8) (n : Nat) : M.led (s ++ List.replicate n 0) = M.led s := by
  rw [← M.dg_rev, List.reverse_append, List.reverse_replicate, M.dg_zeros, M.dg_rev]

/-- 4 cells that may be written. -/
structure CellsW4 (w : World) (g : Nat) : Prop where
  i0 : ∃ v, w.cell? ⟨g, 0, none⟩ = some v
  i1 : ∃ v, w.cell? ⟨g, 1, none⟩ = some v
  i2 : ∃ v, w.cell? ⟨g, 2, none⟩ = some v
  i3 : ∃ v, w.cell? ⟨g, 3, none⟩ = some v
  f0 : w.frozen? ⟨g, 0, none⟩ = false
  f1 : w.frozen? ⟨g, 1, none⟩ = false
  f2 : w.frozen? ⟨g, 2, none⟩ = false
  f3 : w.frozen? ⟨g, 3, none⟩ = false
theorem cells_w4 {w : World} {g : Nat} {o0 o1 o2 o3 : Value} {t : TypeId} (h : w.heap[g]? = some (.cells #[o0, o1, o2, o3] t (0, 0))) : CellsW4 w g := by
  constructor <;> simp [World.cell?, World.frozen?, h]
theorem set_w4 {w : World} {g : Nat} {o0 o1 o2 o3 : Value} {t : TypeId} (h : w.heap[g]? = some (.cells #[o0, o1, o2, o3] t (0, 0))) (a0 a1 a2 a3 : Value) :
    ((((w.setCell ⟨g, 0, none⟩ a0).setCell ⟨g, 1, none⟩ a1).setCell ⟨g, 2, none⟩ a2).setCell ⟨g, 3, none⟩ a3) = w.setRow g #[a0, a1, a2, a3] := by
  have e0 := setCell_eq_setRow w g 0 (#[o0, o1, o2, o3]) t (0, 0) a0 h
  have h0 := setRow_heap w g (#[o0, o1, o2, o3]) ((#[o0, o1, o2, o3]).setIfInBounds 0 a0) t (0, 0) h
  have e1 := setCell_eq_setRow _ g 1 ((#[o0, o1, o2, o3]).setIfInBounds 0 a0) t (0, 0) a1 h0
  have h1 := setRow_heap _ g ((#[o0, o1, o2, o3]).setIfInBounds 0 a0) (((#[o0, o1, o2, o3]).setIfInBounds 0 a0).setIfInBounds 1 a1) t (0, 0) h0
  have e2 := setCell_eq_setRow _ g 2 (((#[o0, o1, o2, o3]).setIfInBounds 0 a0).setIfInBounds 1 a1) t (0, 0) a2 h1
  have h2 := setRow_heap _ g (((#[o0, o1, o2, o3]).setIfInBounds 0 a0).setIfInBounds 1 a1) ((((#[o0, o1, o2, o3]).setIfInBounds 0 a0).setIfInBounds 1 a1).setIfInBounds 2 a2) t (0, 0) h1
  have e3 := setCell_eq_setRow _ g 3 ((((#[o0, o1, o2, o3]).setIfInBounds 0 a0).setIfInBounds 1 a1).setIfInBounds 2 a2) t (0, 0) a3 h2
  rw [e0, e1, e2, e3, setRow_setRow, setRow_setRow, setRow_setRow]
  rfl
theorem Tryz.wordSize : (Tryz.prog.info? 29).map (·.size) = some 4 := by kernel_rfl
/-- A number, stored into the result's cells, and handed back. -/
theorem word_post {fn : Func} (hres : fn.results = #[.cell 2 29]) (w w1 : World) (tmps : Array Value) (N : Nat) (g : Nat) (hg : w.heap.size ≤ g) (hB : Below w.heap.size w w1) (o0 o1 o2 o3 : Value)
    (hrow : w1.heap[g]? = some (.cells #[o0, o1, o2, o3] 29 (0, 0))) (R : Ending → World → Prop) (hp : tmps.getD 2 undef = .pointer (some ⟨g, 0, none⟩))
    (h : ∀ Z, Below w.heap.size w Z → R (.returned (wn N)) Z) :
    bodyPost Tryz.prog fn R .ret { tmps := tmps, defers := [] } ((((w1.setCell ⟨g, 0, none⟩ (.int .u64 (M.pt 0 N))).setCell ⟨g, 1, none⟩ (.int .u64 (M.pt 1 N))).setCell ⟨g, 2, none⟩ (.int .u64 (M.pt 2 N))).setCell ⟨g, 3, none⟩ (.int .u64 (M.pt 3 N))) := by
  rw [set_w4 hrow]
  have := results_cell_row (P := Tryz.prog) hres tmps (w1.setRow g #[.int .u64 (M.pt 0 N), .int .u64 (M.pt 1 N), .int .u64 (M.pt 2 N), .int .u64 (M.pt 3 N)]) g 29 #[.int .u64 (M.pt 0 N), .int .u64 (M.pt 1 N), .int .u64 (M.pt 2 N), .int .u64 (M.pt 3 N)] (0, 0) _ hp (setRow_heap _ _ _ _ _ (0, 0) hrow) Tryz.underlying29 rfl Tryz.wordSize
  exact bodyPost_ret this rfl (h _ (below_setRow hB hg _))

theorem made_zeros (n : Nat) : (madeCells (Value.int .u8 0).cells n).toList = bc (List.replicate n 0) := by
  rw [show (Value.int .u8 0).cells = #[Value.int .u8 0] from rfl]
  simp [madeCells, bc]
  exact List.ext_getElem (by simp) fun i h1 h2 => by simp [Nat.mod_one]

set_option maxRecDepth 100000 in
set_option maxHeartbeats 4000000 in
theorem number_any (s : List UInt8) (w : World) (h : s.length ≤ 32) : Calls Tryz.prog 64 #[.string ⟨s.toArray⟩] w fun e w' => e = .returned (wn (M.led s)) ∧ Below w.heap.size w w' := by
  obtain ⟨i0, hi, hz0, hz1, hz2⟩ := info_parts Tryz.ofU8
  have hinfo : (Tryz.prog.info? 5).map (·.size) = some 1 := by rw [hi]; simp [hz1]
  obtain ⟨m, hm⟩ : ∃ m, m = madeCells (Value.int .u8 0).cells ((32 : Int).toNat * i0.size) := ⟨_, rfl⟩
  have hml : m.toList = bc (List.replicate 32 0) := by rw [hm, hz1, made_zeros]; rfl
  have hms : m.size = 32 := by rw [← Array.length_toList, hml]; simp [bc]
  have hmk : ∀ W : World, (Instr.makeSlice 48 (.int .i64 32) (.int .i64 32)).run Tryz.prog W = .ok (.slice (some ⟨W.heap.size, 0, none⟩) 32 32) (W.alloc (.cells m 5)) := fun W => by
    have h := run_make (P := Tryz.prog) W 48 5 i0 (.int .u8 0) Tryz.underlying48 hi hz0 .i64 .i64 32 32 (by omega) (by omega) (by rw [hz2]; omega) (by omega)
    rw [← hm] at h
    simpa using h
  clear hm
  have hz : (⟨s.toArray⟩ : ByteArray).size = s.length := rfl
  have hg0 : ((w.alloc (.cells #[.int .u64 0, .int .u64 0, .int .u64 0, .int .u64 0] 29)).alloc (.cells m 5)).heap[w.heap.size + 1]? = some (.cells m 5 (0, 0)) := by
    have := World.alloc_heap_new (w.alloc (.cells #[.int .u64 0, .int .u64 0, .int .u64 0, .int .u64 0] 29)) (.cells m 5)
    rwa [World.size_alloc] at this
  have hcp := Lib.run_copy_row_string (P := Tryz.prog) ((w.alloc (.cells #[.int .u64 0, .int .u64 0, .int .u64 0, .int .u64 0] 29)).alloc (.cells m 5)) 48 9 3 5 (w.heap.size + 1) 0 32 32 ⟨s.toArray⟩ m 5 Tryz.underlying48 hinfo hg0 (by rw [hz]; omega) (by rw [hz]; omega)
  obtain ⟨Y, hY⟩ : ∃ Y, Y = (m.toList.take 0 ++ Lib.byteCells (⟨s.toArray⟩ : ByteArray).data.toList ++ m.toList.drop (0 + (⟨s.toArray⟩ : ByteArray).size)).toArray := ⟨_, rfl⟩
  rw [← hY, hz] at hcp
  obtain ⟨l, hl⟩ : ∃ l, l = s ++ List.replicate (32 - s.length) 0 := ⟨_, rfl⟩
  have hYl : Y.toList = bc l := by
    rw [hY, List.toList_toArray, List.take_zero, List.nil_append, hml, hz, Nat.zero_add, hl, bc_append]
    congr 1
    rw [bc, ← List.map_drop, List.drop_replicate, bc]
  have hll : l.length = 32 := by rw [hl, List.length_append, List.length_replicate]; omega
  have hYs : Y.size = 32 := by rw [← Array.length_toList, hYl, bc_length, hll]
  obtain ⟨w2, hw2⟩ : ∃ w2, ((w.alloc (.cells #[.int .u64 0, .int .u64 0, .int .u64 0, .int .u64 0] 29)).alloc (.cells m 5)).setRow (w.heap.size + 1) Y = w2 := ⟨_, rfl⟩
  rw [hw2] at hcp
  have hg2 : w2.heap[w.heap.size + 1]? = some (.cells Y 5 (0, 0)) := by rw [← hw2]; exact setRow_heap _ _ m _ 5 (0, 0) hg0
  have hbw2 : Below w.heap.size w w2 := by rw [← hw2]; exact below_setRow (((Below.refl _ _).alloc (Nat.le_refl _) _).alloc (by simp) _) (by omega) _
  have hsz2 : w.heap.size + 1 < w2.heap.size := by rw [← hw2]; simp
  have hr2 : w2.heap[w.heap.size]? = some (.cells #[.int .u64 0, .int .u64 0, .int .u64 0, .int .u64 0] 29 (0, 0)) := by
    rw [← hw2, setRow_other _ _ _ _ (by omega)]
    exact (Below.heap_alloc _ _ _ (by simp)).trans (World.alloc_heap_new _ _)
  have hBk : Bk w2 (w.heap.size + 1) l := by
    refine ⟨fun j hj => ?_, fun j hj => ?_⟩
    · have e : Y[j]? = some (.int .u8 ((l.getD j 0).toNat : Nat)) := by
        rw [← Array.getElem?_toList, hYl]
        simp [bc, hj]
      simp [World.cell?, hg2, e]
    · simp [World.frozen?, hg2]
  clear hY hw2 hg2
  have HR := Lib.hid (reverse_any (w.heap.size + 1) 32 l w2 hBk hll)
  have hlt : M.dg l.reverse = M.led s := by rw [M.dg_rev, hl, M.led_zeros]
  have HU := Lib.hid (fun W => unfixed_any l.reverse W (by rw [List.length_reverse]; exact hll))
  rw [hlt] at HU
  have HRL : Hid (l.reverse.length = 32) := by show _ = _; rw [List.length_reverse]; exact hll
  generalize M.led s = q at *
  clear hl hYl hBk hlt hll h hml hi hz0 hz1 hz2 hinfo hg0 hms hYs
  generalize l.reverse = r at *
  go_enter Tryz.func64, Tryz.ntmps64
  go_wp2_with fail
  refine HR.out.mono ?_
  rintro e w3 ⟨rfl, hB3, hg3, hz3⟩
  have hbw3 : Below w.heap.size w w3 := hbw2.grown hg3 hbw2.size (fun k e => by cases e; omega)
  have hr3 := (hg3.block w.heap.size (by omega) (fun e => by have := Option.some.inj e; omega)).trans hr2
  have hS := hB3.srB (B := w.heap.size) (n := 32) (cap := 32) (by omega) (by rw [HRL.out]; omega) (by rw [HRL.out]; omega)
  rw [List.take_of_length_le (by rw [HRL.out]; omega)] at hS
  have hcv := hS.conv
  have hz3' : w.heap.size < w3.heap.size := by omega
  clear hS hB3 hg3 hz3 hsz2 hcp hmk
  go_wp2_with fail
  refine (HU.out _).mono ?_
  rintro e w4 ⟨rfl, hb4⟩
  have hbw4 : Below w.heap.size w w4 := hbw3.trans (hb4.mono hbw3.size)
  have hr4 := (hb4.block w.heap.size hz3').trans hr3
  have hbw5 := hbw4.alloc hbw4.size (.cells #[.int .u64 (M.pt 0 q), .int .u64 (M.pt 1 q), .int .u64 (M.pt 2 q), .int .u64 (M.pt 3 q)] 29)
  have hr5 := (Below.heap_alloc w4 (.cells #[.int .u64 (M.pt 0 q), .int .u64 (M.pt 1 q), .int .u64 (M.pt 2 q), .int .u64 (M.pt 3 q)] 29) w.heap.size (Array.getElem?_eq_some_iff.1 hr4).1).trans hr4
  obtain ⟨⟨_, i0⟩, ⟨_, i1⟩, ⟨_, i2⟩, ⟨_, i3⟩, f0, f1, f2, f3⟩ := cells_w4 hr5
  go_wp2_with fail

  exact word_post rfl w _ _ q _ (by omega) hbw5 _ _ _ _ hr5 _ rfl fun Z hZ => ⟨rfl, hZ⟩
end Go.Proofs.YtgloapcfmlijlaaGreatDoor
namespace Go.Proofs.YtgloapcfmlijlaaGreatDoor
open Go Go.RowKit Go.Lib
attribute [local go_sem] Oper.semAt_some

/-- A number is handed back, or it is given up. -/
def NumP (w : World) (ok : Bool) (q : Nat) (N : Nat) (e : Ending) (w' : World) : Prop := (ok = true → e = .returned (wn N)) ∧ (ok = false → e = pan q) ∧ Below w.heap.size w w'

set_option maxRecDepth 100000 in
set_option maxHeartbeats 4000000 in
theorem yes_any (s : List UInt8) (w : World) (h : s.length ≤ 32) : Calls Tryz.prog 65 #[.string ⟨s.toArray⟩] w (NumP w (decide (M.led s < 2)) 2 (M.led s)) := by
  have HN := Lib.hid (fun W => number_any s W h)
  have hI : M.In (M.led s) := M.in_pow.2 (Nat.lt_of_lt_of_le (M.led_lt s) (Nat.pow_le_pow_right (by omega) h))
  have hI2 : M.In 2 := by unfold M.In; omega
  have HL := Lib.hid (fun W => less_any (M.led s) 2 W hI hI2)
  have HO := Lib.hid (fun W => of_any 2 W)
  rw [wn_two] at HL
  generalize M.led s = q at *
  clear h hI hI2
  have mixed : Tryz.prog.follows .mixedOrders = true := by kernel_rfl
  have hr0 := World.alloc_heap_new w (.cells #[.int .u64 0, .int .u64 0, .int .u64 0, .int .u64 0] 29)
  have hb0 : Below w.heap.size w (w.alloc (.cells #[.int .u64 0, .int .u64 0, .int .u64 0, .int .u64 0] 29)) := (Below.refl _ _).alloc (Nat.le_refl _) _
  have hz0 : w.heap.size < (w.alloc (.cells #[.int .u64 0, .int .u64 0, .int .u64 0, .int .u64 0] 29)).heap.size := by simp
  go_enter Tryz.func65, Tryz.ntmps65
  go_wp2_with fail
  refine (HN.out _).mono ?_
  rintro e w1 ⟨rfl, hb1⟩
  have hr1 := (hb1.block _ hz0).trans hr0
  have hbw1 := hb0.trans (hb1.mono hb0.size)
  have hz1 : w.heap.size < w1.heap.size := Nat.lt_of_lt_of_le hz0 hb1.size
  clear hr0 hb0 hz0 hb1
  obtain ⟨w2, hw2⟩ : ∃ w2, w1.alloc (.cells #[.int .u64 (M.pt 0 q), .int .u64 (M.pt 1 q), .int .u64 (M.pt 2 q), .int .u64 (M.pt 3 q)] 29) = w2 := ⟨_, rfl⟩
  have hb2 : Below w.heap.size w w2 := by rw [← hw2]; exact hbw1.alloc hbw1.size _
  have hr2 : w2.heap[w.heap.size]? = some (.cells #[.int .u64 0, .int .u64 0, .int .u64 0, .int .u64 0] 29 (0, 0)) := by rw [← hw2]; exact (Below.heap_alloc _ _ _ hz1).trans hr1
  have hn2 : w2.heap[w1.heap.size]? = some (.cells #[.int .u64 (M.pt 0 q), .int .u64 (M.pt 1 q), .int .u64 (M.pt 2 q), .int .u64 (M.pt 3 q)] 29 (0, 0)) := by rw [← hw2]; exact World.alloc_heap_new _ _
  have hz2 : w1.heap.size < w2.heap.size := by rw [← hw2]; simp
  have c0 : w2.cell? ⟨w1.heap.size, 0, none⟩ = some (.int .u64 (M.pt 0 q)) := by simp [World.cell?, hn2]
  have c1 : w2.cell? ⟨w1.heap.size, 1, none⟩ = some (.int .u64 (M.pt 1 q)) := by simp [World.cell?, hn2]
  have c2 : w2.cell? ⟨w1.heap.size, 2, none⟩ = some (.int .u64 (M.pt 2 q)) := by simp [World.cell?, hn2]
  have c3 : w2.cell? ⟨w1.heap.size, 3, none⟩ = some (.int .u64 (M.pt 3 q)) := by simp [World.cell?, hn2]
  have HW2 := Lib.hid hw2
  clear hw2 hr1
  go_wp2_with fail
  rw [HW2.out]
  refine wp_region_held (S := fun Y => Below w2.heap.size w2 Y) mixed ?_
  have hS0 : (fun Y => Below w2.heap.size w2 Y) { w2 with drawn := w2.drawn + 1 } := Below.drew (Below.refl _ _)
  rw [show Array.replicate (Array.size _) false = #[false, false, false, false] from rfl, show Array.size (α := Oper) _ = 4 from rfl]
  refine wpAnyH_take (i := 0) (v := wn q) rfl (by kernel_rfl) (by kernel_rfl) (by kernel_rfl) (fun _ _ _ h => h) (Or.inl ⟨by rfl, ?_⟩) hS0 ?_
  · intro Y hY
    have d0 := (hY.cell (p := ⟨w1.heap.size, 0, none⟩) hz2).trans c0
    have d1 := (hY.cell (p := ⟨w1.heap.size, 1, none⟩) hz2).trans c1
    have d2 := (hY.cell (p := ⟨w1.heap.size, 2, none⟩) hz2).trans c2
    have d3 := (hY.cell (p := ⟨w1.heap.size, 3, none⟩) hz2).trans c3
    go_simp
  simp only [Act.put, List.getElem_toArray, List.getElem_cons_zero, List.setIfInBounds_toArray, List.set_cons_zero, List.set_cons_succ]
  refine wpAnyH_ready (rs := [1]) (by kernel_rfl) (by simp) ?_
  refine AllReadyH.cons rfl (fun K hK => ?_) AllReadyH.nil
  go_simp
  refine (HO.out _).mono ?_
  rintro e w3 ⟨rfl, hb3⟩
  have hS3 : Below w2.heap.size w2 w3 := hS0.trans (hb3.mono (Nat.le_refl _))
  try go_wp2_with fail
  refine hK.out _ _ hS3 (fun _ => ?_)
  clear hK K hb3
  simp only [List.setIfInBounds_toArray, List.set_cons_zero, List.set_cons_succ]
  refine wpAnyH_ready (rs := [2]) (by kernel_rfl) (by simp) ?_
  refine AllReadyH.cons rfl (fun K hK => ?_) AllReadyH.nil
  go_simp
  refine (HL.out _).mono ?_
  rintro e w4 ⟨rfl, hb4⟩
  have hS4 : Below w2.heap.size w2 w4 := hS3.trans (hb4.mono hS3.size)
  try go_wp2_with fail
  refine hK.out _ _ hS4 (fun _ => ?_)
  clear hK K hb4 hS3
  simp only [List.setIfInBounds_toArray, List.set_cons_zero, List.set_cons_succ]
  refine wpAnyH_ready (rs := [3]) (by kernel_rfl) (by simp) ?_
  refine AllReadyH.cons rfl (fun K hK => ?_) AllReadyH.nil
  go_simp
  refine (need_any (decide (q < 2)) 2 _).mono ?_
  rintro e X ⟨rfl, hX⟩
  obtain rfl : w4 = X := hX.symm
  have hbw4 : Below w.heap.size w w4 := hb2.trans (hS4.mono hb2.size)
  by_cases hq : q < 2
  · rw [if_pos (by simp [hq])]
    try go_wp2_with fail
    refine hK.out _ _ hS4 (fun _ => ?_)
    clear hK K
    simp only [List.setIfInBounds_toArray, List.set_cons_zero, List.set_cons_succ]
    refine wpAnyH_done (by kernel_rfl) ?_ _
    have hr4 := (hS4.block w.heap.size (by omega)).trans hr2
    have d0 := (hS4.cell (p := ⟨w1.heap.size, 0, none⟩) hz2).trans c0
    have d1 := (hS4.cell (p := ⟨w1.heap.size, 1, none⟩) hz2).trans c1
    have d2 := (hS4.cell (p := ⟨w1.heap.size, 2, none⟩) hz2).trans c2
    have d3 := (hS4.cell (p := ⟨w1.heap.size, 3, none⟩) hz2).trans c3
    obtain ⟨⟨_, i0⟩, ⟨_, i1⟩, ⟨_, i2⟩, ⟨_, i3⟩, f0, f1, f2, f3⟩ := cells_w4 hr4
    clear c0 c1 c2 c3 hn2 hr2
    go_wp2_with fail
    exact word_post rfl w _ _ q _ (by omega) hbw4 _ _ _ _ hr4 _ rfl fun Z hZ => ⟨fun _ => rfl, fun h => by simp [hq] at h, hZ⟩
  · rw [if_neg (by simp [hq])]
    exact ⟨rfl, fun h => by simp [hq] at h, fun _ => rfl, hbw4⟩
end Go.Proofs.YtgloapcfmlijlaaGreatDoor
namespace Go.Proofs.YtgloapcfmlijlaaGreatDoor
open Go Go.RowKit Go.Lib

/-- Bits in a block of one's own. -/
def BkB (W : World) (g n : Nat) (f : Nat → Bool) : Prop := (∀ j, j < n → W.cell? ⟨g, j, none⟩ = some (.bool (f j))) ∧ (∀ j, j < n → W.frozen? ⟨g, j, none⟩ = false)
theorem BkB.set {W : World} {g n : Nat} {f f' : Nat → Bool} (h : BkB W g n f) {j : Nat} (hj : j < n) (b : Bool) (h1 : f' j = b) (h2 : ∀ k, k ≠ j → f' k = f k) : BkB (W.setCell ⟨g, j, none⟩ (.bool b)) g n f' := by
  refine ⟨fun k hk => ?_, fun k hk => by rw [World.frozen?_setCell]; exact h.2 k hk⟩
  by_cases e : k = j
  · subst e
    rw [World.cell?_setCell_same' _ _ _ (by rw [h.1 k hj]; rfl), h1]
  · rw [World.cell?_setCell_other _ _ _ _ (by simp), h.1 k hk, h2 k e]
theorem made_false (n : Nat) (j : Nat) (hj : j < n) : (madeCells (Value.bool false).cells n)[j]? = some (.bool false) := by
  rw [show (Value.bool false).cells = #[Value.bool false] from rfl]
  simp [madeCells, hj, Nat.mod_one]
theorem bit_is : ∀ (c : Fin 256) (r : Fin 8), (bits BinOp.and .u8 ((c.val : Int) / 2 ^ r.val) 1 == 1) = M.nb c.val r.val := by decide +kernel

set_option maxRecDepth 100000 in
set_option maxHeartbeats 4000000 in
theorem bitsOf_any (s : List UInt8) (w : World) (h : s.length ≤ 8000) : Calls Tryz.prog 146 #[.string ⟨s.toArray⟩] w fun e w' => e = .returned (.slice (some ⟨w.heap.size, 0, none⟩) (8 * s.length) (8 * s.length)) ∧ BkB w' w.heap.size (8 * s.length) (M.bitAt s) ∧ Below w.heap.size w w' ∧ w.heap.size < w'.heap.size := by
  obtain ⟨i0, hi, hz0, hz1, hz2⟩ := info_parts Tryz.ofBool
  obtain ⟨n, hn⟩ : ∃ n, 8 * s.length = n := ⟨_, rfl⟩
  have hn' : n ≤ 64000 := by omega
  have en : 8 * (s.length : Int) = (n : Int) := by omega
  obtain ⟨m, hm⟩ : ∃ m, m = madeCells (Value.bool false).cells ((n : Int).toNat * i0.size) := ⟨_, rfl⟩
  have hmk : ∀ W : World, (Instr.makeSlice 30 (.int .i64 (n : Int)) (.int .i64 (n : Int))).run Tryz.prog W = .ok (.slice (some ⟨W.heap.size, 0, none⟩) n n) (W.alloc (.cells m 4)) := fun W => by
    have h := run_make (P := Tryz.prog) W 30 4 i0 (.bool false) Tryz.underlying30 hi hz0 .i64 .i64 n n (by omega) (by omega) (by rw [hz2]; omega) (by omega)
    rw [← hm] at h
    simpa using h
  have hg0 := World.alloc_heap_new w (.cells m 4)
  have hk0 : BkB (w.alloc (.cells m 4)) w.heap.size n (fun k => decide (k < 0) && M.bitAt s k) := by
    refine ⟨fun j hj => ?_, fun j hj => by unfold World.frozen?; rw [hg0]; simp⟩
    have := made_false n j hj
    rw [hz1, Nat.mul_one, Int.toNat_natCast] at hm
    rw [← hm] at this
    unfold World.cell?
    rw [hg0]
    simpa using this
  have hb0 : Below w.heap.size w (w.alloc (.cells m 4)) := (Below.refl _ _).alloc (Nat.le_refl _) _
  have hlt0 : w.heap.size < (w.alloc (.cells m 4)).heap.size := by simp
  rw [hn]
  clear hm hi hz0 hz1 hz2 hg0
  go_enter Tryz.func146, Tryz.ntmps146
  go_wp2_with fail
  go_loopw [11] (fun i wr => ∃ j : Nat, j ≤ n ∧ i = .int .i64 (j : Nat) ∧ BkB wr w.heap.size n (fun k => decide (k < j) && M.bitAt s k) ∧ Below w.heap.size w wr ∧ w.heap.size < wr.heap.size) (fun i _ => n - (RowKit.intOf i).toNat)
  case atStart => exact ⟨0, by omega, rfl, hk0, hb0, hlt0⟩
  case round =>
    obtain ⟨j, hj, rfl, hB, hbW, hltW⟩ := hrel
    by_cases hlt : j < n
    · obtain ⟨q, hq⟩ : ∃ q, j / 8 = q := ⟨_, rfl⟩
      obtain ⟨r, hr⟩ : ∃ r, j % 8 = r := ⟨_, rfl⟩
      have ei : (j : Int) / 8 = (q : Int) := by omega
      have er : (j : Int) % 8 = (r : Int) := by omega
      have hr8 : r < 8 := by omega
      have hq8 : q < s.length := by omega
      have c0 := hB.1 j hlt
      have f0 := hB.2 j hlt
      go_wp2_with fail
      refine ⟨⟨j + 1, by omega, by simp, hB.set hlt _ ?_ (fun k hk => ?_), hbW.setCell (Nat.le_refl _) _, by simpa [World.setCell] using hltW⟩, by simp [RowKit.intOf]; omega⟩
      · have hc := (s[q]).toNat_lt
        have := bit_is ⟨(s[q]).toNat, hc⟩ ⟨r, hr8⟩
        show (decide (j < j + 1) && M.bitAt s j) = (bits BinOp.and IntKind.u8 (((s[q]).toNat : Int) / 2 ^ r) 1 == 1)
        rw [this, show decide (j < j + 1) = true by simp, Bool.true_and]
        unfold M.bitAt
        rw [hq, hr, List.getD_eq_getElem?_getD, List.getElem?_eq_getElem hq8]
        rfl
      · show (decide (k < j + 1) && _) = (decide (k < j) && _)
        rw [show decide (k < j + 1) = decide (k < j) from decide_eq_decide.2 (by omega)]
    · obtain rfl : j = n := by omega
      go_wp2_with fail
      go_ret
      exact ⟨rfl, ⟨fun k hk => by rw [hB.1 k hk]; simp [hk], hB.2⟩, hbW, hltW⟩
end Go.Proofs.YtgloapcfmlijlaaGreatDoor
namespace Go.Proofs.YtgloapcfmlijlaaGreatDoor
open Go Go.RowKit Go.Lib

set_option maxRecDepth 100000 in
set_option maxHeartbeats 4000000 in
theorem index_any (f : Nat → Bool) (ad : Option Addr) (o m cap : Nat) (w : World) (hm : m ≤ 64000) (hc : ∀ j, j < m → ∃ g, ad = some ⟨g, o, none⟩ ∧ w.cell? ⟨g, o + j, none⟩ = some (.bool (f j))) :
    Calls Tryz.prog 185 #[.slice ad m cap, .bool true] w fun e w' => (∃ r : Int, e = .returned (.int .i64 r) ∧ decide (0 ≤ r) = (List.range m).any f) ∧ w' = w := by
  go_enter Tryz.func185, Tryz.ntmps185
  go_wp2_with fail
  go_loop [8] (fun i => ∃ j : Nat, j ≤ m ∧ i = .int .i64 (j : Nat) ∧ ∀ k, k < j → f k = false) (fun i => m - (RowKit.intOf i).toNat)
  case atStart => exact ⟨0, by omega, rfl, fun k hk => by omega⟩
  case round =>
    obtain ⟨j, hj, rfl, hf⟩ := hrel
    by_cases hlt : j < m
    · obtain ⟨g, rfl, c0⟩ := hc j hlt
      have hj9 : j < 64000 := by omega
      cases hfj : f j with
      | true =>
        rw [hfj] at c0
        go_wp2_with fail
        go_ret
        refine ⟨⟨_, rfl, ?_⟩, rfl⟩
        rw [show decide ((0 : Int) ≤ (j : Int)) = true by simp]
        symm
        rw [List.any_eq_true]
        exact ⟨j, by simpa using hlt, hfj⟩
      | false =>
        rw [hfj] at c0
        go_wp2_with fail
        exact ⟨⟨j + 1, by omega, by simp, fun k hk => by
          by_cases e : k = j
          · rw [e]; exact hfj
          · exact hf k (by omega)⟩, by simp [RowKit.intOf]; omega⟩
    · obtain rfl : j = m := by omega
      go_wp2_with fail
      go_ret
      refine ⟨⟨_, rfl, ?_⟩, rfl⟩
      symm
      rw [show decide ((0 : Int) ≤ -1) = false by decide, List.any_eq_false]
      intro k hk
      simpa using hf k (by simpa using hk)
theorem contains_any (f : Nat → Bool) (ad : Option Addr) (o m cap : Nat) (w : World) (hm : m ≤ 64000) (hc : ∀ j, j < m → ∃ g, ad = some ⟨g, o, none⟩ ∧ w.cell? ⟨g, o + j, none⟩ = some (.bool (f j))) :
    Calls Tryz.prog 147 #[.slice ad m cap, .bool true] w fun e w' => e = .returned (.bool ((List.range m).any f)) ∧ w' = w := by
  have HI := Lib.hid (index_any f ad o m cap w hm hc)
  clear hc hm
  go_enter Tryz.func147, Tryz.ntmps147
  go_wp2_with fail
  refine HI.out.mono ?_
  rintro e w' ⟨⟨r, rfl, hr⟩, rfl⟩
  have hr' := Lib.hid hr
  clear hr
  go_wp2_with fail
  go_ret
  refine ⟨?_, rfl⟩
  rw [← hr'.out]
  rfl
theorem spare_tail (s : List UInt8) (n N : Nat) (hN : 8 * s.length = N) (hn : n ≤ N) : (List.range (N - n)).any (fun j => M.bitAt s (n + j)) = M.spareB s (n : Nat) := by
  unfold M.spareB
  rw [hN, Bool.eq_iff_iff, List.any_eq_true, List.any_eq_true]
  constructor
  · rintro ⟨j, hj, hb⟩
    rw [List.mem_range] at hj
    exact ⟨n + j, List.mem_range.2 (by omega), by simp only [hb, Bool.and_true, decide_eq_true_eq]; omega⟩
  · rintro ⟨i, hi, hb⟩
    rw [List.mem_range] at hi
    simp only [Bool.and_eq_true, decide_eq_true_eq] at hb
    exact ⟨i - n, List.mem_range.2 (by omega), by rw [show n + (i - n) = i by omega]; exact hb.2⟩
theorem unpack_lay {W : World} {s : List UInt8} {g N n : Nat} (hB : BkB W g N (M.bitAt s)) (hn : n ≤ N) (hN : N ≤ 64000) (hg : g < W.heap.size) : LayB W W.heap.size (M.unpackB s n) (.slice (some ⟨g, 0, none⟩) n N) := by
  have := LayB.row (w := W) (n := W.heap.size) (bs := M.unpackB s n) (b := g) (o := 0) (cap := N) hg (by rw [M.unpack_length]; exact hn) (by unfold maxLen; omega) (fun i x hx => by
    have hi := (List.getElem?_eq_some_iff.1 hx).1
    rw [M.unpack_length] at hi
    rw [Nat.zero_add, hB.1 i (by omega)]
    unfold M.unpackB at hx
    rw [List.getElem?_map, List.getElem?_range hi] at hx
    cases hx
    rfl)
  rwa [M.unpack_length] at this
set_option maxRecDepth 100000 in
set_option maxHeartbeats 4000000 in
theorem alone_any (s : List UInt8) (n : Nat) (w : World) (h : s.length ≤ 8000) (hn : n ≤ 8 * s.length) : Calls Tryz.prog 66 #[.string ⟨s.toArray⟩, .int .i64 (n : Nat)] w fun e w' =>
    (M.spareB s n = false → e = .returned (.slice (some ⟨w.heap.size, 0, none⟩) n (8 * s.length)) ∧ LayB w' w'.heap.size (M.unpackB s n) (.slice (some ⟨w.heap.size, 0, none⟩) n (8 * s.length))) ∧
    (M.spareB s n = true → e = pan 8) ∧ Below w.heap.size w w' := by
  have HB := Lib.hid (bitsOf_any s w h)
  obtain ⟨N, hN⟩ : ∃ N, 8 * s.length = N := ⟨_, rfl⟩
  rw [hN] at hn HB ⊢
  have hN9 : N ≤ 64000 := by omega
  have hsp := spare_tail s n N hN hn
  have HC : Hid (∀ W, BkB W w.heap.size N (M.bitAt s) → ∀ ad o, (N = n ∨ (ad = some ⟨w.heap.size, o, none⟩ ∧ o = n)) → Calls Tryz.prog 147 #[.slice ad (N - n) (N - n), .bool true] W fun e w' => e = .returned (.bool (M.spareB s n)) ∧ w' = W) := by
    intro W hB ad o ho
    rw [← hsp]
    refine contains_any (fun j => M.bitAt s (n + j)) ad o (N - n) (N - n) W (by omega) (fun j hj => ?_)
    rcases ho with ho | ⟨rfl, rfl⟩
    · omega
    · exact ⟨w.heap.size, rfl, hB.1 (o + j) (by omega)⟩
  generalize M.spareB s n = b at *
  clear hsp h
  have hc : ((N : Int) - n) = ((N - n : Nat) : Int) := by omega
  go_enter Tryz.func66, Tryz.ntmps66
  go_wp2_with fail
  refine HB.out.mono ?_
  rintro e w1 ⟨rfl, hB, hb1, hlt⟩
  have HBB := Lib.hid hB
  clear hB hN
  go_wp2_with fail
  case inl h =>
    have HC0 := HC.out w1 HBB.out (some ⟨w.heap.size, 0, none⟩) 0 (.inl h)
    rw [h, Nat.sub_self] at HC0
    subst h
    refine HC0.mono ?_
    rintro e X ⟨rfl, hX⟩
    obtain rfl : w1 = X := hX.symm
    have HN := Lib.hid (need_any (!b) 8)
    go_wp2_with fail
    refine (HN.out _).mono ?_
    rintro e X ⟨rfl, hX⟩
    obtain rfl : w1 = X := hX.symm
    cases b with
    | true => exact ⟨rfl, fun h => by simp at h, fun _ => rfl, hb1⟩
    | false =>
      rw [if_pos (by rfl)]
      go_wp2_with fail
      go_ret
      exact ⟨⟨rfl, unpack_lay HBB.out hn hN9 hlt⟩, hb1⟩
  case inr h =>
    refine (HC.out w1 HBB.out _ n (.inr ⟨rfl, rfl⟩)).mono ?_
    rintro e X ⟨rfl, hX⟩
    obtain rfl : w1 = X := hX.symm
    have HN := Lib.hid (need_any (!b) 8)
    go_wp2_with fail
    refine (HN.out _).mono ?_
    rintro e X ⟨rfl, hX⟩
    obtain rfl : w1 = X := hX.symm
    cases b with
    | true => exact ⟨rfl, fun h => by simp at h, fun _ => rfl, hb1⟩
    | false =>
      rw [if_pos (by rfl)]
      go_wp2_with fail
      go_ret
      exact ⟨⟨rfl, unpack_lay HBB.out hn hN9 hlt⟩, hb1⟩
end Go.Proofs.YtgloapcfmlijlaaGreatDoor
namespace Go.Proofs.YtgloapcfmlijlaaGreatDoor
open Go Go.RowKit Go.Lib

/-- How many bits a byte takes. -/
def l8 (c : Nat) : Nat := if c = 0 then 0 else Nat.log2 c + 1
theorem l8_top : ∀ c : Fin 256, c.val ≠ 0 → 1 ≤ l8 c.val ∧ l8 c.val ≤ 8 ∧ M.nb c.val (l8 c.val - 1) = true ∧ ∀ i : Fin 8, l8 c.val - 1 < i.val → M.nb c.val i.val = false := by decide +kernel

set_option maxRecDepth 100000 in
set_option maxHeartbeats 4000000 in
theorem len8_any (c : UInt8) (w : World) : Calls Tryz.prog 148 #[.int .u8 (c.toNat : Int)] w fun e w' => e = .returned (.int .i64 (l8 c.toNat : Nat)) ∧ w' = w := by
  have hc := c.toNat_lt
  obtain ⟨n, hn⟩ : ∃ n, c.toNat = n := ⟨_, rfl⟩
  rw [hn] at hc ⊢
  clear hn
  go_enter Tryz.func148, Tryz.ntmps148
  go_wp2_with fail
  go_ret
  refine ⟨congrArg (fun x => Ending.returned (Value.int IntKind.i64 x)) (?_ : wrap64 _ = _), rfl⟩
  clear w
  revert n
  decide +kernel

/-- The bits ahead of the one that ends them; what is wrong. -/
def toE (s : List UInt8) (n : Nat) : List Bool × Nat := match M.topB s (8 * s.length) with
  | none => ([], 2)
  | some m => if m < 8 * (s.length - 1) then ([], 2) else if n < m then ([], 5) else (M.unpackB s m, 0)
theorem toE_nil (n : Nat) : toE [] n = ([], 2) := rfl
theorem bit_last {s : List UInt8} {k r : Nat} (hk : s.length = k + 1) (hr : r < 8) : M.bitAt s (8 * k + r) = M.nb (s[k]'(by omega)).toNat r := by
  unfold M.bitAt
  rw [show (8 * k + r) / 8 = k by omega, show (8 * k + r) % 8 = r by omega, List.getD_eq_getElem?_getD, List.getElem?_eq_getElem (by omega)]
  rfl
theorem toE_zero {s : List UInt8} {k : Nat} (n : Nat) (hk : s.length = k + 1) (h0 : (s[k]'(by omega)).toNat = 0) : toE s n = ([], 2) := by
  unfold toE
  cases ht : M.topB s (8 * s.length) with
  | none => rfl
  | some m =>
    obtain ⟨h1, h2, _⟩ := M.top_some ht
    show (if m < 8 * (s.length - 1) then ([], 2) else _) = _
    rw [if_pos]
    rw [hk, Nat.add_sub_cancel]
    rcases Nat.lt_or_ge m (8 * k) with h | h
    · exact h
    · exfalso
      have := bit_last (r := m - 8 * k) hk (by omega)
      rw [show 8 * k + (m - 8 * k) = m by omega, h2, h0] at this
      unfold M.nb at this
      simp at this
theorem toE_some {s : List UInt8} {k : Nat} (n : Nat) (hk : s.length = k + 1) (h0 : (s[k]'(by omega)).toNat ≠ 0) : toE s n = if n < 8 * k + (l8 (s[k]'(by omega)).toNat - 1) then ([], 5) else (M.unpackB s (8 * k + (l8 (s[k]'(by omega)).toNat - 1)), 0) := by
  obtain ⟨a1, a2, a3, a4⟩ := l8_top ⟨(s[k]'(by omega)).toNat, (s[k]'(by omega)).toNat_lt⟩ h0
  have a4' : ∀ i, i < 8 → l8 (s[k]'(by omega)).toNat - 1 < i → M.nb (s[k]'(by omega)).toNat i = false := fun i hi => a4 ⟨i, hi⟩
  simp only at a1 a2 a3
  have ht : M.topB s (8 * s.length) = some (8 * k + (l8 (s[k]'(by omega)).toNat - 1)) := by
    refine M.top_is (by omega) ?_ fun i h1 h2 => ?_
    · rw [bit_last hk (by omega)]; exact a3
    · have := bit_last (r := i - 8 * k) hk (by omega)
      rw [show 8 * k + (i - 8 * k) = i by omega] at this
      rw [this]
      exact a4' _ (by omega) (by omega)
  unfold toE
  rw [ht]
  show (if _ < 8 * (s.length - 1) then _ else _) = _
  rw [if_neg (by omega)]
set_option maxRecDepth 100000 in
set_option maxHeartbeats 4000000 in
theorem toEnd_any (s : List UInt8) (n : Nat) (w : World) (h : s.length ≤ 8000) (_hn : n ≤ 1000000) : Calls Tryz.prog 67 #[.string ⟨s.toArray⟩, .int .i64 (n : Nat)] w fun e w' =>
    ((toE s n).2 = 0 → e = .returned (.slice (some ⟨w.heap.size, 0, none⟩) (toE s n).1.length (8 * s.length)) ∧ LayB w' w'.heap.size (toE s n).1 (.slice (some ⟨w.heap.size, 0, none⟩) (toE s n).1.length (8 * s.length))) ∧
    ((toE s n).2 ≠ 0 → e = pan (toE s n).2) ∧ Below w.heap.size w w' := by
  have HN0 := Lib.hid (need_any false 2)
  by_cases hs : s = []
  · subst hs
    rw [toE_nil]
    go_enter Tryz.func67, Tryz.ntmps67
    go_wp2_with fail
    refine (HN0.out _).mono ?_
    rintro e X ⟨rfl, hX⟩
    obtain rfl : w = X := hX.symm
    exact ⟨rfl, fun h => by simp at h, fun _ => rfl, Below.refl _ _⟩
  · obtain ⟨k, hk⟩ : ∃ k, s.length = k + 1 := ⟨s.length - 1, by have := List.length_pos_iff.2 hs; omega⟩
    have hk8 : k < 8000 := by omega
    have hkl : k < s.length := by omega
    obtain ⟨c, hc⟩ : ∃ c, s[k] = c := ⟨_, rfl⟩
    have ec : ((⟨s.toArray⟩ : ByteArray)[k]'(by simpa [ByteArray.size] using hkl)) = c := hc
    have HB := Lib.hid (bitsOf_any s w h)
    rw [hk] at HB
    have he : s.isEmpty = false := by cases s with | nil => exact absurd rfl hs | cons _ _ => rfl
    by_cases h0 : c.toNat = 0
    · rw [toE_zero n hk (by rw [hc]; exact h0)]
      go_enter Tryz.func67, Tryz.ntmps67
      go_wp2_with fail
      refine (HN0.out _).mono ?_
      rintro e X ⟨rfl, hX⟩
      obtain rfl : w = X := hX.symm
      exact ⟨rfl, fun h => by simp at h, fun _ => rfl, Below.refl _ _⟩
    · rw [toE_some n hk (by rw [hc]; exact h0), hc]
      have HL := Lib.hid (len8_any c)
      have HN1 := Lib.hid (need_any true 2)
      have h0i : ((c.toNat : Int) != 0) = true := by simp; omega
      obtain ⟨a1, a2, _, _⟩ := l8_top ⟨c.toNat, c.toNat_lt⟩ h0
      simp only at a1 a2
      obtain ⟨b, hb⟩ : ∃ b, l8 c.toNat = b := ⟨_, rfl⟩
      rw [hb] at a1 a2 HL ⊢
      obtain ⟨m, hm⟩ : ∃ m, 8 * k + (b - 1) = m := ⟨_, rfl⟩
      have em : 8 * (k : Int) + b - 1 = (m : Int) := by omega
      have hm9 : m ≤ 8 * (k + 1) := by omega
      rw [hm]
      obtain ⟨T, hT⟩ : ∃ T, (if n < m then (([] : List Bool), 5) else (M.unpackB s m, 0)) = T := ⟨_, rfl⟩
      rw [hT]
      have HT := Lib.hid hT
      clear hb hm h0 hT
      go_enter Tryz.func67, Tryz.ntmps67
      go_wp2_with fail
      refine (HN1.out _).mono ?_
      rintro e X ⟨rfl, hX⟩
      obtain rfl : w = X := hX.symm
      go_wp2_with fail
      refine (HL.out _).mono ?_
      rintro e X ⟨rfl, hX⟩
      obtain rfl : w = X := hX.symm
      have HN5 := Lib.hid (need_any (decide (m ≤ n)) 5)
      go_wp2_with fail
      refine (HN5.out _).mono ?_
      rintro e X ⟨rfl, hX⟩
      obtain rfl : w = X := hX.symm
      by_cases hmn : n < m
      · rw [if_neg (by simp; omega)]
        obtain rfl : T = ([], 5) := by rw [← HT.out, if_pos hmn]
        exact ⟨rfl, fun h => by simp at h, fun _ => rfl, Below.refl _ _⟩
      · rw [if_pos (by simp; omega)]
        have eT : T = (M.unpackB s m, 0) := by rw [← HT.out, if_neg hmn]
        subst eT
        have HLm : Hid (m ≤ n) := by show _ ≤ _; omega
        go_wp2_with fail
        refine HB.out.mono ?_
        rintro e w1 ⟨rfl, hB, hb1, hlt⟩
        have HBB := Lib.hid hB
        clear hB
        obtain ⟨M8, hM8⟩ : ∃ M8, 8 * (k + 1) = M8 := ⟨_, rfl⟩
        rw [hM8] at hm9 HBB
        have hM9 : M8 ≤ 64000 := by omega
        rw [hM8]
        have HM8 := Lib.hid hM8
        clear hM8
        go_wp2_with fail
        go_ret
        rw [M.unpack_length, HM8.out]
        exact ⟨⟨rfl, unpack_lay HBB.out hm9 hM9 hlt⟩, hb1⟩
end Go.Proofs.YtgloapcfmlijlaaGreatDoor
