/- The landed package ssz: get, of rows and of one of several. The landed package ssz: get, of lists. The landed package ssz: get, of all kinds. -/
import Derived.Test.YtgloapcfmlijlaaGreatDoorK16
namespace Go.Proofs.YtgloapcfmlijlaaGreatDoor
open Go Go.RowKit Go.Lib
attribute [local go_sem] Oper.semAt_some

/-- What a callee handed back is not touched by a store to a block of the caller's. -/
theorem got_keep {w0 w1 Z : World} {lo n r N : Nat} {bs : List Bool} {us : List M.Va} {ab : Option Addr} {cb : Nat} {au : Option Addr} {cu : Nat} (hV : VlS w0.heap.size w1.heap.size N bs us ab cb au cu w1) (hr : r < w0.heap.size) (hk : ∀ b, b ≠ r → Z.heap[b]? = w1.heap[b]?) (hlo : lo ≤ w0.heap.size) (hn : w1.heap.size ≤ n) : VlS lo n N bs us ab cb au cu Z :=
  (hV.agree (.blocks fun b h1 _ => hk b (by omega))).mono hlo hn

set_option maxRecDepth 100000 in
set_option maxHeartbeats 4000000 in
theorem get_8 (z : Nat) (ih : Hid (GetC z)) (n : Int) (ts : List M.Ty) (a : Option Addr) (cap : Nat) (wd : Nat) (s : List UInt8) (w : World) (hs : SizeOf.sizeOf ts ≤ z + 1) (hL : LayT w w.heap.size ts (.slice a ts.length cap)) (hct : M.cntTs ts ≤ 999) (hchk : ∃ d, M.chkTs d ts = 0) (ht : ts.length ≤ 8) (hl : s.length ≤ 8000) :
    Calls Tryz.prog 32 #[pv 8 n (.slice a ts.length cap) false wd, .string ⟨s.toArray⟩] w (GotC w (M.oneG ts s)) := by
  obtain ⟨w0, hw0⟩ : ∃ w0, (w.alloc (.cells #[.int .i64 8, .int .i64 n, .slice a ts.length cap, .bool false, .int .i64 (wd : Nat)] 56)).alloc (.cells #[.int .u64 0, .int .u64 0, .int .u64 0, .int .u64 0, .slice none 0 0, .slice none 0 0, .int .i64 0] 33) = w0 := ⟨_, rfl⟩
  have hb0 : Below w.heap.size w w0 := by rw [← hw0]; exact ((Below.refl _ _).alloc (Nat.le_refl _) _).alloc (by simp) _
  have hP0 : PBox w0 w.heap.size 8 n (.slice a ts.length cap) false wd := by
    rw [← hw0]
    exact (Below.heap_alloc _ _ _ (by simp)).trans (World.alloc_heap_new _ _)
  have hr0 : w0.heap[w.heap.size + 1]? = some (.cells #[.int .u64 0, .int .u64 0, .int .u64 0, .int .u64 0, .slice none 0 0, .slice none 0 0, .int .i64 0] 33 (0, 0)) := by
    rw [← hw0]
    have := World.alloc_heap_new (w.alloc (.cells #[.int .i64 8, .int .i64 n, .slice a ts.length cap, .bool false, .int .i64 (wd : Nat)] 56)) (.cells #[.int .u64 0, .int .u64 0, .int .u64 0, .int .u64 0, .slice none 0 0, .slice none 0 0, .int .i64 0] 33)
    rwa [World.size_alloc] at this
  have hz0 : w.heap.size + 1 < w0.heap.size := by rw [← hw0]; simp
  have HZ : Hid (w0.heap.size = w.heap.size + 2) := by show _ = _; rw [← hw0]; simp
  have HW := Lib.hid hw0
  clear hw0
  have p0 : w0.cell? ⟨w.heap.size, 0, none⟩ = some (.int .i64 8) := by simp [World.cell?, show w0.heap[w.heap.size]? = _ from hP0]
  have p1 : w0.cell? ⟨w.heap.size, 1, none⟩ = some (.int .i64 n) := by simp [World.cell?, show w0.heap[w.heap.size]? = _ from hP0]
  have p2 : w0.cell? ⟨w.heap.size, 2, none⟩ = some (.slice a ts.length cap) := by simp [World.cell?, show w0.heap[w.heap.size]? = _ from hP0]
  have p3 : w0.cell? ⟨w.heap.size, 3, none⟩ = some (.bool false) := by simp [World.cell?, show w0.heap[w.heap.size]? = _ from hP0]
  have p4 : w0.cell? ⟨w.heap.size, 4, none⟩ = some (.int .i64 (wd : Nat)) := by simp [World.cell?, show w0.heap[w.heap.size]? = _ from hP0]
  have hL0 := (hL.from_ hb0).mono hb0.size
  have h00 := hb0.size
  have HR := Lib.hid (oneOf_any z ih n ts a cap s w0 hs hL0 hct hchk ht hl)
  generalize M.oneG ts s = r at *
  have HT := Lib.hid (need_any true 2)
  clear hL hs hct hchk
  go_enter Tryz.func32, Tryz.ntmps32
  go_wp2_with fail
  rw [HW.out]
  refine (HT.out _).mono ?_
  rintro e X ⟨rfl, hX⟩
  obtain rfl : w0 = X := hX.symm
  go_wp2_with fail
  refine HR.out.mono ?_
  rintro e w1 ⟨hok, hno, hb1⟩
  rcases Nat.eq_zero_or_pos r.2 with hq | hq
  case inr =>
    rw [hno (by omega)]
    exact ⟨rfl, fun h => absurd h (by omega), fun _ => rfl, hb0.trans (hb1.mono hb0.size)⟩
  obtain ⟨N, bs, us, p, ab, cb, au, cu, hr1, rfl, hV⟩ := hok hq
  have HV := Lib.hid hV
  have HR1 := Lib.hid hr1
  have HQ := Lib.hid hq
  have hr2 := (hb1.block _ hz0).trans hr0
  have hbw1 := hb0.trans (hb1.mono hb0.size)
  have hz1 := hb1.size
  obtain ⟨⟨_, i0⟩, ⟨_, i1⟩, ⟨_, i2⟩, ⟨_, i3⟩, ⟨_, i4⟩, ⟨_, i5⟩, ⟨_, i6⟩, f0, f1, f2, f3, f4, f5, f6⟩ := cells_w7 hr2
  clear p0 p1 p2 p3 p4 hok hno hV hr1 hq
  go_wp2_with fail
  exact val_post rfl w w1 _ N _ _ p _ (by omega) hbw1 _ _ _ _ _ _ _ hr2 _ rfl fun Z hZ hz hk => ⟨fun _ => ⟨N, bs, us, p, ab, cb, au, cu, HR1.out, rfl, got_keep HV.out hz0 hk h00 (by omega)⟩, fun h => absurd HQ.out h, hZ⟩
set_option maxRecDepth 100000 in
set_option maxHeartbeats 4000000 in
theorem get_7f (z : Nat) (ih : Hid (GetC z)) (n : Int) (ts : List M.Ty) (a : Option Addr) (cap : Nat) (wd : Nat) (s : List UInt8) (w : World) (hs : SizeOf.sizeOf ts ≤ z + 1) (hL : LayT w w.heap.size ts (.slice a ts.length cap)) (hct : M.cntTs ts ≤ 999) (hchk : ∃ d, M.chkTs d ts = 0) (ht : ts.length ≤ 16) (hl : s.length ≤ 8000) :
    Calls Tryz.prog 32 #[pv 7 n (.slice a ts.length cap) false wd, .string ⟨s.toArray⟩] w (GotC w (M.rowG ts ts.length s)) := by
  have hit : ts.length ≤ 6000 := by omega
  obtain ⟨w0, hw0⟩ : ∃ w0, (w.alloc (.cells #[.int .i64 7, .int .i64 n, .slice a ts.length cap, .bool false, .int .i64 (wd : Nat)] 56)).alloc (.cells #[.int .u64 0, .int .u64 0, .int .u64 0, .int .u64 0, .slice none 0 0, .slice none 0 0, .int .i64 0] 33) = w0 := ⟨_, rfl⟩
  have hb0 : Below w.heap.size w w0 := by rw [← hw0]; exact ((Below.refl _ _).alloc (Nat.le_refl _) _).alloc (by simp) _
  have hP0 : PBox w0 w.heap.size 7 n (.slice a ts.length cap) false wd := by
    rw [← hw0]
    exact (Below.heap_alloc _ _ _ (by simp)).trans (World.alloc_heap_new _ _)
  have hr0 : w0.heap[w.heap.size + 1]? = some (.cells #[.int .u64 0, .int .u64 0, .int .u64 0, .int .u64 0, .slice none 0 0, .slice none 0 0, .int .i64 0] 33 (0, 0)) := by
    rw [← hw0]
    have := World.alloc_heap_new (w.alloc (.cells #[.int .i64 7, .int .i64 n, .slice a ts.length cap, .bool false, .int .i64 (wd : Nat)] 56)) (.cells #[.int .u64 0, .int .u64 0, .int .u64 0, .int .u64 0, .slice none 0 0, .slice none 0 0, .int .i64 0] 33)
    rwa [World.size_alloc] at this
  have hz0 : w.heap.size + 1 < w0.heap.size := by rw [← hw0]; simp
  have HZ : Hid (w0.heap.size = w.heap.size + 2) := by show _ = _; rw [← hw0]; simp
  have HW := Lib.hid hw0
  clear hw0
  have p0 : w0.cell? ⟨w.heap.size, 0, none⟩ = some (.int .i64 7) := by simp [World.cell?, show w0.heap[w.heap.size]? = _ from hP0]
  have p1 : w0.cell? ⟨w.heap.size, 1, none⟩ = some (.int .i64 n) := by simp [World.cell?, show w0.heap[w.heap.size]? = _ from hP0]
  have p2 : w0.cell? ⟨w.heap.size, 2, none⟩ = some (.slice a ts.length cap) := by simp [World.cell?, show w0.heap[w.heap.size]? = _ from hP0]
  have p3 : w0.cell? ⟨w.heap.size, 3, none⟩ = some (.bool false) := by simp [World.cell?, show w0.heap[w.heap.size]? = _ from hP0]
  have p4 : w0.cell? ⟨w.heap.size, 4, none⟩ = some (.int .i64 (wd : Nat)) := by simp [World.cell?, show w0.heap[w.heap.size]? = _ from hP0]
  have hL0 := (hL.from_ hb0).mono hb0.size
  have h00 := hb0.size
  have HR := Lib.hid (getRow_any z ih 7 n ts a cap ts.length s w0 hs hL0 hct hchk hit (fun _ => by omega) hl)
  generalize M.rowG ts ts.length s = r at *
  have HT := Lib.hid (need_any true 2)
  clear hL hs hct hchk
  go_enter Tryz.func32, Tryz.ntmps32
  go_wp2_with fail
  rw [HW.out]
  refine (HT.out _).mono ?_
  rintro e X ⟨rfl, hX⟩
  obtain rfl : w0 = X := hX.symm
  go_wp2_with fail
  refine HR.out.mono ?_
  rintro e w1 ⟨hok, hno, hb1⟩
  rcases Nat.eq_zero_or_pos r.2 with hq | hq
  case inr =>
    rw [hno (by omega)]
    exact ⟨rfl, fun h => absurd h (by omega), fun _ => rfl, hb0.trans (hb1.mono hb0.size)⟩
  obtain ⟨N, bs, us, p, ab, cb, au, cu, hr1, rfl, hV⟩ := hok hq
  have HV := Lib.hid hV
  have HR1 := Lib.hid hr1
  have HQ := Lib.hid hq
  have hr2 := (hb1.block _ hz0).trans hr0
  have hbw1 := hb0.trans (hb1.mono hb0.size)
  have hz1 := hb1.size
  obtain ⟨⟨_, i0⟩, ⟨_, i1⟩, ⟨_, i2⟩, ⟨_, i3⟩, ⟨_, i4⟩, ⟨_, i5⟩, ⟨_, i6⟩, f0, f1, f2, f3, f4, f5, f6⟩ := cells_w7 hr2
  clear p0 p1 p2 p3 p4 hok hno hV hr1 hq
  go_wp2_with fail
  exact val_post rfl w w1 _ N _ _ p _ (by omega) hbw1 _ _ _ _ _ _ _ hr2 _ rfl fun Z hZ hz hk => ⟨fun _ => ⟨N, bs, us, p, ab, cb, au, cu, HR1.out, rfl, got_keep HV.out hz0 hk h00 (by omega)⟩, fun h => absurd HQ.out h, hZ⟩
set_option maxRecDepth 100000 in
set_option maxHeartbeats 4000000 in
theorem get_7t (z : Nat) (ih : Hid (GetC z)) (n : Int) (ts : List M.Ty) (a : Option Addr) (cap : Nat) (wd : Nat) (s : List UInt8) (w : World) (hs : SizeOf.sizeOf ts ≤ z + 1) (hL : LayT w w.heap.size ts (.slice a ts.length cap)) (hct : M.cntTs ts ≤ 999) (hchk : ∃ d, M.chkTs d ts = 0) (ht : ts.length ≤ 16) (hl : s.length ≤ 8000) :
    Calls Tryz.prog 32 #[pv 7 n (.slice a ts.length cap) true wd, .string ⟨s.toArray⟩] w (GotC w (if s.length ≠ wd then (M.noV, 2) else M.rowG ts ts.length s)) := by
  have hit : ts.length ≤ 6000 := by omega
  obtain ⟨w0, hw0⟩ : ∃ w0, (w.alloc (.cells #[.int .i64 7, .int .i64 n, .slice a ts.length cap, .bool true, .int .i64 (wd : Nat)] 56)).alloc (.cells #[.int .u64 0, .int .u64 0, .int .u64 0, .int .u64 0, .slice none 0 0, .slice none 0 0, .int .i64 0] 33) = w0 := ⟨_, rfl⟩
  have hb0 : Below w.heap.size w w0 := by rw [← hw0]; exact ((Below.refl _ _).alloc (Nat.le_refl _) _).alloc (by simp) _
  have hP0 : PBox w0 w.heap.size 7 n (.slice a ts.length cap) true wd := by
    rw [← hw0]
    exact (Below.heap_alloc _ _ _ (by simp)).trans (World.alloc_heap_new _ _)
  have hr0 : w0.heap[w.heap.size + 1]? = some (.cells #[.int .u64 0, .int .u64 0, .int .u64 0, .int .u64 0, .slice none 0 0, .slice none 0 0, .int .i64 0] 33 (0, 0)) := by
    rw [← hw0]
    have := World.alloc_heap_new (w.alloc (.cells #[.int .i64 7, .int .i64 n, .slice a ts.length cap, .bool true, .int .i64 (wd : Nat)] 56)) (.cells #[.int .u64 0, .int .u64 0, .int .u64 0, .int .u64 0, .slice none 0 0, .slice none 0 0, .int .i64 0] 33)
    rwa [World.size_alloc] at this
  have hz0 : w.heap.size + 1 < w0.heap.size := by rw [← hw0]; simp
  have HZ : Hid (w0.heap.size = w.heap.size + 2) := by show _ = _; rw [← hw0]; simp
  have HW := Lib.hid hw0
  clear hw0
  have p0 : w0.cell? ⟨w.heap.size, 0, none⟩ = some (.int .i64 7) := by simp [World.cell?, show w0.heap[w.heap.size]? = _ from hP0]
  have p1 : w0.cell? ⟨w.heap.size, 1, none⟩ = some (.int .i64 n) := by simp [World.cell?, show w0.heap[w.heap.size]? = _ from hP0]
  have p2 : w0.cell? ⟨w.heap.size, 2, none⟩ = some (.slice a ts.length cap) := by simp [World.cell?, show w0.heap[w.heap.size]? = _ from hP0]
  have p3 : w0.cell? ⟨w.heap.size, 3, none⟩ = some (.bool true) := by simp [World.cell?, show w0.heap[w.heap.size]? = _ from hP0]
  have p4 : w0.cell? ⟨w.heap.size, 4, none⟩ = some (.int .i64 (wd : Nat)) := by simp [World.cell?, show w0.heap[w.heap.size]? = _ from hP0]
  have hL0 := (hL.from_ hb0).mono hb0.size
  have h00 := hb0.size
  by_cases hl2 : s.length ≠ wd
  case pos =>
    rw [if_pos hl2]
    have HT := Lib.hid (need_any false 2)
    have hlb : ((s.length : Int) == (wd : Int)) = false := by rw [beq_eq_false_iff_ne]; omega
    go_enter Tryz.func32, Tryz.ntmps32
    go_wp2_with fail
    rw [HW.out]
    refine (HT.out _).mono ?_
    rintro e X ⟨rfl, hX⟩
    obtain rfl : w0 = X := hX.symm
    exact ⟨rfl, fun h => absurd h (by simp), fun _ => rfl, hb0⟩
  rw [if_neg hl2]
  have HR := Lib.hid (getRow_any z ih 7 n ts a cap ts.length s w0 hs hL0 hct hchk hit (fun _ => by omega) hl)
  generalize M.rowG ts ts.length s = r at *
  have HT := Lib.hid (need_any true 2)
  have hli : (s.length : Int) = wd := by omega
  clear hL hs hct hchk
  go_enter Tryz.func32, Tryz.ntmps32
  go_wp2_with fail
  rw [HW.out]
  refine (HT.out _).mono ?_
  rintro e X ⟨rfl, hX⟩
  obtain rfl : w0 = X := hX.symm
  go_wp2_with fail
  refine HR.out.mono ?_
  rintro e w1 ⟨hok, hno, hb1⟩
  rcases Nat.eq_zero_or_pos r.2 with hq | hq
  case inr =>
    rw [hno (by omega)]
    exact ⟨rfl, fun h => absurd h (by omega), fun _ => rfl, hb0.trans (hb1.mono hb0.size)⟩
  obtain ⟨N, bs, us, p, ab, cb, au, cu, hr1, rfl, hV⟩ := hok hq
  have HV := Lib.hid hV
  have HR1 := Lib.hid hr1
  have HQ := Lib.hid hq
  have hr2 := (hb1.block _ hz0).trans hr0
  have hbw1 := hb0.trans (hb1.mono hb0.size)
  have hz1 := hb1.size
  obtain ⟨⟨_, i0⟩, ⟨_, i1⟩, ⟨_, i2⟩, ⟨_, i3⟩, ⟨_, i4⟩, ⟨_, i5⟩, ⟨_, i6⟩, f0, f1, f2, f3, f4, f5, f6⟩ := cells_w7 hr2
  clear p0 p1 p2 p3 p4 hok hno hV hr1 hq
  go_wp2_with fail
  exact val_post rfl w w1 _ N _ _ p _ (by omega) hbw1 _ _ _ _ _ _ _ hr2 _ rfl fun Z hZ hz hk => ⟨fun _ => ⟨N, bs, us, p, ab, cb, au, cu, HR1.out, rfl, got_keep HV.out hz0 hk h00 (by omega)⟩, fun h => absurd HQ.out h, hZ⟩
set_option maxRecDepth 100000 in
set_option maxHeartbeats 4000000 in
theorem get_3f (z : Nat) (ih : Hid (GetC z)) (n : Int) (ts : List M.Ty) (a : Option Addr) (cap : Nat) (wd : Nat) (s : List UInt8) (w : World) (hs : SizeOf.sizeOf ts ≤ z + 1) (hL : LayT w w.heap.size ts (.slice a ts.length cap)) (hct : M.cntTs ts ≤ 999) (hchk : ∃ d, M.chkTs d ts = 0) (m : Nat) (hm : n = (m : Int)) (hm2 : m ≤ 512) (hm3 : 1 ≤ ts.length) (hl : s.length ≤ 8000) :
    Calls Tryz.prog 32 #[pv 3 n (.slice a ts.length cap) false wd, .string ⟨s.toArray⟩] w (GotC w (M.rowG ts m s)) := by
  subst hm
  obtain ⟨w0, hw0⟩ : ∃ w0, (w.alloc (.cells #[.int .i64 3, .int .i64 (m : Int), .slice a ts.length cap, .bool false, .int .i64 (wd : Nat)] 56)).alloc (.cells #[.int .u64 0, .int .u64 0, .int .u64 0, .int .u64 0, .slice none 0 0, .slice none 0 0, .int .i64 0] 33) = w0 := ⟨_, rfl⟩
  have hb0 : Below w.heap.size w w0 := by rw [← hw0]; exact ((Below.refl _ _).alloc (Nat.le_refl _) _).alloc (by simp) _
  have hP0 : PBox w0 w.heap.size 3 (m : Int) (.slice a ts.length cap) false wd := by
    rw [← hw0]
    exact (Below.heap_alloc _ _ _ (by simp)).trans (World.alloc_heap_new _ _)
  have hr0 : w0.heap[w.heap.size + 1]? = some (.cells #[.int .u64 0, .int .u64 0, .int .u64 0, .int .u64 0, .slice none 0 0, .slice none 0 0, .int .i64 0] 33 (0, 0)) := by
    rw [← hw0]
    have := World.alloc_heap_new (w.alloc (.cells #[.int .i64 3, .int .i64 (m : Int), .slice a ts.length cap, .bool false, .int .i64 (wd : Nat)] 56)) (.cells #[.int .u64 0, .int .u64 0, .int .u64 0, .int .u64 0, .slice none 0 0, .slice none 0 0, .int .i64 0] 33)
    rwa [World.size_alloc] at this
  have hz0 : w.heap.size + 1 < w0.heap.size := by rw [← hw0]; simp
  have HZ : Hid (w0.heap.size = w.heap.size + 2) := by show _ = _; rw [← hw0]; simp
  have HW := Lib.hid hw0
  clear hw0
  have p0 : w0.cell? ⟨w.heap.size, 0, none⟩ = some (.int .i64 3) := by simp [World.cell?, show w0.heap[w.heap.size]? = _ from hP0]
  have p1 : w0.cell? ⟨w.heap.size, 1, none⟩ = some (.int .i64 (m : Int)) := by simp [World.cell?, show w0.heap[w.heap.size]? = _ from hP0]
  have p2 : w0.cell? ⟨w.heap.size, 2, none⟩ = some (.slice a ts.length cap) := by simp [World.cell?, show w0.heap[w.heap.size]? = _ from hP0]
  have p3 : w0.cell? ⟨w.heap.size, 3, none⟩ = some (.bool false) := by simp [World.cell?, show w0.heap[w.heap.size]? = _ from hP0]
  have p4 : w0.cell? ⟨w.heap.size, 4, none⟩ = some (.int .i64 (wd : Nat)) := by simp [World.cell?, show w0.heap[w.heap.size]? = _ from hP0]
  have hL0 := (hL.from_ hb0).mono hb0.size
  have h00 := hb0.size
  have HR := Lib.hid (getRow_any z ih 3 (m : Int) ts a cap m s w0 hs hL0 hct hchk (by omega) (fun _ => hm3) hl)
  generalize M.rowG ts m s = r at *
  have HT := Lib.hid (need_any true 2)
  clear hL hs hct hchk
  go_enter Tryz.func32, Tryz.ntmps32
  go_wp2_with fail
  rw [HW.out]
  refine (HT.out _).mono ?_
  rintro e X ⟨rfl, hX⟩
  obtain rfl : w0 = X := hX.symm
  go_wp2_with fail
  refine HR.out.mono ?_
  rintro e w1 ⟨hok, hno, hb1⟩
  rcases Nat.eq_zero_or_pos r.2 with hq | hq
  case inr =>
    rw [hno (by omega)]
    exact ⟨rfl, fun h => absurd h (by omega), fun _ => rfl, hb0.trans (hb1.mono hb0.size)⟩
  obtain ⟨N, bs, us, p, ab, cb, au, cu, hr1, rfl, hV⟩ := hok hq
  have HV := Lib.hid hV
  have HR1 := Lib.hid hr1
  have HQ := Lib.hid hq
  have hr2 := (hb1.block _ hz0).trans hr0
  have hbw1 := hb0.trans (hb1.mono hb0.size)
  have hz1 := hb1.size
  obtain ⟨⟨_, i0⟩, ⟨_, i1⟩, ⟨_, i2⟩, ⟨_, i3⟩, ⟨_, i4⟩, ⟨_, i5⟩, ⟨_, i6⟩, f0, f1, f2, f3, f4, f5, f6⟩ := cells_w7 hr2
  clear p0 p1 p2 p3 p4 hok hno hV hr1 hq
  go_wp2_with fail
  exact val_post rfl w w1 _ N _ _ p _ (by omega) hbw1 _ _ _ _ _ _ _ hr2 _ rfl fun Z hZ hz hk => ⟨fun _ => ⟨N, bs, us, p, ab, cb, au, cu, HR1.out, rfl, got_keep HV.out hz0 hk h00 (by omega)⟩, fun h => absurd HQ.out h, hZ⟩
set_option maxRecDepth 100000 in
set_option maxHeartbeats 4000000 in
theorem get_3t (z : Nat) (ih : Hid (GetC z)) (n : Int) (ts : List M.Ty) (a : Option Addr) (cap : Nat) (wd : Nat) (s : List UInt8) (w : World) (hs : SizeOf.sizeOf ts ≤ z + 1) (hL : LayT w w.heap.size ts (.slice a ts.length cap)) (hct : M.cntTs ts ≤ 999) (hchk : ∃ d, M.chkTs d ts = 0) (m : Nat) (hm : n = (m : Int)) (hm2 : m ≤ 512) (hm3 : 1 ≤ ts.length) (hl : s.length ≤ 8000) :
    Calls Tryz.prog 32 #[pv 3 n (.slice a ts.length cap) true wd, .string ⟨s.toArray⟩] w (GotC w (if s.length ≠ wd then (M.noV, 2) else M.rowG ts m s)) := by
  subst hm
  obtain ⟨w0, hw0⟩ : ∃ w0, (w.alloc (.cells #[.int .i64 3, .int .i64 (m : Int), .slice a ts.length cap, .bool true, .int .i64 (wd : Nat)] 56)).alloc (.cells #[.int .u64 0, .int .u64 0, .int .u64 0, .int .u64 0, .slice none 0 0, .slice none 0 0, .int .i64 0] 33) = w0 := ⟨_, rfl⟩
  have hb0 : Below w.heap.size w w0 := by rw [← hw0]; exact ((Below.refl _ _).alloc (Nat.le_refl _) _).alloc (by simp) _
  have hP0 : PBox w0 w.heap.size 3 (m : Int) (.slice a ts.length cap) true wd := by
    rw [← hw0]
    exact (Below.heap_alloc _ _ _ (by simp)).trans (World.alloc_heap_new _ _)
  have hr0 : w0.heap[w.heap.size + 1]? = some (.cells #[.int .u64 0, .int .u64 0, .int .u64 0, .int .u64 0, .slice none 0 0, .slice none 0 0, .int .i64 0] 33 (0, 0)) := by
    rw [← hw0]
    have := World.alloc_heap_new (w.alloc (.cells #[.int .i64 3, .int .i64 (m : Int), .slice a ts.length cap, .bool true, .int .i64 (wd : Nat)] 56)) (.cells #[.int .u64 0, .int .u64 0, .int .u64 0, .int .u64 0, .slice none 0 0, .slice none 0 0, .int .i64 0] 33)
    rwa [World.size_alloc] at this
  have hz0 : w.heap.size + 1 < w0.heap.size := by rw [← hw0]; simp
  have HZ : Hid (w0.heap.size = w.heap.size + 2) := by show _ = _; rw [← hw0]; simp
  have HW := Lib.hid hw0
  clear hw0
  have p0 : w0.cell? ⟨w.heap.size, 0, none⟩ = some (.int .i64 3) := by simp [World.cell?, show w0.heap[w.heap.size]? = _ from hP0]
  have p1 : w0.cell? ⟨w.heap.size, 1, none⟩ = some (.int .i64 (m : Int)) := by simp [World.cell?, show w0.heap[w.heap.size]? = _ from hP0]
  have p2 : w0.cell? ⟨w.heap.size, 2, none⟩ = some (.slice a ts.length cap) := by simp [World.cell?, show w0.heap[w.heap.size]? = _ from hP0]
  have p3 : w0.cell? ⟨w.heap.size, 3, none⟩ = some (.bool true) := by simp [World.cell?, show w0.heap[w.heap.size]? = _ from hP0]
  have p4 : w0.cell? ⟨w.heap.size, 4, none⟩ = some (.int .i64 (wd : Nat)) := by simp [World.cell?, show w0.heap[w.heap.size]? = _ from hP0]
  have hL0 := (hL.from_ hb0).mono hb0.size
  have h00 := hb0.size
  by_cases hl2 : s.length ≠ wd
  case pos =>
    rw [if_pos hl2]
    have HT := Lib.hid (need_any false 2)
    have hlb : ((s.length : Int) == (wd : Int)) = false := by rw [beq_eq_false_iff_ne]; omega
    go_enter Tryz.func32, Tryz.ntmps32
    go_wp2_with fail
    rw [HW.out]
    refine (HT.out _).mono ?_
    rintro e X ⟨rfl, hX⟩
    obtain rfl : w0 = X := hX.symm
    exact ⟨rfl, fun h => absurd h (by simp), fun _ => rfl, hb0⟩
  rw [if_neg hl2]
  have HR := Lib.hid (getRow_any z ih 3 (m : Int) ts a cap m s w0 hs hL0 hct hchk (by omega) (fun _ => hm3) hl)
  generalize M.rowG ts m s = r at *
  have HT := Lib.hid (need_any true 2)
  have hli : (s.length : Int) = wd := by omega
  clear hL hs hct hchk
  go_enter Tryz.func32, Tryz.ntmps32
  go_wp2_with fail
  rw [HW.out]
  refine (HT.out _).mono ?_
  rintro e X ⟨rfl, hX⟩
  obtain rfl : w0 = X := hX.symm
  go_wp2_with fail
  refine HR.out.mono ?_
  rintro e w1 ⟨hok, hno, hb1⟩
  rcases Nat.eq_zero_or_pos r.2 with hq | hq
  case inr =>
    rw [hno (by omega)]
    exact ⟨rfl, fun h => absurd h (by omega), fun _ => rfl, hb0.trans (hb1.mono hb0.size)⟩
  obtain ⟨N, bs, us, p, ab, cb, au, cu, hr1, rfl, hV⟩ := hok hq
  have HV := Lib.hid hV
  have HR1 := Lib.hid hr1
  have HQ := Lib.hid hq
  have hr2 := (hb1.block _ hz0).trans hr0
  have hbw1 := hb0.trans (hb1.mono hb0.size)
  have hz1 := hb1.size
  obtain ⟨⟨_, i0⟩, ⟨_, i1⟩, ⟨_, i2⟩, ⟨_, i3⟩, ⟨_, i4⟩, ⟨_, i5⟩, ⟨_, i6⟩, f0, f1, f2, f3, f4, f5, f6⟩ := cells_w7 hr2
  clear p0 p1 p2 p3 p4 hok hno hV hr1 hq
  go_wp2_with fail
  exact val_post rfl w w1 _ N _ _ p _ (by omega) hbw1 _ _ _ _ _ _ _ hr2 _ rfl fun Z hZ hz hk => ⟨fun _ => ⟨N, bs, us, p, ab, cb, au, cu, HR1.out, rfl, got_keep HV.out hz0 hk h00 (by omega)⟩, fun h => absurd HQ.out h, hZ⟩
end Go.Proofs.YtgloapcfmlijlaaGreatDoor
namespace Go.Proofs.YtgloapcfmlijlaaGreatDoor
open Go Go.RowKit Go.Lib
attribute [local go_sem] Oper.semAt_some

theorem itE_le {f : Bool} {wd : Nat} {n : Int} {s : List UInt8} (hn : 0 ≤ n) (h : (itE f wd n s).2 = 0) : ((itE f wd n s).1 : Int) ≤ n := by
  unfold itE at h ⊢
  split at h
  · rw [if_pos (by assumption)]; simpa using hn
  · rename_i h1
    rw [if_neg h1]
    split at h
    · rename_i h2
      rw [if_pos h2]
      split at h
      · simp at h
      · rename_i h3
        rw [if_neg h3]
        split at h
        · simp at h
        · rename_i h4
          rw [if_neg h4]
          simp only
          omega
    · rename_i h2
      rw [if_neg h2]
      split at h
      · simp at h
      · rename_i h3
        rw [if_neg h3]
        split at h
        · simp at h
        · rename_i h4
          rw [if_neg h4]
          simp only
          omega
set_option maxRecDepth 100000 in
set_option maxHeartbeats 4000000 in
theorem get_4 (z : Nat) (ih : Hid (GetC z)) (n : Int) (t : M.Ty) (a : Option Addr) (cap : Nat) (wd : Nat) (s : List UInt8) (w : World) (hs : SizeOf.sizeOf [t] ≤ z + 1) (hL : LayT w w.heap.size [t] (.slice a 1 cap)) (hct : M.cntTs [t] ≤ 999) (hchk : ∃ d, M.chkTs d [t] = 0) (hn1 : 1 ≤ n) (hn2 : n ≤ 512) (hz : wdT t ≠ 0) (hl : s.length ≤ 8000) :
    Calls Tryz.prog 32 #[pv 4 n (.slice a 1 cap) false wd, .string ⟨s.toArray⟩] w (GotC w (if (itE (M.fixedT t) (wdT t) n s).2 ≠ 0 then (M.noV, (itE (M.fixedT t) (wdT t) n s).2) else M.rowG [t] (itE (M.fixedT t) (wdT t) n s).1 s)) := by
  obtain ⟨w0, hw0⟩ : ∃ w0, (w.alloc (.cells #[.int .i64 4, .int .i64 n, .slice a 1 cap, .bool false, .int .i64 (wd : Nat)] 56)).alloc (.cells #[.int .u64 0, .int .u64 0, .int .u64 0, .int .u64 0, .slice none 0 0, .slice none 0 0, .int .i64 0] 33) = w0 := ⟨_, rfl⟩
  have hb0 : Below w.heap.size w w0 := by rw [← hw0]; exact ((Below.refl _ _).alloc (Nat.le_refl _) _).alloc (by simp) _
  have hP0 : PBox w0 w.heap.size 4 n (.slice a 1 cap) false wd := by
    rw [← hw0]
    exact (Below.heap_alloc _ _ _ (by simp)).trans (World.alloc_heap_new _ _)
  have hr0 : w0.heap[w.heap.size + 1]? = some (.cells #[.int .u64 0, .int .u64 0, .int .u64 0, .int .u64 0, .slice none 0 0, .slice none 0 0, .int .i64 0] 33 (0, 0)) := by
    rw [← hw0]
    have := World.alloc_heap_new (w.alloc (.cells #[.int .i64 4, .int .i64 n, .slice a 1 cap, .bool false, .int .i64 (wd : Nat)] 56)) (.cells #[.int .u64 0, .int .u64 0, .int .u64 0, .int .u64 0, .slice none 0 0, .slice none 0 0, .int .i64 0] 33)
    rwa [World.size_alloc] at this
  have hz0 : w.heap.size + 1 < w0.heap.size := by rw [← hw0]; simp
  have HZ : Hid (w0.heap.size = w.heap.size + 2) := by show _ = _; rw [← hw0]; simp
  have HW := Lib.hid hw0
  clear hw0
  have p0 : w0.cell? ⟨w.heap.size, 0, none⟩ = some (.int .i64 4) := by simp [World.cell?, show w0.heap[w.heap.size]? = _ from hP0]
  have p1 : w0.cell? ⟨w.heap.size, 1, none⟩ = some (.int .i64 n) := by simp [World.cell?, show w0.heap[w.heap.size]? = _ from hP0]
  have p2 : w0.cell? ⟨w.heap.size, 2, none⟩ = some (.slice a 1 cap) := by simp [World.cell?, show w0.heap[w.heap.size]? = _ from hP0]
  have p3 : w0.cell? ⟨w.heap.size, 3, none⟩ = some (.bool false) := by simp [World.cell?, show w0.heap[w.heap.size]? = _ from hP0]
  have p4 : w0.cell? ⟨w.heap.size, 4, none⟩ = some (.int .i64 (wd : Nat)) := by simp [World.cell?, show w0.heap[w.heap.size]? = _ from hP0]
  have hL0 := (hL.from_ hb0).mono hb0.size
  have h00 := hb0.size
  have hct1 : M.cntT t ≤ 999 := by rw [M.cntTs, M.cntTs] at hct; omega
  have HI : Hid (∀ X, Below w0.heap.size w0 X → Calls Tryz.prog 70 #[tv 4 n (.slice a 1 cap), .string ⟨s.toArray⟩] X (ItP X (itE (M.fixedT t) (wdT t) n s))) := fun X hX =>
    itemsOf_any n t a cap s X ((hL0.from_ hX).mono hX.size) hct1 hz hl
  obtain ⟨it, hit⟩ : ∃ it, itE (M.fixedT t) (wdT t) n s = it := ⟨_, rfl⟩
  have hile : it.2 = 0 → it.1 ≤ 512 := fun h => by have := itE_le (by omega) (show (itE (M.fixedT t) (wdT t) n s).2 = 0 by rw [hit]; exact h); rw [hit] at this; omega
  rw [hit] at HI ⊢
  have HR : Hid (it.2 = 0 → ∀ X, Below w0.heap.size w0 X → Calls Tryz.prog 69 #[tv 4 n (.slice a 1 cap), .string ⟨s.toArray⟩, .int .i64 (it.1 : Nat)] X (GotC X (M.rowG [t] it.1 s))) := fun h0 X hX =>
    getRow_any z ih 4 n [t] a cap it.1 s X hs ((hL0.from_ hX).mono hX.size) hct hchk (by have := hile h0; omega) (fun _ => by simp) hl
  generalize M.rowG [t] it.1 s = r at *
  obtain ⟨items, q⟩ := it
  dsimp only at HI HR ⊢
  obtain ⟨T, hT⟩ : ∃ T, (if q ≠ 0 then (M.noV, q) else r) = T := ⟨_, rfl⟩
  rw [hT]
  have HTT := Lib.hid hT
  have HT := Lib.hid (need_any true 2)
  have mixed : Tryz.prog.follows .mixedOrders = true := by kernel_rfl
  have hw0l : w.heap.size < w0.heap.size := by omega
  clear hL hs hct hchk hit hile hT hL0 hct1
  go_enter Tryz.func32, Tryz.ntmps32
  go_wp2_with fail
  rw [HW.out]
  refine (HT.out _).mono ?_
  rintro e X ⟨rfl, hX⟩
  obtain rfl : w0 = X := hX.symm
  go_wp2_with fail
  refine wp_region_held (S := fun Y => Gr w0 Y (fun b => b = w.heap.size + 1)) mixed ?_
  have hS0 : Below w0.heap.size w0 { w0 with drawn := w0.drawn + 1 } := Below.drew (Below.refl _ _)
  have hG0 : (fun Y => Gr w0 Y (fun b => b = w.heap.size + 1)) { w0 with drawn := w0.drawn + 1 } := Gr.drew (Gr.refl _ _)
  rw [show Array.replicate (Array.size _) false = #[false, false, false, false, false, false, false, false, false] from rfl, show Array.size (α := Oper) _ = 9 from rfl]
  refine wpAnyH_take (i := 0) (v := .pointer (some ⟨w.heap.size, 0, none⟩)) rfl (by kernel_rfl) (by kernel_rfl) (by kernel_rfl) (fun _ _ _ h => h) (Or.inl ⟨by rfl, ?_⟩) hG0 ?_
  · intro Y hY
    skip
    go_simp
  simp only [Act.put, List.getElem_toArray, List.getElem_cons_zero, List.setIfInBounds_toArray, List.set_cons_zero, List.set_cons_succ]
  refine wpAnyH_take (i := 1) (v := tv 4 n (.slice a 1 cap)) rfl (by kernel_rfl) (by kernel_rfl) (by kernel_rfl) (fun _ _ _ h => h) (Or.inl ⟨by rfl, ?_⟩) hG0 ?_
  · intro Y hY
    have c0 := (hY.cell (p := ⟨w.heap.size, 0, none⟩) hw0l (by simp)).trans p0; have c1 := (hY.cell (p := ⟨w.heap.size, 1, none⟩) hw0l (by simp)).trans p1; have c2 := (hY.cell (p := ⟨w.heap.size, 2, none⟩) hw0l (by simp)).trans p2
    go_simp
  simp only [Act.put, List.getElem_toArray, List.getElem_cons_succ, List.getElem_cons_zero, List.setIfInBounds_toArray, List.set_cons_zero, List.set_cons_succ]
  refine wpAnyH_take (i := 2) (v := .string ⟨s.toArray⟩) rfl (by kernel_rfl) (by kernel_rfl) (by kernel_rfl) (fun _ _ _ h => h) (Or.inl ⟨by rfl, ?_⟩) hG0 ?_
  · intro Y hY
    skip
    go_simp
  simp only [Act.put, List.getElem_toArray, List.getElem_cons_succ, List.getElem_cons_zero, List.setIfInBounds_toArray, List.set_cons_zero, List.set_cons_succ]
  refine wpAnyH_take (i := 3) (v := .pointer (some ⟨w.heap.size, 0, none⟩)) rfl (by kernel_rfl) (by kernel_rfl) (by kernel_rfl) (fun _ _ _ h => h) (Or.inl ⟨by rfl, ?_⟩) hG0 ?_
  · intro Y hY
    skip
    go_simp
  simp only [Act.put, List.getElem_toArray, List.getElem_cons_succ, List.getElem_cons_zero, List.setIfInBounds_toArray, List.set_cons_zero, List.set_cons_succ]
  refine wpAnyH_take (i := 4) (v := tv 4 n (.slice a 1 cap)) rfl (by kernel_rfl) (by kernel_rfl) (by kernel_rfl) (fun _ _ _ h => h) (Or.inl ⟨by rfl, ?_⟩) hG0 ?_
  · intro Y hY
    have c0 := (hY.cell (p := ⟨w.heap.size, 0, none⟩) hw0l (by simp)).trans p0; have c1 := (hY.cell (p := ⟨w.heap.size, 1, none⟩) hw0l (by simp)).trans p1; have c2 := (hY.cell (p := ⟨w.heap.size, 2, none⟩) hw0l (by simp)).trans p2
    go_simp
  simp only [Act.put, List.getElem_toArray, List.getElem_cons_succ, List.getElem_cons_zero, List.setIfInBounds_toArray, List.set_cons_zero, List.set_cons_succ]
  refine wpAnyH_take (i := 5) (v := .string ⟨s.toArray⟩) rfl (by kernel_rfl) (by kernel_rfl) (by kernel_rfl) (fun _ _ _ h => h) (Or.inl ⟨by rfl, ?_⟩) hG0 ?_
  · intro Y hY
    skip
    go_simp
  simp only [Act.put, List.getElem_toArray, List.getElem_cons_succ, List.getElem_cons_zero, List.setIfInBounds_toArray, List.set_cons_zero, List.set_cons_succ]
  refine wpAnyH_ready (rs := [6]) (by kernel_rfl) (by simp) ?_
  refine AllReadyH.cons rfl (fun K hK => ?_) AllReadyH.nil
  go_simp
  refine (HI.out _ hS0).mono ?_
  rintro e w2 ⟨hok, hno, hb2⟩
  have hS2 : Below w0.heap.size w0 w2 := hS0.trans (hb2.mono (Nat.le_refl _))
  rcases Nat.eq_zero_or_pos q with hq | hq
  case inr =>
    rw [hno (by simp only; omega)]
    obtain rfl : T = (M.noV, q) := by rw [← HTT.out, if_pos (by omega)]
    exact ⟨rfl, fun h => absurd h (by simp only; omega), fun _ => rfl, hb0.trans (Below.mono hS2 hb0.size)⟩
  rw [hok hq]
  obtain rfl : T = r := by rw [← HTT.out, if_neg (by omega)]
  have HR2 := Lib.hid (HR.out hq w2 hS2)
  clear hok hno HR
  try go_wp2_with fail
  refine hK.out _ _ ((Gr.refl w0 _).below hS2) (fun _ => ?_)
  clear hK K
  simp only [List.setIfInBounds_toArray, List.set_cons_zero, List.set_cons_succ]
  refine wpAnyH_ready (rs := [7]) (by kernel_rfl) (by simp) ?_
  refine AllReadyH.cons rfl (fun K hK => ?_) AllReadyH.nil
  go_simp
  refine HR2.out.mono ?_
  rintro e w1 ⟨hok, hno, hb1⟩
  have hS1 : Below w0.heap.size w0 w1 := hS2.trans (hb1.mono hS2.size)
  rcases Nat.eq_zero_or_pos T.2 with hq | hq
  case inr =>
    rw [hno (by omega)]
    exact ⟨rfl, fun h => absurd h (by omega), fun _ => rfl, hb0.trans (Below.mono hS1 hb0.size)⟩
  obtain ⟨N, bs, us, p, ab, cb, au, cu, hr1, rfl, hV⟩ := hok hq
  have HV := Lib.hid hV
  have HR1 := Lib.hid hr1
  have HQ := Lib.hid hq
  have hr2 := (hS1.block _ hz0).trans hr0
  have hbw1 := hb0.trans (Below.mono hS1 hb0.size)
  have hz2 := hS2.size
  have hz1 := hb1.size
  have hG1 : Gr w0 w1 (fun b => b = w.heap.size + 1) := (Gr.refl w0 _).below hS1
  clear p0 p1 p2 p3 p4 hok hno hV hr1 hq
  try go_wp2_with fail
  refine hK.out _ _ hG1 (fun _ => ?_)
  clear hK K
  simp only [List.setIfInBounds_toArray, List.set_cons_zero, List.set_cons_succ]
  obtain ⟨⟨_, i0⟩, ⟨_, i1⟩, ⟨_, i2⟩, ⟨_, i3⟩, ⟨_, i4⟩, ⟨_, i5⟩, ⟨_, i6⟩, f0, f1, f2, f3, f4, f5, f6⟩ := cells_w7 hr2
  refine wpAnyH_ready (rs := [8]) (by kernel_rfl) (by simp) ?_
  refine AllReadyH.cons rfl (fun K hK => ?_) AllReadyH.nil
  go_simp
  refine hK.out _ _ (((((((hG1.set _ _ (.inr rfl)).set _ _ (.inr rfl)).set _ _ (.inr rfl)).set _ _ (.inr rfl)).set _ _ (.inr rfl)).set _ _ (.inr rfl)).set _ _ (.inr rfl)) (fun _ => ?_)
  clear hK K
  simp only [List.setIfInBounds_toArray, List.set_cons_zero, List.set_cons_succ]
  refine wpAnyH_done (by kernel_rfl) ?_ _
  go_wp2_with fail
  exact val_post rfl w w1 _ N _ _ p _ (by omega) hbw1 _ _ _ _ _ _ _ hr2 _ rfl fun Z hZ hz hk => ⟨fun _ => ⟨N, bs, us, p, ab, cb, au, cu, HR1.out, rfl, (HV.out.agree (.blocks fun b h1 _ => hk b (by omega))).mono (by omega) (by omega)⟩, fun h => absurd HQ.out h, hZ⟩
end Go.Proofs.YtgloapcfmlijlaaGreatDoor
namespace Go.Proofs.YtgloapcfmlijlaaGreatDoor
open Go Go.RowKit Go.Lib

/-- What comes of bytes that are as many as there must be. -/
def M.getR (k n : Int) (ts : List M.Ty) (s : List UInt8) : M.Va × Nat := M.getOf k n (ts.map M.kindOf) (M.getFs ts) none s
theorem M.get_some (k n : Int) (kd : List (Option Nat)) (fs : List M.Rdr) (z : Nat) (s : List UInt8) : M.getOf k n kd fs (some z) s = if s.length ≠ z then (M.noV, 2) else M.getOf k n kd fs none s := by
  unfold M.getOf
  simp only [M.mism, bne_iff_ne, Bool.false_eq_true, if_false]
theorem getV_eq {k n : Int} {ts : List M.Ty} (hc : M.chkT 0 (.mk k n ts) = 0) (s : List UInt8) : M.getV (.mk k n ts) s = if M.fixedT (.mk k n ts) = true then (if s.length ≠ wdT (.mk k n ts) then (M.noV, 2) else M.getR k n ts s) else M.getR k n ts s := by
  rw [M.getV]
  show M.getOf k n (ts.map M.kindOf) (M.getFs ts) (M.kindOf (.mk k n ts)) s = _
  rw [← kdT_chk hc]
  unfold kdT wdT
  cases hf : M.fixedT (.mk k n ts) with
  | true =>
    rw [if_pos rfl, if_pos rfl, if_pos rfl, M.get_some]
    rfl
  | false =>
    rw [if_neg (by decide), if_neg (by decide)]
    rfl
theorem to_end {s : List UInt8} {m : Nat} : (if (toE s m).2 ≠ 0 then (M.noV, (toE s m).2) else ((.mk 0 (toE s m).1 [] 0, 0) : M.Va × Nat)) = (match M.topB s (8 * s.length) with
    | none => (M.noV, 2)
    | some j => if j < 8 * (s.length - 1) then (M.noV, 2) else if (m : Int) < (j : Int) then (M.noV, 5) else (.mk 0 (M.unpackB s j) [] 0, 0)) := by
  unfold toE
  cases M.topB s (8 * s.length) with
  | none => rfl
  | some j =>
    simp only
    by_cases h1 : j < 8 * (s.length - 1)
    · rw [if_pos h1, if_pos h1]; rfl
    · rw [if_neg h1, if_neg h1]
      by_cases h2 : m < j
      · rw [if_pos h2, if_pos (by simp), if_pos (by omega)]
      · rw [if_neg h2, if_neg (by simp), if_neg (by omega)]
theorem get_step (z : Nat) (ih : Hid (GetC z)) : GetC (z + 1) := by
  intro k n ts a cap s w hs hL hc h1 hl
  obtain ⟨d, hd⟩ := hc
  obtain ⟨⟨hk1, hk8⟩, hform, _, hck⟩ := M.chkT_ok.1 hd
  have hc0 : M.chkT 0 (.mk k n ts) = 0 := M.chkT_mono _ _ 0 hd (Nat.zero_le _)
  have hall : ∀ t ∈ ts, M.chkT 0 t = 0 := fun t ht => M.chkT_in hc0 ht
  have hct : M.cntTs ts ≤ 999 := by rw [M.cntT] at h1; omega
  rw [getV_eq hc0]
  by_cases k1 : k = 1
  · subst k1
    obtain ⟨rfl, hn⟩ : ts = [] ∧ (1 ≤ n ∧ n ≤ 32) := by
      unfold M.formT at hform
      simp at hform
      exact ⟨hform.1, by omega⟩
    have hf : M.fixedT (.mk 1 n []) = true := by rw [M.fixedT_parts hc0 (by omega)]; rfl
    have hw : wdT (.mk 1 n []) ≤ 32 := by unfold wdT; rw [if_pos hf, M.sizeT_fix hf, M.szT, if_pos rfl]; omega
    rw [hf, if_pos rfl]
    exact get_1 n _ _ _ s w hl hw rfl
  by_cases k2 : k = 2
  · subst k2
    obtain rfl : ts = [] := by
      unfold M.formT at hform
      simp at hform
      exact hform.1
    have hf : M.fixedT (.mk 2 n []) = true := by rw [M.fixedT_parts hc0 (by omega)]; rfl
    have hw : wdT (.mk 2 n []) ≤ 32 := by unfold wdT; rw [if_pos hf, M.sizeT_fix hf, M.szT, if_neg (by decide), if_pos rfl]; omega
    rw [hf, if_pos rfl]
    exact get_2 n _ _ _ s w hl hw rfl
  by_cases k5 : k = 5
  · subst k5
    obtain ⟨rfl, hn⟩ : ts = [] ∧ (1 ≤ n ∧ n ≤ 512) := by
      unfold M.formT at hform
      simp at hform
      exact ⟨hform.1.1, by omega⟩
    obtain ⟨m, rfl⟩ : ∃ m : Nat, n = (m : Int) := ⟨n.toNat, by omega⟩
    have hf : M.fixedT (.mk 5 (m : Int) []) = true := by rw [M.fixedT_parts hc0 (by omega)]; rfl
    have hw : wdT (.mk 5 (m : Int) []) = (m + 7) / 8 := by unfold wdT; rw [if_pos hf, M.sizeT_fix hf, M.szT, if_neg (by decide), if_neg (by decide), if_pos rfl, Int.toNat_natCast]
    rw [hf, if_pos rfl]
    exact get_5 m _ _ _ s w hl (by rw [hw]; omega) rfl
  by_cases k6 : k = 6
  · subst k6
    obtain ⟨rfl, hn⟩ : ts = [] ∧ (1 ≤ n ∧ n ≤ 512) := by
      unfold M.formT at hform
      simp at hform
      exact ⟨hform.1.1, by omega⟩
    obtain ⟨m, rfl⟩ : ∃ m : Nat, n = (m : Int) := ⟨n.toNat, by omega⟩
    have hf : M.fixedT (.mk 6 (m : Int) []) = false := M.fixedT_kind (by simp)
    rw [hf, if_neg (by decide)]
    have := get_6 m (.slice a ([] : List M.Ty).length cap) false (wdT (.mk 6 (m : Int) [])) s w hl (by omega) rfl
    rw [to_end] at this
    exact this
  by_cases k8 : k = 8
  · subst k8
    have ht : ts.length ≤ 8 := by
      unfold M.formT at hform
      simp at hform
      omega
    have hf : M.fixedT (.mk 8 n ts) = false := M.fixedT_kind (by simp)
    rw [hf, if_neg (by decide)]
    rw [show M.getR 8 n ts s = M.oneG ts s from M.one_get ts s]
    exact get_8 z ih n ts a cap _ s w hs hL hct ⟨_, hck⟩ ht hl
  by_cases k7 : k = 7
  · subst k7
    have ht : ts.length ≤ 16 := by
      unfold M.formT at hform
      simp at hform
      omega
    have hR : M.getR 7 n ts s = M.rowG ts ts.length s := M.row_7 hall n s
    rw [hR]
    cases hf : M.fixedT (.mk 7 n ts) with
    | true =>
      rw [if_pos rfl]
      exact get_7t z ih n ts a cap _ s w hs hL hct ⟨_, hck⟩ ht hl
    | false =>
      rw [if_neg (by decide)]
      exact get_7f z ih n ts a cap _ s w hs hL hct ⟨_, hck⟩ ht hl
  have hk34 : k = 3 ∨ k = 4 := by omega
  obtain ⟨⟨t, rfl⟩, hn⟩ : (∃ t, ts = [t]) ∧ (1 ≤ n ∧ n ≤ 512) := by
    unfold M.formT at hform
    rw [if_neg k1, if_neg k2, if_pos hk34] at hform
    simp at hform
    exact ⟨List.length_eq_one_iff.1 hform.1.1, by omega⟩
  have ht0 := hall t (by simp)
  by_cases k3 : k = 3
  · subst k3
    have hR : M.getR 3 n [t] s = M.rowG [t] n.toNat s := by
      show M.rowOf 3 n _ _ s = _
      rw [M.row_one ht0 (by decide)]
      rfl
    rw [hR]
    cases hf : M.fixedT (.mk 3 n [t]) with
    | true =>
      rw [if_pos rfl]
      exact get_3t z ih n [t] a cap _ s w hs hL hct ⟨_, hck⟩ n.toNat (by omega) (by omega) (by simp) hl
    | false =>
      rw [if_neg (by decide)]
      exact get_3f z ih n [t] a cap _ s w hs hL hct ⟨_, hck⟩ n.toNat (by omega) (by omega) (by simp) hl
  · obtain rfl : k = 4 := by omega
    have hf : M.fixedT (.mk 4 n [t]) = false := M.fixedT_kind (by simp)
    have hz : wdT t ≠ 0 := by
      unfold wdT
      split
      · rename_i hf
        rw [M.sizeT_fix hf]
        have := M.szT_pos t 0 ht0 (M.fixedT_ok.1 hf).2
        omega
      · decide
    have hR : M.getR 4 n [t] s = if (itE (M.fixedT t) (wdT t) n s).2 ≠ 0 then (M.noV, (itE (M.fixedT t) (wdT t) n s).2) else M.rowG [t] (itE (M.fixedT t) (wdT t) n s).1 s := by
      show M.rowOf 4 n _ _ s = _
      rw [M.row_one ht0 (by decide), itE_many ht0]
    rw [hf, if_neg (by decide), hR]
    exact get_4 z ih n t a cap _ s w hs hL hct ⟨_, hck⟩ hn.1 hn.2 hz hl
theorem get_c : ∀ z, GetC z
  | 0 => by intro k n ts a cap s w hs; cases ts <;> simp at hs
  | z + 1 => get_step z (Lib.hid (get_c z))
end Go.Proofs.YtgloapcfmlijlaaGreatDoor
