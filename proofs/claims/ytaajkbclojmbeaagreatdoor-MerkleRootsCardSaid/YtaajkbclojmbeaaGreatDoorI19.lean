/- The reference: the root of a value, kind by kind. The reference: the root of a value, kind by kind. The landed package merkle: bytes, cut into chunks. The landed package merkle: chunks; bytes in chunks, summed up. The landed package merkle: the table of roots: a map of functions. The landed package ssz: put, Put. The landed package merkle: bytes in chunks, summed up; the bytes of a value; bits. The landed package merkle: roots, kind by kind. -/
import Derived.Test.YtaajkbclojmbeaaGreatDoorI18
import Derived.Test.YtaajkbclojmbeaaGreatDoorI17
import Derived.Test.YtaajkbclojmbeaaGreatDoorI08
import Derived.Test.YtaajkbclojmbeaaGreatDoorI15
import Derived.Test.YtaajkbclojmbeaaGreatDoorI11
import Derived.Test.YtaajkbclojmbeaaGreatDoorI14
import Derived.Laws.BytesArg
namespace Go.Proofs.YtaajkbclojmbeaaGreatDoor
open Go Go.RowKit Go.Shelf Go.Lib
attribute [local go_sem] Oper.semAt_some

set_option maxRecDepth 100000 in
theorem zpack_nil (ab : Option Addr) (cb : Nat) (w : World) :
    Calls Tryz.prog 62 #[.slice ab 0 cb] w fun e w' => e = .returned (.string ⟨#[]⟩) ∧ Below w.heap.size w w' := by
  go_enter Tryz.func62, Tryz.ntmps62
  go_wp2_with fail
  go_loopw [3, 4] (fun v i wr => v = .slice none 0 0 ∧ i = .int .i64 0 ∧ w = wr) (fun _ _ _ => 0)
  case atStart => exact ⟨rfl, rfl, rfl⟩
  case round =>
    obtain ⟨rfl, rfl, rfl⟩ := hrel
    have hcv : (convert 41 9 (.slice none 0 0)).run Tryz.prog w = .ok (.string ⟨#[]⟩) w := by
      rw [run_convert_bytes_string w 41 9 5 none 0 0 Tryz.underlying41 Tryz.underlying5 Tryz.underlying9]
      simp [Conv.bytesToString]
      rfl
    go_wp2_with fail
    go_ret
    exact ⟨rfl, Below.refl _ _⟩
theorem zpack_all (bs : List Bool) (ab : Option Addr) (cb : Nat) (w : World) (hB : LayB w w.heap.size bs (.slice ab bs.length cb)) (hlen : bs.length ≤ 1000000) :
    Calls Tryz.prog 62 #[.slice ab bs.length cb] w fun e w' => e = .returned (.string ⟨(M.packB bs).toArray⟩) ∧ Below w.heap.size w w' := by
  cases bs with
  | nil => exact zpack_nil ab cb w
  | cons b bs => exact zpack_any (b :: bs) ab cb w hB (by simp) hlen
set_option maxRecDepth 100000 in
set_option maxHeartbeats 4000000 in
theorem rof_1 (n : Int) (ts : List M.Ty) (at_ : Option Addr) (ct : Nat) (N : Nat) (bs : List Bool) (us : List M.Va) (p : Int) (ab : Option Addr) (cb : Nat) (au : Option Addr) (cu : Nat) (w : World) (_hT : LayT w w.heap.size ts (.slice at_ ts.length ct)) (_hV : Vl w w.heap.size N bs us ab cb au cu) (d : Nat) (_hc : M.chkT d (.mk 1 n ts) = 0) (_hf : M.fitV (.mk 1 n ts) (.mk N bs us p) = 0) :
    Calls Tryz.prog 27 #[tv 1 n (.slice at_ ts.length ct), vv N (.slice ab bs.length cb) (.slice au us.length cu) p] w fun e w' => e = .returned (.string ⟨(M.rootV (.mk 1 n ts) (.mk N bs us p)).toArray⟩) ∧ Below w.heap.size w w' := by
  obtain ⟨w0, hw0⟩ : ∃ w0, (w.alloc (.cells #[.int .i64 1, .int .i64 n, .slice at_ ts.length ct] 32)).alloc (.cells #[.int .u64 (M.pt 0 N), .int .u64 (M.pt 1 N), .int .u64 (M.pt 2 N), .int .u64 (M.pt 3 N), .slice ab bs.length cb, .slice au us.length cu, .int .i64 p] 38) = w0 := ⟨_, rfl⟩
  have hb0 : Below w.heap.size w w0 := by rw [← hw0]; exact two_boxes _ _ _
  have hz0 : w0.heap.size = w.heap.size + 2 := by rw [← hw0]; simp
  have hB0 : BoxT w0 w.heap.size 1 n (.slice at_ ts.length ct) := by rw [← hw0]; exact ⟨by simp [go_sem], by simp [go_sem], by simp [go_sem]⟩
  have hA0 : Cells7 w0 (w.heap.size + 1) 0 N (.slice ab bs.length cb) (.slice au us.length cu) p := by
    rw [← hw0]
    have := Cells7.new (w.alloc (.cells #[.int .i64 1, .int .i64 n, .slice at_ ts.length ct] 32)) N (.slice ab bs.length cb) (.slice au us.length cu) p 38
    rwa [World.size_alloc] at this
  have hlt0 : w.heap.size < w0.heap.size := by omega
  have hlt1 : w.heap.size + 1 < w0.heap.size := by omega
  have HW := Lib.hid hw0
  have HZ0 := Lib.hid hz0
  have mixed : Tryz.prog.follows .mixedOrders = true := by kernel_rfl
  clear hw0 hz0
  have HL := Lib.hid (zlow_any N 32 w0 (by omega) (by omega))
  rw [M.rootV1]
  go_enter Tryz.func27, Tryz.ntmps27
  go_wp2_with fail
  rw [HW.out]
  refine HL.out.mono ?_
  rintro e w1 ⟨rfl, hb1⟩
  go_wp2_with fail
  go_ret
  exact ⟨rfl, hb0.trans (Below.mono hb1 hb0.size)⟩
set_option maxRecDepth 100000 in
set_option maxHeartbeats 4000000 in
theorem rof_2 (n : Int) (ts : List M.Ty) (at_ : Option Addr) (ct : Nat) (N : Nat) (bs : List Bool) (us : List M.Va) (p : Int) (ab : Option Addr) (cb : Nat) (au : Option Addr) (cu : Nat) (w : World) (_hT : LayT w w.heap.size ts (.slice at_ ts.length ct)) (_hV : Vl w w.heap.size N bs us ab cb au cu) (d : Nat) (_hc : M.chkT d (.mk 2 n ts) = 0) (_hf : M.fitV (.mk 2 n ts) (.mk N bs us p) = 0) :
    Calls Tryz.prog 27 #[tv 2 n (.slice at_ ts.length ct), vv N (.slice ab bs.length cb) (.slice au us.length cu) p] w fun e w' => e = .returned (.string ⟨(M.rootV (.mk 2 n ts) (.mk N bs us p)).toArray⟩) ∧ Below w.heap.size w w' := by
  obtain ⟨w0, hw0⟩ : ∃ w0, (w.alloc (.cells #[.int .i64 2, .int .i64 n, .slice at_ ts.length ct] 32)).alloc (.cells #[.int .u64 (M.pt 0 N), .int .u64 (M.pt 1 N), .int .u64 (M.pt 2 N), .int .u64 (M.pt 3 N), .slice ab bs.length cb, .slice au us.length cu, .int .i64 p] 38) = w0 := ⟨_, rfl⟩
  have hb0 : Below w.heap.size w w0 := by rw [← hw0]; exact two_boxes _ _ _
  have hz0 : w0.heap.size = w.heap.size + 2 := by rw [← hw0]; simp
  have hB0 : BoxT w0 w.heap.size 2 n (.slice at_ ts.length ct) := by rw [← hw0]; exact ⟨by simp [go_sem], by simp [go_sem], by simp [go_sem]⟩
  have hA0 : Cells7 w0 (w.heap.size + 1) 0 N (.slice ab bs.length cb) (.slice au us.length cu) p := by
    rw [← hw0]
    have := Cells7.new (w.alloc (.cells #[.int .i64 2, .int .i64 n, .slice at_ ts.length ct] 32)) N (.slice ab bs.length cb) (.slice au us.length cu) p 38
    rwa [World.size_alloc] at this
  have hlt0 : w.heap.size < w0.heap.size := by omega
  have hlt1 : w.heap.size + 1 < w0.heap.size := by omega
  have HW := Lib.hid hw0
  have HZ0 := Lib.hid hz0
  have mixed : Tryz.prog.follows .mixedOrders = true := by kernel_rfl
  clear hw0 hz0
  have HL := Lib.hid (zlow_any N 32 w0 (by omega) (by omega))
  rw [M.rootV2]
  go_enter Tryz.func27, Tryz.ntmps27
  go_wp2_with fail
  rw [HW.out]
  refine HL.out.mono ?_
  rintro e w1 ⟨rfl, hb1⟩
  go_wp2_with fail
  go_ret
  exact ⟨rfl, hb0.trans (Below.mono hb1 hb0.size)⟩
set_option maxRecDepth 100000 in
set_option maxHeartbeats 4000000 in
theorem rof_5 (n : Int) (ts : List M.Ty) (at_ : Option Addr) (ct : Nat) (N : Nat) (bs : List Bool) (us : List M.Va) (p : Int) (ab : Option Addr) (cb : Nat) (au : Option Addr) (cu : Nat) (w : World) (_hT : LayT w w.heap.size ts (.slice at_ ts.length ct)) (hV : Vl w w.heap.size N bs us ab cb au cu) (d : Nat) (hc : M.chkT d (.mk 5 n ts) = 0) (hf : M.fitV (.mk 5 n ts) (.mk N bs us p) = 0) :
    Calls Tryz.prog 27 #[tv 5 n (.slice at_ ts.length ct), vv N (.slice ab bs.length cb) (.slice au us.length cu) p] w fun e w' => e = .returned (.string ⟨(M.rootV (.mk 5 n ts) (.mk N bs us p)).toArray⟩) ∧ Below w.heap.size w w' := by
  have hform := (M.chkT_ok.1 hc).2.1
  obtain ⟨hof1, hof2, _⟩ := M.of_fit hf
  obtain ⟨m, rfl⟩ : ∃ m : Nat, n = (m : Int) := ⟨n.toNat, by unfold M.formT at hform; simp at hform; omega⟩
  have hm : 1 ≤ m ∧ m ≤ 512 := by unfold M.formT at hform; simp at hform; omega
  have hbl : (bs.length : Int) = m := by rw [M.ofV_5] at hof2; simp at hof2; omega
  obtain ⟨w0, hw0⟩ : ∃ w0, (w.alloc (.cells #[.int .i64 5, .int .i64 (m : Nat), .slice at_ ts.length ct] 32)).alloc (.cells #[.int .u64 (M.pt 0 N), .int .u64 (M.pt 1 N), .int .u64 (M.pt 2 N), .int .u64 (M.pt 3 N), .slice ab bs.length cb, .slice au us.length cu, .int .i64 p] 38) = w0 := ⟨_, rfl⟩
  have hb0 : Below w.heap.size w w0 := by rw [← hw0]; exact two_boxes _ _ _
  have hz0 : w0.heap.size = w.heap.size + 2 := by rw [← hw0]; simp
  have hB0 : BoxT w0 w.heap.size 5 (m : Nat) (.slice at_ ts.length ct) := by rw [← hw0]; exact ⟨by simp [go_sem], by simp [go_sem], by simp [go_sem]⟩
  have hA0 : Cells7 w0 (w.heap.size + 1) 0 N (.slice ab bs.length cb) (.slice au us.length cu) p := by
    rw [← hw0]
    have := Cells7.new (w.alloc (.cells #[.int .i64 5, .int .i64 (m : Nat), .slice at_ ts.length ct] 32)) N (.slice ab bs.length cb) (.slice au us.length cu) p 38
    rwa [World.size_alloc] at this
  have hlt0 : w.heap.size < w0.heap.size := by omega
  have hlt1 : w.heap.size + 1 < w0.heap.size := by omega
  have HW := Lib.hid hw0
  have HZ0 := Lib.hid hz0
  have mixed : Tryz.prog.follows .mixedOrders = true := by kernel_rfl
  clear hw0 hz0
  rw [M.rootV5, Int.toNat_natCast]
  have hpl := M.pack_length bs
  have HPK := Lib.hid (fun X (h : Below w0.heap.size w0 X) => zpack_all bs ab cb X ((hV.b.from_ (hb0.trans (h.mono hb0.size))).mono (hb0.trans (h.mono hb0.size)).size) (by omega))
  generalize M.packB bs = P at *
  have HCH := Lib.hid (fun X => rchunks_any P X (by omega))
  have hcl := M.chunks_length P
  obtain ⟨r, hr⟩ : ∃ r, (m + 255) / 256 = r := ⟨_, rfl⟩
  have r1 : ((m : Int) + 255).tdiv 256 = (r : Int) := by rw [Int.tdiv_eq_ediv_of_nonneg (by omega)]; omega
  have r2 : ((m : Int) + 255) / 256 = (r : Int) := by omega
  have hmp : M.packT P ((m + 7) / 8) = M.treeT (M.chunksT P) r := by unfold M.packT; rw [show ((m + 7) / 8 + 31) / 32 = r by omega]
  have HTR := Lib.hid (fun a' c' X (h : Ts X X.heap.size (M.chunksT P) (.slice a' (M.chunksT P).length c')) => rtree_any (M.chunksT P) r a' c' X h (M.chunks_all P) (by omega) (pow_dep (by omega) (by omega)))
  have hTl := M.treeT_length (l := M.chunksT P) r (M.chunks_all P)
  rw [hmp]
  generalize M.treeT (M.chunksT P) r = T at *
  clear hc hf hof1 hof2 hform hpl hcl hr hmp hTl hbl
  go_enter Tryz.func27, Tryz.ntmps27
  go_wp2_with fail
  rw [HW.out]
  refine wp_region_held (S := fun Y => Below w0.heap.size w0 Y) mixed ?_
  have hS0 : Below w0.heap.size w0 w0.drew := Below.drew (Below.refl _ _)
  rw [show Array.replicate (Array.size _) false = #[false, false, false, false, false, false, false, false, false, false] from rfl, show Array.size (α := Oper) _ = 10 from rfl]
  refine wpAnyH_take (i := 0) (v := .pointer (some ⟨w.heap.size + 1, 4, none⟩)) rfl (by kernel_rfl) (by kernel_rfl) (by kernel_rfl) (fun _ _ _ h => h) (Or.inl ⟨by rfl, ?_⟩) hS0 ?_
  · intro Y hY
    skip
    go_simp
  simp only [Act.put, List.getElem_toArray, List.getElem_cons_zero, List.setIfInBounds_toArray, List.set_cons_zero, List.set_cons_succ]
  refine wpAnyH_take (i := 1) (v := .slice ab bs.length cb) rfl (by kernel_rfl) (by kernel_rfl) (by kernel_rfl) (fun _ _ _ h => h) (Or.inl ⟨by rfl, ?_⟩) hS0 ?_
  · intro Y hY
    have hAY := hA0.from_ hY hlt1; have a0 := hAY.c0; have a1 := hAY.c1; have a2 := hAY.c2; have a3 := hAY.c3; have a4 := hAY.c4; have a5 := hAY.c5; have a6 := hAY.c6; simp only [Nat.zero_add] at a1 a2 a3 a4 a5 a6
    go_simp
  simp only [Act.put, List.getElem_toArray, List.getElem_cons_succ, List.getElem_cons_zero, List.setIfInBounds_toArray, List.set_cons_zero, List.set_cons_succ]
  refine wpAnyH_take (i := 4) (v := .pointer (some ⟨w.heap.size, 1, none⟩)) rfl (by kernel_rfl) (by kernel_rfl) (by kernel_rfl) (fun _ _ _ h => h) (Or.inl ⟨by rfl, ?_⟩) hS0 ?_
  · intro Y hY
    skip
    go_simp
  simp only [Act.put, List.getElem_toArray, List.getElem_cons_succ, List.getElem_cons_zero, List.setIfInBounds_toArray, List.set_cons_zero, List.set_cons_succ]
  refine wpAnyH_take (i := 5) (v := .int .i64 (m : Nat)) rfl (by kernel_rfl) (by kernel_rfl) (by kernel_rfl) (fun _ _ _ h => h) (Or.inl ⟨by rfl, ?_⟩) hS0 ?_
  · intro Y hY
    have b0 := (hY.cell (p := ⟨w.heap.size, 0, none⟩) hlt0).trans hB0.c0; have b1 := (hY.cell (p := ⟨w.heap.size, 1, none⟩) hlt0).trans hB0.c1; have b2 := (hY.cell (p := ⟨w.heap.size, 2, none⟩) hlt0).trans hB0.c2
    go_simp
  simp only [Act.put, List.getElem_toArray, List.getElem_cons_succ, List.getElem_cons_zero, List.setIfInBounds_toArray, List.set_cons_zero, List.set_cons_succ]
  refine wpAnyH_take (i := 6) (v := .int .i64 ((m : Int) + 255)) rfl (by kernel_rfl) (by kernel_rfl) (by kernel_rfl) (fun _ _ _ h => h) (Or.inl ⟨by rfl, ?_⟩) hS0 ?_
  · intro Y hY
    skip
    go_simp
    try rw [IntKind.wrap_i64]
    try omega
  simp only [Act.put, List.getElem_toArray, List.getElem_cons_succ, List.getElem_cons_zero, List.setIfInBounds_toArray, List.set_cons_zero, List.set_cons_succ]
  refine wpAnyH_take (i := 7) (v := .int .i64 (r : Nat)) rfl (by kernel_rfl) (by kernel_rfl) (by kernel_rfl) (fun _ _ _ h => h) (Or.inl ⟨by rfl, ?_⟩) hS0 ?_
  · intro Y hY
    skip
    go_simp
    try rw [r1]
    try rw [IntKind.wrap_i64]
    try omega
  simp only [Act.put, List.getElem_toArray, List.getElem_cons_succ, List.getElem_cons_zero, List.setIfInBounds_toArray, List.set_cons_zero, List.set_cons_succ]
  refine wpAnyH_ready (rs := [2]) (by kernel_rfl) (by simp) ?_
  refine AllReadyH.cons rfl (fun K hK => ?_) AllReadyH.nil
  go_simp
  refine (HPK.out _ hS0).mono ?_
  rintro e w1 ⟨rfl, hb1⟩
  have hS1 : Below w0.heap.size w0 w1 := hS0.trans (Below.mono hb1 hS0.size)
  try go_wp2_with fail
  refine hK.out _ _ hS1 (fun _ => ?_)
  clear hK K
  simp only [List.setIfInBounds_toArray, List.set_cons_zero, List.set_cons_succ]
  refine wpAnyH_ready (rs := [3]) (by kernel_rfl) (by simp) ?_
  refine AllReadyH.cons rfl (fun K hK => ?_) AllReadyH.nil
  go_simp
  refine (HCH.out _).mono ?_
  rintro e w2 ⟨⟨v2, rfl, hO⟩, hb2⟩
  have hS2 : Below w0.heap.size w0 w2 := hS1.trans (Below.mono hb2 hS1.size)
  obtain ⟨la, lc, hlv⟩ := hO.len
  subst hlv
  have HX := Lib.hid (HTR.out la lc w2 hO.ts)
  try go_wp2_with fail
  refine hK.out _ _ hS2 (fun _ => ?_)
  clear hK K
  simp only [List.setIfInBounds_toArray, List.set_cons_zero, List.set_cons_succ]
  refine wpAnyH_ready (rs := [8]) (by kernel_rfl) (by simp) ?_
  refine AllReadyH.cons rfl (fun K hK => ?_) AllReadyH.nil
  go_simp
  refine HX.out.mono ?_
  rintro e w3 ⟨rfl, hb3⟩
  have hS3 : Below w0.heap.size w0 w3 := hS2.trans (Below.mono hb3 hS2.size)
  try go_wp2_with fail
  refine hK.out _ _ hS3 (fun _ => ?_)
  clear hK K
  simp only [List.setIfInBounds_toArray, List.set_cons_zero, List.set_cons_succ]
  refine wpAnyH_ready (rs := [9]) (by kernel_rfl) (by simp) ?_
  refine AllReadyH.cons rfl (fun K hK => ?_) AllReadyH.nil
  go_simp
  refine hK.out _ _ hS3 (fun _ => ?_)
  clear hK K
  simp only [List.setIfInBounds_toArray, List.set_cons_zero, List.set_cons_succ]
  refine wpAnyH_done (by kernel_rfl) ?_ _
  go_wp2_with fail
  go_ret
  exact ⟨rfl, hb0.trans (Below.mono hS3 hb0.size)⟩
set_option maxRecDepth 100000 in
set_option maxHeartbeats 4000000 in
theorem rof_6 (n : Int) (ts : List M.Ty) (at_ : Option Addr) (ct : Nat) (N : Nat) (bs : List Bool) (us : List M.Va) (p : Int) (ab : Option Addr) (cb : Nat) (au : Option Addr) (cu : Nat) (w : World) (_hT : LayT w w.heap.size ts (.slice at_ ts.length ct)) (hV : Vl w w.heap.size N bs us ab cb au cu) (d : Nat) (hc : M.chkT d (.mk 6 n ts) = 0) (hf : M.fitV (.mk 6 n ts) (.mk N bs us p) = 0) :
    Calls Tryz.prog 27 #[tv 6 n (.slice at_ ts.length ct), vv N (.slice ab bs.length cb) (.slice au us.length cu) p] w fun e w' => e = .returned (.string ⟨(M.rootV (.mk 6 n ts) (.mk N bs us p)).toArray⟩) ∧ Below w.heap.size w w' := by
  have hform := (M.chkT_ok.1 hc).2.1
  obtain ⟨hof1, hof2, _⟩ := M.of_fit hf
  obtain ⟨m, rfl⟩ : ∃ m : Nat, n = (m : Int) := ⟨n.toNat, by unfold M.formT at hform; simp at hform; omega⟩
  have hm : 1 ≤ m ∧ m ≤ 512 := by unfold M.formT at hform; simp at hform; omega
  have hbl : (bs.length : Int) ≤ m := by omega
  obtain ⟨w0, hw0⟩ : ∃ w0, (w.alloc (.cells #[.int .i64 6, .int .i64 (m : Nat), .slice at_ ts.length ct] 32)).alloc (.cells #[.int .u64 (M.pt 0 N), .int .u64 (M.pt 1 N), .int .u64 (M.pt 2 N), .int .u64 (M.pt 3 N), .slice ab bs.length cb, .slice au us.length cu, .int .i64 p] 38) = w0 := ⟨_, rfl⟩
  have hb0 : Below w.heap.size w w0 := by rw [← hw0]; exact two_boxes _ _ _
  have hz0 : w0.heap.size = w.heap.size + 2 := by rw [← hw0]; simp
  have hB0 : BoxT w0 w.heap.size 6 (m : Nat) (.slice at_ ts.length ct) := by rw [← hw0]; exact ⟨by simp [go_sem], by simp [go_sem], by simp [go_sem]⟩
  have hA0 : Cells7 w0 (w.heap.size + 1) 0 N (.slice ab bs.length cb) (.slice au us.length cu) p := by
    rw [← hw0]
    have := Cells7.new (w.alloc (.cells #[.int .i64 6, .int .i64 (m : Nat), .slice at_ ts.length ct] 32)) N (.slice ab bs.length cb) (.slice au us.length cu) p 38
    rwa [World.size_alloc] at this
  have hlt0 : w.heap.size < w0.heap.size := by omega
  have hlt1 : w.heap.size + 1 < w0.heap.size := by omega
  have HW := Lib.hid hw0
  have HZ0 := Lib.hid hz0
  have mixed : Tryz.prog.follows .mixedOrders = true := by kernel_rfl
  clear hw0 hz0
  rw [M.rootV6, Int.toNat_natCast]
  have hpl := M.pack_length bs
  have HPK := Lib.hid (fun X (h : Below w0.heap.size w0 X) => zpack_all bs ab cb X ((hV.b.from_ (hb0.trans (h.mono hb0.size))).mono (hb0.trans (h.mono hb0.size)).size) (by omega))
  generalize M.packB bs = P at *
  have HCH := Lib.hid (fun X => rchunks_any P X (by omega))
  have hcl := M.chunks_length P
  obtain ⟨r, hr⟩ : ∃ r, (m + 255) / 256 = r := ⟨_, rfl⟩
  have r1 : ((m : Int) + 255).tdiv 256 = (r : Int) := by rw [Int.tdiv_eq_ediv_of_nonneg (by omega)]; omega
  have r2 : ((m : Int) + 255) / 256 = (r : Int) := by omega
  have hmp : M.packT P ((m + 7) / 8) = M.treeT (M.chunksT P) r := by unfold M.packT; rw [show ((m + 7) / 8 + 31) / 32 = r by omega]
  have HTR := Lib.hid (fun a' c' X (h : Ts X X.heap.size (M.chunksT P) (.slice a' (M.chunksT P).length c')) => rtree_any (M.chunksT P) r a' c' X h (M.chunks_all P) (by omega) (pow_dep (by omega) (by omega)))
  have hTl := M.treeT_length (l := M.chunksT P) r (M.chunks_all P)
  rw [hmp]
  generalize M.treeT (M.chunksT P) r = T at *
  have HMX := Lib.hid (fun X => rmix_any T bs.length X (by omega) (by omega))
  have hcv : IntKind.u64.wrap (bs.length : Int) = (bs.length : Int) := by rw [IntKind.wrap_u64]; omega
  generalize M.mixT T bs.length = R at *
  clear hc hf hof1 hof2 hform hpl hcl hr hmp hTl
  go_enter Tryz.func27, Tryz.ntmps27
  go_wp2_with fail
  rw [HW.out]
  refine wp_region_held (S := fun Y => Below w0.heap.size w0 Y) mixed ?_
  have hS0 : Below w0.heap.size w0 w0.drew := Below.drew (Below.refl _ _)
  rw [show Array.replicate (Array.size _) false = #[false, false, false, false, false, false, false, false, false, false, false, false, false, false, false] from rfl, show Array.size (α := Oper) _ = 15 from rfl]
  refine wpAnyH_take (i := 0) (v := .pointer (some ⟨w.heap.size + 1, 4, none⟩)) rfl (by kernel_rfl) (by kernel_rfl) (by kernel_rfl) (fun _ _ _ h => h) (Or.inl ⟨by rfl, ?_⟩) hS0 ?_
  · intro Y hY
    skip
    go_simp
  simp only [Act.put, List.getElem_toArray, List.getElem_cons_zero, List.setIfInBounds_toArray, List.set_cons_zero, List.set_cons_succ]
  refine wpAnyH_take (i := 1) (v := .slice ab bs.length cb) rfl (by kernel_rfl) (by kernel_rfl) (by kernel_rfl) (fun _ _ _ h => h) (Or.inl ⟨by rfl, ?_⟩) hS0 ?_
  · intro Y hY
    have hAY := hA0.from_ hY hlt1; have a0 := hAY.c0; have a1 := hAY.c1; have a2 := hAY.c2; have a3 := hAY.c3; have a4 := hAY.c4; have a5 := hAY.c5; have a6 := hAY.c6; simp only [Nat.zero_add] at a1 a2 a3 a4 a5 a6
    go_simp
  simp only [Act.put, List.getElem_toArray, List.getElem_cons_succ, List.getElem_cons_zero, List.setIfInBounds_toArray, List.set_cons_zero, List.set_cons_succ]
  refine wpAnyH_take (i := 4) (v := .pointer (some ⟨w.heap.size, 1, none⟩)) rfl (by kernel_rfl) (by kernel_rfl) (by kernel_rfl) (fun _ _ _ h => h) (Or.inl ⟨by rfl, ?_⟩) hS0 ?_
  · intro Y hY
    skip
    go_simp
  simp only [Act.put, List.getElem_toArray, List.getElem_cons_succ, List.getElem_cons_zero, List.setIfInBounds_toArray, List.set_cons_zero, List.set_cons_succ]
  refine wpAnyH_take (i := 5) (v := .int .i64 (m : Nat)) rfl (by kernel_rfl) (by kernel_rfl) (by kernel_rfl) (fun _ _ _ h => h) (Or.inl ⟨by rfl, ?_⟩) hS0 ?_
  · intro Y hY
    have b0 := (hY.cell (p := ⟨w.heap.size, 0, none⟩) hlt0).trans hB0.c0; have b1 := (hY.cell (p := ⟨w.heap.size, 1, none⟩) hlt0).trans hB0.c1; have b2 := (hY.cell (p := ⟨w.heap.size, 2, none⟩) hlt0).trans hB0.c2
    go_simp
  simp only [Act.put, List.getElem_toArray, List.getElem_cons_succ, List.getElem_cons_zero, List.setIfInBounds_toArray, List.set_cons_zero, List.set_cons_succ]
  refine wpAnyH_take (i := 6) (v := .int .i64 ((m : Int) + 255)) rfl (by kernel_rfl) (by kernel_rfl) (by kernel_rfl) (fun _ _ _ h => h) (Or.inl ⟨by rfl, ?_⟩) hS0 ?_
  · intro Y hY
    skip
    go_simp
    try rw [IntKind.wrap_i64]
    try omega
  simp only [Act.put, List.getElem_toArray, List.getElem_cons_succ, List.getElem_cons_zero, List.setIfInBounds_toArray, List.set_cons_zero, List.set_cons_succ]
  refine wpAnyH_take (i := 7) (v := .int .i64 (r : Nat)) rfl (by kernel_rfl) (by kernel_rfl) (by kernel_rfl) (fun _ _ _ h => h) (Or.inl ⟨by rfl, ?_⟩) hS0 ?_
  · intro Y hY
    skip
    go_simp
    try rw [r1]
    try rw [IntKind.wrap_i64]
    try omega
  simp only [Act.put, List.getElem_toArray, List.getElem_cons_succ, List.getElem_cons_zero, List.setIfInBounds_toArray, List.set_cons_zero, List.set_cons_succ]
  refine wpAnyH_take (i := 9) (v := .pointer (some ⟨w.heap.size + 1, 4, none⟩)) rfl (by kernel_rfl) (by kernel_rfl) (by kernel_rfl) (fun _ _ _ h => h) (Or.inl ⟨by rfl, ?_⟩) hS0 ?_
  · intro Y hY
    skip
    go_simp
  simp only [Act.put, List.getElem_toArray, List.getElem_cons_succ, List.getElem_cons_zero, List.setIfInBounds_toArray, List.set_cons_zero, List.set_cons_succ]
  refine wpAnyH_take (i := 10) (v := .slice ab bs.length cb) rfl (by kernel_rfl) (by kernel_rfl) (by kernel_rfl) (fun _ _ _ h => h) (Or.inl ⟨by rfl, ?_⟩) hS0 ?_
  · intro Y hY
    have hAY := hA0.from_ hY hlt1; have a0 := hAY.c0; have a1 := hAY.c1; have a2 := hAY.c2; have a3 := hAY.c3; have a4 := hAY.c4; have a5 := hAY.c5; have a6 := hAY.c6; simp only [Nat.zero_add] at a1 a2 a3 a4 a5 a6
    go_simp
  simp only [Act.put, List.getElem_toArray, List.getElem_cons_succ, List.getElem_cons_zero, List.setIfInBounds_toArray, List.set_cons_zero, List.set_cons_succ]
  refine wpAnyH_take (i := 11) (v := .int .i64 (bs.length : Nat)) rfl (by kernel_rfl) (by kernel_rfl) (by kernel_rfl) (fun _ _ _ h => h) (Or.inl ⟨by rfl, ?_⟩) hS0 ?_
  · intro Y hY
    skip
    go_simp
  simp only [Act.put, List.getElem_toArray, List.getElem_cons_succ, List.getElem_cons_zero, List.setIfInBounds_toArray, List.set_cons_zero, List.set_cons_succ]
  refine wpAnyH_take (i := 12) (v := .int .u64 (bs.length : Nat)) rfl (by kernel_rfl) (by kernel_rfl) (by kernel_rfl) (fun _ _ _ h => h) (Or.inl ⟨by rfl, ?_⟩) hS0 ?_
  · intro Y hY
    skip
    go_simp
    try rw [hcv]
    try omega
  simp only [Act.put, List.getElem_toArray, List.getElem_cons_succ, List.getElem_cons_zero, List.setIfInBounds_toArray, List.set_cons_zero, List.set_cons_succ]
  refine wpAnyH_ready (rs := [2]) (by kernel_rfl) (by simp) ?_
  refine AllReadyH.cons rfl (fun K hK => ?_) AllReadyH.nil
  go_simp
  refine (HPK.out _ hS0).mono ?_
  rintro e w1 ⟨rfl, hb1⟩
  have hS1 : Below w0.heap.size w0 w1 := hS0.trans (Below.mono hb1 hS0.size)
  try go_wp2_with fail
  refine hK.out _ _ hS1 (fun _ => ?_)
  clear hK K
  simp only [List.setIfInBounds_toArray, List.set_cons_zero, List.set_cons_succ]
  refine wpAnyH_ready (rs := [3]) (by kernel_rfl) (by simp) ?_
  refine AllReadyH.cons rfl (fun K hK => ?_) AllReadyH.nil
  go_simp
  refine (HCH.out _).mono ?_
  rintro e w2 ⟨⟨v2, rfl, hO⟩, hb2⟩
  have hS2 : Below w0.heap.size w0 w2 := hS1.trans (Below.mono hb2 hS1.size)
  obtain ⟨la, lc, hlv⟩ := hO.len
  subst hlv
  have HX := Lib.hid (HTR.out la lc w2 hO.ts)
  try go_wp2_with fail
  refine hK.out _ _ hS2 (fun _ => ?_)
  clear hK K
  simp only [List.setIfInBounds_toArray, List.set_cons_zero, List.set_cons_succ]
  refine wpAnyH_ready (rs := [8]) (by kernel_rfl) (by simp) ?_
  refine AllReadyH.cons rfl (fun K hK => ?_) AllReadyH.nil
  go_simp
  refine HX.out.mono ?_
  rintro e w3 ⟨rfl, hb3⟩
  have hS3 : Below w0.heap.size w0 w3 := hS2.trans (Below.mono hb3 hS2.size)
  try go_wp2_with fail
  refine hK.out _ _ hS3 (fun _ => ?_)
  clear hK K
  simp only [List.setIfInBounds_toArray, List.set_cons_zero, List.set_cons_succ]
  refine wpAnyH_ready (rs := [13]) (by kernel_rfl) (by simp) ?_
  refine AllReadyH.cons rfl (fun K hK => ?_) AllReadyH.nil
  go_simp
  refine (HMX.out _).mono ?_
  rintro e w4 ⟨rfl, hb4⟩
  have hS4 : Below w0.heap.size w0 w4 := hS3.trans (Below.mono hb4 hS3.size)
  try go_wp2_with fail
  refine hK.out _ _ hS4 (fun _ => ?_)
  clear hK K
  simp only [List.setIfInBounds_toArray, List.set_cons_zero, List.set_cons_succ]
  refine wpAnyH_ready (rs := [14]) (by kernel_rfl) (by simp) ?_
  refine AllReadyH.cons rfl (fun K hK => ?_) AllReadyH.nil
  go_simp
  refine hK.out _ _ hS4 (fun _ => ?_)
  clear hK K
  simp only [List.setIfInBounds_toArray, List.set_cons_zero, List.set_cons_succ]
  refine wpAnyH_done (by kernel_rfl) ?_ _
  go_wp2_with fail
  go_ret
  exact ⟨rfl, hb0.trans (Below.mono hS4 hb0.size)⟩
end Go.Proofs.YtaajkbclojmbeaaGreatDoor
namespace Go.Proofs.YtaajkbclojmbeaaGreatDoor
open Go Go.RowKit Go.Shelf Go.Lib
attribute [local go_sem] Oper.semAt_some

theorem rrow_34 (z : Nat) (ih : Hid (ROfC z)) (k n : Int) (ts : List M.Ty) (at_ : Option Addr) (ct : Nat) (N : Nat) (bs : List Bool) (us : List M.Va) (p : Int) (ab : Option Addr) (cb : Nat) (au : Option Addr) (cu : Nat) (w : World) (hT : LayT w w.heap.size ts (.slice at_ ts.length ct)) (hV : Vl w w.heap.size N bs us ab cb au cu) (d : Nat) (hs : SizeOf.sizeOf us ≤ z + 1) (hk : k = 3 ∨ k = 4) (hc : M.chkT d (.mk k n ts) = 0) (hf : M.fitV (.mk k n ts) (.mk N bs us p) = 0) (hcnt : M.cntV (.mk N bs us p) ≤ 800) :
    Calls Tryz.prog 60 #[tv k n (.slice at_ ts.length ct), vv N (.slice ab bs.length cb) (.slice au us.length cu) p] w fun e w' => e = .returned (.string ⟨(M.rowR k n ts p us).toArray⟩) ∧ Below w.heap.size w w' := by
  obtain ⟨t, rfl⟩ := rows_one hk hc
  obtain ⟨⟨h1, _⟩, _⟩ := rows_few hk hc hf
  obtain ⟨m, rfl⟩ : ∃ m : Nat, n = (m : Int) := ⟨n.toNat, by omega⟩
  cases hp : M.isPl t with
  | true => exact rrow_p k m t at_ ct N bs us p ab cb au cu w hT hV d hk hc hf hcnt hp
  | false => exact rrow_o z ih k m t at_ ct N bs us p ab cb au cu w hT hV d hs hk hc hf hcnt hp
theorem row_len {k n : Int} {ts : List M.Ty} {us : List M.Va} {N : Nat} {bs : List Bool} {p : Int} {d : Nat} (_hk : k = 3 ∨ k = 4) (_hc : M.chkT d (.mk k n ts) = 0) (hf : M.fitV (.mk k n ts) (.mk N bs us p) = 0) : (M.rowR k n ts p us).length = 32 := by
  obtain ⟨_, _, hfs⟩ := M.of_fit hf
  unfold M.rowR M.packT
  exact M.ite_len (M.treeT_length _ (M.chunks_all _)) (M.treeT_length _ (M.roots_all k ts p 0 us hfs))
set_option maxRecDepth 100000 in
set_option maxHeartbeats 4000000 in
theorem rof_3 (z : Nat) (ih : Hid (ROfC z)) (n : Int) (ts : List M.Ty) (at_ : Option Addr) (ct : Nat) (N : Nat) (bs : List Bool) (us : List M.Va) (p : Int) (ab : Option Addr) (cb : Nat) (au : Option Addr) (cu : Nat) (w : World) (hT : LayT w w.heap.size ts (.slice at_ ts.length ct)) (hV : Vl w w.heap.size N bs us ab cb au cu) (d : Nat) (hs : SizeOf.sizeOf us ≤ z + 1) (hcnt : M.cntV (.mk N bs us p) ≤ 800) (hc : M.chkT d (.mk 3 n ts) = 0) (hf : M.fitV (.mk 3 n ts) (.mk N bs us p) = 0) :
    Calls Tryz.prog 27 #[tv 3 n (.slice at_ ts.length ct), vv N (.slice ab bs.length cb) (.slice au us.length cu) p] w fun e w' => e = .returned (.string ⟨(M.rootV (.mk 3 n ts) (.mk N bs us p)).toArray⟩) ∧ Below w.heap.size w w' := by
  obtain ⟨w0, hw0⟩ : ∃ w0, (w.alloc (.cells #[.int .i64 3, .int .i64 n, .slice at_ ts.length ct] 32)).alloc (.cells #[.int .u64 (M.pt 0 N), .int .u64 (M.pt 1 N), .int .u64 (M.pt 2 N), .int .u64 (M.pt 3 N), .slice ab bs.length cb, .slice au us.length cu, .int .i64 p] 38) = w0 := ⟨_, rfl⟩
  have hb0 : Below w.heap.size w w0 := by rw [← hw0]; exact two_boxes _ _ _
  have hz0 : w0.heap.size = w.heap.size + 2 := by rw [← hw0]; simp
  have hB0 : BoxT w0 w.heap.size 3 n (.slice at_ ts.length ct) := by rw [← hw0]; exact ⟨by simp [go_sem], by simp [go_sem], by simp [go_sem]⟩
  have hA0 : Cells7 w0 (w.heap.size + 1) 0 N (.slice ab bs.length cb) (.slice au us.length cu) p := by
    rw [← hw0]
    have := Cells7.new (w.alloc (.cells #[.int .i64 3, .int .i64 n, .slice at_ ts.length ct] 32)) N (.slice ab bs.length cb) (.slice au us.length cu) p 38
    rwa [World.size_alloc] at this
  have hlt0 : w.heap.size < w0.heap.size := by omega
  have hlt1 : w.heap.size + 1 < w0.heap.size := by omega
  have HW := Lib.hid hw0
  have HZ0 := Lib.hid hz0
  have mixed : Tryz.prog.follows .mixedOrders = true := by kernel_rfl
  clear hw0 hz0
  have HR := Lib.hid (rrow_34 z ih 3 n ts at_ ct N bs us p ab cb au cu w0 ((hT.from_ hb0).mono hb0.size) ((hV.from_ hb0).mono hb0.size) d hs (Or.inl rfl) hc hf hcnt)
  rw [M.rootV3]
  generalize M.rowR 3 n ts p us = R at *
  clear hc hf
  go_enter Tryz.func27, Tryz.ntmps27
  go_wp2_with fail
  rw [HW.out]
  refine HR.out.mono ?_
  rintro e w1 ⟨rfl, hb1⟩
  go_wp2_with fail
  go_ret
  exact ⟨rfl, hb0.trans (Below.mono hb1 hb0.size)⟩
set_option maxRecDepth 100000 in
set_option maxHeartbeats 4000000 in
theorem rof_7 (z : Nat) (ih : Hid (ROfC z)) (n : Int) (ts : List M.Ty) (at_ : Option Addr) (ct : Nat) (N : Nat) (bs : List Bool) (us : List M.Va) (p : Int) (ab : Option Addr) (cb : Nat) (au : Option Addr) (cu : Nat) (w : World) (hT : LayT w w.heap.size ts (.slice at_ ts.length ct)) (hV : Vl w w.heap.size N bs us ab cb au cu) (d : Nat) (hs : SizeOf.sizeOf us ≤ z + 1) (hcnt : M.cntV (.mk N bs us p) ≤ 800) (hc : M.chkT d (.mk 7 n ts) = 0) (hf : M.fitV (.mk 7 n ts) (.mk N bs us p) = 0) :
    Calls Tryz.prog 27 #[tv 7 n (.slice at_ ts.length ct), vv N (.slice ab bs.length cb) (.slice au us.length cu) p] w fun e w' => e = .returned (.string ⟨(M.rootV (.mk 7 n ts) (.mk N bs us p)).toArray⟩) ∧ Below w.heap.size w w' := by
  obtain ⟨w0, hw0⟩ : ∃ w0, (w.alloc (.cells #[.int .i64 7, .int .i64 n, .slice at_ ts.length ct] 32)).alloc (.cells #[.int .u64 (M.pt 0 N), .int .u64 (M.pt 1 N), .int .u64 (M.pt 2 N), .int .u64 (M.pt 3 N), .slice ab bs.length cb, .slice au us.length cu, .int .i64 p] 38) = w0 := ⟨_, rfl⟩
  have hb0 : Below w.heap.size w w0 := by rw [← hw0]; exact two_boxes _ _ _
  have hz0 : w0.heap.size = w.heap.size + 2 := by rw [← hw0]; simp
  have hB0 : BoxT w0 w.heap.size 7 n (.slice at_ ts.length ct) := by rw [← hw0]; exact ⟨by simp [go_sem], by simp [go_sem], by simp [go_sem]⟩
  have hA0 : Cells7 w0 (w.heap.size + 1) 0 N (.slice ab bs.length cb) (.slice au us.length cu) p := by
    rw [← hw0]
    have := Cells7.new (w.alloc (.cells #[.int .i64 7, .int .i64 n, .slice at_ ts.length ct] 32)) N (.slice ab bs.length cb) (.slice au us.length cu) p 38
    rwa [World.size_alloc] at this
  have hlt0 : w.heap.size < w0.heap.size := by omega
  have hlt1 : w.heap.size + 1 < w0.heap.size := by omega
  have HW := Lib.hid hw0
  have HZ0 := Lib.hid hz0
  have mixed : Tryz.prog.follows .mixedOrders = true := by kernel_rfl
  clear hw0 hz0
  have HR := Lib.hid (rrow_7 z ih n ts at_ ct N bs us p ab cb au cu w0 ((hT.from_ hb0).mono hb0.size) ((hV.from_ hb0).mono hb0.size) d hs hc hf hcnt)
  rw [M.rootV7]
  generalize M.treeT (M.rootVs 7 ts p 0 us) ts.length = R at *
  clear hc hf
  go_enter Tryz.func27, Tryz.ntmps27
  go_wp2_with fail
  rw [HW.out]
  refine HR.out.mono ?_
  rintro e w1 ⟨rfl, hb1⟩
  go_wp2_with fail
  go_ret
  exact ⟨rfl, hb0.trans (Below.mono hb1 hb0.size)⟩
set_option maxRecDepth 100000 in
set_option maxHeartbeats 4000000 in
theorem rof_4 (z : Nat) (ih : Hid (ROfC z)) (n : Int) (ts : List M.Ty) (at_ : Option Addr) (ct : Nat) (N : Nat) (bs : List Bool) (us : List M.Va) (p : Int) (ab : Option Addr) (cb : Nat) (au : Option Addr) (cu : Nat) (w : World) (hT : LayT w w.heap.size ts (.slice at_ ts.length ct)) (hV : Vl w w.heap.size N bs us ab cb au cu) (d : Nat) (hs : SizeOf.sizeOf us ≤ z + 1) (hcnt : M.cntV (.mk N bs us p) ≤ 800) (hc : M.chkT d (.mk 4 n ts) = 0) (hf : M.fitV (.mk 4 n ts) (.mk N bs us p) = 0) :
    Calls Tryz.prog 27 #[tv 4 n (.slice at_ ts.length ct), vv N (.slice ab bs.length cb) (.slice au us.length cu) p] w fun e w' => e = .returned (.string ⟨(M.rootV (.mk 4 n ts) (.mk N bs us p)).toArray⟩) ∧ Below w.heap.size w w' := by
  obtain ⟨w0, hw0⟩ : ∃ w0, (w.alloc (.cells #[.int .i64 4, .int .i64 n, .slice at_ ts.length ct] 32)).alloc (.cells #[.int .u64 (M.pt 0 N), .int .u64 (M.pt 1 N), .int .u64 (M.pt 2 N), .int .u64 (M.pt 3 N), .slice ab bs.length cb, .slice au us.length cu, .int .i64 p] 38) = w0 := ⟨_, rfl⟩
  have hb0 : Below w.heap.size w w0 := by rw [← hw0]; exact two_boxes _ _ _
  have hz0 : w0.heap.size = w.heap.size + 2 := by rw [← hw0]; simp
  have hB0 : BoxT w0 w.heap.size 4 n (.slice at_ ts.length ct) := by rw [← hw0]; exact ⟨by simp [go_sem], by simp [go_sem], by simp [go_sem]⟩
  have hA0 : Cells7 w0 (w.heap.size + 1) 0 N (.slice ab bs.length cb) (.slice au us.length cu) p := by
    rw [← hw0]
    have := Cells7.new (w.alloc (.cells #[.int .i64 4, .int .i64 n, .slice at_ ts.length ct] 32)) N (.slice ab bs.length cb) (.slice au us.length cu) p 38
    rwa [World.size_alloc] at this
  have hlt0 : w.heap.size < w0.heap.size := by omega
  have hlt1 : w.heap.size + 1 < w0.heap.size := by omega
  have HW := Lib.hid hw0
  have HZ0 := Lib.hid hz0
  have mixed : Tryz.prog.follows .mixedOrders = true := by kernel_rfl
  clear hw0 hz0
  have HR := Lib.hid (fun X (h : Below w0.heap.size w0 X) => rrow_34 z ih 4 n ts at_ ct N bs us p ab cb au cu X ((hT.from_ (hb0.trans (h.mono hb0.size))).mono (hb0.trans (h.mono hb0.size)).size) ((hV.from_ (hb0.trans (h.mono hb0.size))).mono (hb0.trans (h.mono hb0.size)).size) d hs (Or.inr rfl) hc hf hcnt)
  rw [M.rootV4]
  have hRl := row_len (Or.inr rfl) hc hf
  generalize M.rowR 4 n ts p us = R at *
  have hul : us.length ≤ 800 := by rw [M.cntV] at hcnt; have := M.length_cntV us; omega
  have HMX := Lib.hid (fun X => rmix_any R us.length X (by omega) (by omega))
  have hcv : IntKind.u64.wrap (us.length : Int) = (us.length : Int) := by rw [IntKind.wrap_u64]; omega
  generalize M.mixT R us.length = Q at *
  clear hc hf hRl
  go_enter Tryz.func27, Tryz.ntmps27
  go_wp2_with fail
  rw [HW.out]
  refine wp_region_held (S := fun Y => Below w0.heap.size w0 Y) mixed ?_
  have hS0 : Below w0.heap.size w0 w0.drew := Below.drew (Below.refl _ _)
  rw [show Array.replicate (Array.size _) false = #[false, false, false, false, false, false, false, false, false] from rfl, show Array.size (α := Oper) _ = 9 from rfl]
  refine wpAnyH_take (i := 0) (v := tv 4 n (.slice at_ ts.length ct)) rfl (by kernel_rfl) (by kernel_rfl) (by kernel_rfl) (fun _ _ _ h => h) (Or.inl ⟨by rfl, ?_⟩) hS0 ?_
  · intro Y hY
    have b0 := (hY.cell (p := ⟨w.heap.size, 0, none⟩) hlt0).trans hB0.c0; have b1 := (hY.cell (p := ⟨w.heap.size, 1, none⟩) hlt0).trans hB0.c1; have b2 := (hY.cell (p := ⟨w.heap.size, 2, none⟩) hlt0).trans hB0.c2
    go_simp
  simp only [Act.put, List.getElem_toArray, List.getElem_cons_zero, List.setIfInBounds_toArray, List.set_cons_zero, List.set_cons_succ]
  refine wpAnyH_take (i := 1) (v := vv N (.slice ab bs.length cb) (.slice au us.length cu) p) rfl (by kernel_rfl) (by kernel_rfl) (by kernel_rfl) (fun _ _ _ h => h) (Or.inl ⟨by rfl, ?_⟩) hS0 ?_
  · intro Y hY
    have hAY := hA0.from_ hY hlt1; have a0 := hAY.c0; have a1 := hAY.c1; have a2 := hAY.c2; have a3 := hAY.c3; have a4 := hAY.c4; have a5 := hAY.c5; have a6 := hAY.c6; simp only [Nat.zero_add] at a1 a2 a3 a4 a5 a6
    go_simp
  simp only [Act.put, List.getElem_toArray, List.getElem_cons_succ, List.getElem_cons_zero, List.setIfInBounds_toArray, List.set_cons_zero, List.set_cons_succ]
  refine wpAnyH_take (i := 3) (v := .pointer (some ⟨w.heap.size + 1, 5, none⟩)) rfl (by kernel_rfl) (by kernel_rfl) (by kernel_rfl) (fun _ _ _ h => h) (Or.inl ⟨by rfl, ?_⟩) hS0 ?_
  · intro Y hY
    skip
    go_simp
  simp only [Act.put, List.getElem_toArray, List.getElem_cons_succ, List.getElem_cons_zero, List.setIfInBounds_toArray, List.set_cons_zero, List.set_cons_succ]
  refine wpAnyH_take (i := 4) (v := .slice au us.length cu) rfl (by kernel_rfl) (by kernel_rfl) (by kernel_rfl) (fun _ _ _ h => h) (Or.inl ⟨by rfl, ?_⟩) hS0 ?_
  · intro Y hY
    have hAY := hA0.from_ hY hlt1; have a0 := hAY.c0; have a1 := hAY.c1; have a2 := hAY.c2; have a3 := hAY.c3; have a4 := hAY.c4; have a5 := hAY.c5; have a6 := hAY.c6; simp only [Nat.zero_add] at a1 a2 a3 a4 a5 a6
    go_simp
  simp only [Act.put, List.getElem_toArray, List.getElem_cons_succ, List.getElem_cons_zero, List.setIfInBounds_toArray, List.set_cons_zero, List.set_cons_succ]
  refine wpAnyH_take (i := 5) (v := .int .i64 (us.length : Nat)) rfl (by kernel_rfl) (by kernel_rfl) (by kernel_rfl) (fun _ _ _ h => h) (Or.inl ⟨by rfl, ?_⟩) hS0 ?_
  · intro Y hY
    skip
    go_simp
  simp only [Act.put, List.getElem_toArray, List.getElem_cons_succ, List.getElem_cons_zero, List.setIfInBounds_toArray, List.set_cons_zero, List.set_cons_succ]
  refine wpAnyH_take (i := 6) (v := .int .u64 (us.length : Nat)) rfl (by kernel_rfl) (by kernel_rfl) (by kernel_rfl) (fun _ _ _ h => h) (Or.inl ⟨by rfl, ?_⟩) hS0 ?_
  · intro Y hY
    skip
    go_simp
    try rw [hcv]
    try omega
  simp only [Act.put, List.getElem_toArray, List.getElem_cons_succ, List.getElem_cons_zero, List.setIfInBounds_toArray, List.set_cons_zero, List.set_cons_succ]
  refine wpAnyH_ready (rs := [2]) (by kernel_rfl) (by simp) ?_
  refine AllReadyH.cons rfl (fun K hK => ?_) AllReadyH.nil
  go_simp
  refine (HR.out _ hS0).mono ?_
  rintro e w1 ⟨rfl, hb1⟩
  have hS1 : Below w0.heap.size w0 w1 := hS0.trans (Below.mono hb1 hS0.size)
  try go_wp2_with fail
  refine hK.out _ _ hS1 (fun _ => ?_)
  clear hK K
  simp only [List.setIfInBounds_toArray, List.set_cons_zero, List.set_cons_succ]
  refine wpAnyH_ready (rs := [7]) (by kernel_rfl) (by simp) ?_
  refine AllReadyH.cons rfl (fun K hK => ?_) AllReadyH.nil
  go_simp
  refine (HMX.out _).mono ?_
  rintro e w2 ⟨rfl, hb2⟩
  have hS2 : Below w0.heap.size w0 w2 := hS1.trans (Below.mono hb2 hS1.size)
  try go_wp2_with fail
  refine hK.out _ _ hS2 (fun _ => ?_)
  clear hK K
  simp only [List.setIfInBounds_toArray, List.set_cons_zero, List.set_cons_succ]
  refine wpAnyH_ready (rs := [8]) (by kernel_rfl) (by simp) ?_
  refine AllReadyH.cons rfl (fun K hK => ?_) AllReadyH.nil
  go_simp
  refine hK.out _ _ hS2 (fun _ => ?_)
  clear hK K
  simp only [List.setIfInBounds_toArray, List.set_cons_zero, List.set_cons_succ]
  refine wpAnyH_done (by kernel_rfl) ?_ _
  go_wp2_with fail
  go_ret
  exact ⟨rfl, hb0.trans (Below.mono hS2 hb0.size)⟩
set_option maxRecDepth 100000 in
set_option maxHeartbeats 4000000 in
theorem rof_8 (z : Nat) (ih : Hid (ROfC z)) (n : Int) (ts : List M.Ty) (at_ : Option Addr) (ct : Nat) (N : Nat) (bs : List Bool) (us : List M.Va) (p : Int) (ab : Option Addr) (cb : Nat) (au : Option Addr) (cu : Nat) (w : World) (hT : LayT w w.heap.size ts (.slice at_ ts.length ct)) (hV : Vl w w.heap.size N bs us ab cb au cu) (d : Nat) (hs : SizeOf.sizeOf us ≤ z + 1) (hcnt : M.cntV (.mk N bs us p) ≤ 800) (hc : M.chkT d (.mk 8 n ts) = 0) (hf : M.fitV (.mk 8 n ts) (.mk N bs us p) = 0) :
    Calls Tryz.prog 27 #[tv 8 n (.slice at_ ts.length ct), vv N (.slice ab bs.length cb) (.slice au us.length cu) p] w fun e w' => e = .returned (.string ⟨(M.rootV (.mk 8 n ts) (.mk N bs us p)).toArray⟩) ∧ Below w.heap.size w w' := by
  have hfp := M.fit_parts0 hf
  have ho := hfp.2.1
  rw [M.ofV_8] at ho
  simp only [Bool.and_eq_true, beq_iff_eq, decide_eq_true_eq] at ho
  obtain ⟨⟨⟨⟨rfl, hbl⟩, hul⟩, hp0⟩, hp1⟩ := ho
  obtain ⟨pk, rfl⟩ : ∃ pk : Nat, p = (pk : Int) := ⟨p.toNat, by omega⟩
  have hpk : pk < ts.length := by omega
  have htl : ts.length ≤ 8 := by
    have h3 := (M.chkT_ok.1 hc).2.1
    unfold M.formT at h3
    simp at h3
    omega
  obtain ⟨x, rfl⟩ : ∃ x, us = [x] := by
    cases us with
    | nil => simp at hul
    | cons x us => cases us with
      | nil => exact ⟨x, rfl⟩
      | cons y us => simp at hul
  obtain ⟨b, o, k', n', us', ua, uc, hat, hbn, hts, q0, q1, q2, hLt⟩ := hT.at_ hpk
  obtain ⟨b2, o2, N2, bs2, vs2, p2, ab2, cb2, av2, cv2, hau, hbn2, hxk, h7, hVl⟩ := hV.v.at_ (i := 0) (by simp)
  subst hat hau
  obtain rfl : x = .mk N2 bs2 vs2 p2 := by simpa using hxk
  have hin : M.inT 8 ts (pk : Int) 0 = .mk k' n' us' := by simp [M.inT, hts]
  have hfx : M.fitV (.mk k' n' us') (.mk N2 bs2 vs2 p2) = 0 := by
    have := M.fitVs_at 8 ts (pk : Int) _ 0 0 _ hfp.2.2 (by rfl : [M.Va.mk N2 bs2 vs2 p2][0]? = some _)
    rw [Nat.zero_add, hin] at this
    exact this
  have hcx : M.chkT (d + 1) (.mk k' n' us') = 0 := M.chkTs_ok.1 (M.chkT_ok.1 hc).2.2.2 _ (List.mem_of_getElem? hts)
  rw [M.cntV, M.cntVs, M.cntVs] at hcnt
  have hsv : SizeOf.sizeOf vs2 ≤ z := by simp at hs; omega
  have hRl := M.root_length (.mk k' n' us') (.mk N2 bs2 vs2 p2) hfx
  have hRV : M.rootV (.mk 8 n ts) (.mk 0 bs [.mk N2 bs2 vs2 p2] (pk : Int)) = M.mixT (M.rootV (.mk k' n' us') (.mk N2 bs2 vs2 p2)) pk := by
    rw [M.rootV8, M.rootVs, M.rootVs, hin, Int.toNat_natCast]
    rfl
  rw [hRV]
  simp only [Nat.zero_mul, Nat.add_zero] at h7
  obtain ⟨w0, hw0⟩ : ∃ w0, (w.alloc (.cells #[.int .i64 8, .int .i64 n, .slice (some ⟨b, o, none⟩) ts.length ct] 32)).alloc (.cells #[.int .u64 (M.pt 0 0), .int .u64 (M.pt 1 0), .int .u64 (M.pt 2 0), .int .u64 (M.pt 3 0), .slice ab bs.length cb, .slice (some ⟨b2, o2, none⟩) 1 cu, .int .i64 (pk : Int)] 38) = w0 := ⟨_, rfl⟩
  have hb0 : Below w.heap.size w w0 := by rw [← hw0]; exact two_boxes _ _ _
  have hz0 : w0.heap.size = w.heap.size + 2 := by rw [← hw0]; simp
  have hB0 : BoxT w0 w.heap.size 8 n (.slice (some ⟨b, o, none⟩) ts.length ct) := by rw [← hw0]; exact ⟨by simp [go_sem], by simp [go_sem], by simp [go_sem]⟩
  have hA0 : Cells7 w0 (w.heap.size + 1) 0 0 (.slice ab bs.length cb) (.slice (some ⟨b2, o2, none⟩) 1 cu) (pk : Int) := by
    rw [← hw0]
    have := Cells7.new (w.alloc (.cells #[.int .i64 8, .int .i64 n, .slice (some ⟨b, o, none⟩) ts.length ct] 32)) 0 (.slice ab bs.length cb) (.slice (some ⟨b2, o2, none⟩) 1 cu) (pk : Int) 38
    rwa [World.size_alloc] at this
  have hlt0 : w.heap.size < w0.heap.size := by omega
  have hlt1 : w.heap.size + 1 < w0.heap.size := by omega
  have HW := Lib.hid hw0
  have HZ0 := Lib.hid hz0
  have mixed : Tryz.prog.follows .mixedOrders = true := by kernel_rfl
  clear hw0 hz0
  have HO := Lib.hid (fun X (h : Below w0.heap.size w0 X) => ih.out k' n' us' ua uc (d + 1) N2 bs2 vs2 p2 ab2 cb2 av2 cv2 X hsv ((hLt.from_ (hb0.trans (h.mono hb0.size))).mono (hb0.trans (h.mono hb0.size)).size) ((hVl.from_ (hb0.trans (h.mono hb0.size))).mono (hb0.trans (h.mono hb0.size)).size) hcx hfx (by omega))
  generalize M.rootV (.mk k' n' us') (.mk N2 bs2 vs2 p2) = R at *
  have HMX := Lib.hid (fun X => rmix_any R pk X (by omega) (by omega))
  have hcv : IntKind.u64.wrap (pk : Int) = (pk : Int) := by rw [IntKind.wrap_u64]; omega
  generalize M.mixT R pk = Q at *
  have g0 := (hb0.cell (p := ⟨b, o + pk * 3, none⟩) hbn).trans q0
  have g1 := (hb0.cell (p := ⟨b, o + pk * 3 + 1, none⟩) hbn).trans q1
  have g2 := (hb0.cell (p := ⟨b, o + pk * 3 + 2, none⟩) hbn).trans q2
  have hbn0 : b < w0.heap.size := by omega
  have hbn20 : b2 < w0.heap.size := by omega
  have hE0 := h7.from_ hb0 hbn2
  have hpkI : (pk : Int) < ts.length := by omega
  clear hc hf hfp hRl hRV hfx hcx hin hxk hts q0 q1 q2 h7 hs hcnt hp1 hp0 ih hbl hul
  go_enter Tryz.func27, Tryz.ntmps27
  go_wp2_with fail
  rw [HW.out]
  refine wp_region_held (S := fun Y => Below w0.heap.size w0 Y) mixed ?_
  have hS0 : Below w0.heap.size w0 w0.drew := Below.drew (Below.refl _ _)
  rw [show Array.replicate (Array.size _) false = #[false, false, false, false, false, false, false, false, false, false, false, false, false, false, false, false] from rfl, show Array.size (α := Oper) _ = 16 from rfl]
  refine wpAnyH_take (i := 0) (v := .pointer (some ⟨w.heap.size, 2, none⟩)) rfl (by kernel_rfl) (by kernel_rfl) (by kernel_rfl) (fun _ _ _ h => h) (Or.inl ⟨by rfl, ?_⟩) hS0 ?_
  · intro Y hY
    skip
    go_simp
  simp only [Act.put, List.getElem_toArray, List.getElem_cons_zero, List.setIfInBounds_toArray, List.set_cons_zero, List.set_cons_succ]
  refine wpAnyH_take (i := 1) (v := .slice (some ⟨b, o, none⟩) ts.length ct) rfl (by kernel_rfl) (by kernel_rfl) (by kernel_rfl) (fun _ _ _ h => h) (Or.inl ⟨by rfl, ?_⟩) hS0 ?_
  · intro Y hY
    have b0 := (hY.cell (p := ⟨w.heap.size, 0, none⟩) hlt0).trans hB0.c0; have b1 := (hY.cell (p := ⟨w.heap.size, 1, none⟩) hlt0).trans hB0.c1; have b2 := (hY.cell (p := ⟨w.heap.size, 2, none⟩) hlt0).trans hB0.c2
    go_simp
  simp only [Act.put, List.getElem_toArray, List.getElem_cons_succ, List.getElem_cons_zero, List.setIfInBounds_toArray, List.set_cons_zero, List.set_cons_succ]
  refine wpAnyH_take (i := 2) (v := .pointer (some ⟨w.heap.size + 1, 6, none⟩)) rfl (by kernel_rfl) (by kernel_rfl) (by kernel_rfl) (fun _ _ _ h => h) (Or.inl ⟨by rfl, ?_⟩) hS0 ?_
  · intro Y hY
    skip
    go_simp
  simp only [Act.put, List.getElem_toArray, List.getElem_cons_succ, List.getElem_cons_zero, List.setIfInBounds_toArray, List.set_cons_zero, List.set_cons_succ]
  refine wpAnyH_take (i := 3) (v := .int .i64 (pk : Int)) rfl (by kernel_rfl) (by kernel_rfl) (by kernel_rfl) (fun _ _ _ h => h) (Or.inl ⟨by rfl, ?_⟩) hS0 ?_
  · intro Y hY
    have hAY := hA0.from_ hY hlt1; have a0 := hAY.c0; have a1 := hAY.c1; have a2 := hAY.c2; have a3 := hAY.c3; have a4 := hAY.c4; have a5 := hAY.c5; have a6 := hAY.c6; simp only [Nat.zero_add] at a1 a2 a3 a4 a5 a6
    go_simp
  simp only [Act.put, List.getElem_toArray, List.getElem_cons_succ, List.getElem_cons_zero, List.setIfInBounds_toArray, List.set_cons_zero, List.set_cons_succ]
  refine wpAnyH_take (i := 4) (v := .pointer (some ⟨b, o + pk * 3, none⟩)) rfl (by kernel_rfl) (by kernel_rfl) (by kernel_rfl) (fun _ _ _ h => h) (Or.inl ⟨by rfl, ?_⟩) hS0 ?_
  · intro Y hY
    skip
    go_simp
    try (intro h; omega)
  simp only [Act.put, List.getElem_toArray, List.getElem_cons_succ, List.getElem_cons_zero, List.setIfInBounds_toArray, List.set_cons_zero, List.set_cons_succ]
  refine wpAnyH_take (i := 5) (v := tv k' n' (.slice ua us'.length uc)) rfl (by kernel_rfl) (by kernel_rfl) (by kernel_rfl) (fun _ _ _ h => h) (Or.inl ⟨by rfl, ?_⟩) hS0 ?_
  · intro Y hY
    have f0 := (hY.cell (p := ⟨b, o + pk * 3, none⟩) hbn0).trans g0; have f1 := (hY.cell (p := ⟨b, o + pk * 3 + 1, none⟩) hbn0).trans g1; have f2 := (hY.cell (p := ⟨b, o + pk * 3 + 2, none⟩) hbn0).trans g2
    go_simp
  simp only [Act.put, List.getElem_toArray, List.getElem_cons_succ, List.getElem_cons_zero, List.setIfInBounds_toArray, List.set_cons_zero, List.set_cons_succ]
  refine wpAnyH_take (i := 6) (v := .pointer (some ⟨w.heap.size + 1, 5, none⟩)) rfl (by kernel_rfl) (by kernel_rfl) (by kernel_rfl) (fun _ _ _ h => h) (Or.inl ⟨by rfl, ?_⟩) hS0 ?_
  · intro Y hY
    skip
    go_simp
  simp only [Act.put, List.getElem_toArray, List.getElem_cons_succ, List.getElem_cons_zero, List.setIfInBounds_toArray, List.set_cons_zero, List.set_cons_succ]
  refine wpAnyH_take (i := 7) (v := .slice (some ⟨b2, o2, none⟩) 1 cu) rfl (by kernel_rfl) (by kernel_rfl) (by kernel_rfl) (fun _ _ _ h => h) (Or.inl ⟨by rfl, ?_⟩) hS0 ?_
  · intro Y hY
    have hAY := hA0.from_ hY hlt1; have a0 := hAY.c0; have a1 := hAY.c1; have a2 := hAY.c2; have a3 := hAY.c3; have a4 := hAY.c4; have a5 := hAY.c5; have a6 := hAY.c6; simp only [Nat.zero_add] at a1 a2 a3 a4 a5 a6
    go_simp
  simp only [Act.put, List.getElem_toArray, List.getElem_cons_succ, List.getElem_cons_zero, List.setIfInBounds_toArray, List.set_cons_zero, List.set_cons_succ]
  refine wpAnyH_take (i := 8) (v := .pointer (some ⟨b2, o2, none⟩)) rfl (by kernel_rfl) (by kernel_rfl) (by kernel_rfl) (fun _ _ _ h => h) (Or.inl ⟨by rfl, ?_⟩) hS0 ?_
  · intro Y hY
    skip
    go_simp
  simp only [Act.put, List.getElem_toArray, List.getElem_cons_succ, List.getElem_cons_zero, List.setIfInBounds_toArray, List.set_cons_zero, List.set_cons_succ]
  refine wpAnyH_take (i := 9) (v := vv N2 (.slice ab2 bs2.length cb2) (.slice av2 vs2.length cv2) p2) rfl (by kernel_rfl) (by kernel_rfl) (by kernel_rfl) (fun _ _ _ h => h) (Or.inl ⟨by rfl, ?_⟩) hS0 ?_
  · intro Y hY
    have zc := hE0.from_ hY hbn20; have c0 := zc.c0; have c1 := zc.c1; have c2 := zc.c2; have c3 := zc.c3; have c4 := zc.c4; have c5 := zc.c5; have c6 := zc.c6
    go_simp
  simp only [Act.put, List.getElem_toArray, List.getElem_cons_succ, List.getElem_cons_zero, List.setIfInBounds_toArray, List.set_cons_zero, List.set_cons_succ]
  refine wpAnyH_take (i := 11) (v := .pointer (some ⟨w.heap.size + 1, 6, none⟩)) rfl (by kernel_rfl) (by kernel_rfl) (by kernel_rfl) (fun _ _ _ h => h) (Or.inl ⟨by rfl, ?_⟩) hS0 ?_
  · intro Y hY
    skip
    go_simp
  simp only [Act.put, List.getElem_toArray, List.getElem_cons_succ, List.getElem_cons_zero, List.setIfInBounds_toArray, List.set_cons_zero, List.set_cons_succ]
  refine wpAnyH_take (i := 12) (v := .int .i64 (pk : Int)) rfl (by kernel_rfl) (by kernel_rfl) (by kernel_rfl) (fun _ _ _ h => h) (Or.inl ⟨by rfl, ?_⟩) hS0 ?_
  · intro Y hY
    have hAY := hA0.from_ hY hlt1; have a0 := hAY.c0; have a1 := hAY.c1; have a2 := hAY.c2; have a3 := hAY.c3; have a4 := hAY.c4; have a5 := hAY.c5; have a6 := hAY.c6; simp only [Nat.zero_add] at a1 a2 a3 a4 a5 a6
    go_simp
  simp only [Act.put, List.getElem_toArray, List.getElem_cons_succ, List.getElem_cons_zero, List.setIfInBounds_toArray, List.set_cons_zero, List.set_cons_succ]
  refine wpAnyH_take (i := 13) (v := .int .u64 (pk : Int)) rfl (by kernel_rfl) (by kernel_rfl) (by kernel_rfl) (fun _ _ _ h => h) (Or.inl ⟨by rfl, ?_⟩) hS0 ?_
  · intro Y hY
    skip
    go_simp
    try rw [hcv]
    try omega
  simp only [Act.put, List.getElem_toArray, List.getElem_cons_succ, List.getElem_cons_zero, List.setIfInBounds_toArray, List.set_cons_zero, List.set_cons_succ]
  refine wpAnyH_ready (rs := [10]) (by kernel_rfl) (by simp) ?_
  refine AllReadyH.cons rfl (fun K hK => ?_) AllReadyH.nil
  go_simp
  refine (HO.out _ hS0).mono ?_
  rintro e w1 ⟨rfl, hb1⟩
  have hS1 : Below w0.heap.size w0 w1 := hS0.trans (Below.mono hb1 hS0.size)
  try go_wp2_with fail
  refine hK.out _ _ hS1 (fun _ => ?_)
  clear hK K
  simp only [List.setIfInBounds_toArray, List.set_cons_zero, List.set_cons_succ]
  refine wpAnyH_ready (rs := [14]) (by kernel_rfl) (by simp) ?_
  refine AllReadyH.cons rfl (fun K hK => ?_) AllReadyH.nil
  go_simp
  refine (HMX.out _).mono ?_
  rintro e w2 ⟨rfl, hb2⟩
  have hS2 : Below w0.heap.size w0 w2 := hS1.trans (Below.mono hb2 hS1.size)
  try go_wp2_with fail
  refine hK.out _ _ hS2 (fun _ => ?_)
  clear hK K
  simp only [List.setIfInBounds_toArray, List.set_cons_zero, List.set_cons_succ]
  refine wpAnyH_ready (rs := [15]) (by kernel_rfl) (by simp) ?_
  refine AllReadyH.cons rfl (fun K hK => ?_) AllReadyH.nil
  go_simp
  refine hK.out _ _ hS2 (fun _ => ?_)
  clear hK K
  simp only [List.setIfInBounds_toArray, List.set_cons_zero, List.set_cons_succ]
  refine wpAnyH_done (by kernel_rfl) ?_ _
  go_wp2_with fail
  go_ret
  exact ⟨rfl, hb0.trans (Below.mono hS2 hb0.size)⟩
end Go.Proofs.YtaajkbclojmbeaaGreatDoor
namespace Go.Proofs.YtaajkbclojmbeaaGreatDoor
open Go Go.RowKit Go.Shelf Go.Lib
attribute [local go_sem] Oper.semAt_some

theorem chunk32_any (len cap : Nat) (A : Option Addr) (w : World) :
    Calls Tryz.prog 29 #[.slice A len cap, .int .i64 32] w fun e w' =>
      e = .returned (.func (.func 63) #[] #[.pointer (some ⟨w.heap.size, 0, none⟩), .pointer (some ⟨w.heap.size + 1, 0, none⟩)]) ∧ w' = (w.alloc (.cells #[.slice A len cap] 41)).alloc (.cells #[.int .i64 32] 3) := by
  have hmf : ∀ (fn : Fn) (first cap : Array Value) (w : World), (Instr.makeFunc fn first cap).run Tryz.prog w = .ok (.func fn first cap) w := fun _ _ _ _ => rfl
  go_enter Tryz.func29, Tryz.ntmps29
  go_wp2_with fail
  go_ret
  exact ⟨rfl, rfl⟩
/-- What comes next: a place. -/
def GoodK (K : Nat) (pre : List Nat) (x : Nat) : Prop := pre = List.range pre.length ∧ x = pre.length ∧ x < K
/-- How long a part is. -/
def cwT (len x : Nat) : Nat := if len - 32 * x < 32 then len - 32 * x else 32
def encK (g len : Nat) (x : Nat) : Array Value := #[.slice (some ⟨g, 32 * x, none⟩) (cwT len x) (cwT len x)]

set_option maxRecDepth 100000 in
set_option maxHeartbeats 4000000 in
theorem chunk_seq (T : Nat → Prop) (len cap g : Nat) (hcap : len ≤ cap) (hmax : cap ≤ maxLen) (hl : len ≤ 1000000) (l bs bn : Nat) (J : List Nat → World → Prop) (Jp : List PanicEntry → World → Prop)
    (cs : Hid (∀ pre A, J pre A → A.cell? ⟨bs, 0, none⟩ = some (.slice (some ⟨g, 0, none⟩) len cap))) (cn : Hid (∀ pre A, J pre A → A.cell? ⟨bn, 0, none⟩ = some (.int .i64 32))) (dr : Hid (∀ pre A, J pre A → J pre A.drew))
    (y : Hid (∀ m pre x A, J pre A → GoodK ((len + 31) / 32) pre x → YieldAt Fence.wide m Tryz.prog l (encK g len x) A fun e W' =>
      (e = .returned (.bool true) ∧ J (pre ++ [x]) W' ∧ A.heap.size ≤ W'.heap.size ∧ ∀ b, b < A.heap.size → T b → W'.heap[b]? = A.heap[b]?) ∨ (∃ ch, e = .panicked ch ∧ Jp ch W')))
    (m : Nat) (W : World) (h0 : J [] W) :
    CallsIn Fence.wide m Tryz.prog 63 #[.func (.yield l) #[] #[], .pointer (some ⟨bs, 0, none⟩), .pointer (some ⟨bn, 0, none⟩)] W fun e W' =>
      (∃ v xs, e = .returned v ∧ xs = List.range ((len + 31) / 32) ∧ J xs W') ∨ (∃ ch, e = .panicked ch ∧ Jp ch W') := by
  have hro : Fence.wide.round = none := rfl
  have mixed : Tryz.prog.follows .mixedOrders = true := by kernel_rfl
  unfold maxLen at hmax
  refine callsIn_of_wp Tryz.func63 rfl trivial ?_ rfl
  simp only [Tryz.ntmps63, List.size_toArray, List.length_cons, List.length_nil, Nat.reduceAdd, Nat.reduceSub, Array.replicate_succ, Array.replicate_zero, List.push_toArray, List.append_toArray, List.nil_append, List.cons_append]
  gi_wp2
  gi_loopw [4] (fun i wr => ∃ j q : Nat, j ≤ (len + 31) / 32 ∧ q = 32 * j ∧ i = .int .i64 (q : Nat) ∧ J (List.range j) wr) (fun i _ => len + 32 - (RowKit.intOf i).toNat)
  case atStart => exact ⟨0, 0, Nat.zero_le _, rfl, rfl, h0⟩
  case round =>
    obtain ⟨j, q, hj, hqe, rfl, hJ⟩ := hrel
    have c1 := cs.out _ _ hJ
    have c2 := cn.out _ _ hJ
    have HQ := Lib.hid hqe
    have hq9 : q ≤ len + 31 := by omega
    clear hqe
    by_cases hlt : q < len
    · have hqj : q = 32 * j := HQ.out
      have hjK : j < (len + 31) / 32 := by omega
      have hil : (q : Int) < len := by omega
      have hic : ¬ cap = q := by omega
      have hi1 : (q : Int) ≤ (cap : Int) := by omega
      have hi2 : (q : Int) ≤ (len : Int) := by omega
      have hi3 : (len : Int) ≤ (cap : Int) := by omega
      obtain ⟨fn, tmps, asg, body, hyy, hRR⟩ := y.out (m - 1) (List.range j) j wr.drew (dr.out _ _ hJ) ⟨by simp, by simp, hjK⟩
      have HQJ := Lib.hid hqj
      have hcw : cwT len j = if len - q < 32 then len - q else 32 := by unfold cwT; rw [hqj]
      dsimp only [encK] at hyy
      rw [hcw, ← hqj] at hyy
      have HSN : Hid (List.range j ++ [j] = List.range (j + 1)) := by show _ = _; rw [List.range_succ]
      clear hqj hcw
      obtain ⟨d, hd⟩ : ∃ d, len - q = d := ⟨_, rfl⟩
      have hd1 : (q : Int) + d = len := by omega
      rw [hd] at hyy
      by_cases h32 : d < 32
      · have hd2 : (d : Int) < 32 := by omega
        rw [if_pos h32] at hyy
        gi_wp2
        refine wpIn_wide.2 ?_
        go_still mixed
        rw [show min (32 : Int) (d : Int) = (d : Int) by omega]
        change Exit.then _ _ _ _ wr.drew
        gi_wp2
        refine ⟨fun h => (by cases h), hRR.mono ?_⟩
        rintro e W3 (⟨rfl, hJ3, hz3, hk3⟩ | ⟨ch, rfl, hjp⟩)
        · rw [HSN.out] at hJ3
          have HJ3 := Lib.hid hJ3
          clear hRR hyy c1 c2 hJ hk3
          have c1 := cs.out _ _ hJ3
          have c2 := cn.out _ _ hJ3
          clear hJ3
          gi_wp2
          go_roundw
          case rel => exact ⟨j + 1, q + 32, by omega, by have := HQJ.out; omega, by congr 1, HJ3.out⟩
          case measure => simp [RowKit.intOf]; omega
        · have HJP := Lib.hid hjp
          clear hRR hyy c1 c2 hJ hjp
          gi_wp2_with fail
          exact ⟨rfl, .inr ⟨ch, rfl, HJP.out⟩⟩
      · have hd2 : ¬ (d : Int) < 32 := by omega
        have hi5 : (q : Int) + 32 ≤ len := by omega
        rw [if_neg h32] at hyy
        gi_wp2
        refine wpIn_wide.2 ?_
        go_still mixed
        rw [show min (32 : Int) (d : Int) = (32 : Int) by omega]
        change Exit.then _ _ _ _ wr.drew
        gi_wp2
        refine ⟨fun h => (by cases h), hRR.mono ?_⟩
        rintro e W3 (⟨rfl, hJ3, hz3, hk3⟩ | ⟨ch, rfl, hjp⟩)
        · rw [HSN.out] at hJ3
          have HJ3 := Lib.hid hJ3
          clear hRR hyy c1 c2 hJ hk3
          have c1 := cs.out _ _ hJ3
          have c2 := cn.out _ _ hJ3
          clear hJ3
          gi_wp2
          go_roundw
          case rel => exact ⟨j + 1, q + 32, by omega, by have := HQJ.out; omega, by congr 1, HJ3.out⟩
          case measure => simp [RowKit.intOf]; omega
        · have HJP := Lib.hid hjp
          clear hRR hyy c1 c2 hJ hjp
          gi_wp2_with fail
          exact ⟨rfl, .inr ⟨ch, rfl, HJP.out⟩⟩
    · have hje : j = (len + 31) / 32 := by have := HQ.out; omega
      have hil : ¬ (q : Int) < len := by omega
      rw [hje] at hJ
      have HJ := Lib.hid hJ
      clear hJ
      gi_wp2_with fail
      go_end0
      exact .inl ⟨⟨_, rfl⟩, HJ.out⟩
end Go.Proofs.YtaajkbclojmbeaaGreatDoor
namespace Go.Proofs.YtaajkbclojmbeaaGreatDoor
open Go Go.RowKit Go.Shelf Go.Lib
attribute [local go_sem] Oper.semAt_some

/-- The part of bytes at a place. -/
def partT (s : List UInt8) (x : Nat) : List UInt8 := (s.drop (32 * x)).take 32
theorem part_len (s : List UInt8) (x : Nat) : (partT s x).length = cwT s.length x := by
  unfold partT cwT
  rw [List.length_take, List.length_drop]
  split <;> omega
theorem Bs.convAt {W : World} {g off : Nat} {l : List UInt8} (h : Bs W g off l) {n : Nat} (hn : n = l.length) (cap : Nat) : (convert 41 9 (.slice (some ⟨g, off, none⟩) n cap)).run Tryz.prog W = .ok (.string ⟨l.toArray⟩) W := by
  subst hn
  refine run_convert_bytes_back W 41 9 5 ⟨g, off, none⟩ cap l Tryz.underlying41 Tryz.underlying5 Tryz.underlying9 ?_
  intro j hj
  have := h j hj
  rw [List.getD_eq_getElem?_getD, List.getElem?_eq_getElem hj, Option.getD_some] at this
  by_cases h0 : j = 0
  · subst h0
    simpa [Addr.add] using this
  · simpa [Addr.add, h0] using this
theorem Sealq.bs {w w' : World} {l : List UInt8} {cap : Nat} {cur : Array Value} (h : Sealq w w' 5 ⟨l.toArray⟩ cap cur) : Bs w' w.heap.size 0 l := by
  intro j hj
  have hc := cell_of_row w' w.heap.size (0 + j) cur 5 _ h.row
  rw [hc, Nat.zero_add]
  have ht := h.take
  have hj2 : (cur.toList.take (⟨l.toArray⟩ : ByteArray).size)[j]? = some (.int .u8 (((l.getD j 0).toNat : Nat) : Int)) := by
    rw [ht, cells_bytes]
    simp [List.getD_eq_getElem?_getD, List.getElem?_eq_getElem hj]
  rw [List.getElem?_take] at hj2
  split at hj2
  · simpa using hj2
  · cases hj2

set_option maxRecDepth 100000 in
set_option maxHeartbeats 8000000 in
theorem cut32_any (s : List UInt8) (w : World) (hl : s.length ≤ 100000) :
    Calls Tryz.prog 110 #[.string ⟨s.toArray⟩] w fun e w' => (∃ v, e = .returned v ∧ OwS w.heap.size (M.chunksT s) v w') ∧ Below w.heap.size w w' := by
  have mixed : Tryz.prog.follows .mixedOrders = true := by kernel_rfl
  have hbz : (⟨s.toArray⟩ : ByteArray).size = s.length := rfl
  refine calls_of_wpE (n := 6) Tryz.func110 rfl ?_
  simp only [Tryz.ntmps110, List.size_toArray, List.length_cons, List.length_nil, Nat.reduceAdd, Nat.reduceSub, Array.replicate_succ, Array.replicate_zero, List.push_toArray, List.append_toArray, List.nil_append, List.cons_append]
  refine wpE_then (n := 6) ?_
  gi_wp2_with fail
  refine wpE_then (n := 6) ?_
  gi_wp2_with fail
  refine wpE_seq ?_
  refine wpE_then (n := 6) ?_
  gi_wp2_with (refine wpListIn_seal _ rfl _ _ 5 _ rfl ⟨s.toArray⟩ rfl Tryz.underlying9 Tryz.underlying41 Tryz.underlying5 (by rw [hbz]; unfold maxLen; omega) ?_; intro cap cur w2 hSeal; have HSeal := Lib.hid hSeal; clear hSeal)
  refine ⟨trivial, (callsIn_wide.2 (chunk32_any s.length cap (some ⟨w.heap.size + 1, 0, none⟩) _)).mono ?_⟩
  rintro e w' ⟨rfl, rfl⟩
  gi_wp2_with fail
  obtain ⟨A, hA⟩ : ∃ A, (w2.alloc (.cells #[.slice (some ⟨w.heap.size + 1, 0, none⟩) s.length cap] 41)).alloc (.cells #[.int .i64 32] 3) = A := ⟨_, rfl⟩
  rw [hA]
  have hnew := HSeal.out.new
  rw [World.size_alloc] at hnew
  have hzA : A.heap.size = w.heap.size + 4 := by rw [← hA]; simp; omega
  have hlow := HSeal.out.low
  rw [World.size_alloc] at hlow
  have hb1 : Below w.heap.size w (w.alloc (.cells #[.slice none 0 0] 22)) := (Below.refl _ _).alloc (Nat.le_refl _) _
  have hb2 : Below w.heap.size w w2 := hb1.trans (hlow.mono (by omega))
  have hb2A : Below w2.heap.size w2 A := by rw [← hA]; exact ((Below.refl _ _).alloc (Nat.le_refl _) _).alloc (by simp) _
  have hbA : Below w.heap.size w A := hb2.trans (hb2A.mono hb2.size)
  have hA1 : Boxed A w.heap.size 22 (.slice none 0 0) := (hb2A.block _ (by omega)).trans ((hlow.block _ (by omega)).trans (Boxed.new w 22 (.slice none 0 0)))
  have hA2 : A.cell? ⟨w2.heap.size, 0, none⟩ = some (.slice (some ⟨w.heap.size + 1, 0, none⟩) s.length cap) := by rw [← hA]; simp [go_sem]
  have hA3 : A.cell? ⟨w2.heap.size + 1, 0, none⟩ = some (.int .i64 32) := by rw [← hA]; simp [go_sem]
  have hBs := HSeal.out.bs
  rw [World.size_alloc] at hBs
  have hBA : Bs A (w.heap.size + 1) 0 s := hBs.below hb2A (by omega)
  have hcl := HSeal.out.len
  have hcm := HSeal.out.max
  rw [hbz] at hcl
  obtain ⟨bx, hbx⟩ : ∃ bx, w2.heap.size = bx := ⟨_, rfl⟩
  rw [hbx] at hA2 hA3 hnew ⊢
  have hx1 : w.heap.size + 2 ≤ bx := by omega
  have hx2 : bx ≤ w.heap.size + 2 := by omega
  have HZA := Lib.hid hzA
  have hz1 : w.heap.size + 4 ≤ A.heap.size := by omega
  clear hA hlow hb1 hb2 hb2A hBs hnew hbx hzA
  obtain ⟨f, hf⟩ : ∃ f : List Nat → List (List UInt8), f = fun pre => pre.map fun x => M.fill32 (partT s x) := ⟨_, rfl⟩
  have hfs : ∀ pre x, f (pre ++ [x]) = f pre ++ [M.fill32 (partT s x)] := fun pre x => by rw [hf]; simp
  have hfl : ∀ pre, (f pre).length = pre.length := fun pre => by rw [hf]; simp
  have hf0 : f [] = [] := by rw [hf]; rfl
  have HHF : Hid (M.chunksT s = f (List.range ((s.length + 31) / 32))) := by show _ = _; rw [hf]; rfl
  clear hf
  refine wpE_block ?_
  obtain ⟨A1, hA1'⟩ : ∃ A1 : Nat → Act, A1 = fun x => { tmps := #[.string ⟨s.toArray⟩, undef, .slice none 0 0, .pointer (some ⟨w.heap.size, 0, none⟩), .slice (some ⟨w.heap.size + 1, 32 * x, none⟩) (cwT s.length x) (cwT s.length x), .string ⟨s.toArray⟩, .slice (some ⟨w.heap.size + 1, 0, none⟩) s.length cap, .func (.func 63) #[] #[.pointer (some ⟨bx, 0, none⟩), .pointer (some ⟨bx + 1, 0, none⟩)], .slice (some ⟨w.heap.size + 1, 32 * x, none⟩) (cwT s.length x) (cwT s.length x), undef, undef, undef, undef, undef, undef, undef], defers := [] } := ⟨_, rfl⟩
  refine range_lx (n := 6) (gf := 63) (lb := #[.pointer (some ⟨bx, 0, none⟩), .pointer (some ⟨bx + 1, 0, none⟩)]) (by omega) rfl (enters_of Tryz.func63 (by kernel_rfl) rfl)
    (encs := encK (w.heap.size + 1) s.length) (fun x => rfl) (fun pre W => RT A w.heap.size (f pre) W) (fun _ _ _ _ h hg hr => h.grow hg (by omega) fun j e => ⟨(hr j e).1, .inr (hr j e).2⟩) (fun pre X Y h hg => h.grow hg (by omega) fun j e => by cases e; exact ⟨by omega, .inl (by omega)⟩) (fun _ _ => False)
    (fun _ => False) (fun c h => h.elim) (fun xs => xs = List.range ((s.length + 31) / 32)) (fun pre x => GoodK ((s.length + 31) / 32) pre x) ?seq ⟨Gr.refl _ _, _, hA1, by rw [hf0]; exact OwS.nil _ _⟩ (fun pre x a' W => GoodK ((s.length + 31) / 32) pre x ∧ a' = A1 x ∧ A.heap.size + 2 ≤ W.heap.size ∧ RT A w.heap.size (f pre) W) (fun pre x a' => fun _ _ _ _ h hg hr => ⟨h.1, h.2.1, Nat.le_trans h.2.2.1 hg.size, h.2.2.2.grow hg (by omega) fun j e => ⟨(hr j e).1, .inr (hr j e).2⟩⟩) ?assign ?body ?done ?pan
  case seq =>
    intro l J Jp W hzW hJI hJ hY h0
    refine chunk_seq _ s.length cap (w.heap.size + 1) hcl hcm (by omega) l bx (bx + 1) J Jp (Lib.hid fun pre X h => ((hJI pre X h).gr.cell (p := ⟨bx, 0, none⟩) (by show bx < _; omega) (by show bx ≠ _; omega)).trans hA2) (Lib.hid fun pre X h => ((hJI pre X h).gr.cell (p := ⟨bx + 1, 0, none⟩) (by show bx + 1 < _; omega) (by show bx + 1 ≠ _; omega)).trans hA3) (Lib.hid fun pre X h => hJ pre X _ h ⟨rfl, rfl, rfl, Nat.le_refl _, fun _ _ _ => rfl⟩) (Lib.hid fun m pre x X h hg => hY m pre x X h hg) _ W h0
  case assign =>
    rintro l pre x X K hI hz hG hK'
    have hAX : GoodK ((s.length + 31) / 32) pre x ∧ A1 x = A1 x ∧ A.heap.size + 2 ≤ X.heap.size ∧ RT A w.heap.size (f pre) X := ⟨hG, rfl, hz, hI⟩
    have hkk := hK' _ X (KeepsFrom.refl _ _) (fun _ _ _ => rfl) hAX
    rw [hA1'] at hkk
    dsimp only [encK]
    gi_wp2
    exact hkk
  case body =>
    rintro l pre x a' B ⟨hG, rfl, hz2, hI⟩
    obtain ⟨v, hB, hO⟩ := hI.v
    have hgr := hI.gr
    have hpl : pre.length ≤ 4000 := by have := hG.2.1; have := hG.2.2; omega
    have hfp := hfl pre
    have hfx := hfs pre x
    have hzB := hgr.size
    obtain ⟨i1, hi1, hiz, his, hib⟩ := info_parts Tryz.ofTxt
    have hpt : (partT s x).length ≤ 32 := by unfold partT; rw [List.length_take]; omega
    have HF := Lib.hid (fun X => filled_any (partT s x) X hpt)
    have hpe := part_len s x
    have y1 := hB.cell
    have hBB : Bs B (w.heap.size + 1) 0 s := fun j hj => (hgr.cell (p := ⟨w.heap.size + 1, 0 + j, none⟩) (by show w.heap.size + 1 < _; omega) (by show w.heap.size + 1 ≠ _; omega)).trans (hBA j hj)
    have hd0 : Below B.heap.size B B.drew := Below.drew (Below.refl _ _)
    obtain ⟨u, hu⟩ : ∃ u, M.fill32 (partT s x) = u := ⟨_, rfl⟩
    rw [hu] at HF hfx
    have HFX := Lib.hid hfx
    have HB := Lib.hid hB
    have HO := Lib.hid hO
    have HPE := Lib.hid hpe
    rw [hA1']
    clear hfx hu hI hpe hpt
    gi_wp2_with fail
    refine region_roundH (S := fun Y => Bs Y (w.heap.size + 1) 0 s) (by rintro ⟨_, _, h⟩; exact h) mixed (by kernel_rfl) ?_
    have hS0 : Bs B.drew (w.heap.size + 1) 0 s := hBB
    rw [show Array.replicate (Array.size _) false = #[false, false, false, false, false, false, false] from rfl, show Array.size (α := Oper) _ = 7 from rfl]
    refine wpAnyH_take (i := 1) (v := .slice (some ⟨w.heap.size + 1, 32 * x, none⟩) (cwT s.length x) (cwT s.length x)) rfl (by kernel_rfl) (by kernel_rfl) (by kernel_rfl) (fun _ _ _ h => h) (Or.inl ⟨by rfl, ?_⟩) hS0 ?_
    · intro Y hY
      skip
      go_simp
    simp only [Act.put, List.getElem_toArray, List.getElem_cons_succ, List.getElem_cons_zero, List.setIfInBounds_toArray, List.set_cons_zero, List.set_cons_succ]
    refine wpAnyH_take (i := 2) (v := .string ⟨(partT s x).toArray⟩) rfl (by kernel_rfl) (by kernel_rfl) (by kernel_rfl) (fun _ _ _ h => h) (Or.inl ⟨by rfl, ?_⟩) hS0 ?_
    · intro Y hY
      have ec : ∀ cc, (convert 41 9 (.slice (some ⟨w.heap.size + 1, 32 * x, none⟩) (cwT s.length x) cc)).run Tryz.prog Y = .ok (.string ⟨(partT s x).toArray⟩) Y := fun cc => (Bs.part hY (32 * x) 32).convAt HPE.out.symm cc
      go_simp
    simp only [Act.put, List.getElem_toArray, List.getElem_cons_succ, List.getElem_cons_zero, List.setIfInBounds_toArray, List.set_cons_zero, List.set_cons_succ]
    refine wpAnyH_ready (rs := [0, 3]) (by kernel_rfl) (by simp) ?_
    refine AllReadyH.cons rfl (fun K hK => ?rA) (AllReadyH.cons rfl (fun K hK => ?rB) AllReadyH.nil)
    case' rA =>
      go_simp
      refine hK.out _ _ hS0 (fun _ => ?_)
      clear hK K
      simp only [List.setIfInBounds_toArray, List.set_cons_zero]
      refine wpAnyH_ready (rs := [3]) (by kernel_rfl) (by simp) ?_
      refine AllReadyH.cons rfl (fun K hK => ?_) AllReadyH.nil
      go_simp
      refine (HF.out _).mono ?_
      rintro e w5 ⟨rfl, hb5⟩
      have hS5 : Bs w5 (w.heap.size + 1) 0 s := hS0.below hb5 (by show _ < B.heap.size; omega)
      try go_wp2_with fail
      refine hK.out _ _ hS5 (fun _ => ?_)
      clear hK K
      simp only [List.setIfInBounds_toArray, List.set_cons_zero, List.set_cons_succ]
      refine wpAnyH_ready (rs := [4]) (by kernel_rfl) (by simp) ?_
      refine AllReadyH.cons rfl (fun K hK => ?_) AllReadyH.nil
      rw [if_pos (by rfl)]
      refine wp_build_one 22 9 (.tmp 12) (.string ⟨u.toArray⟩) (.string ⟨#[]⟩) i1 rfl rfl rfl Tryz.underlying22 hi1 hiz his rfl ?_
      have hS6 : Bs (w5.alloc (.cells #[.string ⟨u.toArray⟩] 9)) (w.heap.size + 1) 0 s := hS5.below ((Below.refl _ w5).alloc (Nat.le_refl _) _) (by have := hb5.size; show _ < w5.heap.size; have : B.drew.heap.size = B.heap.size := rfl; omega)
      refine hK.out _ _ hS6 (fun _ => ?_)
      clear hK K
      simp only [Act.put, List.getElem_toArray, List.getElem_cons_succ, List.getElem_cons_zero, List.setIfInBounds_toArray, List.set_cons_zero, List.set_cons_succ]
      skip
    case' rB =>
      go_simp
      refine (HF.out _).mono ?_
      rintro e w5 ⟨rfl, hb5⟩
      have hS5 : Bs w5 (w.heap.size + 1) 0 s := hS0.below hb5 (by show _ < B.heap.size; omega)
      try go_wp2_with fail
      refine hK.out _ _ hS5 (fun _ => ?_)
      clear hK K
      simp only [List.setIfInBounds_toArray, List.set_cons_zero, List.set_cons_succ]
      have hb5' : Below B.heap.size B w5 := hd0.trans hb5
      have y3 : w5.cell? ⟨w.heap.size, 0, none⟩ = some v := (hb5'.cell (p := ⟨w.heap.size, 0, none⟩) HB.out.lt).trans y1
      refine wpAnyH_ready (rs := [0, 4]) (by kernel_rfl) (by simp) ?_
      refine AllReadyH.cons rfl (fun K hK => ?rC) (AllReadyH.cons rfl (fun K hK => ?rD) AllReadyH.nil)
    case' rC =>
      go_simp
      refine hK.out _ _ hS5 (fun _ => ?_)
      clear hK K
      simp only [List.setIfInBounds_toArray, List.set_cons_zero]
      refine wpAnyH_ready (rs := [4]) (by kernel_rfl) (by simp) ?_
      refine AllReadyH.cons rfl (fun K hK => ?_) AllReadyH.nil
      rw [if_pos (by rfl)]
      refine wp_build_one 22 9 (.tmp 12) (.string ⟨u.toArray⟩) (.string ⟨#[]⟩) i1 rfl rfl rfl Tryz.underlying22 hi1 hiz his rfl ?_
      have hS6 : Bs (w5.alloc (.cells #[.string ⟨u.toArray⟩] 9)) (w.heap.size + 1) 0 s := hS5.below ((Below.refl _ w5).alloc (Nat.le_refl _) _) (by have := hb5.size; show _ < w5.heap.size; have : B.drew.heap.size = B.heap.size := rfl; omega)
      refine hK.out _ _ hS6 (fun _ => ?_)
      clear hK K
      simp only [Act.put, List.getElem_toArray, List.getElem_cons_succ, List.getElem_cons_zero, List.setIfInBounds_toArray, List.set_cons_zero, List.set_cons_succ]
      skip
    case' rD =>
      rw [if_pos (by rfl)]
      refine wp_build_one 22 9 (.tmp 12) (.string ⟨u.toArray⟩) (.string ⟨#[]⟩) i1 rfl rfl rfl Tryz.underlying22 hi1 hiz his rfl ?_
      have hS6 : Bs (w5.alloc (.cells #[.string ⟨u.toArray⟩] 9)) (w.heap.size + 1) 0 s := hS5.below ((Below.refl _ w5).alloc (Nat.le_refl _) _) (by have := hb5.size; show _ < w5.heap.size; have : B.drew.heap.size = B.heap.size := rfl; omega)
      refine hK.out _ _ hS6 (fun _ => ?_)
      clear hK K
      simp only [Act.put, List.getElem_toArray, List.getElem_cons_succ, List.getElem_cons_zero, List.setIfInBounds_toArray, List.set_cons_zero, List.set_cons_succ]
      refine wpAnyH_ready (rs := [0]) (by kernel_rfl) (by simp) ?_
      refine AllReadyH.cons rfl (fun K hK => ?_) AllReadyH.nil
      have y7 : (w5.alloc (.cells #[.string ⟨u.toArray⟩] 9)).cell? ⟨w.heap.size, 0, none⟩ = some v := (Below.cell ((Below.refl _ w5).alloc (Nat.le_refl _) _) (p := ⟨w.heap.size, 0, none⟩) (by have := HB.out.lt; have := hb5'.size; show w.heap.size < _; omega)).trans y3
      go_simp
      refine hK.out _ _ hS6 (fun _ => ?_)
      clear hK K
      simp only [List.setIfInBounds_toArray, List.set_cons_zero]
      skip
    all_goals
      have hb5' : Below B.heap.size B w5 := hd0.trans hb5
      obtain ⟨w6, hw6⟩ : ∃ w6, w5.alloc (.cells #[.string ⟨u.toArray⟩] 9) = w6 := ⟨_, rfl⟩
      have hb56 : Below w5.heap.size w5 w6 := by rw [← hw6]; exact (Below.refl _ _).alloc (Nat.le_refl _) _
      have hz6 : w6.heap.size = w5.heap.size + 1 := by rw [← hw6]; simp
      have hc6 : w6.cell? ⟨w5.heap.size, 0, none⟩ = some (.string ⟨u.toArray⟩) := by rw [← hw6]; simp [go_sem]
      have hb6 : Below B.heap.size B w6 := hb5'.trans (hb56.mono hb5'.size)
      have hgr6 := hgr.below hb6
      have hB6 : Boxed w6 w.heap.size 22 v := (hb6.block _ HB.out.lt).trans HB.out
      have hO6 := HO.out.from_ hb6
      have hs5 := hb5'.size
      rw [hw6] at hS6 ⊢
      clear hw6 y1
      refine wpAnyH_ready (rs := [5]) (by kernel_rfl) (by simp) ?_
      refine AllReadyH.cons rfl (fun K hK => ?_) AllReadyH.nil
      rw [if_pos (by rfl)]
      refine wp_append_txt w6 _ _ rfl (A.heap.size + 3) (f pre) u w5.heap.size v rfl rfl hO6 hc6 (by omega) (by omega) ?_
      intro v' w7 hA7
      obtain ⟨l7, hl7⟩ : ∃ l7, f pre ++ [u] = l7 := ⟨_, rfl⟩
      have hRT := RT.app hgr6 hB6 hO6 (by omega) hA7
      rw [hl7] at hA7 hRT
      obtain ⟨va, vc, hv⟩ := hA7.own.len
      subst hv
      have z7 := hRT.2.cell
      have z8 := hRT.2.frozen
      have HL7 := Lib.hid hl7
      clear hl7
      have hS7 : Bs w7 (w.heap.size + 1) 0 s := fun j hj => (World.cell?_of_block (hA7.grown.block (w.heap.size + 1) (by omega) (fun e => by have := (hO6.lt _ e.symm).1; omega))).trans (hS6 j hj)
      refine hK.out _ _ hS7 (fun _ => ?_)
      clear hK K
      simp only [Act.put, List.getElem_toArray, List.getElem_cons_succ, List.getElem_cons_zero, List.setIfInBounds_toArray, List.set_cons_zero, List.set_cons_succ]
      refine wpAnyH_ready (rs := [6]) (by kernel_rfl) (by simp) ?_
      refine AllReadyH.cons rfl (fun K hK => ?_) AllReadyH.nil
      go_simp
      have hS8 : Bs (w7.setCell ⟨w.heap.size, 0, none⟩ (.slice va l7.length vc)) (w.heap.size + 1) 0 s := fun j hj => (World.cell?_of_block (Below.heap_setCell _ _ _ _ (by show w.heap.size + 1 ≠ w.heap.size; omega))).trans (hS7 j hj)
      refine hK.out _ _ hS8 (fun _ => ?_)
      clear hK K
      simp only [List.setIfInBounds_toArray, List.set_cons_zero, List.set_cons_succ]
      refine wpAnyH_done (by kernel_rfl) ?_ _
      try gi_wp2_with fail
      refine ⟨((KO_below hb6).trans ((KO_appS hA7 hO6).trans (KeepsOthers.setCell _ _ _))).from _, fun c hc hT => hT.elim, ?_⟩
      show RT A w.heap.size (f (pre ++ [x])) _
      rw [HFX.out, HL7.out]
      exact hRT.1
  case done =>
    rintro D xs W hD rfl hI hKd hzW
    obtain ⟨v, hB, hO⟩ := hI.v
    have hbW : Below w.heap.size w W := Gr.low hbA hI.gr (by omega) (fun b e => by omega)
    have y := hB.cell
    obtain ⟨va, vc, hv⟩ := hO.len
    subst hv
    have hO2 : OwS (A.heap.size + 3) (f (List.range ((s.length + 31) / 32))) (.slice va (f (List.range ((s.length + 31) / 32))).length vc) (W.putObj D (.deferred none)) := hO.grown (grownBy_putObj' W D (.deferred none)) fun g hg e => by
      cases e
      exact hO.notCells hKd rfl hg.symm
    have HO2 := Lib.hid hO2
    have hb1 := belowK_b (w := w) (Nat.le_refl _) W D _ (.deferred none) (by omega) hKd rfl rfl
    have HB1 := Lib.hid (hbW.trans hb1)
    clear hO2 hO hB hb1 hfl hfs
    rw [HHF.out]
    refine wpE_then (n := 6) ?_
    gi_wp2_with fail
    refine WpE.of (n := 6) (wpIn_ret ?_)
    refine ⟨by simp, .inl ⟨_, _, rfl, run_takeDeferred hKd, ?_⟩⟩
    refine ⟨_, ?_, ⟨_, rfl, HO2.out.mono (by omega)⟩, HB1.out⟩
    simp [results, Tryz.f110, go_sem]
  case pan => rintro D ch W _ h _; exact h.elim
end Go.Proofs.YtaajkbclojmbeaaGreatDoor
namespace Go.Proofs.YtaajkbclojmbeaaGreatDoor
open Go Go.RowKit Go.Lib
open Go.Maps (Keyed)

/-- What is under a kind. -/
def fnT (kb ib : Nat) (k : Nat) : Value := match k with
  | 3 => .func (.func 49) #[] #[.pointer (some ⟨kb, 0, none⟩)]
  | 4 => .func (.func 52) #[] #[.pointer (some ⟨ib, 0, none⟩)]
  | 6 => .func (.func 53) #[] #[]
  | 7 => .func (.func 56) #[] #[.pointer (some ⟨kb, 0, none⟩)]
  | 8 => .func (.func 57) #[] #[.pointer (some ⟨kb, 0, none⟩)]
  | _ => .func (.func 45) #[] #[]
def putF (f : Nat → Value) (D : DataW Value) (i : Nat) : DataW Value := D.put (.int .i64 (i : Nat)) (.held (f i))
def DT (kb ib : Nat) : DataW Value := [1, 2, 5, 3, 4, 6, 7, 8].foldl (putF (fnT kb ib)) (.map [])
theorem fold_at (f : Nat → Value) (k : Nat) (z : DataW Value) : ∀ (l : List Nat) (D : DataW Value), Go.Maps.IsMap D → (l.foldl (putF f) D).atKey (.int .i64 (k : Nat)) z = if k ∈ l then .held (f k) else D.atKey (.int .i64 (k : Nat)) z
  | [], D, _ => by simp
  | i :: l, D, hD => by
    rw [List.foldl_cons, fold_at f k z l (putF f D i) (isMap_put hD _ _)]
    by_cases hl : k ∈ l
    · rw [if_pos hl, if_pos (by simp [hl])]
    · rw [if_neg hl]
      by_cases hi : k = i
      · subst hi
        rw [if_pos (by simp)]
        exact Go.Maps.atKey_put_same hD (by simp [WideAt.IsKeyLit]) _ _
      · rw [if_neg (by simp [hl, hi])]
        exact Go.Maps.atKey_put_other (by simp; omega) _ _

/-- The table of roots: the map, the box that holds it, the box of the function for rows. -/
structure Tbl (W : World) (n mb kb ib : Nat) : Prop where
  mlt : mb < n
  klt : kb < n
  ilt : ib < n
  own : W.ownsMap Tryz.prog 3 Rv mb 8 (DT kb ib)
  kbx : Boxed W kb 50 (.map (some mb))
  ibx : Boxed W ib 52 (.func (.func 49) #[] #[.pointer (some ⟨kb, 0, none⟩)])
theorem Tbl.from_ {w W : World} {n mb kb ib : Nat} (h : Tbl w n mb kb ib) (hb : Below n w W) : Tbl W n mb kb ib :=
  ⟨h.mlt, h.klt, h.ilt, own_at h.own (hb.block _ h.mlt), (hb.block _ h.klt).trans h.kbx, (hb.block _ h.ilt).trans h.ibx⟩
theorem Tbl.mono {w : World} {n m mb kb ib : Nat} (h : Tbl w n mb kb ib) (hm : n ≤ m) : Tbl w m mb kb ib :=
  ⟨Nat.lt_of_lt_of_le h.mlt hm, Nat.lt_of_lt_of_le h.klt hm, Nat.lt_of_lt_of_le h.ilt hm, h.own, h.kbx, h.ibx⟩
theorem wf8 : ∀ k : Fin 9, (Lit.int .i64 ((k.val : Nat) : Int)).wf = true := by decide
theorem grown_box {W W' : World} {b c : Nat} (hg : W.grownBy W' (some b)) (hc : c < W.heap.size) (hcb : c ≠ b) : W'.heap[c]? = W.heap[c]? := hg.block c hc (fun e => by cases e; exact hcb rfl)
theorem zero_fn (w : World) : (zeroValue 52).run Tryz.prog w = .ok .nilFunc w := by go_simp
theorem Tbl.look {W : World} {n mb kb ib : Nat} (h : Tbl W n mb kb ib) (k : Nat) (h1 : 1 ≤ k) (h8 : k ≤ 8) (W' : World) (hb : Below n W W') :
    (Instr.lookup 50 (.map (some mb)) (.int .i64 (k : Nat)) false).run Tryz.prog W' = .ok (fnT kb ib k) W' := by
  obtain ⟨es, clock, hbk, F, _, hD⟩ := (h.from_ hb).own
  have hk : k ∈ [1, 2, 5, 3, 4, 6, 7, 8] := by simp; omega
  have hat := fun z => fold_at (fnT kb ib) k z [1, 2, 5, 3, 4, 6, 7, 8] (.map []) ⟨_, rfl⟩
  simp only [if_pos hk] at hat
  change ∀ z, (DT kb ib).atKey _ z = _ at hat
  rw [hD] at hat
  have hw : (Lit.int .i64 (k : Nat)).wf = true := wf8 ⟨k, by omega⟩
  rcases Maps.fit_look (R := Rv) false intKeyed Tryz.underlying50 (zero_fn W') hbk F (keyI (k : Nat) hw) with ⟨_, _, h3⟩ | ⟨e0, y, _, _, h3, h4, h5, _⟩
  · have h1 := (h3 .nil).symm.trans (hat .nil)
    cases h1
  · have h1 := (h5 .nil).symm.trans (hat .nil)
    cases h4
    rw [h3, DataW.held.inj h1]
    rfl

set_option maxRecDepth 100000 in
set_option maxHeartbeats 8000000 in
theorem mtable_any (w : World) : Calls Tryz.prog 24 #[] w fun e w' => ∃ mb kb ib, e = .returned (.map (some mb)) ∧ Tbl w' w'.heap.size mb kb ib ∧ Below w.heap.size w w' := by
  have hmm := @run_makeMap Tryz.prog
  have hmf : ∀ (fn : Fn) (first cap : Array Value) (w : World), (Instr.makeFunc fn first cap).run Tryz.prog w = .ok (.func fn first cap) w := fun _ _ _ _ => rfl
  have hst : ∀ (W : World) (p : Addr) (F : Fn) (xa xb : Array Value), (W.cell? p).isSome = true → W.frozen? p = false → (store p (.func F xa xb)).run Tryz.prog W = .ok () (W.setCell p (.func F xa xb)) := by
    intro W p F xa xb h1 h2
    rw [run_store _ _ _ _ _ rfl]
    obtain ⟨x, hx⟩ := Option.isSome_iff_exists.1 h1
    rw [hx]
    simp [h2]
  obtain ⟨W0, hW0⟩ : ∃ W0, ((w.alloc (.cells #[.map none] 50)).alloc (.cells #[.func (.func 49) #[] #[.pointer (some ⟨w.heap.size, 0, none⟩)]] 52)).alloc (.map #[] 0) = W0 := ⟨_, rfl⟩
  have hs0 : w.heap.size + 2 < W0.heap.size := by rw [← hW0]; simp
  have ho0 : W0.ownsMap Tryz.prog 3 Rv (w.heap.size + 1 + 1) 0 (.map []) := by
    rw [← hW0]
    have := World.ownsMap_made (P := Tryz.prog) (k := 3) (R := Rv) ((w.alloc (.cells #[.map none] 50)).alloc (.cells #[.func (.func 49) #[] #[.pointer (some ⟨w.heap.size, 0, none⟩)]] 52))
    simpa using this
  have hi0 : W0.cell? ⟨w.heap.size + 1, 0, none⟩ = some (.func (.func 49) #[] #[.pointer (some ⟨w.heap.size, 0, none⟩)]) := by rw [← hW0]; simp [go_sem]
  have HB0 := Lib.hid (show Boxed W0 w.heap.size 50 (.map none) by rw [← hW0]; exact ((Boxed.new w _ _).alloc _).alloc _)
  have HI0 := Lib.hid (show Boxed W0 (w.heap.size + 1) 52 (.func (.func 49) #[] #[.pointer (some ⟨w.heap.size, 0, none⟩)]) by
    rw [← hW0]
    have := Boxed.new (w.alloc (.cells #[.map none] 50)) 52 (.func (.func 49) #[] #[.pointer (some ⟨w.heap.size, 0, none⟩)])
    rw [World.size_alloc] at this
    exact this.alloc _)
  have HL0 := Lib.hid (show Below w.heap.size w W0 by rw [← hW0]; (repeat (first | exact Below.refl _ _ | refine Below.drew ?_ | refine Below.alloc ?_ (by first | omega | (simp; omega) | simp) _ | refine Below.setCell ?_ (by first | omega | (simp; omega) | simp) _)))
  have HW0 := Lib.hid hW0
  clear hW0
  go_enter Tryz.func24, Tryz.ntmps24
  go_wp2_with (first
    | (rw [HW0.out]; refine wpList_insert_own rfl _ _ _ _ rfl 3 52 intKeyed Tryz.underlying50 Rv (w.heap.size + 1 + 1) 0 _ rfl ho0 (by decide) (.int .i64 1) (fnT w.heap.size (w.heap.size + 1) 1) (.int .i64 1) rfl rfl (keyI 1 (by decide)) _ _ rfl ?_
       intro W1 ho1 hg1
       have hs1 : w.heap.size + 2 < W1.heap.size := Nat.lt_of_lt_of_le hs0 hg1.size
       have hi1 : W1.cell? ⟨w.heap.size + 1, 0, none⟩ = some (.func (.func 49) #[] #[.pointer (some ⟨w.heap.size, 0, none⟩)]) := (World.cell?_of_block (grown_box hg1 (c := w.heap.size + 1) (by omega) (by omega))).trans hi0
       have HB1 := Lib.hid (show Boxed W1 w.heap.size 50 (.map none) from (grown_box hg1 (c := w.heap.size) (by omega) (by omega)).trans HB0.out)
       have HI1 := Lib.hid (show Boxed W1 (w.heap.size + 1) 52 (.func (.func 49) #[] #[.pointer (some ⟨w.heap.size, 0, none⟩)]) from (grown_box hg1 (c := w.heap.size + 1) (by omega) (by omega)).trans HI0.out)
       have HL1 := Lib.hid (Below.grow HL0.out hg1 (by omega))
       clear hi0 HB0 HI0 HL0 ho0 hg1 HW0)
    | (refine wpList_insert_own rfl _ _ _ _ rfl 3 52 intKeyed Tryz.underlying50 Rv (w.heap.size + 1 + 1) 1 _ rfl ho1 (by decide) (.int .i64 2) (fnT w.heap.size (w.heap.size + 1) 2) (.int .i64 2) rfl rfl (keyI 2 (by decide)) _ _ rfl ?_
       intro W2 ho2 hg2
       have hs2 : w.heap.size + 2 < W2.heap.size := Nat.lt_of_lt_of_le hs1 hg2.size
       have hi2 : W2.cell? ⟨w.heap.size + 1, 0, none⟩ = some (.func (.func 49) #[] #[.pointer (some ⟨w.heap.size, 0, none⟩)]) := (World.cell?_of_block (grown_box hg2 (c := w.heap.size + 1) (by omega) (by omega))).trans hi1
       have HB2 := Lib.hid (show Boxed W2 w.heap.size 50 (.map none) from (grown_box hg2 (c := w.heap.size) (by omega) (by omega)).trans HB1.out)
       have HI2 := Lib.hid (show Boxed W2 (w.heap.size + 1) 52 (.func (.func 49) #[] #[.pointer (some ⟨w.heap.size, 0, none⟩)]) from (grown_box hg2 (c := w.heap.size + 1) (by omega) (by omega)).trans HI1.out)
       have HL2 := Lib.hid (Below.grow HL1.out hg2 (by omega))
       clear hi1 HB1 HI1 HL1 ho1 hg2)
    | (refine wpList_insert_own rfl _ _ _ _ rfl 3 52 intKeyed Tryz.underlying50 Rv (w.heap.size + 1 + 1) 2 _ rfl ho2 (by decide) (.int .i64 5) (fnT w.heap.size (w.heap.size + 1) 5) (.int .i64 5) rfl rfl (keyI 5 (by decide)) _ _ rfl ?_
       intro W3 ho3 hg3
       have hs3 : w.heap.size + 2 < W3.heap.size := Nat.lt_of_lt_of_le hs2 hg3.size
       have hi3 : W3.cell? ⟨w.heap.size + 1, 0, none⟩ = some (.func (.func 49) #[] #[.pointer (some ⟨w.heap.size, 0, none⟩)]) := (World.cell?_of_block (grown_box hg3 (c := w.heap.size + 1) (by omega) (by omega))).trans hi2
       have HB3 := Lib.hid (show Boxed W3 w.heap.size 50 (.map none) from (grown_box hg3 (c := w.heap.size) (by omega) (by omega)).trans HB2.out)
       have HI3 := Lib.hid (show Boxed W3 (w.heap.size + 1) 52 (.func (.func 49) #[] #[.pointer (some ⟨w.heap.size, 0, none⟩)]) from (grown_box hg3 (c := w.heap.size + 1) (by omega) (by omega)).trans HI2.out)
       have HL3 := Lib.hid (Below.grow HL2.out hg3 (by omega))
       clear hi2 HB2 HI2 HL2 ho2 hg3)
    | (refine wpList_insert_own rfl _ _ _ _ rfl 3 52 intKeyed Tryz.underlying50 Rv (w.heap.size + 1 + 1) 3 _ rfl ho3 (by decide) (.int .i64 3) (fnT w.heap.size (w.heap.size + 1) 3) (.int .i64 3) rfl rfl (keyI 3 (by decide)) _ _ rfl ?_
       intro W4 ho4 hg4
       have hs4 : w.heap.size + 2 < W4.heap.size := Nat.lt_of_lt_of_le hs3 hg4.size
       have hi4 : W4.cell? ⟨w.heap.size + 1, 0, none⟩ = some (.func (.func 49) #[] #[.pointer (some ⟨w.heap.size, 0, none⟩)]) := (World.cell?_of_block (grown_box hg4 (c := w.heap.size + 1) (by omega) (by omega))).trans hi3
       have HB4 := Lib.hid (show Boxed W4 w.heap.size 50 (.map none) from (grown_box hg4 (c := w.heap.size) (by omega) (by omega)).trans HB3.out)
       have HI4 := Lib.hid (show Boxed W4 (w.heap.size + 1) 52 (.func (.func 49) #[] #[.pointer (some ⟨w.heap.size, 0, none⟩)]) from (grown_box hg4 (c := w.heap.size + 1) (by omega) (by omega)).trans HI3.out)
       have HL4 := Lib.hid (Below.grow HL3.out hg4 (by omega))
       clear hi3 HB3 HI3 HL3 ho3 hg4)
    | (refine wpList_insert_own rfl _ _ _ _ rfl 3 52 intKeyed Tryz.underlying50 Rv (w.heap.size + 1 + 1) 4 _ rfl ho4 (by decide) (.int .i64 4) (fnT w.heap.size (w.heap.size + 1) 4) (.int .i64 4) rfl rfl (keyI 4 (by decide)) _ _ rfl ?_
       intro W5 ho5 hg5
       have hs5 : w.heap.size + 2 < W5.heap.size := Nat.lt_of_lt_of_le hs4 hg5.size
       have hi5 : W5.cell? ⟨w.heap.size + 1, 0, none⟩ = some (.func (.func 49) #[] #[.pointer (some ⟨w.heap.size, 0, none⟩)]) := (World.cell?_of_block (grown_box hg5 (c := w.heap.size + 1) (by omega) (by omega))).trans hi4
       have HB5 := Lib.hid (show Boxed W5 w.heap.size 50 (.map none) from (grown_box hg5 (c := w.heap.size) (by omega) (by omega)).trans HB4.out)
       have HI5 := Lib.hid (show Boxed W5 (w.heap.size + 1) 52 (.func (.func 49) #[] #[.pointer (some ⟨w.heap.size, 0, none⟩)]) from (grown_box hg5 (c := w.heap.size + 1) (by omega) (by omega)).trans HI4.out)
       have HL5 := Lib.hid (Below.grow HL4.out hg5 (by omega))
       clear hi4 HB4 HI4 HL4 ho4 hg5)
    | (refine wpList_insert_own rfl _ _ _ _ rfl 3 52 intKeyed Tryz.underlying50 Rv (w.heap.size + 1 + 1) 5 _ rfl ho5 (by decide) (.int .i64 6) (fnT w.heap.size (w.heap.size + 1) 6) (.int .i64 6) rfl rfl (keyI 6 (by decide)) _ _ rfl ?_
       intro W6 ho6 hg6
       have hs6 : w.heap.size + 2 < W6.heap.size := Nat.lt_of_lt_of_le hs5 hg6.size
       have hi6 : W6.cell? ⟨w.heap.size + 1, 0, none⟩ = some (.func (.func 49) #[] #[.pointer (some ⟨w.heap.size, 0, none⟩)]) := (World.cell?_of_block (grown_box hg6 (c := w.heap.size + 1) (by omega) (by omega))).trans hi5
       have HB6 := Lib.hid (show Boxed W6 w.heap.size 50 (.map none) from (grown_box hg6 (c := w.heap.size) (by omega) (by omega)).trans HB5.out)
       have HI6 := Lib.hid (show Boxed W6 (w.heap.size + 1) 52 (.func (.func 49) #[] #[.pointer (some ⟨w.heap.size, 0, none⟩)]) from (grown_box hg6 (c := w.heap.size + 1) (by omega) (by omega)).trans HI5.out)
       have HL6 := Lib.hid (Below.grow HL5.out hg6 (by omega))
       clear hi5 HB5 HI5 HL5 ho5 hg6)
    | (refine wpList_insert_own rfl _ _ _ _ rfl 3 52 intKeyed Tryz.underlying50 Rv (w.heap.size + 1 + 1) 6 _ rfl ho6 (by decide) (.int .i64 7) (fnT w.heap.size (w.heap.size + 1) 7) (.int .i64 7) rfl rfl (keyI 7 (by decide)) _ _ rfl ?_
       intro W7 ho7 hg7
       have hs7 : w.heap.size + 2 < W7.heap.size := Nat.lt_of_lt_of_le hs6 hg7.size
       have hi7 : W7.cell? ⟨w.heap.size + 1, 0, none⟩ = some (.func (.func 49) #[] #[.pointer (some ⟨w.heap.size, 0, none⟩)]) := (World.cell?_of_block (grown_box hg7 (c := w.heap.size + 1) (by omega) (by omega))).trans hi6
       have HB7 := Lib.hid (show Boxed W7 w.heap.size 50 (.map none) from (grown_box hg7 (c := w.heap.size) (by omega) (by omega)).trans HB6.out)
       have HI7 := Lib.hid (show Boxed W7 (w.heap.size + 1) 52 (.func (.func 49) #[] #[.pointer (some ⟨w.heap.size, 0, none⟩)]) from (grown_box hg7 (c := w.heap.size + 1) (by omega) (by omega)).trans HI6.out)
       have HL7 := Lib.hid (Below.grow HL6.out hg7 (by omega))
       clear hi6 HB6 HI6 HL6 ho6 hg7)
    | (refine wpList_insert_own rfl _ _ _ _ rfl 3 52 intKeyed Tryz.underlying50 Rv (w.heap.size + 1 + 1) 7 _ rfl ho7 (by decide) (.int .i64 8) (fnT w.heap.size (w.heap.size + 1) 8) (.int .i64 8) rfl rfl (keyI 8 (by decide)) _ _ rfl ?_
       intro W8 ho8 hg8
       have hs8 : w.heap.size + 2 < W8.heap.size := Nat.lt_of_lt_of_le hs7 hg8.size
       have hi8 : W8.cell? ⟨w.heap.size + 1, 0, none⟩ = some (.func (.func 49) #[] #[.pointer (some ⟨w.heap.size, 0, none⟩)]) := (World.cell?_of_block (grown_box hg8 (c := w.heap.size + 1) (by omega) (by omega))).trans hi7
       have HB8 := Lib.hid (show Boxed W8 w.heap.size 50 (.map none) from (grown_box hg8 (c := w.heap.size) (by omega) (by omega)).trans HB7.out)
       have HI8 := Lib.hid (show Boxed W8 (w.heap.size + 1) 52 (.func (.func 49) #[] #[.pointer (some ⟨w.heap.size, 0, none⟩)]) from (grown_box hg8 (c := w.heap.size + 1) (by omega) (by omega)).trans HI7.out)
       have HL8 := Lib.hid (Below.grow HL7.out hg8 (by omega))
       have z7 := HB8.out.cell
       have z8 := HB8.out.frozen
       clear hi7 HB7 HI7 HL7 ho7 hg8))
  go_ret
  have hD : W8.ownsMap Tryz.prog 3 Rv (w.heap.size + 1 + 1) 8 (DT w.heap.size (w.heap.size + 1)) := ho8
  refine ⟨w.heap.size + 1 + 1, w.heap.size, w.heap.size + 1, rfl, ⟨?_, ?_, ?_, own_at hD (Below.heap_setCell _ _ _ _ (by show _ ≠ w.heap.size; omega)), HB8.out.set _, HI8.out.other (by omega) _⟩, HL8.out.grown (grownBy_setCell' _ _ _) HL8.out.size (fun j e => by cases e; exact Nat.le_refl _)⟩
  · simp; omega
  · simp; omega
  · simp; omega
end Go.Proofs.YtaajkbclojmbeaaGreatDoor
namespace Go.Proofs.YtaajkbclojmbeaaGreatDoor
open Go Go.RowKit Go.Lib
attribute [local go_sem] Oper.semAt_some

set_option maxRecDepth 100000 in
set_option maxHeartbeats 4000000 in
theorem put_step (z : Nat) (ih : Hid (PutC z)) : PutC (z + 1) := by
  intro k n ts a cap N bs us p ab cb au cu w hs hL hV hc hf h1 h2
  obtain ⟨w0, hw0⟩ : ∃ w0, (w.alloc (.cells #[.int .i64 k, .int .i64 n, .slice a ts.length cap] 32)).alloc (.cells #[.int .u64 (M.pt 0 N), .int .u64 (M.pt 1 N), .int .u64 (M.pt 2 N), .int .u64 (M.pt 3 N), .slice ab bs.length cb, .slice au us.length cu, .int .i64 p] 38) = w0 := ⟨_, rfl⟩
  have hb0 : Below w.heap.size w w0 := by rw [← hw0]; exact two_boxesV _ _ _ _ _ _ _ _
  have hB0 : BoxT w0 w.heap.size k n (.slice a ts.length cap) := by rw [← hw0]; exact ⟨by simp [go_sem], by simp [go_sem], by simp [go_sem]⟩
  have hA0 : Cells7 w0 (w.heap.size + 1) 0 N (.slice ab bs.length cb) (.slice au us.length cu) p := by
    rw [← hw0]
    have := Cells7.new (w.alloc (.cells #[.int .i64 k, .int .i64 n, .slice a ts.length cap] 32)) N (.slice ab bs.length cb) (.slice au us.length cu) p 38
    rwa [World.size_alloc] at this
  have HW := Lib.hid hw0
  have HL0 := (hL.from_ hb0).mono hb0.size
  have HV0 := (hV.from_ hb0).mono hb0.size
  have HB : Hid (Calls Tryz.prog 166 #[tv k n (.slice a ts.length cap), vv N (.slice ab bs.length cb) (.slice au us.length cu) p] w0 (BytP w0 (M.putV (.mk k n ts) (.mk N bs us p)))) := by
    show Calls _ _ _ _ _
    by_cases k1 : k = 1
    · subst k1; exact byt_1 n ts a cap N bs us p ab cb au cu w0 HL0 HV0 hc hf h1 h2
    by_cases k2 : k = 2
    · subst k2; exact byt_2 n ts a cap N bs us p ab cb au cu w0 HL0 HV0 hc hf h1 h2
    by_cases k5 : k = 5
    · subst k5; exact byt_5 n ts a cap N bs us p ab cb au cu w0 HL0 HV0 hc hf h1 h2
    by_cases k6 : k = 6
    · subst k6; exact byt_6 n ts a cap N bs us p ab cb au cu w0 HL0 HV0 hc hf h1 h2
    by_cases k8 : k = 8
    · subst k8; exact byt_8 z ih n ts a cap N bs us p ab cb au cu w0 hs HL0 HV0 hc hf h1 h2
    · exact byt_row z ih k (by obtain ⟨d, hd⟩ := hc; have := (M.chkT_ok.1 hd).1; omega) n ts a cap N bs us p ab cb au cu w0 hs HL0 HV0 hc hf h1 h2
  have t0 := hB0.c0
  have t1 := hB0.c1
  have t2 := hB0.c2
  have a0 := hA0.c0
  have a1 := hA0.c1
  have a2 := hA0.c2
  have a3 := hA0.c3
  have a4 := hA0.c4
  have a5 := hA0.c5
  have a6 := hA0.c6
  simp only [Nat.zero_add] at a1 a2 a3 a4 a5 a6
  rw [← HW.out] at t0 t1 t2 a0 a1 a2 a3 a4 a5 a6
  generalize M.putV (.mk k n ts) (.mk N bs us p) = L at *
  clear hw0 hf hc ih hs h1 h2 HL0 HV0 hL hV
  go_enter Tryz.func144, Tryz.ntmps144
  go_wp2_with fail
  rw [HW.out]
  refine HB.out.mono ?_
  rintro e w1 ⟨hE, hb1⟩
  rcases hE with ⟨u, rfl, hU⟩ | ⟨rfl, hlt⟩
  · obtain ⟨ux, uy, rfl⟩ := hU.slice
    have HU := Lib.hid hU
    clear hU
    by_cases hl : L.length ≤ 65536
    · have hl' : (L.length : Int) ≤ 65536 := by omega
      have HN := Lib.hid (need_any true 5)
      go_wp2_with fail
      refine (HN.out _).mono ?_
      rintro e X ⟨rfl, hX⟩
      obtain rfl : w1 = X := hX.symm
      go_wp2_with fail
      go_ret
      exact ⟨fun _ => ⟨_, rfl, HU.out.mono hb0.size⟩, fun h => absurd h (by omega), hb0.trans (Below.mono hb1 hb0.size)⟩
    · have hl' : ¬ (L.length : Int) ≤ 65536 := by omega
      have HN := Lib.hid (need_any false 5)
      go_wp2_with fail
      rw [show decide ((L.length : Int) ≤ 65536) = false from decide_eq_false (by omega)]
      refine (HN.out _).mono ?_
      rintro e X ⟨rfl, hX⟩
      obtain rfl : w1 = X := hX.symm
      exact ⟨rfl, fun h => absurd h hl, fun _ => rfl, hb0.trans (Below.mono hb1 hb0.size)⟩
  · exact ⟨rfl, fun h => absurd hlt (by omega), fun _ => rfl, hb0.trans (Below.mono hb1 hb0.size)⟩
theorem put_c : ∀ z, PutC z
  | 0 => by intro k n ts a cap N bs us p ab cb au cu w hs; cases us <;> simp at hs
  | z + 1 => put_step z (Lib.hid (put_c z))

theorem SrB.conv {B : Nat} {l : List UInt8} {v : Value} {w : World} (h : SrB B l v w) : (convert 41 9 v).run Tryz.prog w = .ok (.string ⟨l.toArray⟩) w := by
  rcases h with ⟨rfl, rfl⟩ | ⟨ad, c, rfl, _, _, hc⟩
  · rw [run_convert_bytes_string w 41 9 5 none 0 0 Tryz.underlying41 Tryz.underlying5 Tryz.underlying9]
    rfl
  · refine run_convert_bytes_back w 41 9 5 ad c l Tryz.underlying41 Tryz.underlying5 Tryz.underlying9 ?_
    intro j hj
    exact hc j _ (by simp [bc, hj])

set_option maxRecDepth 100000 in
set_option maxHeartbeats 4000000 in
theorem put1_any (k n : Int) (ts : List M.Ty) (a : Option Addr) (cap : Nat) (N : Nat) (bs : List Bool) (us : List M.Va) (p : Int) (ab : Option Addr) (cb : Nat) (au : Option Addr) (cu : Nat) (bt bv bo : Nat) (W : World) (hL : LayT W W.heap.size ts (.slice a ts.length cap)) (hV : Vl W W.heap.size N bs us ab cb au cu)
    (hc : ∃ d, M.chkT d (.mk k n ts) = 0) (hf : M.fitV (.mk k n ts) (.mk N bs us p) = 0) (h1 : M.cntT (.mk k n ts) ≤ 1000) (h2 : M.cntV (.mk N bs us p) ≤ 6000)
    (hB : BoxT W bt k n (.slice a ts.length cap)) (hA : Cells7 W bv 0 N (.slice ab bs.length cb) (.slice au us.length cu) p) (hO : Boxed W bo 9 (.string ⟨#[]⟩)) :
    Calls Tryz.prog 143 #[.pointer (some ⟨bt, 0, none⟩), .pointer (some ⟨bv, 0, none⟩), .pointer (some ⟨bo, 0, none⟩)] W fun e w' =>
      ((M.putV (.mk k n ts) (.mk N bs us p)).length ≤ 65536 → e = .returned (.tuple #[]) ∧ ∃ w1, Below W.heap.size W w1 ∧ w' = w1.setCell ⟨bo, 0, none⟩ (.string ⟨(M.putV (.mk k n ts) (.mk N bs us p)).toArray⟩)) ∧
      (65536 < (M.putV (.mk k n ts) (.mk N bs us p)).length → e = pan 5 ∧ Below W.heap.size W w') := by
  have HC := Lib.hid (put_c _ k n ts a cap N bs us p ab cb au cu W (Nat.le_refl _) hL hV hc hf h1 h2)
  have t0 := hB.c0
  have t1 := hB.c1
  have t2 := hB.c2
  have a0 := hA.c0
  have a1 := hA.c1
  have a2 := hA.c2
  have a3 := hA.c3
  have a4 := hA.c4
  have a5 := hA.c5
  have a6 := hA.c6
  simp only [Nat.zero_add] at a1 a2 a3 a4 a5 a6
  generalize M.putV (.mk k n ts) (.mk N bs us p) = L at *
  clear hf hc h1 h2 hL hV
  go_enter Tryz.func143, Tryz.ntmps143
  go_wp2_with fail
  refine HC.out.mono ?_
  rintro e w1 ⟨hok, hno, hb1⟩
  rcases Nat.lt_or_ge 65536 L.length with hl | hl
  · rw [hno hl]
    exact ⟨rfl, fun h => absurd hl (by omega), fun _ => ⟨rfl, hb1⟩⟩
  · obtain ⟨u, rfl, hU⟩ := hok hl
    obtain ⟨ux, uy, rfl⟩ := hU.slice
    have hcv := hU.conv
    have hO1 : Boxed w1 bo 9 (.string ⟨#[]⟩) := (hb1.block _ hO.lt).trans hO
    have y1 := hO1.cell
    have y2 := hO1.frozen
    have HL := Lib.hid hl
    clear hok hno hU hl
    go_wp2_with fail
    go_end0
    exact ⟨fun _ => ⟨rfl, w1, hb1, rfl⟩, fun h => absurd h (by have := HL.out; omega)⟩

theorem boxT_below {w W : World} {b : Nat} {k n : Int} {v : Value} (h : BoxT w b k n v) (hb : Below w.heap.size w W) (hlt : b < w.heap.size) : BoxT W b k n v :=
  ⟨(hb.cell (p := ⟨b, 0, none⟩) hlt).trans h.c0, (hb.cell (p := ⟨b, 1, none⟩) hlt).trans h.c1, (hb.cell (p := ⟨b, 2, none⟩) hlt).trans h.c2⟩
set_option maxRecDepth 100000 in
set_option maxHeartbeats 4000000 in
theorem ssz_put : SPutOk := by
  intro k n ts a cap N bs us p ab cb au cu w hL hV h1 h2
  obtain ⟨w0, hw0⟩ : ∃ w0, (w.alloc (.cells #[.int .i64 k, .int .i64 n, .slice a ts.length cap] 32)).alloc (.cells #[.int .u64 (M.pt 0 N), .int .u64 (M.pt 1 N), .int .u64 (M.pt 2 N), .int .u64 (M.pt 3 N), .slice ab bs.length cb, .slice au us.length cu, .int .i64 p] 38) = w0 := ⟨_, rfl⟩
  have hb0 : Below w.heap.size w w0 := by rw [← hw0]; exact two_boxesV _ _ _ _ _ _ _ _
  have hz0 : w.heap.size + 2 ≤ w0.heap.size := by rw [← hw0]; simp
  have hB0 : BoxT w0 w.heap.size k n (.slice a ts.length cap) := by rw [← hw0]; exact ⟨by simp [go_sem], by simp [go_sem], by simp [go_sem]⟩
  have hA0 : Cells7 w0 (w.heap.size + 1) 0 N (.slice ab bs.length cb) (.slice au us.length cu) p := by
    rw [← hw0]
    have := Cells7.new (w.alloc (.cells #[.int .i64 k, .int .i64 n, .slice a ts.length cap] 32)) N (.slice ab bs.length cb) (.slice au us.length cu) p 38
    rwa [World.size_alloc] at this
  have HW := Lib.hid hw0
  have HL0 := Lib.hid ((hL.from_ hb0).mono hb0.size)
  have HV0 := Lib.hid ((hV.from_ hb0).mono hb0.size)
  have HF := Lib.hid (shape_fits k n ts a cap N bs us p ab cb au cu w0 HL0.out HV0.out h1 h2)
  have t0 := hB0.c0
  have t1 := hB0.c1
  have t2 := hB0.c2
  have a0 := hA0.c0
  have a1 := hA0.c1
  have a2 := hA0.c2
  have a3 := hA0.c3
  have a4 := hA0.c4
  have a5 := hA0.c5
  have a6 := hA0.c6
  simp only [Nat.zero_add] at a1 a2 a3 a4 a5 a6
  rw [← HW.out] at t0 t1 t2 a0 a1 a2 a3 a4 a5 a6
  have hmf : ∀ (fn : Fn) (first cap : Array Value) (w : World), (Instr.makeFunc fn first cap).run Tryz.prog w = .ok (.func fn first cap) w := fun _ _ _ _ => rfl
  have HP : Hid (M.putT (.mk k n ts) (.mk N bs us p) = if M.fitsV (.mk k n ts) (.mk N bs us p) ≠ 0 then ([], M.fitsV (.mk k n ts) (.mk N bs us p)) else if 65536 < (M.putV (.mk k n ts) (.mk N bs us p)).length then ([], 5) else (M.putV (.mk k n ts) (.mk N bs us p), 0)) := rfl
  clear hw0 hL hV
  by_cases hq : M.fitsV (.mk k n ts) (.mk N bs us p) = 0
  · have hc0 := M.fitsV_fits hq
    have hf0 : M.fitV (.mk k n ts) (.mk N bs us p) = 0 := by rw [← M.fitsV_in hc0]; exact hq
    rw [hq] at HF
    have HP' : Hid (M.putT (.mk k n ts) (.mk N bs us p) = if 65536 < (M.putV (.mk k n ts) (.mk N bs us p)).length then ([], 5) else (M.putV (.mk k n ts) (.mk N bs us p), 0)) := by
      show _ = _
      rw [HP.out, if_neg (by simp [hq])]
    have hen : ∀ args w, (callFunc 143 args).run Tryz.prog w = .ok (.enter 143 args) w := by
      intro args w
      simp [callFunc, go_sem, Tryz.f143]
    have HG : Hid (∀ w1 : World, Below w0.heap.size w0 w1 → Calls Tryz.prog 142 #[.func (.func 143) #[] #[.pointer (some ⟨w.heap.size, 0, none⟩), .pointer (some ⟨w.heap.size + 1, 0, none⟩), .pointer (some ⟨w1.heap.size, 0, none⟩)]] (w1.alloc (.cells #[.string ⟨#[]⟩] 9)) fun e w' =>
        ∃ q : Nat, e = .returned (.int .i64 (q : Nat)) ∧ Boxed w' w1.heap.size 9 (.string ⟨(M.putT (.mk k n ts) (.mk N bs us p)).1.toArray⟩) ∧ q = (M.putT (.mk k n ts) (.mk N bs us p)).2 ∧ Below w0.heap.size w0 w') := by
      intro w1 hb1
      obtain ⟨w2, hw2⟩ : ∃ w2, w1.alloc (.cells #[.string ⟨#[]⟩] 9) = w2 := ⟨_, rfl⟩
      have hO2 : Boxed w2 w1.heap.size 9 (.string ⟨#[]⟩) := by rw [← hw2]; exact Boxed.new _ _ _
      have hb2 : Below w0.heap.size w0 w2 := by rw [← hw2]; exact hb1.alloc hb1.size _
      have hz2 : w2.heap.size = w1.heap.size + 1 := by rw [← hw2]; simp
      rw [hw2]
      have hb3 : Below w2.heap.size w2 (w2.alloc (.cells #[.int .i64 0] 25)) := (Below.refl _ _).alloc (Nat.le_refl _) _
      have hb03 : Below w0.heap.size w0 (w2.alloc (.cells #[.int .i64 0] 25)) := hb2.trans (hb3.mono hb2.size)
      have hE3 : Boxed (w2.alloc (.cells #[.int .i64 0] 25)) w2.heap.size 25 (.int .i64 0) := Boxed.new _ _ _
      have hO3 : Boxed (w2.alloc (.cells #[.int .i64 0] 25)) w1.heap.size 9 (.string ⟨#[]⟩) := (hb3.block _ hO2.lt).trans hO2
      have hb1s := hb1.size
      have H1 := put1_any k n ts a cap N bs us p ab cb au cu w.heap.size (w.heap.size + 1) w1.heap.size (w2.alloc (.cells #[.int .i64 0] 25)) ((HL0.out.from_ hb03).mono hb03.size) ((HV0.out.from_ hb03).mono hb03.size) ⟨0, hc0⟩ hf0 h1 h2 (boxT_below hB0 hb03 (by omega)) (hA0.from_ hb03 (by omega)) hO3
      refine (given_any 143 _ hen w2 (fun q W => Boxed W w1.heap.size 9 (.string ⟨(M.putT (.mk k n ts) (.mk N bs us p)).1.toArray⟩) ∧ q = (M.putT (.mk k n ts) (.mk N bs us p)).2 ∧ Below w0.heap.size w0 W ∧ w2.heap.size < W.heap.size) (H1.mono ?_)).mono ?_
      · rintro e w' ⟨hok, hno⟩
        rw [HP'.out]
        rcases Nat.lt_or_ge 65536 (M.putV (.mk k n ts) (.mk N bs us p)).length with hl | hl
        · obtain ⟨rfl, hb4⟩ := hno hl
          rw [if_pos hl]
          have hs4 := hb4.size
          exact ⟨5, rfl, ⟨(hb4.block _ hO3.lt).trans hO3, rfl, hb03.trans (hb4.mono hb03.size), by simp at hs4; omega⟩, (hb4.block _ hE3.lt).trans hE3⟩
        · obtain ⟨rfl, w4, hb4, rfl⟩ := hok hl
          rw [if_neg (by omega)]
          have hs4 := hb4.size
          have hs5 := (grownBy_setCell' w4 w1.heap.size (.string ⟨(M.putV (.mk k n ts) (.mk N bs us p)).toArray⟩)).size
          refine ⟨0, rfl, ⟨(show Boxed w4 w1.heap.size 9 (.string ⟨#[]⟩) from (hb4.block _ hO3.lt).trans hO3).set _, rfl, (hb03.trans (hb4.mono hb03.size)).grown (grownBy_setCell' _ _ _) (by have := hb03.size; omega) (fun q e => by cases e; omega), by simp at hs4; omega⟩, (show Boxed w4 w2.heap.size 25 (.int .i64 0) from (hb4.block _ hE3.lt).trans hE3).other (by omega) _⟩
      · rintro e w' ⟨q, W, rfl, ⟨hB, hq2, hbW, hsW⟩, rfl⟩
        exact ⟨q, rfl, hB.other (by omega) _, hq2, hbW.grown (grownBy_setCell' _ _ _) hbW.size (fun r e => by cases e; have := hb2.size; omega)⟩
    generalize M.putT (.mk k n ts) (.mk N bs us p) = g at *
    clear hq hc0 hf0 HP HP' h1 h2 hen hz0
    go_enter Tryz.func111, Tryz.ntmps111
    go_wp2_with fail
    rw [HW.out]
    refine HF.out.mono ?_
    rintro e w1 ⟨rfl, hb1⟩
    go_wp2_with fail
    refine (HG.out w1 hb1).mono ?_
    rintro e w2 ⟨q, rfl, hO, rfl, hb2⟩
    have y1 := hO.cell
    go_wp2_with fail
    go_ret2
    exact ⟨rfl, hb0.trans (Below.mono hb2 hb0.size)⟩
  · rw [if_pos hq] at HP
    generalize M.fitsV (.mk k n ts) (.mk N bs us p) = q at *
    rw [HP.out]
    have hq1 : ¬ (q : Int) = 0 := by omega
    go_enter Tryz.func111, Tryz.ntmps111
    go_wp2_with fail
    rw [HW.out]
    refine HF.out.mono ?_
    rintro e w1 ⟨rfl, hb1⟩
    go_wp2_with fail
    go_ret2
    exact ⟨rfl, hb0.trans (Below.mono hb1 hb0.size)⟩
end Go.Proofs.YtaajkbclojmbeaaGreatDoor
namespace Go.Proofs.YtaajkbclojmbeaaGreatDoor
open Go Go.RowKit Go.Shelf Go.Lib
attribute [local go_sem] Oper.semAt_some

set_option maxRecDepth 100000 in
set_option maxHeartbeats 4000000 in
theorem packed_any (s : List UInt8) (most : Nat) (w : World) (hl : s.length ≤ 100000) (hm : most ≤ 16384) (hTab : Tab w) :
    Calls Tryz.prog 46 #[.string ⟨s.toArray⟩, .int .i64 (most : Nat)] w fun e w' => e = .returned (.string ⟨(M.packT s most).toArray⟩) ∧ Below w.heap.size w w' := by
  have HC := Lib.hid (cut32_any s w hl)
  have hall := M.chunks_all s
  have hcl := M.chunks_length s
  obtain ⟨T, hT⟩ : ∃ T, M.packT s most = T := ⟨_, rfl⟩
  have hT' : M.treeT (M.chunksT s) ((most + 31) / 32) = T := hT
  obtain ⟨q, hq⟩ : ∃ q, (most + 31) / 32 = q := ⟨_, rfl⟩
  obtain ⟨m1, hm1⟩ : ∃ m1, most + 31 = m1 := ⟨_, rfl⟩
  rw [hT]
  rw [hq] at hT'
  rw [hm1] at hq
  have hq9 : q ≤ 512 := by omega
  have hmi : (most : Int) + 32 - 1 = (m1 : Int) := by omega
  have hqi : (m1 : Int).tdiv 32 = (q : Int) := by
    rw [Int.tdiv_eq_ediv_of_nonneg (by omega)]
    omega
  generalize M.chunksT s = ls at *
  have HT := Lib.hid hT'
  have HALL := Lib.hid hall
  have hl4 : ls.length ≤ 4000 := by omega
  have HL4 := Lib.hid hl4
  clear hT hT' hq hm1 hall hcl hl4
  go_enter Tryz.func46, Tryz.ntmps46
  go_wp2_with fail
  refine HC.out.mono ?_
  rintro e w1 ⟨⟨v, rfl, hO⟩, hb1⟩
  obtain ⟨a, cap, hv⟩ := hO.len
  subst hv
  have HM := Lib.hid (mtree_any ls q a cap w1 hO.ts HL4.out HALL.out hq9 (hTab.from hb1))
  rw [HT.out] at HM
  clear hO
  go_wp2_with fail
  refine HM.out.mono ?_
  rintro e w2 ⟨rfl, hb2⟩
  go_wp2_with fail
  go_ret
  exact ⟨rfl, hb1.trans (hb2.mono hb1.size)⟩
set_option maxRecDepth 100000 in
set_option maxHeartbeats 4000000 in
theorem mput_any (k n : Int) (ts : List M.Ty) (at_ : Option Addr) (ct : Nat) (N : Nat) (bs : List Bool) (us : List M.Va) (p : Int) (ab : Option Addr) (cb : Nat) (au : Option Addr) (cu : Nat) (w : World) (hT : LayT w w.heap.size ts (.slice at_ ts.length ct)) (hV : Vl w w.heap.size N bs us ab cb au cu) (h1 : M.cntT (.mk k n ts) ≤ 1000) (h2 : M.cntV (.mk N bs us p) ≤ 6000) :
    Calls Tryz.prog 47 #[tv k n (.slice at_ ts.length ct), vv N (.slice ab bs.length cb) (.slice au us.length cu) p] w fun e w' => e = .returned (.string ⟨(M.putT (.mk k n ts) (.mk N bs us p)).1.toArray⟩) ∧ Below w.heap.size w w' := by
  obtain ⟨w0, hw0⟩ : ∃ w0, (w.alloc (.cells #[.int .i64 k, .int .i64 n, .slice at_ ts.length ct] 32)).alloc (.cells #[.int .u64 (M.pt 0 N), .int .u64 (M.pt 1 N), .int .u64 (M.pt 2 N), .int .u64 (M.pt 3 N), .slice ab bs.length cb, .slice au us.length cu, .int .i64 p] 38) = w0 := ⟨_, rfl⟩
  have hb0 : Below w.heap.size w w0 := by rw [← hw0]; exact two_boxes _ _ _
  have hB0 : BoxT w0 w.heap.size k n (.slice at_ ts.length ct) := by rw [← hw0]; exact ⟨by simp [go_sem], by simp [go_sem], by simp [go_sem]⟩
  have hA0 : Cells7 w0 (w.heap.size + 1) 0 N (.slice ab bs.length cb) (.slice au us.length cu) p := by
    rw [← hw0]
    have := Cells7.new (w.alloc (.cells #[.int .i64 k, .int .i64 n, .slice at_ ts.length ct] 32)) N (.slice ab bs.length cb) (.slice au us.length cu) p 38
    rwa [World.size_alloc] at this
  have HP := Lib.hid (ssz_put k n ts at_ ct N bs us p ab cb au cu w0 ((hT.from_ hb0).mono hb0.size) ((hV.from_ hb0).mono hb0.size) h1 h2)
  generalize M.putT (.mk k n ts) (.mk N bs us p) = r at *
  obtain ⟨s, x⟩ := r
  simp only at HP
  have t0 := hB0.c0
  have t1 := hB0.c1
  have t2 := hB0.c2
  have a0 := hA0.c0
  have a1 := hA0.c1
  have a2 := hA0.c2
  have a3 := hA0.c3
  have a4 := hA0.c4
  have a5 := hA0.c5
  have a6 := hA0.c6
  simp only [Nat.zero_add] at a1 a2 a3 a4 a5 a6
  have HW := Lib.hid hw0
  rw [← HW.out] at t0 t1 t2 a0 a1 a2 a3 a4 a5 a6
  clear hw0
  go_enter Tryz.func47, Tryz.ntmps47
  go_wp2_with fail
  rw [HW.out]
  refine HP.out.mono ?_
  rintro e w1 ⟨rfl, hb1⟩
  go_wp2_with fail
  go_ret
  exact ⟨rfl, hb0.trans (hb1.mono hb0.size)⟩
set_option maxRecDepth 100000 in
set_option maxHeartbeats 4000000 in
theorem bitsOfM_any (n : Nat) (w : World) :
    Calls Tryz.prog 55 #[.int .i64 (n : Nat)] w fun e w' => e = .returned (tv 5 (n : Nat) (.slice none 0 0)) ∧ Below w.heap.size w w' := by
  go_enter Tryz.func55, Tryz.ntmps55
  go_wp2_with fail
  exact ty_new' rfl w w _ _ _ _ _ rfl (Below.refl _ _) fun Z hZ => ⟨rfl, hZ⟩
theorem put_bits {bs : List Bool} (h1 : 1 ≤ bs.length) (h2 : bs.length ≤ 512) : M.putT (.mk 5 (bs.length : Nat) []) (.mk 0 bs [] 0) = (M.packB bs, 0) := by
  have hc : M.chkT 0 (.mk 5 (bs.length : Nat) []) = 0 := by
    refine M.chkT_ok.2 ⟨by omega, ?_, by omega, rfl⟩
    unfold M.formT
    simp
    omega
  have hf : M.fitsV (.mk 5 (bs.length : Nat) []) (.mk 0 bs [] 0) = 0 := by
    rw [M.fitsV_in hc, M.fitV_eq, if_neg (by simp), M.ofV_5]
    simp [M.fitVs]
  unfold M.putT
  rw [if_neg (by simp [hf]), M.putV5, if_neg (by rw [M.pack_length]; omega)]
set_option maxRecDepth 100000 in
set_option maxHeartbeats 4000000 in
theorem putBitsM_any (bs : List Bool) (ab : Option Addr) (cb : Nat) (w : World) (hB : LayB w w.heap.size bs (.slice ab bs.length cb)) (hl : bs.length ≤ 512) :
    Calls Tryz.prog 54 #[.slice ab bs.length cb] w fun e w' => e = .returned (.string ⟨(M.packB bs).toArray⟩) ∧ Below w.heap.size w w' := by
  by_cases h0 : bs.length = 0
  · have hn : (bs.length : Int) = 0 := by omega
    obtain rfl := List.eq_nil_of_length_eq_zero h0
    go_enter Tryz.func54, Tryz.ntmps54
    go_wp2_with fail
    go_ret
    exact ⟨rfl, Below.refl _ _⟩
  · have HO := Lib.hid (fun W => bitsOfM_any bs.length W)
    have HP := Lib.hid (fun W (h : Below w.heap.size w W) => mput_any 5 (bs.length : Nat) [] none 0 0 bs [] 0 ab cb none 0 W (.nil_ (by decide)) ⟨by unfold M.In; omega, (hB.from_ h).mono h.size, .nil_ (by decide)⟩ (by simp [M.cntT, M.cntTs]) (by simp [M.cntV, M.cntVs]; omega))
    rw [put_bits (by omega) hl] at HP
    simp only [vv_zero] at HP
    generalize M.packB bs = r at *
    obtain ⟨m, hm⟩ : ∃ m, bs.length = m := ⟨_, rfl⟩
    rw [hm] at h0 HO HP ⊢
    have hn : ¬ (m : Int) = 0 := by omega
    clear hB hl hm h0
    go_enter Tryz.func54, Tryz.ntmps54
    go_wp2_with fail
    refine (HO.out _).mono ?_
    rintro e w1 ⟨rfl, hb1⟩
    go_wp2_with fail
    refine (HP.out _ hb1).mono ?_
    rintro e w2 ⟨rfl, hb2⟩
    go_wp2_with fail
    go_ret
    exact ⟨rfl, hb1.trans (hb2.mono hb1.size)⟩
set_option maxRecDepth 100000 in
set_option maxHeartbeats 4000000 in
theorem isPlain_any (k n : Int) (ts : List M.Ty) (v : Value) (w : World) :
    Calls Tryz.prog 50 #[tv k n v] w fun e w' => e = .returned (.bool (M.isPl (.mk k n ts))) ∧ Below w.heap.size w w' := by
  have hb0 : Below w.heap.size w (w.alloc (.cells #[.int .i64 k, .int .i64 n, v] 32)) := (Below.refl _ _).alloc (Nat.le_refl _) _
  have e : M.isPl (.mk k n ts) = (k == 1 || k == 2) := rfl
  rw [e]
  by_cases h1 : k = 1
  · subst h1
    go_enter Tryz.func50, Tryz.ntmps50
    go_wp2_with fail
    go_ret
    exact ⟨rfl, hb0⟩
  · go_enter Tryz.func50, Tryz.ntmps50
    go_wp2_with fail
    go_ret
    refine ⟨?_, hb0⟩
    simp
end Go.Proofs.YtaajkbclojmbeaaGreatDoor
namespace Go.Proofs.YtaajkbclojmbeaaGreatDoor
open Go Go.RowKit Go.Shelf Go.Lib
attribute [local go_sem] Oper.semAt_some

theorem putT_whole {k n : Int} {ts : List M.Ty} {v : M.Va} (hk : k = 1 ∨ k = 2 ∨ k = 5) (hc : M.chkT 0 (.mk k n ts) = 0) (hf : M.fitV (.mk k n ts) v = 0) : M.putT (.mk k n ts) v = (M.putV (.mk k n ts) v, 0) := by
  have hl := M.put_whole hk (M.chkT_ok.1 hc).2.1 hf
  unfold M.putT
  rw [M.fitsV_in hc, if_neg (by simp [hf]), if_neg (by omega)]
theorem size_whole {k n : Int} {ts : List M.Ty} (hk : k = 1 ∨ k = 2 ∨ k = 5) (hc : M.chkT 0 (.mk k n ts) = 0) : M.sizeT (.mk k n ts) = M.szT (.mk k n ts) ∧ M.szT (.mk k n ts) ≤ 64 := by
  have hform := (M.chkT_ok.1 hc).2.1
  have hts : ts = [] := by
    unfold M.formT at hform
    rcases hk with rfl | rfl | rfl <;> simp at hform <;> first | exact hform.1 | exact hform.1.1
  subst hts
  have hf : M.fixedT (.mk k n []) = true := by rw [M.fixedT_parts hc (by omega)]; rfl
  refine ⟨M.sizeT_fix hf, ?_⟩
  unfold M.formT at hform
  rcases hk with rfl | rfl | rfl
  · simp at hform
    rw [M.szT1]; omega
  · rw [M.szT2]; omega
  · simp at hform
    rw [M.szT5]; omega
set_option maxRecDepth 100000 in
set_option maxHeartbeats 8000000 in
theorem whole_any (k n : Int) (ts : List M.Ty) (at_ : Option Addr) (ct : Nat) (N : Nat) (bs : List Bool) (us : List M.Va) (p : Int) (ab : Option Addr) (cb : Nat) (au : Option Addr) (cu : Nat) (w : World) (hT : LayT w w.heap.size ts (.slice at_ ts.length ct)) (hV : Vl w w.heap.size N bs us ab cb au cu) (hk : k = 1 ∨ k = 2 ∨ k = 5) (hc : M.chkT 0 (.mk k n ts) = 0) (hf : M.fitV (.mk k n ts) (.mk N bs us p) = 0) (h1 : M.cntT (.mk k n ts) ≤ 1000) (h2 : M.cntV (.mk N bs us p) ≤ 6000) (hTab : Tab w) :
    Calls Tryz.prog 45 #[tv k n (.slice at_ ts.length ct), vv N (.slice ab bs.length cb) (.slice au us.length cu) p] w fun e w' => e = .returned (.string ⟨(M.rootV (.mk k n ts) (.mk N bs us p)).toArray⟩) ∧ Below w.heap.size w w' := by
  obtain ⟨w0, hw0⟩ : ∃ w0, (w.alloc (.cells #[.int .i64 k, .int .i64 n, .slice at_ ts.length ct] 32)).alloc (.cells #[.int .u64 (M.pt 0 N), .int .u64 (M.pt 1 N), .int .u64 (M.pt 2 N), .int .u64 (M.pt 3 N), .slice ab bs.length cb, .slice au us.length cu, .int .i64 p] 38) = w0 := ⟨_, rfl⟩
  have hb0 : Below w.heap.size w w0 := by rw [← hw0]; exact two_boxes _ _ _
  have hz0 : w0.heap.size = w.heap.size + 2 := by rw [← hw0]; simp
  have hB0 : BoxT w0 w.heap.size k n (.slice at_ ts.length ct) := by rw [← hw0]; exact ⟨by simp [go_sem], by simp [go_sem], by simp [go_sem]⟩
  have hA0 : Cells7 w0 (w.heap.size + 1) 0 N (.slice ab bs.length cb) (.slice au us.length cu) p := by
    rw [← hw0]
    have := Cells7.new (w.alloc (.cells #[.int .i64 k, .int .i64 n, .slice at_ ts.length ct] 32)) N (.slice ab bs.length cb) (.slice au us.length cu) p 38
    rwa [World.size_alloc] at this
  have hlt0 : w.heap.size < w0.heap.size := by omega
  have hlt1 : w.heap.size + 1 < w0.heap.size := by omega
  have HW := Lib.hid hw0
  have HZ0 := Lib.hid hz0
  have mixed : Tryz.prog.follows .mixedOrders = true := by kernel_rfl
  clear hw0 hz0
  have HP := Lib.hid (fun X (h : Below w0.heap.size w0 X) => mput_any k n ts at_ ct N bs us p ab cb au cu X ((hT.from_ (hb0.trans (h.mono hb0.size))).mono (hb0.trans (h.mono hb0.size)).size) ((hV.from_ (hb0.trans (h.mono hb0.size))).mono (hb0.trans (h.mono hb0.size)).size) h1 h2)
  have HZ := Lib.hid (fun X (h : Below w0.heap.size w0 X) => shape_size k n ts at_ ct X ((hT.from_ (hb0.trans (h.mono hb0.size))).mono (hb0.trans (h.mono hb0.size)).size) h1)
  have hrw := M.root_whole hk (M.chkT_ok.1 hc).2.1 hf hV.1
  have hpl := M.put_whole hk (M.chkT_ok.1 hc).2.1 hf
  obtain ⟨hsz, hs64⟩ := size_whole hk hc
  rw [putT_whole hk hc hf] at HP
  rw [hsz] at HZ
  have HK := Lib.hid (fun X (h : Below w0.heap.size w0 X) => packed_any (M.putV (.mk k n ts) (.mk N bs us p)) (M.szT (.mk k n ts)) X (by omega) (by omega) (hTab.from (hb0.trans (h.mono hb0.size))))
  rw [hrw] at HK
  generalize M.rootV (.mk k n ts) (.mk N bs us p) = R at *
  generalize M.putV (.mk k n ts) (.mk N bs us p) = s at *
  generalize M.szT (.mk k n ts) = z at *
  simp only at HP
  clear hrw hpl hsz hs64 hf hk
  go_enter Tryz.func45, Tryz.ntmps45
  go_wp2_with fail
  rw [HW.out]
  refine wp_region_held (S := fun Y => Below w0.heap.size w0 Y) mixed ?_
  have hS0 : Below w0.heap.size w0 { w0 with drawn := w0.drawn + 1 } := Below.drew (Below.refl _ _)
  rw [show Array.replicate (Array.size _) false = #[false, false, false, false, false, false, false] from rfl, show Array.size (α := Oper) _ = 7 from rfl]
  refine wpAnyH_take (i := 0) (v := tv k n (.slice at_ ts.length ct)) rfl (by kernel_rfl) (by kernel_rfl) (by kernel_rfl) (fun _ _ _ h => h) (Or.inl ⟨by rfl, ?_⟩) hS0 ?_
  · intro Y hY
    have b0 := (hY.cell (p := ⟨w.heap.size, 0, none⟩) hlt0).trans hB0.c0; have b1 := (hY.cell (p := ⟨w.heap.size, 1, none⟩) hlt0).trans hB0.c1; have b2 := (hY.cell (p := ⟨w.heap.size, 2, none⟩) hlt0).trans hB0.c2
    go_simp
  simp only [Act.put, List.getElem_toArray, List.getElem_cons_zero, List.setIfInBounds_toArray, List.set_cons_zero, List.set_cons_succ]
  refine wpAnyH_take (i := 1) (v := vv N (.slice ab bs.length cb) (.slice au us.length cu) p) rfl (by kernel_rfl) (by kernel_rfl) (by kernel_rfl) (fun _ _ _ h => h) (Or.inl ⟨by rfl, ?_⟩) hS0 ?_
  · intro Y hY
    have hAY := hA0.from_ hY hlt1; have a0 := hAY.c0; have a1 := hAY.c1; have a2 := hAY.c2; have a3 := hAY.c3; have a4 := hAY.c4; have a5 := hAY.c5; have a6 := hAY.c6; simp only [Nat.zero_add] at a1 a2 a3 a4 a5 a6
    go_simp
  simp only [Act.put, List.getElem_toArray, List.getElem_cons_succ, List.getElem_cons_zero, List.setIfInBounds_toArray, List.set_cons_zero, List.set_cons_succ]
  refine wpAnyH_take (i := 3) (v := tv k n (.slice at_ ts.length ct)) rfl (by kernel_rfl) (by kernel_rfl) (by kernel_rfl) (fun _ _ _ h => h) (Or.inl ⟨by rfl, ?_⟩) hS0 ?_
  · intro Y hY
    have b0 := (hY.cell (p := ⟨w.heap.size, 0, none⟩) hlt0).trans hB0.c0; have b1 := (hY.cell (p := ⟨w.heap.size, 1, none⟩) hlt0).trans hB0.c1; have b2 := (hY.cell (p := ⟨w.heap.size, 2, none⟩) hlt0).trans hB0.c2
    go_simp
  simp only [Act.put, List.getElem_toArray, List.getElem_cons_succ, List.getElem_cons_zero, List.setIfInBounds_toArray, List.set_cons_zero, List.set_cons_succ]
  refine wpAnyH_ready (rs := [2]) (by kernel_rfl) (by simp) ?_
  refine AllReadyH.cons rfl (fun K hK => ?_) AllReadyH.nil
  go_simp
  refine (HP.out _ hS0).mono ?_
  rintro e w1 ⟨rfl, hb1⟩
  have hS1 : Below w0.heap.size w0 w1 := hS0.trans (Below.mono hb1 hS0.size)
  try go_wp2_with fail
  refine hK.out _ _ hS1 (fun _ => ?_)
  clear hK K
  simp only [List.setIfInBounds_toArray, List.set_cons_zero, List.set_cons_succ]
  refine wpAnyH_ready (rs := [4]) (by kernel_rfl) (by simp) ?_
  refine AllReadyH.cons rfl (fun K hK => ?_) AllReadyH.nil
  go_simp
  refine (HZ.out _ hS1).mono ?_
  rintro e w2 ⟨rfl, hb2⟩
  have hS2 : Below w0.heap.size w0 w2 := hS1.trans (Below.mono hb2 hS1.size)
  try go_wp2_with fail
  refine hK.out _ _ hS2 (fun _ => ?_)
  clear hK K
  simp only [List.setIfInBounds_toArray, List.set_cons_zero, List.set_cons_succ]
  refine wpAnyH_ready (rs := [5]) (by kernel_rfl) (by simp) ?_
  refine AllReadyH.cons rfl (fun K hK => ?_) AllReadyH.nil
  go_simp
  refine (HK.out _ hS2).mono ?_
  rintro e w3 ⟨rfl, hb3⟩
  have hS3 : Below w0.heap.size w0 w3 := hS2.trans (Below.mono hb3 hS2.size)
  try go_wp2_with fail
  refine hK.out _ _ hS3 (fun _ => ?_)
  clear hK K
  simp only [List.setIfInBounds_toArray, List.set_cons_zero, List.set_cons_succ]
  refine wpAnyH_ready (rs := [6]) (by kernel_rfl) (by simp) ?_
  refine AllReadyH.cons rfl (fun K hK => ?_) AllReadyH.nil
  go_simp
  refine hK.out _ _ hS3 (fun _ => ?_)
  clear hK K
  simp only [List.setIfInBounds_toArray, List.set_cons_zero, List.set_cons_succ]
  refine wpAnyH_done (by kernel_rfl) ?_ _
  go_wp2_with fail
  go_ret
  exact ⟨rfl, hb0.trans (Below.mono hS3 hb0.size)⟩
end Go.Proofs.YtaajkbclojmbeaaGreatDoor
