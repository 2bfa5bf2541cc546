/- The reference's Types: how many types stand in a type. The reference's Vals: how many values stand in a value. The reference's Fits; the law's Few. The laws' weight and few, of layer 8. Plain: a type and those in it, each with all in it, one behind the other. Plain: how many bytes a fixed type has, one type behind the other. Plain arithmetic: numbers and their bytes, the lowest one first; a number's bytes without zeros ahead, as bytes of 64 bits. Plain: bits, eight in a byte. Plain: rows: what has so many bytes, and offsets of what has not; what stands behind. Plain arithmetic: how many digits a number has. Plain: values as bytes, by their types; and bytes as values. Plain: what is put is got again; what is got is put just so. Plain: unions, vectors, lists, containers; all types. What the calls of package ssz must do. -/
import Derived.Test.YtgloapcfmlijlaaGreatDoorK01
import Derived.Test.YtgloapcfmlijlaaGreatDoorK04
import Derived.Lib.Strings
namespace Go.Proofs.YtgloapcfmlijlaaGreatDoor
open Go Go.RowKit

set_option maxRecDepth 100000 in
set_option maxHeartbeats 4000000 in
theorem types_n (n : Nat) : ∀ (l d : Int) (xs : List M.Ty) (a : Option Addr) (cap : Nat) (w : World) (mo : Nat) (dp : Int), SizeOf.sizeOf xs ≤ n → LayT w w.heap.size xs (.slice a xs.length cap) → mo ≤ 1000 → -1 ≤ dp → dp ≤ 16 →
    Calls Tryz.prog 60 #[tv l d (.slice a xs.length cap), .int .i64 (mo : Nat), .int .i64 dp] w fun e w' => (∃ r : Nat, e = .returned (.int .i64 (r : Nat)) ∧ 1 ≤ r ∧ r ≤ mo + 1 ∧ (r ≤ mo → M.cntT (.mk l d xs) ≤ r)) ∧ Below w.heap.size w w' := by
  induction n with
  | zero => intro l d xs a cap w mo dp h; cases xs <;> simp at h
  | succ n ih =>
    intro l d xs a cap w mo dp hs hL hmo hd1 hd2
    by_cases hdp : dp < 0
    · go_enter Tryz.func60, Tryz.ntmps60
      go_wp2_with fail
      go_ret
      refine ⟨⟨mo + 1, by simp, by omega, by omega, by omega⟩, ?_⟩
      (repeat (first | exact Below.refl _ _ | refine Below.drew ?_ | refine Below.alloc ?_ (by first | omega | (simp; omega) | simp) _ | refine Below.setCell ?_ (by first | omega | (simp; omega) | simp) _))
    · have hB := BoxT.new w l d (.slice a xs.length cap) 24
      have hb0 : Below w.heap.size w (w.alloc (.cells #[.int .i64 l, .int .i64 d, .slice a xs.length cap] 24)) := by (repeat (first | exact Below.refl _ _ | refine Below.drew ?_ | refine Below.alloc ?_ (by first | omega | (simp; omega) | simp) _ | refine Below.setCell ?_ (by first | omega | (simp; omega) | simp) _))
      have hdp' : decide (dp < 0) = false := by simp; omega
      go_enter Tryz.func60, Tryz.ntmps60
      go_wp2_with fail
      generalize hw0 : w.alloc (.cells #[.int .i64 l, .int .i64 d, .slice a xs.length cap] 24) = w0 at *
      have hz : w0.heap.size = w.heap.size + 1 := by rw [← hw0]; simp
      clear hw0
      go_loopw [7, 8] (fun m i wr => ∃ k q : Nat, k ≤ xs.length ∧ i = .int .i64 k ∧ m = .int .i64 (q : Nat) ∧ 1 ≤ q ∧ q ≤ mo + 1 ∧ (q ≤ mo → 1 + M.cntTs (xs.take k) ≤ q) ∧ Below w0.heap.size w0 wr) (fun _ i _ => xs.length - (intOf i).toNat)
      case atStart => exact ⟨0, 1, by omega, rfl, rfl, by omega, by omega, fun _ => by simp [M.cntTs], Below.refl _ _⟩
      case round =>
        obtain ⟨k, q, hk, rfl, rfl, hq1, hq2, hq3, hW⟩ := hrel
        have hbx := hB.from_ hW (by omega)
        have hLr := (hL.from_ hb0).from_ (hW.mono (by omega))
        have hsz := hW.size
        have hc2 := hbx.c2
        have hbW : Below w.heap.size w wr := hb0.trans (hW.mono (by omega))
        by_cases hlt : k < xs.length
        · obtain ⟨b, o, l', d', ys, au, cu, rfl, hbn, hxk, e0, e1, e2, hLu⟩ := hLr.at_ hlt
          by_cases hqm : q ≤ mo
          · have hk2 : k < 1000 := by have := hq3 hqm; have h2 := M.length_cntT (xs.take k); rw [List.length_take] at h2; omega
            have hnx := M.cntTs_next hxk
            generalize M.cntTs (xs.take k) = c at *
            have hsx := size_ty hxk
            rw [M.Ty.mk.sizeOf_spec] at hsx
            obtain ⟨r, hr⟩ : ∃ r, r = mo - q := ⟨_, rfl⟩
            have hr2 : (mo : Int) - (q : Int) = (r : Nat) := by omega
            have hr3 : Hid (r + q = mo) := by show _ = _; omega
            have hr4 : r ≤ 1000 := by omega
            clear hr
            have HQ := Lib.hid hq3
            have IH := Lib.hid ih
            have HN := Lib.hid hnx
            clear hq3 ih hnx
            go_wp2_with fail
            refine (IH.out l' d' ys au cu _ r _ (by omega) (hLu.mono (by omega)) (by omega) (by omega) (by omega)).mono ?_
            rintro e w1 ⟨⟨s, rfl, hs1, hs2, hs3⟩, hb1⟩
            have hw1 : Below w0.heap.size w0 w1 := hW.trans (hb1.mono hsz)
            have hqs : q + s ≤ 2000 := by have := hr3.out; omega
            generalize M.cntT (M.Ty.mk l' d' ys) = c2 at *
            have HS := Lib.hid hs3
            clear hs3
            go_wp2_with fail
            go_roundw
            case rel => exact ⟨k + 1, q + s, by omega, by simp, by simp, by omega, by have := hr3.out; omega, fun h => by have := hr3.out; rw [HN.out]; have := HS.out (by omega); have := HQ.out hqm; omega, hw1⟩
            case measure => simp [intOf]; omega
          · go_wp2_with fail
            go_ret
            exact ⟨⟨q, rfl, by omega, by omega, fun h => by omega⟩, hbW⟩
        · obtain rfl : k = xs.length := by omega
          rw [List.take_length] at *
          have HQ := Lib.hid hq3
          clear hq3
          go_wp2_with fail
          go_ret
          exact ⟨⟨q, rfl, by omega, by omega, fun h => by rw [M.cntT]; exact HQ.out h⟩, hbW⟩
end Go.Proofs.YtgloapcfmlijlaaGreatDoor
namespace Go.Proofs.YtgloapcfmlijlaaGreatDoor
open Go Go.RowKit

set_option maxRecDepth 100000 in
set_option maxHeartbeats 4000000 in
theorem vals_n (n : Nat) : ∀ (N : Nat) (bs : List Bool) (xs : List M.Va) (p : Int) (ab : Option Addr) (cb : Nat) (a : Option Addr) (cap : Nat) (w : World) (mo : Nat) (dp : Int), SizeOf.sizeOf xs ≤ n → Vl w w.heap.size N bs xs ab cb a cap → mo ≤ 1000 → -1 ≤ dp → dp ≤ 16 →
    Calls Tryz.prog 61 #[vv N (.slice ab bs.length cb) (.slice a xs.length cap) p, .int .i64 (mo : Nat), .int .i64 dp] w fun e w' => (∃ r : Nat, e = .returned (.int .i64 (r : Nat)) ∧ 1 ≤ r ∧ r ≤ mo + 1 ∧ (r ≤ mo → M.cntV (.mk N bs xs p) ≤ r)) ∧ Below w.heap.size w w' := by
  induction n with
  | zero => intro N bs xs p ab cb a cap w mo dp h; cases xs <;> simp at h
  | succ n ih =>
    intro N bs xs p ab cb a cap w mo dp hs hL hmo hd1 hd2
    have hB := Cells7.new w N (.slice ab bs.length cb) (.slice a xs.length cap) p 33
    have hb0 : Below w.heap.size w (w.alloc (.cells #[.int .u64 (M.pt 0 N), .int .u64 (M.pt 1 N), .int .u64 (M.pt 2 N), .int .u64 (M.pt 3 N), .slice ab bs.length cb, .slice a xs.length cap, .int .i64 p] 33)) := by (repeat (first | exact Below.refl _ _ | refine Below.drew ?_ | refine Below.alloc ?_ (by first | omega | (simp; omega) | simp) _ | refine Below.setCell ?_ (by first | omega | (simp; omega) | simp) _))
    obtain ⟨_, _, hbe, _, hbm⟩ := hL.b.slice
    have hbl : bs.length ≤ maxLen := by
      cases hbe
      omega
    simp only [maxLen] at hbl
    clear hbe hbm
    obtain ⟨q8, hq8⟩ : ∃ q8, q8 = bs.length / 8 := ⟨_, rfl⟩
    have h8 : (bs.length : Int) / 8 = (q8 : Nat) := by omega
    have hc8 : Hid (M.cntV (.mk N bs xs p) = 1 + q8 + M.cntVs xs) := by show _ = _; rw [M.cntV, hq8]
    have hq8m : q8 ≤ 9223372036854775807 / 8 := by omega
    clear hq8
    by_cases hdp : dp < 0
    · clear hc8
      go_enter Tryz.func61, Tryz.ntmps61
      go_wp2_with fail
      go_ret
      refine ⟨⟨mo + 1, by simp, by omega, by omega, by omega⟩, ?_⟩
      exact hb0
    · have hdp' : decide (dp < 0) = false := by simp; omega
      by_cases hbig : mo < 1 + q8
      · have hbig' : (mo : Int) < 1 + (q8 : Int) := by omega
        clear hc8
        go_enter Tryz.func61, Tryz.ntmps61
        go_wp2_with fail
        go_ret
        refine ⟨⟨mo + 1, by simp, by omega, by omega, by omega⟩, ?_⟩
        exact hb0
      · have hbig' : ¬ (mo : Int) < 1 + (q8 : Int) := by omega
        go_enter Tryz.func61, Tryz.ntmps61
        go_wp2_with fail
        generalize hw0 : w.alloc (.cells #[.int .u64 (M.pt 0 N), .int .u64 (M.pt 1 N), .int .u64 (M.pt 2 N), .int .u64 (M.pt 3 N), .slice ab bs.length cb, .slice a xs.length cap, .int .i64 p] 33) = w0 at *
        have hz : w0.heap.size = w.heap.size + 1 := by rw [← hw0]; simp
        clear hw0
        go_loopw [7, 8] (fun m i wr => ∃ k q : Nat, k ≤ xs.length ∧ i = .int .i64 k ∧ m = .int .i64 (q : Nat) ∧ 1 ≤ q ∧ q ≤ mo + 1 ∧ (q ≤ mo → 1 + q8 + M.cntVs (xs.take k) ≤ q) ∧ Below w0.heap.size w0 wr) (fun _ i _ => xs.length - (intOf i).toNat)
        case atStart => exact ⟨0, 1 + q8, by omega, rfl, by simp, by omega, by omega, fun _ => by simp [M.cntVs], Below.refl _ _⟩
        case round =>
          obtain ⟨k, q, hk, rfl, rfl, hq1, hq2, hq3, hW⟩ := hrel
          have hbx := hB.from_ hW (by omega)
          have hLr := (hL.from_ hb0).from_ (hW.mono (by omega))
          have hsz := hW.size
          have hc5 := hbx.c5
          have hbW : Below w.heap.size w wr := hb0.trans (hW.mono (by omega))
          by_cases hlt : k < xs.length
          · obtain ⟨b, o, N', bs', us, p', ab', cb', au, cu, rfl, hbn, hxk, hC, hVl⟩ := hLr.v.at_ hlt
            obtain ⟨e0, e1, e2, e3, e4, e5, e6⟩ := hC
            by_cases hqm : q ≤ mo
            · have hk2 : k < 1000 := by have := hq3 hqm; have h2 := M.length_cntV (xs.take k); rw [List.length_take] at h2; omega
              have hnx := M.cntVs_next hxk
              generalize M.cntVs (xs.take k) = c at *
              have hsx := size_va hxk
              rw [M.Va.mk.sizeOf_spec] at hsx
              obtain ⟨r, hr⟩ : ∃ r, r = mo - q := ⟨_, rfl⟩
              have hr2 : (mo : Int) - (q : Int) = (r : Nat) := by omega
              have hr3 : Hid (r + q = mo) := by show _ = _; omega
              have hr4 : r ≤ 1000 := by omega
              clear hr
              have HQ := Lib.hid hq3
              have IH := Lib.hid ih
              have HN := Lib.hid hnx
              clear hq3 ih hnx
              go_wp2_with fail
              refine (IH.out N' bs' us p' ab' cb' au cu _ r _ (by omega) (hVl.mono (by omega)) (by omega) (by omega) (by omega)).mono ?_
              rintro e w1 ⟨⟨s, rfl, hs1, hs2, hs3⟩, hb1⟩
              have hw1 : Below w0.heap.size w0 w1 := hW.trans (hb1.mono hsz)
              have hqs : q + s ≤ 2000 := by have := hr3.out; omega
              generalize M.cntV (M.Va.mk N' bs' us p') = c2 at *
              have HS := Lib.hid hs3
              clear hs3
              go_wp2_with fail
              go_roundw
              case rel => exact ⟨k + 1, q + s, by omega, by simp, by simp, by omega, by have := hr3.out; omega, fun h => by have := hr3.out; rw [HN.out]; have := HS.out (by omega); have := HQ.out hqm; omega, hw1⟩
              case measure => simp [intOf]; omega
            · go_wp2_with fail
              go_ret
              exact ⟨⟨q, rfl, by omega, by omega, fun h => by omega⟩, hbW⟩
          · obtain rfl : k = xs.length := by omega
            rw [List.take_length] at *
            have HQ := Lib.hid hq3
            clear hq3
            go_wp2_with fail
            go_ret
            exact ⟨⟨q, rfl, by omega, by omega, fun h => by rw [hc8.out]; exact HQ.out h⟩, hbW⟩
end Go.Proofs.YtgloapcfmlijlaaGreatDoor
namespace Go.Proofs.YtgloapcfmlijlaaGreatDoor
open Go Go.RowKit

/-- What Few tells. -/
structure FewP (e : Ending) (t : M.Ty) (v : M.Va) : Prop where
  out : ∃ q : Bool, e = .returned (.bool q) ∧ (q = true → M.cntT t ≤ 60 ∧ M.cntV v ≤ 150)
theorem two_boxes (w : World) (o o' : Obj) : Below w.heap.size w ((w.alloc o).alloc o') := ((Below.refl _ w).alloc (Nat.le_refl _) o).alloc (by simp) o'

set_option maxRecDepth 100000 in
set_option maxHeartbeats 4000000 in
theorem sfew_any (k n : Int) (ts : List M.Ty) (at_ : Option Addr) (ct : Nat) (N : Nat) (bs : List Bool) (us : List M.Va) (p : Int) (ab : Option Addr) (cb : Nat) (a : Option Addr) (cap : Nat) (w : World) (hT : LayT w w.heap.size ts (.slice at_ ts.length ct)) (hV : Vl w w.heap.size N bs us ab cb a cap) :
    Calls Tryz.prog 27 #[tv k n (.slice at_ ts.length ct), vv N (.slice ab bs.length cb) (.slice a us.length cap) p] w fun e w' => FewP e (.mk k n ts) (.mk N bs us p) ∧ Below w.heap.size w w' := by
  have HC := Lib.hid (fun W (h : Below w.heap.size w W) => types_n _ k n ts at_ ct W 60 9 (Nat.le_refl _) ((hT.from_ h).mono h.size) (by omega) (by omega) (by omega))
  have HF := Lib.hid (fun W (h : Below w.heap.size w W) => vals_n _ N bs us p ab cb a cap W 150 9 (Nat.le_refl _) ((hV.from_ h).mono h.size) (by omega) (by omega) (by omega))
  have hb0 := two_boxes w
  clear hT hV
  go_enter Tryz.func27, Tryz.ntmps27
  go_wp2_with fail
  refine (HC.out _ (hb0 _ _)).mono ?_
  rintro e w1 ⟨⟨r, rfl, hr1, hr2, hr3⟩, hb1⟩
  obtain ⟨hce, hfr⟩ := bcell hb1
  have HR := Lib.hid hr3
  by_cases hr : r ≤ 60
  · have hr' : (r : Int) ≤ 60 := by omega
    clear hr3
    go_wp2_with fail
    refine (HF.out _ ((hb0 _ _).trans (hb1.mono (by simp; omega)))).mono ?_
    rintro e w2 ⟨⟨s, rfl, hs1, hs2, hs3⟩, hb2⟩
    have HS := Lib.hid hs3
    clear hs3
    go_wp2_with fail
    go_ret
    refine ⟨⟨_, rfl, fun h => ?_⟩, (hb0 _ _).trans ((hb1.trans (hb2.mono hb1.size)).mono (by simp; omega))⟩
    have h1 : s ≤ 150 := by simp at h; omega
    exact ⟨Nat.le_trans (HR.out hr) hr, Nat.le_trans (HS.out h1) h1⟩
  · have hr' : ¬ (r : Int) ≤ 60 := by omega
    clear hr3
    go_wp2_with fail
    go_ret
    exact ⟨⟨false, rfl, fun h => by simp at h⟩, (hb0 _ _).trans (hb1.mono (by simp; omega))⟩
end Go.Proofs.YtgloapcfmlijlaaGreatDoor
namespace Go.Proofs.YtgloapcfmlijlaaGreatDoor
open Go Go.RowKit

structure WtP (e : Ending) : Prop where
  out : ∃ q : Int, e = .returned (.int .i64 q)

set_option maxRecDepth 100000 in
set_option maxHeartbeats 8000000 in
theorem weight_n (z : Nat) : ∀ (k n : Int) (xs : List M.Ty) (a : Option Addr) (cap : Nat) (w : World), SizeOf.sizeOf xs ≤ z → LayT w w.heap.size xs (.slice a xs.length cap) → M.cntTs xs ≤ 4000 →
    Calls Tryz.prog 28 #[tv k n (.slice a xs.length cap)] w fun e w' => WtP e ∧ Below w.heap.size w w' := by
  induction z with
  | zero => intro k n xs a cap w h; cases xs <;> simp at h
  | succ z ih =>
    intro k n xs a cap w hs hL hc
    have hB := BoxT.new w k n (.slice a xs.length cap) 24
    have hb0 : Below w.heap.size w (w.alloc (.cells #[.int .i64 k, .int .i64 n, .slice a xs.length cap] 24)) := by (repeat (first | exact Below.refl _ _ | refine Below.drew ?_ | refine Below.alloc ?_ (by first | omega | (simp; omega) | simp) _ | refine Below.setCell ?_ (by first | omega | (simp; omega) | simp) _))
    obtain ⟨w0, hw0⟩ : ∃ w0, w.alloc (.cells #[.int .i64 k, .int .i64 n, .slice a xs.length cap] 24) = w0 := ⟨_, rfl⟩
    rw [hw0] at hB hb0
    have hz0 : w0.heap.size = w.heap.size + 1 := by rw [← hw0]; simp
    have HW := Lib.hid hw0
    have hlen := M.length_cntT xs
    have hl4 : xs.length ≤ 4000 := by omega
    clear hw0
    go_enter Tryz.func28, Tryz.ntmps28
    go_wp2_with fail
    rw [HW.out]
    go_loopw [3, 4] (fun m i wr => ∃ (j : Nat) (q : Int), j ≤ xs.length ∧ i = .int .i64 j ∧ m = .int .i64 q ∧ Below w0.heap.size w0 wr) (fun _ i _ => xs.length - (intOf i).toNat)
    case atStart => exact ⟨0, 0, by omega, rfl, rfl, Below.refl _ _⟩
    case round =>
      obtain ⟨j, q, hj, rfl, rfl, hW⟩ := hrel
      have hBr := hB.from_ hW (by omega)
      have c0 := hBr.c0
      have c1 := hBr.c1
      have c2 := hBr.c2
      have hbW : Below w.heap.size w wr := hb0.trans (hW.mono (by omega))
      by_cases hlt : j < xs.length
      · by_cases hq : q ≤ 3000
        · obtain ⟨b, o, k', m', us, au, cu, rfl, hbn, hxk, e0, e1, e2, hLu⟩ := hL.at_ hlt
          have hsx := size_ty hxk
          rw [M.Ty.mk.sizeOf_spec] at hsx
          have hcx := M.cntT_part (List.mem_of_getElem? hxk)
          rw [M.cntT] at hcx
          have g0 := (hbW.cell (p := ⟨b, o + j * 3, none⟩) hbn).trans e0
          have g1 := (hbW.cell (p := ⟨b, o + j * 3 + 1, none⟩) hbn).trans e1
          have g2 := (hbW.cell (p := ⟨b, o + j * 3 + 2, none⟩) hbn).trans e2
          have HI := Lib.hid (ih k' m' us au cu wr (by omega) ((hLu.from_ hbW).mono hbW.size) (by omega))
          have hj9 : j < 4000 := by omega
          clear ih hL hLu hsx hcx e0 e1 e2 hB hc hlen hl4
          go_wp2_with fail
          refine HI.out.mono ?_
          rintro e w2 ⟨⟨q2, rfl⟩, hb2⟩
          go_wp2_with fail
          go_roundw
          case rel => exact ⟨j + 1, _, by omega, by simp, rfl, hW.trans (hb2.mono hW.size)⟩
          case measure => simp [intOf]; omega
        · go_wp2_with fail
          all_goals
            go_ret
            exact ⟨⟨_, rfl⟩, hbW⟩
      · obtain rfl : j = xs.length := by omega
        go_wp2_with fail
        all_goals
          go_ret
          exact ⟨⟨_, rfl⟩, hbW⟩

set_option maxRecDepth 100000 in
set_option maxHeartbeats 4000000 in
theorem few_any (k n : Int) (ts : List M.Ty) (at_ : Option Addr) (ct : Nat) (N : Nat) (bs : List Bool) (us : List M.Va) (p : Int) (ab : Option Addr) (cb : Nat) (a : Option Addr) (cap : Nat) (w : World) (hT : LayT w w.heap.size ts (.slice at_ ts.length ct)) (hV : Vl w w.heap.size N bs us ab cb a cap) :
    Calls Tryz.prog 11 #[tv k n (.slice at_ ts.length ct), vv N (.slice ab bs.length cb) (.slice a us.length cap) p] w fun e w' => FewP e (.mk k n ts) (.mk N bs us p) ∧ Below w.heap.size w w' := by
  obtain ⟨w0, hw0⟩ : ∃ w0, (w.alloc (.cells #[.int .i64 k, .int .i64 n, .slice at_ ts.length ct] 24)).alloc (.cells #[.int .u64 (M.pt 0 N), .int .u64 (M.pt 1 N), .int .u64 (M.pt 2 N), .int .u64 (M.pt 3 N), .slice ab bs.length cb, .slice a us.length cap, .int .i64 p] 33) = w0 := ⟨_, rfl⟩
  have hb0 : Below w.heap.size w w0 := by rw [← hw0]; exact two_boxes _ _ _
  have hz0 : w0.heap.size = w.heap.size + 2 := by rw [← hw0]; simp
  have hB0 : BoxT w0 w.heap.size k n (.slice at_ ts.length ct) := by rw [← hw0]; exact ⟨by simp [go_sem], by simp [go_sem], by simp [go_sem]⟩
  have HF := Lib.hid (sfew_any k n ts at_ ct N bs us p ab cb a cap w0 ((hT.from_ hb0).mono hb0.size) ((hV.from_ hb0).mono hb0.size))
  have HW := Lib.hid hw0
  clear hw0
  go_enter Tryz.func11, Tryz.ntmps11
  go_wp2_with fail
  rw [HW.out]
  refine HF.out.mono ?_
  rintro e w1 ⟨⟨q, rfl, hq⟩, hb1⟩
  have hbw1 := hb0.trans (hb1.mono hb0.size)
  have hB1 := hB0.from_ hb1 (by omega)
  have c0 := hB1.c0
  have c1 := hB1.c1
  have c2 := hB1.c2
  have HQ := Lib.hid hq
  cases q with
  | false =>
    clear hq
    go_wp2_with fail
    go_ret
    exact ⟨⟨false, rfl, fun h => (by cases h)⟩, hbw1⟩
  | true =>
    have HT := Lib.hid (weight_n _ k n ts at_ ct w1 (Nat.le_refl _) ((hT.from_ hbw1).mono hbw1.size) (by have := (hq rfl).1; rw [M.cntT] at this; omega))
    clear hq
    go_wp2_with fail
    refine HT.out.mono ?_
    rintro e w2 ⟨⟨r, rfl⟩, hb2⟩
    go_wp2_with fail
    go_ret
    exact ⟨⟨_, rfl, fun _ => HQ.out trivial⟩, hbw1.trans (hb2.mono hbw1.size)⟩
end Go.Proofs.YtgloapcfmlijlaaGreatDoor
namespace Go.Proofs.YtgloapcfmlijlaaGreatDoor.M
open Go

mutual
def flat (d : Nat) : Ty → List (Nat × Ty)
  | .mk k n ins => (d, .mk k n ins) :: flats (d + 1) ins
def flats (d : Nat) : List Ty → List (Nat × Ty)
  | [] => []
  | t :: ts => flat d t ++ flats d ts
end
theorem flats_append (d : Nat) (xs ys : List Ty) : flats d (xs ++ ys) = flats d xs ++ flats d ys := by
  induction xs with
  | nil => simp [flats]
  | cons x xs ih => rw [List.cons_append, flats, flats, ih, List.append_assoc]
theorem flats_next {d : Nat} {xs : List Ty} {k : Nat} {x : Ty} (h : xs[k]? = some x) : flats d (xs.take (k + 1)) = flats d (xs.take k) ++ flat d x := by
  rw [row_next h, flats_append]; simp [flats]
theorem flats_part {d : Nat} {xs : List Ty} {k : Nat} {x : Ty} (h : xs[k]? = some x) : ∃ zs, flats d xs = flats d (xs.take k) ++ flat d x ++ zs := by
  obtain ⟨ys, e⟩ := row_parts h
  exact ⟨flats d ys, by
    generalize hz : xs.take k = zs at *
    subst e
    rw [flats_append, flats, List.append_assoc]⟩

/-- What is wrong with a type itself, that stands in so many. -/
def ownE (p : Nat × Ty) : Nat := match p.2 with
  | .mk k n ins => if k < 1 ∨ 8 < k then 9 else if formT k n ins.length = false then 2 else if p.1 = 6 then 7 else 0
/-- The first that is not nought. -/
def fstE : List (Nat × Ty) → Nat
  | [] => 0
  | p :: ps => if ownE p ≠ 0 then ownE p else fstE ps
theorem fstE_append (xs ys : List (Nat × Ty)) : fstE (xs ++ ys) = if fstE xs ≠ 0 then fstE xs else fstE ys := by
  induction xs with
  | nil => simp [fstE]
  | cons x xs ih =>
    rw [List.cons_append, fstE, fstE, ih]
    by_cases h1 : ownE x ≠ 0
    · rw [if_pos h1, if_pos h1, if_pos h1]
    · rw [if_neg h1, if_neg h1]
theorem fstE_ok : ∀ {xs : List (Nat × Ty)}, fstE xs = 0 ↔ ∀ x ∈ xs, ownE x = 0
  | [] => by simp [fstE]
  | x :: xs => by
    rw [fstE]
    by_cases h1 : ownE x ≠ 0
    · rw [if_pos h1]
      constructor
      · intro h; exact absurd h h1
      · intro h; exact absurd (h x (by simp)) h1
    · rw [if_neg h1, fstE_ok]
      have h1 : ownE x = 0 := by omega
      simp [h1]
mutual
theorem chkT_flat : ∀ (t : Ty) (d : Nat), d ≤ 6 → chkT d t = fstE (flat d t)
  | .mk k n ins, d, hd => by
    rw [chkT, flat, fstE, ownE]
    by_cases h1 : k < 1 ∨ 8 < k
    · simp [h1]
    · by_cases h2 : formT k n ins.length = false
      · simp [h1, h2]
      · by_cases h3 : d = 6
        · simp [h1, h2, h3]
        · have h4 : ¬ 6 ≤ d := by omega
          have h5 := chkTs_flat ins (d + 1) (by omega)
          simp only [if_neg h1, if_neg h2, if_neg h3, if_neg h4, h5]
          simp
theorem chkTs_flat : ∀ (ts : List Ty) (d : Nat), d ≤ 6 → chkTs d ts = fstE (flats d ts)
  | [], d, _ => by simp [chkTs, flats, fstE]
  | t :: ts, d, hd => by rw [chkTs, flats, fstE_append, chkT_flat t d hd, chkTs_flat ts d hd]
end
theorem chk_all {t : Ty} {d : Nat} (hd : d ≤ 6) : chkT d t = 0 ↔ ∀ y ∈ flat d t, ownE y = 0 := by rw [chkT_flat t d hd, fstE_ok]
theorem chk_first {t : Ty} {d : Nat} (hd : d ≤ 6) {ys zs : List (Nat × Ty)} {y : Nat × Ty} (h : flat d t = ys ++ y :: zs) (h0 : ∀ x ∈ ys, ownE x = 0) (h1 : ownE y ≠ 0) : chkT d t = ownE y := by
  rw [chkT_flat t d hd, h, fstE_append, if_neg (by rw [fstE_ok.2 h0]; simp), fstE, if_pos h1]
/-- Of a type that is one: what stands in it stands no deeper than it may. -/
theorem flat_deep : ∀ (t : Ty) (d : Nat), chkT d t = 0 → ∀ y ∈ flat d t, d ≤ y.1 ∧ y.1 < 6 ∧ (∃ e, chkT e y.2 = 0)
  | .mk k n ins, d, h, y, hy => by
    rw [flat, List.mem_cons] at hy
    have hk := chkT_ok.1 h
    rcases hy with rfl | hy
    · exact ⟨Nat.le_refl _, hk.2.2.1, d, h⟩
    · have key : ∀ ts : List Ty, (∀ t ∈ ts, t ∈ ins) → y ∈ flats (d + 1) ts → ∃ t ∈ ts, y ∈ flat (d + 1) t := fun ts => by
        induction ts with
        | nil => intro _ h; simp [flats] at h
        | cons t ts ih =>
          intro hm h
          rw [flats, List.mem_append] at h
          rcases h with h | h
          · exact ⟨t, by simp, h⟩
          · obtain ⟨u, hu, h⟩ := ih (fun v hv => hm v (by simp [hv])) h
            exact ⟨u, by simp [hu], h⟩
      obtain ⟨t, ht, hy⟩ := key ins (fun _ h => h) hy
      obtain ⟨h1, h2, h3⟩ := flat_deep t (d + 1) (chkTs_ok.1 hk.2.2.2 t ht) y hy
      exact ⟨by omega, h2, h3⟩
termination_by t => SizeOf.sizeOf t
decreasing_by have := List.sizeOf_lt_of_mem ht; simp; omega

/-- Is a type itself fixed? -/
def isFix (p : Nat × Ty) : Bool := !(p.2.k == 4 || p.2.k == 6 || p.2.k == 8)
mutual
theorem fixT_flat : ∀ (t : Ty) (d : Nat), fixT t = (flat d t).all isFix
  | .mk k n ins, d => by
    rw [fixT, flat, List.all_cons, isFix, fixTs_flat ins (d + 1)]
    by_cases h1 : k = 4 ∨ k = 6 ∨ k = 8
    · rw [if_pos h1]
      rcases h1 with rfl | rfl | rfl <;> simp [Ty.k]
    · rw [if_neg h1]
      have : (k == 4 || k == 6 || k == 8) = false := by simp; omega
      simp [Ty.k, this]
theorem fixTs_flat : ∀ (ts : List Ty) (d : Nat), fixTs ts = (flats d ts).all isFix
  | [], d => by simp [fixTs, flats]
  | t :: ts, d => by
    rw [fixTs, flats, List.all_append, ← fixT_flat t d, ← fixTs_flat ts d]
    cases fixT t <;> simp
end
end Go.Proofs.YtgloapcfmlijlaaGreatDoor.M
namespace Go.Proofs.YtgloapcfmlijlaaGreatDoor.M
open Go

def oneN : Ty → Nat
  | .mk k n _ => if k = 1 then n.toNat else if k = 2 then 1 else if k = 5 then (n.toNat + 7) / 8 else 0
def eachN : Ty → Nat
  | .mk k n _ => if k = 3 then n.toNat else if k = 7 then 1 else 0
/-- So much till now; so many at each depth. -/
abbrev St := Nat × (Nat → Nat)
def stp (s : St) (p : Nat × Ty) : St := (s.1 + s.2 p.1 * oneN p.2, fun i => if i = p.1 + 1 then s.2 p.1 * eachN p.2 else s.2 i)
def st0 : St := (0, fun i => if i = 0 then 1 else 0)

theorem szT_one {k n : Int} {ins : List Ty} (h : chkT 0 (.mk k n ins) = 0 ∨ ∃ e, chkT e (.mk k n ins) = 0) (hf : fixT (.mk k n ins) = true) : szT (.mk k n ins) = oneN (.mk k n ins) + eachN (.mk k n ins) * szTs ins := by
  have hk : (1 ≤ k ∧ k ≤ 8) ∧ formT k n ins.length = true := by
    rcases h with h | ⟨e, h⟩
    · exact ⟨(chkT_ok.1 h).1, (chkT_ok.1 h).2.1⟩
    · exact ⟨(chkT_ok.1 h).1, (chkT_ok.1 h).2.1⟩
  have hnil : ins.length = 0 → szTs ins = 0 := fun h => by rw [List.eq_nil_of_length_eq_zero h]; rfl
  rw [fixT] at hf
  by_cases h4 : k = 4 ∨ k = 6 ∨ k = 8
  · rw [if_pos h4] at hf; cases hf
  · rw [szT, oneN, eachN]
    obtain ⟨⟨h1, h2⟩, h3⟩ := hk
    unfold formT at h3
    by_cases e1 : k = 1
    · subst e1; simp
    · by_cases e2 : k = 2
      · subst e2; simp
      · by_cases e3 : k = 3
        · subst e3; simp
        · by_cases e5 : k = 5
          · subst e5; simp
          · obtain rfl : k = 7 := by omega
            simp

theorem foldl_more : ∀ (L : List (Nat × Ty)) (s : St), s.1 ≤ (L.foldl stp s).1
  | [], _ => Nat.le_refl _
  | p :: L, s => Nat.le_trans (Nat.le_add_right _ _) (foldl_more L (stp s p))
mutual
theorem flat_sum : ∀ (t : Ty) (d e : Nat) (s : St), chkT e t = 0 → fixT t = true → ((flat d t).foldl stp s).1 = s.1 + s.2 d * szT t ∧ ∀ i, i ≤ d → ((flat d t).foldl stp s).2 i = s.2 i
  | .mk k n ins, d, e, s, hc, hf => by
    have hsz := szT_one (.inr ⟨e, hc⟩) hf
    have hfs : fixTs ins = true := by
      rw [fixT] at hf
      by_cases h4 : k = 4 ∨ k = 6 ∨ k = 8
      · rw [if_pos h4] at hf; cases hf
      · rwa [if_neg h4] at hf
    obtain ⟨h1, h2⟩ := flats_sum ins (d + 1) (e + 1) (stp s (d, .mk k n ins)) (chkT_ok.1 hc).2.2.2 hfs
    rw [flat, List.foldl_cons]
    refine ⟨?_, fun i hi => ?_⟩
    · rw [h1, hsz]
      simp only [stp, if_true]
      rw [Nat.mul_add, Nat.mul_assoc, Nat.add_assoc]
    · rw [h2 i (by omega)]
      simp only [stp]
      rw [if_neg (by omega)]
theorem flats_sum : ∀ (ts : List Ty) (d e : Nat) (s : St), chkTs e ts = 0 → fixTs ts = true → ((flats d ts).foldl stp s).1 = s.1 + s.2 d * szTs ts ∧ ∀ i, i ≤ d → ((flats d ts).foldl stp s).2 i = s.2 i
  | [], d, e, s, _, _ => by simp [flats, szTs]
  | t :: ts, d, e, s, hc, hf => by
    have hc' := chkTs_ok.1 hc
    have hf' := fixTs_ok.1 hf
    obtain ⟨h1, h2⟩ := flat_sum t d e s (hc' t (by simp)) (hf' t (by simp))
    obtain ⟨h3, h4⟩ := flats_sum ts d e ((flat d t).foldl stp s) (chkTs_ok.2 fun u hu => hc' u (by simp [hu])) (fixTs_ok.2 fun u hu => hf' u (by simp [hu]))
    rw [flats, List.foldl_append]
    refine ⟨?_, fun i hi => (h4 i hi).trans (h2 i hi)⟩
    rw [h3, h1, h2 d (Nat.le_refl _), szTs, Nat.mul_add, Nat.add_assoc]
end
/-- All of it. -/
theorem flat_size {t : Ty} (hc : chkT 0 t = 0) (hf : fixT t = true) : ((flat 0 t).foldl stp st0).1 = szT t := by
  have := (flat_sum t 0 0 st0 hc hf).1
  simpa [st0] using this

/-- How many items at most. -/
theorem each_most {p : Nat × Ty} (h : ∃ e, chkT e p.2 = 0) : eachN p.2 ≤ 512 ∧ oneN p.2 ≤ 64 := by
  obtain ⟨d, ⟨k, n, ins⟩⟩ := p
  obtain ⟨e, h⟩ := h
  have hk := (chkT_ok.1 h).2.1
  have h8 := (chkT_ok.1 h).1
  unfold formT at hk
  show eachN (.mk k n ins) ≤ 512 ∧ oneN (.mk k n ins) ≤ 64
  rw [eachN, oneN]
  by_cases e1 : k = 1
  · subst e1; simp at hk ⊢; rcases hk.2 with (((h | h) | h) | h) | h <;> omega
  · by_cases e2 : k = 2
    · subst e2; simp
    · by_cases e3 : k = 3
      · subst e3; simp at hk ⊢; omega
      · by_cases e5 : k = 5
        · subst e5; simp at hk ⊢; omega
        · by_cases e7 : k = 7
          · subst e7; simp
          · simp [e1, e2, e3, e5, e7]
theorem many_most : ∀ (L : List (Nat × Ty)) (s : St), (∀ p ∈ L, ∃ e, chkT e p.2 = 0) → (∀ i, s.2 i ≤ 512 ^ i) → ∀ i, (L.foldl stp s).2 i ≤ 512 ^ i
  | [], _, _, h => h
  | p :: L, s, hL, h => by
    refine many_most L (stp s p) (fun q hq => hL q (by simp [hq])) fun i => ?_
    simp only [stp]
    by_cases hi : i = p.1 + 1
    · rw [if_pos hi, hi, Nat.pow_succ]
      exact Nat.mul_le_mul (h p.1) (each_most (hL p (by simp))).1
    · rw [if_neg hi]; exact h i
/-- What a round reckons with. -/
theorem round_most {t : Ty} (hc : chkT 0 t = 0) (hf : fixT t = true) {ys zs : List (Nat × Ty)} {y : Nat × Ty} (h : flat 0 t = ys ++ y :: zs) :
    y.1 < 6 ∧ (∃ e, chkT e y.2 = 0) ∧ fixT t = true ∧ isFix y = true ∧ (ys.foldl stp st0).1 ≤ 1152921504606846976 ∧ (ys.foldl stp st0).2 y.1 * oneN y.2 ≤ 2251799813685248 ∧ (ys.foldl stp st0).2 y.1 * eachN y.2 ≤ 18014398509481984 ∧ (ys.foldl stp st0).1 + (ys.foldl stp st0).2 y.1 * oneN y.2 ≤ 1152921504606846976 ∧ oneN y.2 ≤ 64 ∧ eachN y.2 ≤ 512 ∧ (ys.foldl stp st0).2 y.1 ≤ 35184372088832 := by
  have hd := fun p hp => flat_deep t 0 hc p hp
  obtain ⟨_, h6, he⟩ := hd y (by rw [h]; simp)
  have hsz := flat_size hc hf
  have hm := szT_most t 0 hc
  rw [h, List.foldl_append, List.foldl_cons] at hsz
  have g1 := foldl_more zs (stp (ys.foldl stp st0) y)
  rw [hsz] at g1
  have g2 : (stp (ys.foldl stp st0) y).1 = (ys.foldl stp st0).1 + (ys.foldl stp st0).2 y.1 * oneN y.2 := rfl
  rw [g2] at g1
  have g3 := many_most ys st0 (fun p hp => (hd p (by rw [h]; simp [hp])).2.2) (fun i => by
    simp only [st0]
    by_cases hi : i = 0
    · rw [if_pos hi]; exact Nat.one_le_pow _ _ (by omega)
    · rw [if_neg hi]; exact Nat.zero_le _) y.1
  have g4 : 512 ^ y.1 ≤ 512 ^ 5 := Nat.pow_le_pow_right (by omega) (by omega)
  obtain ⟨g5, g6⟩ := each_most he
  have hp5 : (512 : Nat) ^ 5 = 35184372088832 := by decide
  have hp6 : (64 : Nat) * 512 ^ (6 - 0) = 1152921504606846976 := by decide
  have g7 : (ys.foldl stp st0).2 y.1 ≤ 35184372088832 := by omega
  refine ⟨h6, he, hf, ?_, by omega, ?_, ?_, by omega, g6, g5, g7⟩
  · have := hf
    rw [fixT_flat t 0, h, List.all_append, List.all_cons] at this
    simp at this
    exact this.2.1
  · exact Nat.le_trans (Nat.mul_le_mul g7 g6) (by decide)
  · exact Nat.le_trans (Nat.mul_le_mul g7 g5) (by decide)
end Go.Proofs.YtgloapcfmlijlaaGreatDoor.M
namespace Go.Proofs.YtgloapcfmlijlaaGreatDoor.M
open Go

/-- The number of bytes, the lowest one first. -/
def led : List UInt8 → Nat
  | [] => 0
  | c :: l => c.toNat + 256 * led l
/-- k bytes of a number, the lowest one first. -/
def le : Nat → Nat → List UInt8
  | 0, _ => []
  | k + 1, N => UInt8.ofNat (N % 256) :: le k (N / 256)
theorem le_length (k N : Nat) : (le k N).length = k := by
  induction k generalizing N with
  | zero => rfl
  | succ k ih => simp [le, ih]
theorem led_lt (l : List UInt8) : led l < 256 ^ l.length := by
  induction l with
  | nil => simp [led]
  | cons c l ih =>
    have := c.toNat_lt
    simp only [led, List.length_cons, Nat.pow_succ]
    omega
theorem led_le (k N : Nat) (h : N < 256 ^ k) : led (le k N) = N := by
  induction k generalizing N with
  | zero => simp at h; subst h; rfl
  | succ k ih =>
    rw [le, led, ih _ (by rw [Nat.pow_succ] at h; omega)]
    have : (UInt8.ofNat (N % 256)).toNat = N % 256 := by simp
    omega
theorem le_led (l : List UInt8) : le l.length (led l) = l := by
  induction l with
  | nil => rfl
  | cons c l ih =>
    have hc := c.toNat_lt
    simp only [List.length_cons, le, led]
    rw [show (c.toNat + 256 * led l) / 256 = led l by omega, show (c.toNat + 256 * led l) % 256 = c.toNat by omega, ih]
    simp
theorem led_snoc (l : List UInt8) (c : UInt8) : led (l ++ [c]) = led l + c.toNat * 256 ^ l.length := by
  induction l with
  | nil => simp [led]
  | cons d l ih =>
    simp only [List.cons_append, led, ih, List.length_cons, Nat.pow_succ]
    rw [Nat.mul_add, ← Nat.add_assoc, show 256 * (c.toNat * 256 ^ l.length) = c.toNat * (256 ^ l.length * 256) by rw [Nat.mul_comm (256 ^ l.length), Nat.mul_left_comm]]
theorem le_get (k N i : Nat) (h : i < k) : (le k N).getD i 0 = UInt8.ofNat (N / 256 ^ i % 256) := by
  induction k generalizing N i with
  | zero => omega
  | succ k ih =>
    cases i with
    | zero => simp [le]
    | succ i =>
      simp only [le, List.getD_cons_succ]
      rw [ih _ _ (by omega), Nat.div_div_eq_div_mul, Nat.pow_succ, Nat.mul_comm]

/-- What is read of at most 8 bytes: the number, and the error's. -/
def ub (l : List UInt8) : Nat × Nat := if 8 < l.length then (0, 5) else if Lib.hasPrefix l [0] then (0, 8) else (dg l, 0)
/-- What is read of 1 to 8 bytes, the lowest one first. -/
def ul (l : List UInt8) : Nat × Nat := if 1 ≤ l.length ∧ l.length ≤ 8 then (led l, 0) else (0, 2)
theorem led_lt8 {l : List UInt8} (h : l.length ≤ 8) : led l < 18446744073709551616 :=
  Nat.lt_of_lt_of_le (led_lt l) (show 256 ^ l.length ≤ 256 ^ 8 from Nat.pow_le_pow_right (by omega) h)
end Go.Proofs.YtgloapcfmlijlaaGreatDoor.M
namespace Go.Proofs.YtgloapcfmlijlaaGreatDoor.M
open Go

/-- The number of eight bits, the first one the lowest. -/
def bn (f : Nat → Bool) : Nat := (f 0).toNat + 2 * (f 1).toNat + 4 * (f 2).toNat + 8 * (f 3).toNat + 16 * (f 4).toNat + 32 * (f 5).toNat + 64 * (f 6).toNat + 128 * (f 7).toNat
theorem bn_lt (f : Nat → Bool) : bn f < 256 := by
  have h : ∀ b : Bool, b.toNat ≤ 1 := fun b => by cases b <;> decide
  have := h (f 0); have := h (f 1); have := h (f 2); have := h (f 3); have := h (f 4); have := h (f 5); have := h (f 6); have := h (f 7)
  unfold bn
  omega
theorem bit_eight : ∀ b0 b1 b2 b3 b4 b5 b6 b7 : Bool, ∀ i : Fin 8, (b0.toNat + 2 * b1.toNat + 4 * b2.toNat + 8 * b3.toNat + 16 * b4.toNat + 32 * b5.toNat + 64 * b6.toNat + 128 * b7.toNat) / 2 ^ i.val % 2 = (match i with | 0 => b0 | 1 => b1 | 2 => b2 | 3 => b3 | 4 => b4 | 5 => b5 | 6 => b6 | 7 => b7).toNat := by
  decide +kernel
theorem bn_bit (f : Nat → Bool) (i : Nat) (hi : i < 8) : bn f / 2 ^ i % 2 = (f i).toNat := by
  have := bit_eight (f 0) (f 1) (f 2) (f 3) (f 4) (f 5) (f 6) (f 7) ⟨i, hi⟩
  unfold bn
  rw [this]
  match i, hi with
  | 0, _ => rfl
  | 1, _ => rfl
  | 2, _ => rfl
  | 3, _ => rfl
  | 4, _ => rfl
  | 5, _ => rfl
  | 6, _ => rfl
  | 7, _ => rfl
/-- The bit of a number, at a place. -/
def nb (c i : Nat) : Bool := c / 2 ^ i % 2 == 1
theorem bool_nat (b : Bool) : (b.toNat == 1) = b := by cases b <;> rfl
theorem nb_bn (f : Nat → Bool) {i : Nat} (hi : i < 8) : nb (bn f) i = f i := by unfold nb; rw [bn_bit f i hi, bool_nat]
theorem bn_nb_fin : ∀ c : Fin 256, bn (nb c.val) = c.val := by decide +kernel
theorem bn_nb {c : Nat} (h : c < 256) : bn (nb c) = c := bn_nb_fin ⟨c, h⟩
theorem bn_ext {f g : Nat → Bool} (h : ∀ i, i < 8 → f i = g i) : bn f = bn g := by
  unfold bn
  rw [h 0 (by omega), h 1 (by omega), h 2 (by omega), h 3 (by omega), h 4 (by omega), h 5 (by omega), h 6 (by omega), h 7 (by omega)]

/-- Bits as bytes, with zeros behind. -/
def packB (l : List Bool) : List UInt8 := (List.range ((l.length + 7) / 8)).map fun j => UInt8.ofNat (bn fun i => l.getD (8 * j + i) false)
/-- The bit at a place of bytes. -/
def bitAt (s : List UInt8) (i : Nat) : Bool := nb (s.getD (i / 8) 0).toNat (i % 8)
/-- So many bits. -/
def unpackB (s : List UInt8) (n : Nat) : List Bool := (List.range n).map (bitAt s)
theorem pack_length (l : List Bool) : (packB l).length = (l.length + 7) / 8 := by simp [packB]
theorem unpack_length (s : List UInt8) (n : Nat) : (unpackB s n).length = n := by simp [unpackB]
theorem pack_get (l : List Bool) {j : Nat} (hj : j < (l.length + 7) / 8) : (packB l).getD j 0 = UInt8.ofNat (bn fun i => l.getD (8 * j + i) false) := by
  unfold packB
  rw [List.getD_eq_getElem?_getD, List.getElem?_map, List.getElem?_range hj]
  rfl
theorem unpack_get (s : List UInt8) {n i : Nat} (hi : i < n) : (unpackB s n).getD i false = bitAt s i := by
  unfold unpackB
  rw [List.getD_eq_getElem?_getD, List.getElem?_map, List.getElem?_range hi]
  rfl
theorem unpack_over (s : List UInt8) {n i : Nat} (hi : n ≤ i) : (unpackB s n).getD i false = false := by
  rw [List.getD_eq_getElem?_getD, List.getElem?_eq_none (by rw [unpack_length]; exact hi)]
  rfl
theorem ofNat_bn (f : Nat → Bool) : (UInt8.ofNat (bn f)).toNat = bn f := by
  have := bn_lt f
  simp
  omega
/-- The bits of packed bits: and zeros behind. -/
theorem bit_pack (l : List Bool) (i : Nat) : bitAt (packB l) i = l.getD i false := by
  unfold bitAt
  by_cases hj : i / 8 < (l.length + 7) / 8
  · rw [pack_get l hj, ofNat_bn, nb_bn _ (by omega), show 8 * (i / 8) + i % 8 = i by omega]
  · rw [List.getD_eq_getElem?_getD, List.getElem?_eq_none (by rw [pack_length]; omega), List.getD_eq_getElem?_getD, List.getElem?_eq_none (by omega)]
    simp [nb]
theorem unpack_pack (l : List Bool) : unpackB (packB l) l.length = l := by
  apply List.ext_getElem?
  intro i
  by_cases hi : i < l.length
  · have h1 := unpack_get (packB l) hi
    rw [bit_pack] at h1
    have h2 : i < (unpackB (packB l) l.length).length := by rw [unpack_length]; exact hi
    rw [List.getD_eq_getElem?_getD, List.getD_eq_getElem?_getD, List.getElem?_eq_getElem h2, List.getElem?_eq_getElem hi] at h1
    rw [List.getElem?_eq_getElem h2, List.getElem?_eq_getElem hi]
    exact congrArg some h1
  · rw [List.getElem?_eq_none (by rw [unpack_length]; omega), List.getElem?_eq_none (by omega)]
theorem getD_ext {s t : List UInt8} (hl : s.length = t.length) (h : ∀ j, j < s.length → s.getD j 0 = t.getD j 0) : s = t := by
  apply List.ext_getElem?
  intro j
  by_cases hj : j < s.length
  · have h1 := h j hj
    rw [List.getD_eq_getElem?_getD, List.getD_eq_getElem?_getD, List.getElem?_eq_getElem hj, List.getElem?_eq_getElem (by omega)] at h1
    rw [List.getElem?_eq_getElem hj, List.getElem?_eq_getElem (by omega)]
    exact congrArg some h1
  · rw [List.getElem?_eq_none (by omega), List.getElem?_eq_none (by omega)]
/-- Bytes are their bits. -/
theorem bytes_bits {s t : List UInt8} (hl : s.length = t.length) (h : ∀ i, i < 8 * s.length → bitAt s i = bitAt t i) : s = t := by
  apply getD_ext hl
  intro j hj
  have key : (s.getD j 0).toNat = (t.getD j 0).toNat := by
    rw [← bn_nb (s.getD j 0).toNat_lt, ← bn_nb (t.getD j 0).toNat_lt]
    apply bn_ext
    intro i hi
    have := h (8 * j + i) (by omega)
    unfold bitAt at this
    rwa [show (8 * j + i) / 8 = j by omega, show (8 * j + i) % 8 = i by omega] at this
  exact UInt8.toNat_inj.1 key
/-- Packed anew: where no bit behind is set. -/
theorem pack_unpack {s : List UInt8} {n : Nat} (hl : s.length = (n + 7) / 8) (h : ∀ i, n ≤ i → i < 8 * s.length → bitAt s i = false) : packB (unpackB s n) = s := by
  apply bytes_bits
  · rw [pack_length, unpack_length, hl]
  · intro i hi
    rw [pack_length, unpack_length] at hi
    rw [bit_pack]
    by_cases hn : i < n
    · exact unpack_get s hn
    · rw [unpack_over s (by omega)]
      exact (h i (by omega) (by omega)).symm

/-- The highest bit that is set, below a place. -/
def topB (s : List UInt8) : Nat → Option Nat
  | 0 => none
  | n + 1 => if bitAt s n = true then some n else topB s n
theorem top_some : ∀ {n m : Nat} {s : List UInt8}, topB s n = some m → m < n ∧ bitAt s m = true ∧ ∀ i, m < i → i < n → bitAt s i = false
  | 0, m, s, h => by cases h
  | n + 1, m, s, h => by
    rw [topB] at h
    split at h
    · rename_i hb
      cases h
      exact ⟨by omega, hb, fun i h1 h2 => by omega⟩
    · rename_i hb
      obtain ⟨h1, h2, h3⟩ := top_some h
      refine ⟨by omega, h2, fun i h4 h5 => ?_⟩
      by_cases hi : i = n
      · rw [hi]; exact Bool.not_eq_true _ ▸ hb
      · exact h3 i h4 (by omega)
theorem top_is : ∀ {n m : Nat} {s : List UInt8}, m < n → bitAt s m = true → (∀ i, m < i → i < n → bitAt s i = false) → topB s n = some m
  | 0, m, s, h, _, _ => by omega
  | n + 1, m, s, h, hb, ho => by
    rw [topB]
    by_cases hm : m = n
    · rw [← hm, if_pos hb]
    · rw [if_neg (by rw [ho n (by omega) (by omega)]; simp)]
      exact top_is (by omega) hb fun i h1 h2 => ho i h1 (by omega)
/-- A bit list's bytes. -/
def listB (l : List Bool) : List UInt8 := packB (l ++ [true])
theorem listB_length (l : List Bool) : (listB l).length = l.length / 8 + 1 := by
  unfold listB
  rw [pack_length, List.length_append, List.length_singleton]
  omega
theorem listB_bit (l : List Bool) (i : Nat) : bitAt (listB l) i = (l ++ [true]).getD i false := bit_pack _ _
theorem listB_at (l : List Bool) : bitAt (listB l) l.length = true := by
  rw [listB_bit, List.getD_eq_getElem?_getD, List.getElem?_append_right (Nat.le_refl _)]
  simp
theorem listB_over (l : List Bool) {i : Nat} (h : l.length < i) : bitAt (listB l) i = false := by
  rw [listB_bit, List.getD_eq_getElem?_getD, List.getElem?_eq_none (by simp; omega)]
  rfl
theorem listB_in (l : List Bool) {i : Nat} (h : i < l.length) : bitAt (listB l) i = l.getD i false := by
  rw [listB_bit, List.getD_eq_getElem?_getD, List.getD_eq_getElem?_getD, List.getElem?_append_left h]
/-- What is told of a bit list's bytes: how many bits, or none. -/
theorem listB_top (l : List Bool) : topB (listB l) (8 * (listB l).length) = some l.length :=
  top_is (by rw [listB_length]; omega) (listB_at l) fun i h _ => listB_over l h
theorem unpack_listB (l : List Bool) : unpackB (listB l) l.length = l := by
  apply List.ext_getElem?
  intro i
  by_cases hi : i < l.length
  · have h1 := unpack_get (listB l) hi
    rw [listB_in l hi] at h1
    have h2 : i < (unpackB (listB l) l.length).length := by rw [unpack_length]; exact hi
    rw [List.getD_eq_getElem?_getD, List.getD_eq_getElem?_getD, List.getElem?_eq_getElem h2, List.getElem?_eq_getElem hi] at h1
    rw [List.getElem?_eq_getElem h2, List.getElem?_eq_getElem hi]
    exact congrArg some h1
  · rw [List.getElem?_eq_none (by rw [unpack_length]; omega), List.getElem?_eq_none (by omega)]
/-- A bit list's bytes: the last one is not 0. -/
theorem listB_unpack {s : List UInt8} {m : Nat} (h : topB s (8 * s.length) = some m) (hlast : 8 * (s.length - 1) ≤ m) : listB (unpackB s m) = s := by
  obtain ⟨h1, h2, h3⟩ := top_some h
  apply bytes_bits
  · rw [listB_length, unpack_length]; omega
  · intro i hi
    rw [listB_length, unpack_length] at hi
    by_cases ha : i < m
    · rw [listB_in _ (by rw [unpack_length]; exact ha), unpack_get s ha]
    · by_cases hb : i = m
      · subst hb
        have := listB_at (unpackB s i)
        rw [unpack_length] at this
        rw [this, h2]
      · rw [listB_over _ (by rw [unpack_length]; omega), h3 i (by omega) (by omega)]
end Go.Proofs.YtgloapcfmlijlaaGreatDoor.M
namespace Go.Proofs.YtgloapcfmlijlaaGreatDoor.M
open Go

/-- How long the beginning is: 'some n': n bytes; 'none': an offset. -/
def hdLen : List (Option Nat) → Nat
  | [] => 0
  | some n :: ks => n + hdLen ks
  | none :: ks => 4 + hdLen ks
def rowH (off : Nat) : List (Option Nat × List UInt8) → List UInt8
  | [] => []
  | (some _, b) :: ps => b ++ rowH off ps
  | (none, b) :: ps => le 4 off ++ rowH (off + b.length) ps
def rowL : List (Option Nat × List UInt8) → List UInt8
  | [] => []
  | (some _, _) :: ps => rowL ps
  | (none, b) :: ps => b ++ rowL ps
def rowB (ps : List (Option Nat × List UInt8)) : List UInt8 := rowH (hdLen (ps.map (·.1))) ps ++ rowL ps

/-- The offsets that stand in a row. -/
def offsT (s : List UInt8) (at_ : Nat) : List (Option Nat) → List Nat
  | [] => []
  | some n :: ks => offsT s (at_ + n) ks
  | none :: ks => led ((s.drop at_).take 4) :: offsT s (at_ + 4) ks
def hd (os : List Nat) (len : Nat) : Nat := match os with | [] => len | o :: _ => o
def chainT (last len : Nat) : List Nat → Bool
  | [] => true
  | n :: ns => decide (last ≤ n) && decide (n ≤ len) && chainT n len ns
def okRow (ks : List (Option Nat)) (s : List UInt8) : Bool :=
  decide (hdLen ks ≤ s.length) && decide (hd (offsT s 0 ks) s.length = hdLen ks) && chainT (hdLen ks) s.length (offsT s 0 ks)
def partsT (s : List UInt8) (at_ : Nat) : List (Option Nat) → List Nat → List (List UInt8)
  | [], _ => []
  | some n :: ks, os => (s.drop at_).take n :: partsT s (at_ + n) ks os
  | none :: ks, o :: os => (s.drop o).take (hd os s.length - o) :: partsT s (at_ + 4) ks os
  | none :: ks, [] => [] :: partsT s (at_ + 4) ks []
/-- The parts of a row; none, if it is none. -/
def splitB (ks : List (Option Nat)) (s : List UInt8) : Option (List (List UInt8)) := if okRow ks s = true then some (partsT s 0 ks (offsT s 0 ks)) else none

/-- As many bytes as there must be. -/
def Fit (ps : List (Option Nat × List UInt8)) : Prop := ∀ p ∈ ps, ∀ n, p.1 = some n → p.2.length = n
theorem Fit.cons {p : Option Nat × List UInt8} {ps : List (Option Nat × List UInt8)} (h : Fit (p :: ps)) : (∀ n, p.1 = some n → p.2.length = n) ∧ Fit ps := ⟨h p (by simp), fun q hq => h q (by simp [hq])⟩
theorem rowH_length : ∀ {ps : List (Option Nat × List UInt8)} (off : Nat), Fit ps → (rowH off ps).length = hdLen (ps.map (·.1))
  | [], _, _ => rfl
  | (some n, b) :: ps, off, h => by
    obtain ⟨h1, h2⟩ := h.cons
    rw [rowH, List.length_append, rowH_length off h2, List.map_cons, hdLen]
    have := h1 n rfl
    simp only at this
    omega
  | (none, b) :: ps, off, h => by
    obtain ⟨_, h2⟩ := h.cons
    rw [rowH, List.length_append, le_length, rowH_length _ h2, List.map_cons, hdLen]
def offsL (off : Nat) : List (Option Nat × List UInt8) → List Nat
  | [] => []
  | (some _, _) :: ps => offsL off ps
  | (none, b) :: ps => off :: offsL (off + b.length) ps
theorem drop_mid (A B : List UInt8) : (A ++ B).drop A.length = B := by simp
theorem offs_row : ∀ (ps : List (Option Nat × List UInt8)) (A B : List UInt8) (off : Nat), Fit ps → off + (rowL ps).length < 4294967296 → offsT (A ++ rowH off ps ++ B) A.length (ps.map (·.1)) = offsL off ps
  | [], _, _, _, _, _ => rfl
  | (some n, b) :: ps, A, B, off, h, hlt => by
    obtain ⟨h1, h2⟩ := h.cons
    have hb := h1 n rfl
    simp only at hb
    rw [List.map_cons, offsT, offsL, rowH]
    have := offs_row ps (A ++ b) B off h2 hlt
    rw [List.length_append, hb] at this
    rw [← this]
    simp
  | (none, b) :: ps, A, B, off, h, hlt => by
    obtain ⟨_, h2⟩ := h.cons
    rw [rowL, List.length_append] at hlt
    rw [List.map_cons, offsT, offsL, rowH]
    have := offs_row ps (A ++ le 4 off) B (off + b.length) h2 (by omega)
    rw [List.length_append, le_length] at this
    rw [← this]
    have e : (A ++ (le 4 off ++ rowH (off + b.length) ps) ++ B).drop A.length = le 4 off ++ (rowH (off + b.length) ps ++ B) := by simp
    rw [e, List.take_append_of_le_length (by rw [le_length]; omega), List.take_of_length_le (by rw [le_length]; omega), led_le 4 off (by omega)]
    simp
theorem hd_offs : ∀ (ps : List (Option Nat × List UInt8)) (off len : Nat), off + (rowL ps).length = len → hd (offsL off ps) len = off
  | [], off, len, h => by simp [rowL] at h; simp [offsL, hd, h]
  | (some n, b) :: ps, off, len, h => by rw [offsL]; exact hd_offs ps off len h
  | (none, b) :: ps, off, len, h => rfl
theorem chain_offs : ∀ (ps : List (Option Nat × List UInt8)) (last off len : Nat), last ≤ off → off + (rowL ps).length ≤ len → chainT last len (offsL off ps) = true
  | [], _, _, _, _, _ => rfl
  | (some n, b) :: ps, last, off, len, h, h2 => by rw [offsL]; exact chain_offs ps last off len h h2
  | (none, b) :: ps, last, off, len, h, h2 => by
    rw [rowL, List.length_append] at h2
    rw [offsL, chainT, chain_offs ps off (off + b.length) len (by omega) (by omega)]
    simp
    omega
theorem parts_row : ∀ (ps : List (Option Nat × List UInt8)) (A B s : List UInt8) (off : Nat), Fit ps → s = A ++ rowH off ps ++ B → s.drop off = rowL ps → off + (rowL ps).length = s.length → partsT s A.length (ps.map (·.1)) (offsL off ps) = ps.map (·.2)
  | [], _, _, _, _, _, _, _, _ => rfl
  | (some n, b) :: ps, A, B, s, off, h, hs, hd_, hl => by
    obtain ⟨h1, h2⟩ := h.cons
    have hb := h1 n rfl
    simp only at hb
    rw [List.map_cons, List.map_cons, offsL, partsT]
    have := parts_row ps (A ++ b) B s off h2 (by rw [hs, rowH]; simp) hd_ hl
    rw [List.length_append, hb] at this
    rw [this]
    congr 1
    have e : s.drop A.length = b ++ (rowH off ps ++ B) := by rw [hs, rowH]; simp
    rw [e, List.take_append_of_le_length (by omega), List.take_of_length_le (by omega)]
  | (none, b) :: ps, A, B, s, off, h, hs, hd_, hl => by
    obtain ⟨_, h2⟩ := h.cons
    rw [rowL] at hd_ hl
    rw [List.length_append] at hl
    rw [List.map_cons, List.map_cons, offsL, partsT, hd_offs ps (off + b.length) s.length (by omega)]
    have hd2 : s.drop (off + b.length) = rowL ps := by rw [← List.drop_drop, hd_]; simp
    have := parts_row ps (A ++ le 4 off) B s (off + b.length) h2 (by rw [hs, rowH]; simp) hd2 (by omega)
    rw [List.length_append, le_length] at this
    rw [this, hd_, show off + b.length - off = b.length by omega]
    simp
/-- The parts of a row that is one. -/
theorem split_row {ps : List (Option Nat × List UInt8)} (h : Fit ps) (hlt : (rowB ps).length < 4294967296) : splitB (ps.map (·.1)) (rowB ps) = some (ps.map (·.2)) := by
  have hH := rowH_length (hdLen (ps.map (·.1))) h
  have hl : (rowB ps).length = hdLen (ps.map (·.1)) + (rowL ps).length := by unfold rowB; rw [List.length_append, hH]
  have ho : offsT (rowB ps) 0 (ps.map (·.1)) = offsL (hdLen (ps.map (·.1))) ps := by
    have := offs_row ps [] (rowL ps) (hdLen (ps.map (·.1))) h (by omega)
    simpa [rowB] using this
  unfold splitB
  have hok : okRow (ps.map (·.1)) (rowB ps) = true := by
    unfold okRow
    rw [ho, hd_offs ps _ _ hl.symm, chain_offs ps _ _ _ (Nat.le_refl _) (by omega)]
    simp
    omega
  rw [if_pos hok, ho]
  congr 1
  exact parts_row ps [] (rowL ps) (rowB ps) (hdLen (ps.map (·.1))) h (by simp [rowB]) (by unfold rowB; exact (congrArg (fun q => List.drop q _) hH.symm).trans (drop_mid _ _)) hl.symm

theorem chain_hd : ∀ {os : List Nat} {last len : Nat}, chainT last len os = true → last ≤ len → last ≤ hd os len ∧ hd os len ≤ len
  | [], last, len, _, h => ⟨h, Nat.le_refl _⟩
  | o :: os, last, len, h, _ => by
    rw [chainT] at h
    simp at h
    exact ⟨h.1.1, h.1.2⟩
theorem parts_length : ∀ (s : List UInt8) (at_ : Nat) (ks : List (Option Nat)) (os : List Nat), (partsT s at_ ks os).length = ks.length
  | _, _, [], _ => rfl
  | s, at_, some n :: ks, os => by rw [partsT, List.length_cons, List.length_cons, parts_length]
  | s, at_, none :: ks, o :: os => by rw [partsT, List.length_cons, List.length_cons, parts_length]
  | s, at_, none :: ks, [] => by rw [partsT, List.length_cons, List.length_cons, parts_length]
/-- Of a row that is one: put together anew. -/
theorem parts_back : ∀ (s : List UInt8) (ks : List (Option Nat)) (at_ last : Nat), at_ + hdLen ks ≤ s.length → last ≤ s.length → chainT last s.length (offsT s at_ ks) = true →
    Fit (ks.zip (partsT s at_ ks (offsT s at_ ks))) ∧ rowH (hd (offsT s at_ ks) s.length) (ks.zip (partsT s at_ ks (offsT s at_ ks))) = (s.drop at_).take (hdLen ks) ∧ rowL (ks.zip (partsT s at_ ks (offsT s at_ ks))) = s.drop (hd (offsT s at_ ks) s.length)
  | s, [], at_, last, _, _, _ => ⟨fun p hp => by simp [partsT] at hp, by simp [partsT, rowH, hdLen], by simp [partsT, rowL, offsT, hd]⟩
  | s, some n :: ks, at_, last, h, hl, hc => by
    rw [hdLen] at h
    rw [offsT] at hc ⊢
    obtain ⟨h1, h2, h3⟩ := parts_back s ks (at_ + n) last (by omega) hl hc
    rw [partsT, List.zip_cons_cons]
    have hn : ((s.drop at_).take n).length = n := by simp; omega
    refine ⟨?_, ?_, ?_⟩
    · intro p hp m hm
      rcases List.mem_cons.1 hp with rfl | hp
      · cases hm; exact hn
      · exact h1 p hp m hm
    · rw [rowH, h2, hdLen, ← List.drop_drop, List.take_add]
    · rw [rowL]; exact h3
  | s, none :: ks, at_, last, h, hl, hc => by
    rw [hdLen] at h
    rw [offsT] at hc ⊢
    rw [chainT] at hc
    simp only [Bool.and_eq_true, decide_eq_true_eq] at hc
    obtain ⟨⟨hc1, hc2⟩, hc3⟩ := hc
    obtain ⟨h1, h2, h3⟩ := parts_back s ks (at_ + 4) _ (by omega) hc2 hc3
    obtain ⟨h4, h5⟩ := chain_hd hc3 hc2
    generalize hos : offsT s (at_ + 4) ks = os at *
    obtain ⟨o, ho⟩ : ∃ o, o = led ((s.drop at_).take 4) := ⟨_, rfl⟩
    rw [← ho] at hc1 hc2 h4 ⊢
    rw [partsT, List.zip_cons_cons]
    have h4l : ((s.drop at_).take 4).length = 4 := by simp; omega
    have hbl : ((s.drop o).take (hd os s.length - o)).length = hd os s.length - o := by simp; omega
    refine ⟨?_, ?_, ?_⟩
    · intro p hp m hm
      rcases List.mem_cons.1 hp with rfl | hp
      · cases hm
      · exact h1 p hp m hm
    · rw [rowH, hbl]
      show le 4 o ++ rowH (o + (hd os s.length - o)) _ = _
      rw [show o + (hd os s.length - o) = hd os s.length by omega, h2, hdLen, List.take_add, List.drop_drop]
      congr 1
      have := le_led ((s.drop at_).take 4)
      rw [h4l, ← ho] at this
      exact this
    · rw [rowL, h3]
      show _ = s.drop o
      have e : s.drop (hd os s.length) = (s.drop o).drop (hd os s.length - o) := by rw [List.drop_drop, show o + (hd os s.length - o) = hd os s.length by omega]
      rw [e, List.take_append_drop]
theorem row_split {ks : List (Option Nat)} {s : List UInt8} {bs : List (List UInt8)} (h : splitB ks s = some bs) : bs.length = ks.length ∧ Fit (ks.zip bs) ∧ rowB (ks.zip bs) = s := by
  unfold splitB at h
  split at h
  · rename_i hok
    cases h
    unfold okRow at hok
    simp only [Bool.and_eq_true, decide_eq_true_eq] at hok
    obtain ⟨⟨h1, h2⟩, h3⟩ := hok
    obtain ⟨h4, h5, h6⟩ := parts_back s ks 0 (hdLen ks) (by omega) h1 h3
    refine ⟨parts_length _ _ _ _, h4, ?_⟩
    unfold rowB
    rw [List.map_fst_zip (by rw [parts_length]; exact Nat.le_refl _)]
    rw [h2] at h5 h6
    rw [h5, h6]
    simp
  · cases h
end Go.Proofs.YtgloapcfmlijlaaGreatDoor.M
namespace Go.Proofs.YtgloapcfmlijlaaGreatDoor.M

/-- How many digits of S bits a number has, one at least. -/
def nd (S : Nat) : Nat → Nat → Nat
  | 0, _ => 1
  | f + 1, N => if N < 2 ^ S then 1 else nd S f (N / 2 ^ S) + 1

theorem nd_pos (S f N : Nat) : 1 ≤ nd S f N := by
  cases f with
  | zero => exact Nat.le_refl _
  | succ f => unfold nd; split <;> omega
theorem nd_le (S f N : Nat) : nd S f N ≤ f + 1 := by
  induction f generalizing N with
  | zero => exact Nat.le_refl _
  | succ f ih =>
    unfold nd
    split
    · omega
    · have := ih (N / 2 ^ S)
      omega
theorem nd_low (S f N i : Nat) (h1 : 1 ≤ i) (h2 : i < nd S f N) : N / 2 ^ (S * i) ≠ 0 := by
  induction f generalizing N i with
  | zero => simp [nd] at h2; omega
  | succ f ih =>
    unfold nd at h2
    split at h2
    · omega
    · rename_i hN
      obtain ⟨i, rfl⟩ : ∃ k, i = k + 1 := ⟨i - 1, by omega⟩
      rw [Nat.mul_succ, Nat.add_comm, Nat.pow_add, ← Nat.div_div_eq_div_mul]
      by_cases hi : i = 0
      · subst hi
        rw [Nat.mul_zero, Nat.pow_zero, Nat.div_one]
        have := Nat.div_pos (Nat.not_lt.1 hN) (Nat.two_pow_pos S)
        omega
      · exact ih _ _ (by omega) (by omega)
theorem nd_high (S f N : Nat) (h : N < 2 ^ (S * (f + 1))) : N / 2 ^ (S * nd S f N) = 0 := by
  induction f generalizing N with
  | zero =>
    simp only [nd]
    exact Nat.div_eq_of_lt (by simpa using h)
  | succ f ih =>
    unfold nd
    split
    · rename_i hN
      rw [Nat.mul_one]
      exact Nat.div_eq_of_lt hN
    · rw [Nat.mul_succ, Nat.add_comm, Nat.pow_add, ← Nat.div_div_eq_div_mul]
      refine ih _ ?_
      rw [Nat.mul_succ, Nat.add_comm, Nat.pow_add] at h
      exact Nat.div_lt_of_lt_mul h

def nd8 (N : Nat) : Nat := nd 8 7 N
theorem nd8_high {N : Nat} (h : N < 18446744073709551616) : N / 2 ^ (8 * nd8 N) = 0 := nd_high 8 7 N h
theorem nd8_width {N k : Nat} (hk : 1 ≤ k) (h : N < 256 ^ k) : nd8 N ≤ k := by
  rcases Nat.lt_or_ge k (nd8 N) with hlt | hge
  · exfalso
    refine nd_low 8 7 N k hk hlt (Nat.div_eq_of_lt ?_)
    rw [Nat.pow_mul]
    exact h
  · exact hge

/-- A number has so few bytes just where it is so small. -/
theorem tr_width {N k : Nat} (hN : In N) : (tr (f32 N)).length ≤ k ↔ N < 256 ^ k := by
  have e := dg_tr (f32 N)
  rw [dg_f32 hN] at e
  constructor
  · intro hl
    rw [← e]
    exact Nat.lt_of_lt_of_le (dg_lt _) (Nat.pow_le_pow_right (by omega) hl)
  · intro h
    rcases Nat.lt_or_ge k (tr (f32 N)).length with hl | hl
    · exfalso
      match ht : tr (f32 N) with
      | [] => rw [ht] at hl; simp at hl
      | c :: r =>
        have hc := tr_head _ c r ht
        rw [ht] at e hl
        have e2 : dg (c :: r) = dgA (0 * 256 + c.toNat) r := rfl
        rw [e2, dgA_eq] at e
        have hc1 : 1 ≤ c.toNat := by
          rcases Nat.eq_zero_or_pos c.toNat with h0 | h0
          · exact absurd (UInt8.toNat.inj (by simpa using h0)) hc
          · exact h0
        have hp : 256 ^ k ≤ 256 ^ r.length := Nat.pow_le_pow_right (by omega) (by simp at hl; omega)
        have : 1 * 256 ^ r.length ≤ (0 * 256 + c.toNat) * 256 ^ r.length := Nat.mul_le_mul_right _ (by omega)
        omega
    · exact hl

end Go.Proofs.YtgloapcfmlijlaaGreatDoor.M
namespace Go.Proofs.YtgloapcfmlijlaaGreatDoor.M
open Go

/-- How many bytes, if that is told by the type. -/
def kindOf (t : Ty) : Option Nat := if fixT t = true then some (szT t) else none
mutual
def putV (t : Ty) : Va → List UInt8
  | .mk num bits items pick =>
    if t.k = 1 then le t.n.toNat num
    else if t.k = 2 then le 1 num
    else if t.k = 5 then packB bits
    else if t.k = 6 then listB bits
    else if t.k = 8 then UInt8.ofNat pick.toNat :: (putVs t.k t.ins pick 0 items).flatMap (·.2)
    else rowB (putVs t.k t.ins pick 0 items)
def putVs (k : Int) (ins : List Ty) (pick : Int) (i : Nat) : List Va → List (Option Nat × List UInt8)
  | [] => []
  | v :: vs => (kindOf (inT k ins pick i), putV (inT k ins pick i) v) :: putVs k ins pick (i + 1) vs
end
/-- Put: the bytes, and the error. -/
def putT (t : Ty) (v : Va) : List UInt8 × Nat := if fitsV t v ≠ 0 then ([], fitsV t v) else if 65536 < (putV t v).length then ([], 5) else (putV t v, 0)

abbrev noV : Va := .mk 0 [] [] 0
abbrev Rdr := List UInt8 → Va × Nat
def readAll : List Rdr → List (List UInt8) → List Va × Nat
  | f :: fs, b :: bs => if (f b).2 ≠ 0 then ([], (f b).2) else if (readAll fs bs).2 ≠ 0 then ([], (readAll fs bs).2) else ((f b).1 :: (readAll fs bs).1, 0)
  | _, _ => ([], 0)
/-- How many items a row has, and what is wrong. -/
def manyT (k n : Int) (kd : List (Option Nat)) (s : List UInt8) : Nat × Nat :=
  if k = 7 then (kd.length, 0)
  else if k = 3 then (n.toNat, 0)
  else if s = [] then (0, 0)
  else match kd.headD none with
    | some z => if s.length % z ≠ 0 then (0, 2) else if n < ((s.length / z : Nat) : Int) then (0, 5) else (s.length / z, 0)
    | none => if s.length < 4 ∨ led (s.take 4) % 4 ≠ 0 ∨ led (s.take 4) = 0 then (0, 2) else if n < ((led (s.take 4) / 4 : Nat) : Int) then (0, 5) else (led (s.take 4) / 4, 0)
def noR : Rdr := fun _ => (noV, 2)
def rowOf (k n : Int) (kd : List (Option Nat)) (fs : List Rdr) (s : List UInt8) : Va × Nat :=
  if (manyT k n kd s).2 ≠ 0 then (noV, (manyT k n kd s).2)
  else match splitB (if k = 7 then kd else List.replicate (manyT k n kd s).1 (kd.headD none)) s with
    | none => (noV, 2)
    | some bs => if (readAll (if k = 7 then fs else List.replicate (manyT k n kd s).1 (fs.headD noR)) bs).2 ≠ 0 then (noV, (readAll (if k = 7 then fs else List.replicate (manyT k n kd s).1 (fs.headD noR)) bs).2)
      else (.mk 0 [] (readAll (if k = 7 then fs else List.replicate (manyT k n kd s).1 (fs.headD noR)) bs).1 0, 0)
/-- Is a bit behind so many set? -/
def spareB (s : List UInt8) (n : Int) : Bool := (List.range (8 * s.length)).any fun i => decide (n ≤ (i : Int)) && bitAt s i
/-- Other than so many bytes? -/
def mism (kt : Option Nat) (l : Nat) : Bool := match kt with | some z => l != z | none => false
def getOf (k n : Int) (kd : List (Option Nat)) (fs : List Rdr) (kt : Option Nat) (s : List UInt8) : Va × Nat :=
  if mism kt s.length = true then (noV, 2)
  else if k = 1 then (.mk (led s) [] [] 0, 0)
  else if k = 2 then (if 1 < led s then (noV, 2) else (.mk (led s) [] [] 0, 0))
  else if k = 5 then (if spareB s n = true then (noV, 8) else (.mk 0 (unpackB s n.toNat) [] 0, 0))
  else if k = 6 then (match topB s (8 * s.length) with
    | none => (noV, 2)
    | some m => if m < 8 * (s.length - 1) then (noV, 2) else if n < (m : Int) then (noV, 5) else (.mk 0 (unpackB s m) [] 0, 0))
  else if k = 8 then (match s with
    | [] => (noV, 2)
    | c :: s' => if fs.length ≤ c.toNat then (noV, 9) else if (fs.getD c.toNat noR s').2 ≠ 0 then (noV, (fs.getD c.toNat noR s').2) else (.mk 0 [] [(fs.getD c.toNat noR s').1] c.toNat, 0))
  else rowOf k n kd fs s
mutual
def getV : Ty → Rdr
  | .mk k n ins => fun s => getOf k n (ins.map kindOf) (getFs ins) (kindOf (.mk k n ins)) s
def getFs : List Ty → List Rdr
  | [] => []
  | t :: ts => getV t :: getFs ts
end
/-- Get: the value, and the error. -/
def getT (t : Ty) (s : List UInt8) : Va × Nat := if chkT 0 t ≠ 0 then (noV, chkT 0 t) else if 65536 < s.length then (noV, 5) else getV t s

theorem getFs_map : ∀ ts : List Ty, getFs ts = ts.map getV
  | [] => rfl
  | t :: ts => by rw [getFs, getFs_map ts, List.map_cons]
mutual
def inV : Va → Prop
  | .mk num _ items _ => In num ∧ inVs items
def inVs : List Va → Prop
  | [] => True
  | v :: vs => inV v ∧ inVs vs
end

/-- Types and values, one by one. -/
inductive Alls (R : Ty → Va → Prop) : List Ty → List Va → Prop
  | nil : Alls R [] []
  | cons {t : Ty} {v : Va} {ts : List Ty} {vs : List Va} (h : R t v) (r : Alls R ts vs) : Alls R (t :: ts) (v :: vs)
theorem Alls.length {R : Ty → Va → Prop} {ts : List Ty} {vs : List Va} (h : Alls R ts vs) : ts.length = vs.length := by
  induction h with
  | nil => rfl
  | cons _ _ ih => simp [ih]
theorem Alls.imp {R S : Ty → Va → Prop} {ts : List Ty} {vs : List Va} (h : Alls R ts vs) (hi : ∀ t v, t ∈ ts → v ∈ vs → R t v → S t v) : Alls S ts vs := by
  induction h with
  | nil => exact .nil
  | cons h _ ih => exact .cons (hi _ _ (by simp) (by simp) h) (ih fun t v ht hv => hi t v (by simp [ht]) (by simp [hv]))
def putL : List Ty → List Va → List (Option Nat × List UInt8)
  | t :: ts, v :: vs => (kindOf t, putV t v) :: putL ts vs
  | _, _ => []
theorem inT_other {k : Int} (hk : k ≠ 7) (ins : List Ty) (pick : Int) (i : Nat) : inT k ins pick i = inT k ins pick 0 := by unfold inT; rw [if_neg hk, if_neg hk]
theorem putVs_other {k : Int} (hk : k ≠ 7) (ins : List Ty) (pick : Int) : ∀ (vs : List Va) (i : Nat), putVs k ins pick i vs = putL (List.replicate vs.length (inT k ins pick 0)) vs
  | [], _ => by rw [putVs]; rfl
  | v :: vs, i => by rw [putVs, inT_other hk, putVs_other hk ins pick vs (i + 1), List.length_cons, List.replicate_succ, putL]
theorem inT_seven (ins : List Ty) (pick : Int) {i : Nat} {t : Ty} {ts : List Ty} (h : ins.drop i = t :: ts) : inT 7 ins pick i = t ∧ ins.drop (i + 1) = ts := by
  have h0 : ins[i]? = some t := by rw [← List.head?_drop, h]; rfl
  refine ⟨by unfold inT; rw [if_pos rfl, h0]; rfl, ?_⟩
  rw [← List.drop_drop, h]
  rfl
theorem putVs_seven (ins : List Ty) (pick : Int) : ∀ (vs : List Va) (i : Nat), i + vs.length ≤ ins.length → putVs 7 ins pick i vs = putL (ins.drop i) vs
  | [], i, _ => by rw [putVs]; cases ins.drop i <;> rfl
  | v :: vs, i, h => by
    rw [List.length_cons] at h
    obtain ⟨t, ts, hd⟩ : ∃ t ts, ins.drop i = t :: ts := by
      cases hd : ins.drop i with
      | nil =>
        have := congrArg List.length hd
        simp at this
        omega
      | cons t ts => exact ⟨t, ts, rfl⟩
    obtain ⟨h1, h2⟩ := inT_seven ins pick hd
    rw [putVs, h1, putVs_seven ins pick vs (i + 1) (by omega), h2, hd, putL]
abbrev FitR (t : Ty) (v : Va) : Prop := fitV t v = 0
theorem fitVs_other {k : Int} (hk : k ≠ 7) (ins : List Ty) (pick : Int) : ∀ (vs : List Va) (i : Nat), fitVs k ins pick i vs = 0 ↔ Alls FitR (List.replicate vs.length (inT k ins pick 0)) vs
  | [], _ => by rw [fitVs]; exact ⟨fun _ => .nil, fun _ => rfl⟩
  | v :: vs, i => by
    rw [fitVs, inT_other hk, List.length_cons, List.replicate_succ]
    by_cases h : fitV (inT k ins pick 0) v = 0
    · rw [if_neg (by simp [h]), fitVs_other hk ins pick vs (i + 1)]
      exact ⟨fun r => .cons h r, fun r => by cases r; assumption⟩
    · rw [if_pos h]
      exact ⟨fun r => absurd r h, fun r => by cases r with | cons h' _ => exact absurd h' h⟩
theorem fitVs_seven (ins : List Ty) (pick : Int) : ∀ (vs : List Va) (i : Nat), i + vs.length = ins.length → (fitVs 7 ins pick i vs = 0 ↔ Alls FitR (ins.drop i) vs)
  | [], i, h => by
    rw [fitVs, List.drop_eq_nil_of_le (by simp at h; omega)]
    exact ⟨fun _ => .nil, fun _ => rfl⟩
  | v :: vs, i, h => by
    rw [List.length_cons] at h
    obtain ⟨t, ts, hd⟩ : ∃ t ts, ins.drop i = t :: ts := by
      cases hd : ins.drop i with
      | nil =>
        have := congrArg List.length hd
        simp at this
        omega
      | cons t ts => exact ⟨t, ts, rfl⟩
    obtain ⟨h1, h2⟩ := inT_seven ins pick hd
    rw [fitVs, h1, hd]
    have ih := fitVs_seven ins pick vs (i + 1) (by omega)
    rw [h2] at ih
    by_cases h : fitV t v = 0
    · rw [if_neg (by simp [h]), ih]
      exact ⟨fun r => .cons h r, fun r => by cases r; assumption⟩
    · rw [if_pos h]
      exact ⟨fun r => absurd r h, fun r => by cases r with | cons h' _ => exact absurd h' h⟩

theorem putL_fst {R : Ty → Va → Prop} {ts : List Ty} {vs : List Va} (h : Alls R ts vs) : (putL ts vs).map (·.1) = ts.map kindOf := by
  induction h with
  | nil => rfl
  | cons _ _ ih => rw [putL, List.map_cons, List.map_cons, ih]
theorem putL_zip {R : Ty → Va → Prop} {ts : List Ty} {vs : List Va} (h : Alls R ts vs) : (ts.map kindOf).zip ((putL ts vs).map (·.2)) = putL ts vs := by
  induction h with
  | nil => rfl
  | cons _ _ ih => rw [putL, List.map_cons, List.map_cons, List.zip_cons_cons, ih]
theorem readAll_put {ts : List Ty} {vs : List Va} (h : Alls (fun t v => getV t (putV t v) = (v, 0)) ts vs) : readAll (ts.map getV) ((putL ts vs).map (·.2)) = (vs, 0) := by
  induction h with
  | nil => rfl
  | cons h _ ih => rw [putL, List.map_cons, List.map_cons, readAll, h, ih]; simp
theorem readAll_back : ∀ (ts : List Ty) (bs : List (List UInt8)) (vs : List Va), bs.length = ts.length → readAll (ts.map getV) bs = (vs, 0) → (∀ t ∈ ts, ∀ b ∈ bs, ∀ v, getV t b = (v, 0) → fitV t v = 0 ∧ inV v ∧ putV t v = b) →
    Alls FitR ts vs ∧ inVs vs ∧ (putL ts vs).map (·.2) = bs
  | [], bs, vs, hl, h, _ => by
    cases bs with
    | nil => simp [readAll] at h; subst h; exact ⟨.nil, trivial, rfl⟩
    | cons b bs => simp at hl
  | t :: ts, [], vs, hl, h, _ => by simp at hl
  | t :: ts, b :: bs, vs, hl, h, hr => by
    rw [List.map_cons, readAll] at h
    by_cases h1 : (getV t b).2 = 0
    · rw [if_neg (by simp [h1])] at h
      by_cases h2 : (readAll (ts.map getV) bs).2 = 0
      · rw [if_neg (by simp [h2])] at h
        cases h
        obtain ⟨g1, g2, g3⟩ := hr t (by simp) b (by simp) (getV t b).1 (by rw [← h1])
        obtain ⟨k1, k2, k3⟩ := readAll_back ts bs _ (by simpa using hl) (by rw [← h2]) fun u hu c hc v hv => hr u (by simp [hu]) c (by simp [hc]) v hv
        exact ⟨.cons g1 k1, ⟨g2, k2⟩, by rw [putL, List.map_cons, k3, g3]⟩
      · rw [if_pos h2] at h
        exact absurd (congrArg Prod.snd h) h2
    · rw [if_pos h1] at h
      exact absurd (congrArg Prod.snd h) h1
theorem inVs_mem : ∀ {vs : List Va} {v : Va}, inVs vs → v ∈ vs → inV v
  | w :: vs, v, h, hm => by
    rcases List.mem_cons.1 hm with rfl | hm
    · exact h.1
    · exact inVs_mem h.2 hm
end Go.Proofs.YtgloapcfmlijlaaGreatDoor.M
namespace Go.Proofs.YtgloapcfmlijlaaGreatDoor.M
open Go

structure Good (t : Ty) : Prop where
  size : fixT t = true → ∀ v, fitV t v = 0 → inV v → (putV t v).length = szT t
  put : ∀ v, fitV t v = 0 → inV v → (putV t v).length < 4294967296 → getV t (putV t v) = (v, 0)
  get : ∀ s v, getV t s = (v, 0) → fitV t v = 0 ∧ inV v ∧ putV t v = s
  pos : fixT t = true → 1 ≤ szT t

theorem kind_some {t : Ty} {n : Nat} (h : kindOf t = some n) : fixT t = true ∧ szT t = n := by
  unfold kindOf at h
  split at h
  · rename_i hf; cases h; exact ⟨hf, rfl⟩
  · cases h
theorem putL_fit {ts : List Ty} {vs : List Va} (h : Alls FitR ts vs) (hi : inVs vs) (hg : ∀ t ∈ ts, Good t) : Fit (putL ts vs) := by
  induction h with
  | nil => intro p hp; simp [putL] at hp
  | cons h _ ih =>
    intro p hp n hn
    rw [putL, List.mem_cons] at hp
    rcases hp with rfl | hp
    · obtain ⟨h1, h2⟩ := kind_some hn
      rw [← h2]
      exact (hg _ (by simp)).size h1 _ h hi.1
    · exact ih hi.2 (fun t ht => hg t (by simp [ht])) p hp n hn
theorem rowH_le : ∀ {ps : List (Option Nat × List UInt8)} (off : Nat) {p : Option Nat × List UInt8}, p ∈ ps → p.2.length ≤ (rowH off ps).length + (rowL ps).length
  | (some n, b) :: ps, off, p, h => by
    rw [rowH, rowL, List.length_append]
    rcases List.mem_cons.1 h with rfl | h
    · show b.length ≤ _; omega
    · have := rowH_le off h; omega
  | (none, b) :: ps, off, p, h => by
    rw [rowH, rowL, List.length_append, List.length_append]
    rcases List.mem_cons.1 h with rfl | h
    · show b.length ≤ _; omega
    · have := rowH_le (off + b.length) h; omega
theorem part_le {ps : List (Option Nat × List UInt8)} {p : Option Nat × List UInt8} (h : p ∈ ps) : p.2.length ≤ (rowB ps).length := by
  unfold rowB
  rw [List.length_append]
  exact rowH_le _ h
theorem putL_mem {R : Ty → Va → Prop} {ts : List Ty} {vs : List Va} (h : Alls R ts vs) : Alls (fun t v => (kindOf t, putV t v) ∈ putL ts vs) ts vs := by
  induction h with
  | nil => exact .nil
  | cons _ _ ih => exact .cons (by simp [putL]) (ih.imp fun t v _ _ hm => by rw [putL]; exact List.mem_cons_of_mem _ hm)
theorem Alls.and {R S : Ty → Va → Prop} {ts : List Ty} {vs : List Va} (h : Alls R ts vs) (h2 : Alls S ts vs) : Alls (fun t v => R t v ∧ S t v) ts vs := by
  induction h with
  | nil => exact .nil
  | cons h _ ih => cases h2 with | cons h' r' => exact .cons ⟨h, h'⟩ (ih r')
/-- A row that is put is got. -/
theorem row_put {ts : List Ty} {vs : List Va} (h : Alls FitR ts vs) (hi : inVs vs) (hg : ∀ t ∈ ts, Good t) (hl : (rowB (putL ts vs)).length < 4294967296) :
    splitB (ts.map kindOf) (rowB (putL ts vs)) = some ((putL ts vs).map (·.2)) ∧ readAll (ts.map getV) ((putL ts vs).map (·.2)) = (vs, 0) := by
  refine ⟨?_, readAll_put ?_⟩
  · have := split_row (putL_fit h hi hg) hl
    rwa [putL_fst h] at this
  · exact (h.and (putL_mem h)).imp fun t v ht hv hr => (hg t ht).put v hr.1 (inVs_mem hi hv) (Nat.lt_of_le_of_lt (part_le hr.2) hl)
/-- A row that is got is put just so. -/
theorem row_get {ts : List Ty} {vs : List Va} {s : List UInt8} {bs : List (List UInt8)} (h : splitB (ts.map kindOf) s = some bs) (hr : readAll (ts.map getV) bs = (vs, 0)) (hg : ∀ t ∈ ts, Good t) : Alls FitR ts vs ∧ inVs vs ∧ rowB (putL ts vs) = s := by
  obtain ⟨h1, h2, h3⟩ := row_split h
  obtain ⟨k1, k2, k3⟩ := readAll_back ts bs vs (by rw [h1, List.length_map]) hr fun t ht b _ v hv => (hg t ht).get b v hv
  refine ⟨k1, k2, ?_⟩
  rw [← k3, putL_zip k1] at h3
  exact h3
/-- A row of what is fixed. -/
theorem rowL_fixed : ∀ {ps : List (Option Nat × List UInt8)}, (∀ p ∈ ps, p.1 ≠ none) → rowL ps = []
  | [], _ => rfl
  | (some _, _) :: ps, h => by rw [rowL]; exact rowL_fixed fun p hp => h p (by simp [hp])
  | (none, b) :: ps, h => absurd rfl (h (none, b) (by simp))
theorem row_length {ps : List (Option Nat × List UInt8)} (h : Fit ps) (hf : ∀ p ∈ ps, p.1 ≠ none) : (rowB ps).length = hdLen (ps.map (·.1)) := by
  unfold rowB
  rw [List.length_append, rowH_length _ h, rowL_fixed hf]
  rfl
theorem hdLen_fixed : ∀ {ts : List Ty}, fixTs ts = true → hdLen (ts.map kindOf) = szTs ts
  | [], _ => rfl
  | t :: ts, h => by
    have h' := fixTs_ok.1 h
    rw [List.map_cons, kindOf, if_pos (h' t (by simp)), hdLen, szTs, hdLen_fixed (fixTs_ok.2 fun u hu => h' u (by simp [hu]))]
theorem hdLen_replicate (m : Nat) (z : Nat) : hdLen (List.replicate m (some z)) = m * z := by
  induction m with
  | zero => simp [hdLen]
  | succ m ih => rw [List.replicate_succ, hdLen, ih, Nat.succ_mul, Nat.add_comm]
theorem hdLen_offsets (m : Nat) : hdLen (List.replicate m none) = 4 * m := by
  induction m with
  | zero => rfl
  | succ m ih => rw [List.replicate_succ, hdLen, ih]; omega
theorem putL_kinds {R : Ty → Va → Prop} {ts : List Ty} {vs : List Va} (h : Alls R ts vs) (hf : fixTs ts = true) : ∀ p ∈ putL ts vs, p.1 ≠ none := by
  induction h with
  | nil => intro p hp; simp [putL] at hp
  | cons _ _ ih =>
    intro p hp
    have h' := fixTs_ok.1 hf
    rw [putL, List.mem_cons] at hp
    rcases hp with rfl | hp
    · show kindOf _ ≠ none
      unfold kindOf
      rw [if_pos (h' _ (by simp))]
      simp
    · exact ih (fixTs_ok.2 fun u hu => h' u (by simp [hu])) p hp
theorem fixTs_replicate {t : Ty} (h : fixT t = true) (m : Nat) : fixTs (List.replicate m t) = true := fixTs_ok.2 fun u hu => by rw [(List.mem_replicate.1 hu).2]; exact h

theorem fit_parts0 {k n : Int} {ins : List Ty} {num : Nat} {bits : List Bool} {items : List Va} {pick : Int} (h : fitV (.mk k n ins) (.mk num bits items pick) = 0) :
    ¬ ((k = 4 ∧ n < items.length) ∨ (k = 6 ∧ n < bits.length)) ∧ ofV k n ins.length (.mk num bits items pick) = true ∧ fitVs k ins pick 0 items = 0 := by
  rw [fitV_eq] at h
  split at h
  · cases h
  · rename_i h1
    split at h
    · cases h
    · rename_i h2
      exact ⟨h1, by simpa using h2, h⟩
theorem fit_mk {k n : Int} {ins : List Ty} {num : Nat} {bits : List Bool} {items : List Va} {pick : Int} (h1 : ¬ ((k = 4 ∧ n < items.length) ∨ (k = 6 ∧ n < bits.length))) (h2 : ofV k n ins.length (.mk num bits items pick) = true) (h3 : fitVs k ins pick 0 items = 0) :
    fitV (.mk k n ins) (.mk num bits items pick) = 0 := by
  rw [fitV_eq, if_neg h1, if_neg (by rw [h2]; simp), h3]
theorem ofV_1 {n : Int} {m num : Nat} {bits : List Bool} {items : List Va} {pick : Int} : ofV 1 n m (.mk num bits items pick) = (bits.length == 0 && items.length == 0 && pick == 0 && decide (((tr (f32 num)).length : Int) ≤ n)) := rfl
theorem ofV_2 {n : Int} {m num : Nat} {bits : List Bool} {items : List Va} {pick : Int} : ofV 2 n m (.mk num bits items pick) = (bits.length == 0 && items.length == 0 && pick == 0 && (num == 0 || num == 1)) := rfl
theorem ofV_3 {n : Int} {m num : Nat} {bits : List Bool} {items : List Va} {pick : Int} : ofV 3 n m (.mk num bits items pick) = (num == 0 && bits.length == 0 && pick == 0 && decide ((items.length : Int) = n)) := rfl
theorem ofV_4 {n : Int} {m num : Nat} {bits : List Bool} {items : List Va} {pick : Int} : ofV 4 n m (.mk num bits items pick) = (num == 0 && bits.length == 0 && pick == 0) := rfl
theorem ofV_5 {n : Int} {m num : Nat} {bits : List Bool} {items : List Va} {pick : Int} : ofV 5 n m (.mk num bits items pick) = (num == 0 && items.length == 0 && pick == 0 && decide ((bits.length : Int) = n)) := rfl
theorem ofV_6 {n : Int} {m num : Nat} {bits : List Bool} {items : List Va} {pick : Int} : ofV 6 n m (.mk num bits items pick) = (num == 0 && items.length == 0 && pick == 0) := rfl
theorem ofV_7 {n : Int} {m num : Nat} {bits : List Bool} {items : List Va} {pick : Int} : ofV 7 n m (.mk num bits items pick) = (num == 0 && bits.length == 0 && pick == 0 && items.length == m) := rfl
theorem ofV_8 {n : Int} {m num : Nat} {bits : List Bool} {items : List Va} {pick : Int} : ofV 8 n m (.mk num bits items pick) = (num == 0 && bits.length == 0 && items.length == 1 && decide (0 ≤ pick) && decide (pick < m)) := rfl
theorem nil_of {α : Type} {l : List α} (h : (l.length == 0) = true) : l = [] := List.eq_nil_of_length_eq_zero (by simpa using h)

theorem good_uint {n : Int} {ins : List Ty} (hf : formT 1 n ins.length = true) : Good (.mk 1 n ins) := by
  unfold formT at hf
  rw [if_pos rfl] at hf
  simp only [Bool.and_eq_true] at hf
  have hi := nil_of hf.1
  have hn : 1 ≤ n ∧ n ≤ 32 := by
    have := hf.2
    simp at this
    rcases this with (((h | h) | h) | h) | h <;> omega
  obtain ⟨m, rfl⟩ := Int.eq_ofNat_of_zero_le (show 0 ≤ n by omega)
  subst hi
  have hfx : fixT (.mk 1 (m : Int) []) = true := by rw [fixT]; simp [fixTs]
  have hsz : szT (.mk 1 (m : Int) []) = m := by rw [szT]; simp
  have hk : kindOf (.mk 1 (m : Int) []) = some m := by unfold kindOf; rw [if_pos hfx, hsz]
  have hput : ∀ num bits items pick, putV (.mk 1 (m : Int) []) (.mk num bits items pick) = le m num := fun num bits items pick => by rw [putV]; simp [Ty.k, Ty.n]
  have hget : ∀ s, getV (.mk 1 (m : Int) []) s = if s.length != m then (noV, 2) else (.mk (led s) [] [] 0, 0) := fun s => by rw [getV]; show getOf _ _ _ _ _ _ = _; unfold getOf; rw [hk]; simp [mism]
  refine ⟨fun _ v _ _ => ?_, fun v hv hin _ => ?_, fun s v h => ?_, fun _ => by rw [hsz]; omega⟩
  · obtain ⟨num, bits, items, pick⟩ := v
    rw [hput, le_length, hsz]
  · obtain ⟨num, bits, items, pick⟩ := v
    obtain ⟨_, h2, _⟩ := fit_parts0 hv
    rw [ofV_1] at h2
    simp at h2
    obtain ⟨⟨⟨rfl, rfl⟩, rfl⟩, hlen⟩ := h2
    have hlt := (tr_width hin.1).1 hlen
    rw [hput, hget, le_length, led_le _ _ hlt]
    simp
  · rw [hget] at h
    split at h
    · cases h
    · rename_i hl
      have hl : s.length = m := by simpa using hl
      cases h
      have hlt : led s < 256 ^ m := hl ▸ led_lt s
      have hIn : In (led s) := by
        unfold In
        exact Nat.lt_of_lt_of_le hlt (show 256 ^ m ≤ 256 ^ 32 from Nat.pow_le_pow_right (by omega) (by omega))
      refine ⟨fit_mk (by simp) ?_ (by rw [fitVs]), ⟨hIn, trivial⟩, ?_⟩
      · rw [ofV_1]
        have := (tr_width hIn).2 hlt
        simp
        omega
      · rw [hput, ← hl, le_led]
theorem good_bool {n : Int} {ins : List Ty} (hf : formT 2 n ins.length = true) : Good (.mk 2 n ins) := by
  unfold formT at hf
  rw [if_neg (by decide), if_pos rfl] at hf
  simp only [Bool.and_eq_true] at hf
  have hi := nil_of hf.1
  subst hi
  have hfx : fixT (.mk 2 n []) = true := by rw [fixT]; simp [fixTs]
  have hsz : szT (.mk 2 n []) = 1 := by rw [szT]; simp
  have hk : kindOf (.mk 2 n []) = some 1 := by unfold kindOf; rw [if_pos hfx, hsz]
  have hput : ∀ num bits items pick, putV (.mk 2 n []) (.mk num bits items pick) = le 1 num := fun num bits items pick => by rw [putV]; simp [Ty.k]
  have hget : ∀ s, getV (.mk 2 n []) s = if s.length != 1 then (noV, 2) else if 1 < led s then (noV, 2) else (.mk (led s) [] [] 0, 0) := fun s => by rw [getV]; show getOf _ _ _ _ _ _ = _; unfold getOf; rw [hk]; simp [mism]
  refine ⟨fun _ v _ _ => ?_, fun v hv hin _ => ?_, fun s v h => ?_, fun _ => by rw [hsz]; omega⟩
  · obtain ⟨num, bits, items, pick⟩ := v
    rw [hput, le_length, hsz]
  · obtain ⟨num, bits, items, pick⟩ := v
    obtain ⟨_, h2, _⟩ := fit_parts0 hv
    rw [ofV_2] at h2
    simp at h2
    obtain ⟨⟨⟨rfl, rfl⟩, rfl⟩, hnum⟩ := h2
    have hlt : num < 256 ^ 1 := by omega
    rw [hput, hget, le_length, led_le _ _ hlt]
    simp
    omega
  · rw [hget] at h
    split at h
    · cases h
    · rename_i hl
      split at h
      · cases h
      · rename_i h1
        have hl : s.length = 1 := by simpa using hl
        cases h
        have hIn : In (led s) := by unfold In; omega
        refine ⟨fit_mk (by simp) ?_ (by rw [fitVs]), ⟨hIn, trivial⟩, ?_⟩
        · rw [ofV_2]
          simp
          omega
        · rw [hput, ← hl, le_led]
theorem good_bits {n : Int} {ins : List Ty} (hf : formT 5 n ins.length = true) : Good (.mk 5 n ins) := by
  unfold formT at hf
  rw [if_neg (by decide), if_neg (by decide), if_neg (by decide), if_pos (by decide)] at hf
  simp only [Bool.and_eq_true, decide_eq_true_eq] at hf
  have hi := nil_of hf.1.1
  have hn := hf.1.2
  obtain ⟨m, rfl⟩ := Int.eq_ofNat_of_zero_le (show 0 ≤ n by omega)
  subst hi
  have hfx : fixT (.mk 5 (m : Int) []) = true := by rw [fixT]; simp [fixTs]
  have hsz : szT (.mk 5 (m : Int) []) = (m + 7) / 8 := by rw [szT]; simp
  have hk : kindOf (.mk 5 (m : Int) []) = some ((m + 7) / 8) := by unfold kindOf; rw [if_pos hfx, hsz]
  have hput : ∀ num bits items pick, putV (.mk 5 (m : Int) []) (.mk num bits items pick) = packB bits := fun num bits items pick => by rw [putV]; simp [Ty.k]
  have hget : ∀ s, getV (.mk 5 (m : Int) []) s = if s.length != (m + 7) / 8 then (noV, 2) else if spareB s (m : Int) = true then (noV, 8) else (.mk 0 (unpackB s m) [] 0, 0) := fun s => by rw [getV]; show getOf _ _ _ _ _ _ = _; unfold getOf; rw [hk]; simp [mism]
  refine ⟨fun _ v hv _ => ?_, fun v hv hin _ => ?_, fun s v h => ?_, fun _ => by rw [hsz]; omega⟩
  · obtain ⟨num, bits, items, pick⟩ := v
    obtain ⟨_, h2, _⟩ := fit_parts0 hv
    rw [ofV_5] at h2
    simp at h2
    have h3 : bits.length = m := by omega
    rw [hput, pack_length, hsz, h3]
  · obtain ⟨num, bits, items, pick⟩ := v
    obtain ⟨_, h2, _⟩ := fit_parts0 hv
    rw [ofV_5] at h2
    simp at h2
    obtain ⟨⟨⟨rfl, rfl⟩, rfl⟩, hlen⟩ := h2
    replace hlen : bits.length = m := by omega
    have hsp : spareB (packB bits) (m : Int) = false := by
      unfold spareB
      rw [List.any_eq_false]
      intro i _
      simp
      intro hmi
      rw [bit_pack, List.getD_eq_getElem?_getD, List.getElem?_eq_none (by omega)]
      rfl
    rw [hput, hget, pack_length, hlen, hsp]
    simp
    rw [← hlen]
    exact unpack_pack bits
  · rw [hget] at h
    split at h
    · cases h
    · rename_i hl
      split at h
      · cases h
      · rename_i h1
        have hl : s.length = (m + 7) / 8 := by simpa using hl
        cases h
        refine ⟨fit_mk (by simp) ?_ (by rw [fitVs]), ⟨by unfold In; omega, trivial⟩, ?_⟩
        · rw [ofV_5]
          simp [unpack_length]
        · rw [hput]
          refine pack_unpack hl fun i h2 h3 => ?_
          have h4 : spareB s (m : Int) = false := by simpa using h1
          unfold spareB at h4
          rw [List.any_eq_false] at h4
          have := h4 i (List.mem_range.2 h3)
          simp at this
          exact this h2
theorem good_bitlist {n : Int} {ins : List Ty} (hf : formT 6 n ins.length = true) : Good (.mk 6 n ins) := by
  unfold formT at hf
  rw [if_neg (by decide), if_neg (by decide), if_neg (by decide), if_pos (by decide)] at hf
  simp only [Bool.and_eq_true, decide_eq_true_eq] at hf
  have hi := nil_of hf.1.1
  subst hi
  have hfx : fixT (.mk 6 n []) = false := by rw [fixT]; simp
  have hk : kindOf (.mk 6 n []) = none := by unfold kindOf; rw [if_neg (by rw [hfx]; simp)]
  have hput : ∀ num bits items pick, putV (.mk 6 n []) (.mk num bits items pick) = listB bits := fun num bits items pick => by rw [putV]; simp [Ty.k]
  have hget : ∀ s, getV (.mk 6 n []) s = match topB s (8 * s.length) with
    | none => (noV, 2)
    | some m => if m < 8 * (s.length - 1) then (noV, 2) else if n < (m : Int) then (noV, 5) else (.mk 0 (unpackB s m) [] 0, 0) := fun s => by rw [getV]; show getOf _ _ _ _ _ _ = _; unfold getOf; rw [hk]; simp [mism]; try (cases topB s (8 * s.length) <;> rfl)
  refine ⟨fun h => (by rw [hfx] at h; cases h), fun v hv hin _ => ?_, fun s v h => ?_, fun h => (by rw [hfx] at h; cases h)⟩
  · obtain ⟨num, bits, items, pick⟩ := v
    obtain ⟨h1, h2, _⟩ := fit_parts0 hv
    rw [ofV_6] at h2
    simp at h1 h2
    obtain ⟨⟨rfl, rfl⟩, rfl⟩ := h2
    rw [hput, hget, listB_top]
    have hl := listB_length bits
    simp only
    rw [if_neg (by omega), if_neg (by omega), unpack_listB]
  · rw [hget] at h
    cases ht : topB s (8 * s.length) with
    | none => rw [ht] at h; cases h
    | some m =>
      rw [ht] at h
      simp only at h
      split at h
      · cases h
      · rename_i h1
        split at h
        · cases h
        · rename_i h2
          cases h
          refine ⟨fit_mk (by simp [unpack_length]; omega) ?_ (by rw [fitVs]), ⟨by unfold In; omega, trivial⟩, ?_⟩
          · rw [ofV_6]
            simp
          · rw [hput]
            exact listB_unpack ht (by omega)
end Go.Proofs.YtgloapcfmlijlaaGreatDoor.M
namespace Go.Proofs.YtgloapcfmlijlaaGreatDoor.M
open Go

theorem rowOf_put {k n : Int} {ins ts : List Ty} {vs : List Va} (hmany : manyT k n (ins.map kindOf) (rowB (putL ts vs)) = (ts.length, 0))
    (hks : (if k = 7 then ins.map kindOf else List.replicate ts.length ((ins.map kindOf).headD none)) = ts.map kindOf) (hgs : (if k = 7 then ins.map getV else List.replicate ts.length ((ins.map getV).headD noR)) = ts.map getV)
    (h : Alls FitR ts vs) (hi : inVs vs) (hg : ∀ t ∈ ts, Good t) (hl : (rowB (putL ts vs)).length < 4294967296) : rowOf k n (ins.map kindOf) (ins.map getV) (rowB (putL ts vs)) = (.mk 0 [] vs 0, 0) := by
  obtain ⟨h1, h2⟩ := row_put h hi hg hl
  unfold rowOf
  rw [hmany]
  simp only [ne_eq, not_true_eq_false, if_false]
  rw [hks, h1]
  simp only
  rw [hgs, h2]
  simp
theorem rowOf_get {k n : Int} {kd : List (Option Nat)} {fs : List Rdr} {s : List UInt8} {v : Va} (h : rowOf k n kd fs s = (v, 0)) :
    (manyT k n kd s).2 = 0 ∧ ∃ bs vs, splitB (if k = 7 then kd else List.replicate (manyT k n kd s).1 (kd.headD none)) s = some bs ∧ readAll (if k = 7 then fs else List.replicate (manyT k n kd s).1 (fs.headD noR)) bs = (vs, 0) ∧ v = .mk 0 [] vs 0 := by
  unfold rowOf at h
  by_cases h1 : (manyT k n kd s).2 = 0
  · rw [if_neg (by simp [h1])] at h
    refine ⟨h1, ?_⟩
    cases hb : splitB (if k = 7 then kd else List.replicate (manyT k n kd s).1 (kd.headD none)) s with
    | none => rw [hb] at h; exact absurd (congrArg Prod.snd h) (by simp)
    | some bs =>
      rw [hb] at h
      simp only at h
      generalize hr : readAll (if k = 7 then fs else List.replicate (manyT k n kd s).1 (fs.headD noR)) bs = r at h
      by_cases h2 : r.2 = 0
      · rw [if_neg (by simp [h2])] at h
        exact ⟨bs, r.1, rfl, by rw [hr, ← h2], (congrArg Prod.fst h).symm⟩
      · rw [if_pos h2] at h
        exact absurd (congrArg Prod.snd h) h2
  · rw [if_pos h1] at h
    exact absurd (congrArg Prod.snd h) h1
theorem getV_row {k n : Int} {ins : List Ty} (h : k = 3 ∨ k = 4 ∨ k = 7) (s : List UInt8) : getV (.mk k n ins) s = if mism (kindOf (.mk k n ins)) s.length = true then (noV, 2) else rowOf k n (ins.map kindOf) (ins.map getV) s := by
  rw [getV, getFs_map]
  show getOf _ _ _ _ _ _ = _
  unfold getOf
  rcases h with rfl | rfl | rfl <;> simp
theorem putV_row {k n : Int} {ins : List Ty} (h : k = 3 ∨ k = 4 ∨ k = 7) (num : Nat) (bits : List Bool) (items : List Va) (pick : Int) : putV (.mk k n ins) (.mk num bits items pick) = rowB (putVs k ins pick 0 items) := by
  rw [putV]
  rcases h with rfl | rfl | rfl <;> simp [Ty.k, Ty.ins]
theorem no_mismatch {t : Ty} {s : List UInt8} (h : fixT t = true → s.length = szT t) : mism (kindOf t) s.length = false := by
  unfold kindOf mism
  by_cases hf : fixT t = true
  · rw [if_pos hf]; simp [h hf]
  · rw [if_neg hf]
theorem mismatch_no {t : Ty} {s : List UInt8} (h : ¬ mism (kindOf t) s.length = true) (hf : fixT t = true) : s.length = szT t := by
  unfold kindOf at h
  rw [if_pos hf] at h
  simpa [mism] using h
theorem getV_ok {k n : Int} {ins : List Ty} (hk : k = 3 ∨ k = 4 ∨ k = 7) {s : List UInt8} {v : Va} (h : getV (.mk k n ins) s = (v, 0)) : (fixT (.mk k n ins) = true → s.length = szT (.mk k n ins)) ∧ rowOf k n (ins.map kindOf) (ins.map getV) s = (v, 0) := by
  rw [getV_row hk] at h
  split at h
  · exact absurd (congrArg Prod.snd h) (by simp)
  · rename_i h1
    exact ⟨mismatch_no h1, h⟩
theorem replicate_kind (m : Nat) (t : Ty) : (List.replicate m t).map kindOf = List.replicate m (kindOf t) := by simp
theorem replicate_get (m : Nat) (t : Ty) : (List.replicate m t).map getV = List.replicate m (getV t) := by simp
theorem good_replicate {t : Ty} (h : Good t) (m : Nat) : ∀ u ∈ List.replicate m t, Good u := fun u hu => by rw [(List.mem_replicate.1 hu).2]; exact h
theorem in3 (t : Ty) (pick : Int) : inT 3 [t] pick 0 = t := rfl
theorem in4 (t : Ty) (pick : Int) : inT 4 [t] pick 0 = t := rfl
theorem one_of {n : Int} {ins : List Ty} {k : Int} (hk : k = 3 ∨ k = 4) (hf : formT k n ins.length = true) : ∃ t m, ins = [t] ∧ n = ((m : Nat) : Int) ∧ 1 ≤ m ∧ m ≤ 512 := by
  unfold formT at hf
  have h1 : ¬ k = 1 := by omega
  have h2 : ¬ k = 2 := by omega
  rw [if_neg h1, if_neg h2, if_pos hk] at hf
  simp only [Bool.and_eq_true, decide_eq_true_eq] at hf
  obtain ⟨m, rfl⟩ := Int.eq_ofNat_of_zero_le (show 0 ≤ n by omega)
  match ins, hf.1.1 with
  | [t], _ => exact ⟨t, m, rfl, rfl, by omega, by omega⟩

theorem good_vector {n : Int} {ins : List Ty} (hf : formT 3 n ins.length = true) (ih : ∀ t ∈ ins, Good t) : Good (.mk 3 n ins) := by
  obtain ⟨t, m, rfl, rfl, hm1, hm2⟩ := one_of (.inl rfl) hf
  have hg := ih t (by simp)
  have hfx : fixT (.mk 3 (m : Int) [t]) = fixT t := by rw [fixT]; simp [fixTs]
  have hsz : szT (.mk 3 (m : Int) [t]) = m * szT t := by rw [szT]; simp [szTs]
  have hparts : ∀ num bits items pick, fitV (.mk 3 (m : Int) [t]) (.mk num bits items pick) = 0 → num = 0 ∧ bits = [] ∧ pick = 0 ∧ items.length = m ∧ Alls FitR (List.replicate m t) items ∧ putVs 3 [t] pick 0 items = putL (List.replicate m t) items := fun num bits items pick hv => by
    obtain ⟨_, h2, h3⟩ := fit_parts0 hv
    rw [ofV_3] at h2
    simp at h2
    obtain ⟨⟨⟨rfl, rfl⟩, rfl⟩, hl⟩ := h2
    have hl : items.length = m := by omega
    rw [fitVs_other (by decide), in3, hl] at h3
    refine ⟨rfl, rfl, rfl, hl, h3, ?_⟩
    rw [putVs_other (by decide), in3, hl]
  have hsize : fixT t = true → ∀ items, Alls FitR (List.replicate m t) items → inVs items → (rowB (putL (List.replicate m t) items)).length = m * szT t := fun hft items h hi => by
    rw [row_length (putL_fit h hi (good_replicate hg m)) (putL_kinds h (fixTs_replicate hft m)), putL_fst h, replicate_kind, kindOf, if_pos hft, hdLen_replicate]
  refine ⟨fun hft v hv hin => ?_, fun v hv hin hl => ?_, fun s v h => ?_, fun hft => ?_⟩
  · obtain ⟨num, bits, items, pick⟩ := v
    obtain ⟨_, _, _, _, h4, h5⟩ := hparts num bits items pick hv
    rw [putV_row (.inl rfl), h5, hsize (hfx ▸ hft) items h4 hin.2, hsz]
  · obtain ⟨num, bits, items, pick⟩ := v
    obtain ⟨rfl, rfl, rfl, hlen, h4, h5⟩ := hparts num bits items pick hv
    rw [putV_row (.inl rfl), h5] at hl ⊢
    rw [getV_row (.inl rfl), no_mismatch (fun hft => by rw [hsize (hfx ▸ hft) items h4 hin.2, hsz])]
    simp only [Bool.false_eq_true, if_false]
    exact rowOf_put (by unfold manyT; simp) (by simp) (by simp) h4 hin.2 (good_replicate hg m) hl
  · obtain ⟨h1, h2⟩ := getV_ok (.inl rfl) h
    obtain ⟨h3, bs, vs, h4, h5, rfl⟩ := rowOf_get h2
    have hmany : manyT 3 (m : Int) ([t].map kindOf) s = (m, 0) := by unfold manyT; simp
    rw [hmany] at h4 h5
    rw [if_neg (by decide)] at h4 h5
    simp only [List.map_cons, List.map_nil, List.headD_cons] at h4 h5
    rw [← replicate_kind] at h4
    rw [← replicate_get] at h5
    obtain ⟨k1, k2, k3⟩ := row_get h4 h5 (good_replicate hg m)
    have hl : vs.length = m := by have := k1.length; simp at this; omega
    have hv : fitVs 3 [t] 0 0 vs = 0 := (fitVs_other (by decide) _ _ _ _).2 (by rw [in3, hl]; exact k1)
    refine ⟨fit_mk (by simp) (by rw [ofV_3]; simp; omega) hv, ⟨by unfold In; omega, k2⟩, ?_⟩
    rw [putV_row (.inl rfl), putVs_other (by decide), in3, hl, k3]
  · rw [hsz]
    have := hg.pos (hfx ▸ hft)
    exact Nat.mul_pos hm1 this

theorem good_container {n : Int} {ins : List Ty} (hf : formT 7 n ins.length = true) (ih : ∀ t ∈ ins, Good t) : Good (.mk 7 n ins) := by
  have hlen1 : 1 ≤ ins.length := by
    unfold formT at hf
    rw [if_neg (by decide), if_neg (by decide), if_neg (by decide), if_neg (by decide), if_pos rfl] at hf
    simp at hf
    omega
  have hfx : fixT (.mk 7 n ins) = fixTs ins := by rw [fixT]; simp
  have hsz : szT (.mk 7 n ins) = szTs ins := by rw [szT]; simp
  have hparts : ∀ num bits items pick, fitV (.mk 7 n ins) (.mk num bits items pick) = 0 → num = 0 ∧ bits = [] ∧ pick = 0 ∧ items.length = ins.length ∧ Alls FitR ins items ∧ putVs 7 ins pick 0 items = putL ins items := fun num bits items pick hv => by
    obtain ⟨_, h2, h3⟩ := fit_parts0 hv
    rw [ofV_7] at h2
    simp at h2
    obtain ⟨⟨⟨rfl, rfl⟩, rfl⟩, hl⟩ := h2
    rw [fitVs_seven ins 0 items 0 (by omega)] at h3
    have h5 := putVs_seven ins 0 items 0 (by omega)
    rw [List.drop_zero] at h3 h5
    exact ⟨rfl, rfl, rfl, hl, h3, h5⟩
  have hsize : fixTs ins = true → ∀ items, Alls FitR ins items → inVs items → (rowB (putL ins items)).length = szTs ins := fun hft items h hi => by
    rw [row_length (putL_fit h hi ih) (putL_kinds h hft), putL_fst h, hdLen_fixed hft]
  refine ⟨fun hft v hv hin => ?_, fun v hv hin hl => ?_, fun s v h => ?_, fun hft => ?_⟩
  · obtain ⟨num, bits, items, pick⟩ := v
    obtain ⟨_, _, _, _, h4, h5⟩ := hparts num bits items pick hv
    rw [putV_row (.inr (.inr rfl)), h5, hsize (hfx ▸ hft) items h4 hin.2, hsz]
  · obtain ⟨num, bits, items, pick⟩ := v
    obtain ⟨rfl, rfl, rfl, hlen, h4, h5⟩ := hparts num bits items pick hv
    rw [putV_row (.inr (.inr rfl)), h5] at hl ⊢
    rw [getV_row (.inr (.inr rfl)), no_mismatch (fun hft => by rw [hsize (hfx ▸ hft) items h4 hin.2, hsz])]
    simp only [Bool.false_eq_true, if_false]
    exact rowOf_put (by unfold manyT; simp) (by simp) (by simp) h4 hin.2 ih hl
  · obtain ⟨h1, h2⟩ := getV_ok (.inr (.inr rfl)) h
    obtain ⟨h3, bs, vs, h4, h5, rfl⟩ := rowOf_get h2
    rw [if_pos rfl] at h4 h5
    obtain ⟨k1, k2, k3⟩ := row_get h4 h5 ih
    have hl : vs.length = ins.length := k1.length.symm
    have hv : fitVs 7 ins 0 0 vs = 0 := (fitVs_seven ins 0 vs 0 (by omega)).2 (by rw [List.drop_zero]; exact k1)
    refine ⟨fit_mk (by simp) (by rw [ofV_7]; simp [hl]) hv, ⟨by unfold In; omega, k2⟩, ?_⟩
    rw [putV_row (.inr (.inr rfl)), putVs_seven ins 0 vs 0 (by omega), List.drop_zero, k3]
  · rw [hsz]
    rw [hfx] at hft
    match ins, hlen1, hft, ih with
    | t :: ts, _, hft, ih =>
      have := (ih t (by simp)).pos (fixTs_ok.1 hft t (by simp))
      rw [szTs]
      omega

theorem good_list {n : Int} {ins : List Ty} (hf : formT 4 n ins.length = true) (ih : ∀ t ∈ ins, Good t) : Good (.mk 4 n ins) := by
  obtain ⟨t, b, rfl, rfl, hm1, hm2⟩ := one_of (.inr rfl) hf
  have hg := ih t (by simp)
  have hfx : fixT (.mk 4 (b : Int) [t]) = false := by rw [fixT]; simp
  have hparts : ∀ num bits items pick, fitV (.mk 4 (b : Int) [t]) (.mk num bits items pick) = 0 → num = 0 ∧ bits = [] ∧ pick = 0 ∧ items.length ≤ b ∧ Alls FitR (List.replicate items.length t) items ∧ putVs 4 [t] pick 0 items = putL (List.replicate items.length t) items := fun num bits items pick hv => by
    obtain ⟨h1, h2, h3⟩ := fit_parts0 hv
    rw [ofV_4] at h2
    simp at h1 h2
    obtain ⟨⟨rfl, rfl⟩, rfl⟩ := h2
    rw [fitVs_other (by decide), in4] at h3
    refine ⟨rfl, rfl, rfl, by omega, h3, ?_⟩
    rw [putVs_other (by decide), in4]
  refine ⟨fun h => (by rw [hfx] at h; cases h), fun v hv hin hl => ?_, fun s v h => ?_, fun h => (by rw [hfx] at h; cases h)⟩
  · obtain ⟨num, bits, items, pick⟩ := v
    obtain ⟨rfl, rfl, rfl, hlen, h4, h5⟩ := hparts num bits items pick hv
    rw [putV_row (.inr (.inl rfl)), h5] at hl ⊢
    rw [getV_row (.inr (.inl rfl)), no_mismatch (fun hft => by rw [hfx] at hft; cases hft)]
    simp only [Bool.false_eq_true, if_false]
    refine rowOf_put ?_ (by simp) (by simp) h4 hin.2 (good_replicate hg _) hl
    have hfit := putL_fit h4 hin.2 (good_replicate hg _)
    have hfst := putL_fst h4
    rw [replicate_kind] at hfst
    rw [List.length_replicate]
    generalize hps : putL (List.replicate items.length t) items = ps at *
    have hpl : ps.length = items.length := by
      have := congrArg List.length hfst
      simpa using this
    unfold manyT
    rw [if_neg (by decide), if_neg (by decide)]
    by_cases hi0 : items = []
    · subst hi0
      have : ps = [] := List.eq_nil_of_length_eq_zero hpl
      subst this
      simp [rowB, rowH, rowL]
    · have hpos : 1 ≤ items.length := by cases items with | nil => exact absurd rfl hi0 | cons => simp
      simp only [List.map_cons, List.headD_cons]
      by_cases hft : fixT t = true
      · have hk : kindOf t = some (szT t) := by unfold kindOf; rw [if_pos hft]
        have hz := hg.pos hft
        have hlen2 : (rowB ps).length = items.length * szT t := by
          rw [row_length hfit (fun p hp e => by
            have h6 : p.1 ∈ ps.map (·.1) := List.mem_map.2 ⟨p, hp, rfl⟩
            rw [hfst, hk] at h6
            rw [(List.mem_replicate.1 h6).2] at e
            cases e), hfst, hk, hdLen_replicate]
        have hne : rowB ps ≠ [] := fun e => by
          rw [e] at hlen2
          have := Nat.mul_pos hpos hz
          simp at hlen2
          omega
        rw [if_neg hne, hk]
        simp only
        rw [hlen2, Nat.mul_mod_left, Nat.mul_div_cancel _ hz]
        simp
        omega
      · have hk : kindOf t = none := by unfold kindOf; rw [if_neg hft]
        rw [hk] at hfst
        have hhd : hdLen (ps.map (·.1)) = 4 * items.length := by rw [hfst, hdLen_offsets]
        have hle : 4 * items.length ≤ (rowB ps).length := by
          unfold rowB
          rw [List.length_append, rowH_length _ hfit, hhd]
          omega
        have hne : rowB ps ≠ [] := fun e => by rw [e] at hle; simp at hle; omega
        have htake : (rowB ps).take 4 = le 4 (4 * items.length) := by
          match ps, hpl, hfst, hhd with
          | [], hpl, _, _ => simp at hpl; omega
          | (some z, c) :: ps, _, hfst, _ =>
            cases hi : items.length with
            | zero => omega
            | succ q => rw [hi, List.replicate_succ] at hfst; simp at hfst
          | (none, c) :: ps, _, _, hhd =>
            unfold rowB
            rw [hhd, rowH, List.append_assoc, List.take_append_of_le_length (by rw [le_length]; omega), List.take_of_length_le (by rw [le_length]; omega)]
        rw [if_neg hne, hk]
        simp only
        rw [htake, led_le 4 _ (by omega), if_neg (by omega)]
        have : ¬ (b : Int) < ((4 * items.length / 4 : Nat) : Int) := by omega
        rw [if_neg this, show 4 * items.length / 4 = items.length by omega]
  · obtain ⟨h1, h2⟩ := getV_ok (.inr (.inl rfl)) h
    obtain ⟨h3, bs, vs, h4, h5, rfl⟩ := rowOf_get h2
    rw [if_neg (by decide)] at h4 h5
    have hmb : (manyT 4 (b : Int) ([t].map kindOf) s).1 ≤ b := by
      revert h3
      unfold manyT
      rw [if_neg (by decide), if_neg (by decide)]
      split
      · intro _; exact Nat.zero_le _
      · split
        · split
          · intro h; simp at h
          · split
            · intro h; simp at h
            · intro _; simp only; omega
        · split
          · intro h; simp at h
          · split
            · intro h; simp at h
            · intro _; simp only; omega
    generalize (manyT 4 (b : Int) ([t].map kindOf) s).1 = m at *
    simp only [List.map_cons, List.map_nil, List.headD_cons] at h4 h5
    rw [← replicate_kind] at h4
    rw [← replicate_get] at h5
    obtain ⟨k1, k2, k3⟩ := row_get h4 h5 (good_replicate hg m)
    have hl : vs.length = m := by have := k1.length; simp at this; omega
    have hv : fitVs 4 [t] 0 0 vs = 0 := (fitVs_other (by decide) _ _ _ _).2 (by rw [in4, hl]; exact k1)
    refine ⟨fit_mk (by simp; omega) (by rw [ofV_4]; simp) hv, ⟨by unfold In; omega, k2⟩, ?_⟩
    rw [putV_row (.inr (.inl rfl)), putVs_other (by decide), in4, hl, k3]

theorem good_union {n : Int} {ins : List Ty} (hf : formT 8 n ins.length = true) (ih : ∀ t ∈ ins, Good t) : Good (.mk 8 n ins) := by
  have hlen8 : ins.length ≤ 8 := by
    unfold formT at hf
    rw [if_neg (by decide), if_neg (by decide), if_neg (by decide), if_neg (by decide), if_neg (by decide)] at hf
    simp at hf
    omega
  have hfx : fixT (.mk 8 n ins) = false := by rw [fixT]; simp
  have hk : kindOf (.mk 8 n ins) = none := by unfold kindOf; rw [if_neg (by rw [hfx]; simp)]
  have hin : ∀ (q : Nat) (t : Ty), ins[q]? = some t → inT 8 ins (q : Int) 0 = t := fun q t h => by unfold inT; rw [if_neg (by decide), if_pos rfl]; simp [h]
  have hput : ∀ num bits w (q : Nat) t, ins[q]? = some t → putV (.mk 8 n ins) (.mk num bits [w] (q : Int)) = UInt8.ofNat q :: putV t w := fun num bits w q t h => by
    rw [putV]
    simp [Ty.k, Ty.ins, putVs, hin q t h]
  have hget : ∀ c s t, ins[c.toNat]? = some t → getV (.mk 8 n ins) (c :: s) = if (getV t s).2 ≠ 0 then (noV, (getV t s).2) else (.mk 0 [] [(getV t s).1] c.toNat, 0) := fun c s t h => by
    have hlt := (List.getElem?_eq_some_iff.1 h).1
    rw [getV, getFs_map]
    show getOf _ _ _ _ _ _ = _
    unfold getOf
    rw [hk]
    simp [h, mism]
    omega
  refine ⟨fun h => (by rw [hfx] at h; cases h), fun v hv hi hl => ?_, fun s v h => ?_, fun h => (by rw [hfx] at h; cases h)⟩
  · obtain ⟨num, bits, items, pick⟩ := v
    obtain ⟨_, h2, h3⟩ := fit_parts0 hv
    rw [ofV_8] at h2
    simp at h2
    obtain ⟨⟨⟨⟨rfl, rfl⟩, hl1⟩, hp0⟩, hp1⟩ := h2
    obtain ⟨q, rfl⟩ := Int.eq_ofNat_of_zero_le hp0
    match items, hl1 with
    | [w], _ =>
      obtain ⟨t, ht⟩ : ∃ t, ins[q]? = some t := ⟨_, List.getElem?_eq_getElem (by omega)⟩
      rw [fitVs, hin q t ht] at h3
      have hw : fitV t w = 0 := by
        by_cases h : fitV t w = 0
        · exact h
        · rw [if_pos h] at h3; exact absurd h3 h
      have hgt := ih t (List.mem_of_getElem? ht)
      rw [hput 0 [] w q t ht] at hl ⊢
      have hq8 : q < 8 := by omega
      have hc : (UInt8.ofNat q).toNat = q := by simp; omega
      rw [hget _ _ t (by rw [hc]; exact ht), hgt.put w hw hi.2.1 (by rw [List.length_cons] at hl; omega)]
      simp [hc]
  · cases s with
    | nil =>
      rw [getV] at h
      replace h : getOf 8 n (ins.map kindOf) (getFs ins) (kindOf (.mk 8 n ins)) [] = (v, 0) := h
      unfold getOf at h
      rw [hk] at h
      simp [mism] at h
    | cons c s =>
      by_cases hc : c.toNat < ins.length
      · obtain ⟨t, ht⟩ : ∃ t, ins[c.toNat]? = some t := ⟨_, List.getElem?_eq_getElem hc⟩
        rw [hget c s t ht] at h
        have hgt := ih t (List.mem_of_getElem? ht)
        by_cases h1 : (getV t s).2 = 0
        · rw [if_neg (by simp [h1])] at h
          obtain ⟨k1, k2, k3⟩ := hgt.get s (getV t s).1 (by rw [← h1])
          cases h
          refine ⟨fit_mk (by simp) (by rw [ofV_8]; simp; omega) ?_, ⟨by unfold In; omega, k2, trivial⟩, ?_⟩
          · rw [fitVs, hin _ t ht, if_neg (by simp [k1]), fitVs]
          · rw [hput 0 [] _ _ t ht, k3]
            simp
        · rw [if_pos h1] at h
          exact absurd (congrArg Prod.snd h) h1
      · rw [getV, getFs_map] at h
        replace h : getOf 8 n (ins.map kindOf) (ins.map getV) (kindOf (.mk 8 n ins)) (c :: s) = (v, 0) := h
        unfold getOf at h
        rw [hk] at h
        simp [mism] at h
        rw [if_pos (by omega)] at h
        exact absurd (congrArg Prod.snd h) (by simp)

theorem good : ∀ t : Ty, (∃ e, chkT e t = 0) → Good t
  | .mk k n ins, ⟨e, h⟩ => by
    obtain ⟨h1, h2, _, h4⟩ := chkT_ok.1 h
    have ih : ∀ t ∈ ins, Good t := fun t ht => good t ⟨e + 1, chkTs_ok.1 h4 t ht⟩
    by_cases e1 : k = 1
    · subst e1; exact good_uint h2
    by_cases e2 : k = 2
    · subst e2; exact good_bool h2
    by_cases e3 : k = 3
    · subst e3; exact good_vector h2 ih
    by_cases e4 : k = 4
    · subst e4; exact good_list h2 ih
    by_cases e5 : k = 5
    · subst e5; exact good_bits h2
    by_cases e6 : k = 6
    · subst e6; exact good_bitlist h2
    by_cases e7 : k = 7
    · subst e7; exact good_container h2 ih
    obtain rfl : k = 8 := by omega
    exact good_union h2 ih
termination_by t => SizeOf.sizeOf t
decreasing_by have := List.sizeOf_lt_of_mem ht; simp; omega

mutual
theorem same_eq : ∀ v w : Va, sameV v w = true ↔ v = w
  | .mk a b c d, .mk a' b' c' d' => by
    rw [sameV]
    simp only [Bool.and_eq_true, beq_iff_eq]
    constructor
    · rintro ⟨⟨⟨rfl, rfl⟩, rfl⟩, hl, h⟩
      rw [(sames_eq c c' hl).1 h]
    · intro h
      cases h
      exact ⟨⟨⟨rfl, rfl⟩, rfl⟩, rfl, (sames_eq c c rfl).2 rfl⟩
theorem sames_eq : ∀ vs ws : List Va, vs.length = ws.length → (sameVs vs ws = true ↔ vs = ws)
  | [], [], _ => by simp [sameVs]
  | [], _ :: _, h => by simp at h
  | _ :: _, [], h => by simp at h
  | v :: vs, w :: ws, h => by
    rw [sameVs]
    simp only [Bool.and_eq_true]
    rw [same_eq v w, sames_eq vs ws (by simpa using h)]
    simp
end

/-- What is put is got again. -/
theorem ssz_back {t : Ty} {v : Va} (hi : inV v) (h : (putT t v).2 = 0) : getT t (putT t v).1 = (v, 0) ∧ (fixedT t = true → (putT t v).1.length = sizeT t) := by
  unfold putT at h ⊢
  by_cases h1 : fitsV t v = 0
  · rw [if_neg (by simp [h1])] at h ⊢
    by_cases h2 : 65536 < (putV t v).length
    · rw [if_pos h2] at h; cases h
    · rw [if_neg h2]
      unfold fitsV at h1
      by_cases hc : chkT 0 t = 0
      · rw [if_pos hc] at h1
        have hg := good t ⟨0, hc⟩
        refine ⟨?_, fun hf => ?_⟩
        · unfold getT
          rw [if_neg (by simp [hc]), if_neg (by simpa using h2)]
          exact hg.put v h1 hi (by omega)
        · unfold fixedT at hf
          rw [if_pos hc] at hf
          unfold sizeT fixedT
          rw [if_pos hc, if_pos hf]
          exact hg.size hf v h1 hi
      · rw [if_neg hc] at h1; exact absurd h1 hc
  · rw [if_pos h1] at h; exact absurd h h1
end Go.Proofs.YtgloapcfmlijlaaGreatDoor.M
namespace Go.Proofs.YtgloapcfmlijlaaGreatDoor
open Go Go.RowKit

def SPutOk : Prop := ∀ (k n : Int) (ts : List M.Ty) (a : Option Addr) (cap : Nat) (N : Nat) (bs : List Bool) (us : List M.Va) (p : Int) (ab : Option Addr) (cb : Nat) (au : Option Addr) (cu : Nat) (W : World), LayT W W.heap.size ts (.slice a ts.length cap) → Vl W W.heap.size N bs us ab cb au cu → M.cntT (.mk k n ts) ≤ 1000 → M.cntV (.mk N bs us p) ≤ 6000 →
  Calls Tryz.prog 25 #[tv k n (.slice a ts.length cap), vv N (.slice ab bs.length cb) (.slice au us.length cu) p] W fun e w' => e = .returned (.tuple #[.string ⟨(M.putT (.mk k n ts) (.mk N bs us p)).1.toArray⟩, .int .i64 ((M.putT (.mk k n ts) (.mk N bs us p)).2 : Nat)]) ∧ Below W.heap.size W w'
/-- A value that is handed back, in memory of the call's own. -/
structure GotP (e : Ending) (w' : World) (g : M.Va × Nat) : Prop where
  out : ∃ (N : Nat) (bs : List Bool) (us : List M.Va) (p : Int) (ab : Option Addr) (cb : Nat) (au : Option Addr) (cu : Nat), g.1 = .mk N bs us p ∧ e = .returned (.tuple #[vv N (.slice ab bs.length cb) (.slice au us.length cu) p, .int .i64 (g.2 : Nat)]) ∧ Vl w' w'.heap.size N bs us ab cb au cu
def SGetOk : Prop := ∀ (k n : Int) (ts : List M.Ty) (a : Option Addr) (cap : Nat) (s : List UInt8) (W : World), LayT W W.heap.size ts (.slice a ts.length cap) → M.cntT (.mk k n ts) ≤ 1000 → (s.length ≤ 8000 ∨ 65536 < s.length) →
  Calls Tryz.prog 12 #[tv k n (.slice a ts.length cap), .string ⟨s.toArray⟩] W fun e w' => GotP e w' (M.getT (.mk k n ts) s) ∧ Below W.heap.size W w'
structure Sszs : Prop where
  put : SPutOk
  get : SGetOk
end Go.Proofs.YtgloapcfmlijlaaGreatDoor
