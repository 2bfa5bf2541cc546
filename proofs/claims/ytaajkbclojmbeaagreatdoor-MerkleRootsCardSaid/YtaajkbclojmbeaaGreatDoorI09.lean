/- The reference's Vals: how many values stand in a value. The reference's Fits; the law's Few. Contracts of word.fromTop, of the function that it hands back, and of word.Less. -/
import Derived.Test.YtaajkbclojmbeaaGreatDoorI03
import Derived.Test.YtaajkbclojmbeaaGreatDoorI01
import Derived.Test.YtaajkbclojmbeaaGreatDoorI06
import Derived.Test.YtaajkbclojmbeaaGreatDoorI08
import Derived.RangeFuncNested
import Derived.RangeFuncBound
import Derived.RangeFuncCalls
import Derived.RangeFuncLeaves
import Derived.Shelf.Abstract
import Derived.Shelf.RegionOpen
import Derived.OwnWalkIn
import Derived.TacticsInMore
import Derived.LoopNIn
import Derived.LoopIn
namespace Go.Proofs.YtaajkbclojmbeaaGreatDoor
open Go Go.RowKit

set_option maxRecDepth 100000 in
set_option maxHeartbeats 4000000 in
theorem vals_n (n : Nat) : ∀ (N : Nat) (bs : List Bool) (xs : List M.Va) (p : Int) (ab : Option Addr) (cb : Nat) (a : Option Addr) (cap : Nat) (w : World) (mo : Nat) (dp : Int), SizeOf.sizeOf xs ≤ n → Vl w w.heap.size N bs xs ab cb a cap → mo ≤ 1000 → -1 ≤ dp → dp ≤ 16 →
    Calls Tryz.prog 41 #[vv N (.slice ab bs.length cb) (.slice a xs.length cap) p, .int .i64 (mo : Nat), .int .i64 dp] w fun e w' => (∃ r : Nat, e = .returned (.int .i64 (r : Nat)) ∧ 1 ≤ r ∧ r ≤ mo + 1 ∧ (r ≤ mo → M.cntV (.mk N bs xs p) ≤ r)) ∧ Below w.heap.size w w' := by
  induction n with
  | zero => intro N bs xs p ab cb a cap w mo dp h; cases xs <;> simp at h
  | succ n ih =>
    intro N bs xs p ab cb a cap w mo dp hs hL hmo hd1 hd2
    have hB := Cells7.new w N (.slice ab bs.length cb) (.slice a xs.length cap) p 38
    have hb0 : Below w.heap.size w (w.alloc (.cells #[.int .u64 (M.pt 0 N), .int .u64 (M.pt 1 N), .int .u64 (M.pt 2 N), .int .u64 (M.pt 3 N), .slice ab bs.length cb, .slice a xs.length cap, .int .i64 p] 38)) := by (repeat (first | exact Below.refl _ _ | refine Below.drew ?_ | refine Below.alloc ?_ (by first | omega | (simp; omega) | simp) _ | refine Below.setCell ?_ (by first | omega | (simp; omega) | simp) _))
    obtain ⟨_, _, hbe, _, hbm⟩ := hL.b.slice
    have hbl : bs.length ≤ maxLen := by
      cases hbe
      omega
    simp only [maxLen] at hbl
    clear hbe hbm
    obtain ⟨q8, hq8⟩ : ∃ q8, q8 = bs.length / 8 := ⟨_, rfl⟩
    have h8 : (bs.length : Int) / 8 = (q8 : Nat) := by omega
    have hc8 : Hid (M.cntV (.mk N bs xs p) = 1 + q8 + M.cntVs xs) := by show _ = _; rw [M.cntV, hq8]
    have hq8m : q8 ≤ 9223372036854775807 / 8 := by omega
    clear hq8
    by_cases hdp : dp < 0
    · clear hc8
      go_enter Tryz.func41, Tryz.ntmps41
      go_wp2_with fail
      go_ret
      refine ⟨⟨mo + 1, by simp, by omega, by omega, by omega⟩, ?_⟩
      exact hb0
    · have hdp' : decide (dp < 0) = false := by simp; omega
      by_cases hbig : mo < 1 + q8
      · have hbig' : (mo : Int) < 1 + (q8 : Int) := by omega
        clear hc8
        go_enter Tryz.func41, Tryz.ntmps41
        go_wp2_with fail
        go_ret
        refine ⟨⟨mo + 1, by simp, by omega, by omega, by omega⟩, ?_⟩
        exact hb0
      · have hbig' : ¬ (mo : Int) < 1 + (q8 : Int) := by omega
        go_enter Tryz.func41, Tryz.ntmps41
        go_wp2_with fail
        generalize hw0 : w.alloc (.cells #[.int .u64 (M.pt 0 N), .int .u64 (M.pt 1 N), .int .u64 (M.pt 2 N), .int .u64 (M.pt 3 N), .slice ab bs.length cb, .slice a xs.length cap, .int .i64 p] 38) = w0 at *
        have hz : w0.heap.size = w.heap.size + 1 := by rw [← hw0]; simp
        clear hw0
        go_loopw [7, 8] (fun m i wr => ∃ k q : Nat, k ≤ xs.length ∧ i = .int .i64 k ∧ m = .int .i64 (q : Nat) ∧ 1 ≤ q ∧ q ≤ mo + 1 ∧ (q ≤ mo → 1 + q8 + M.cntVs (xs.take k) ≤ q) ∧ Below w0.heap.size w0 wr) (fun _ i _ => xs.length - (intOf i).toNat)
        case atStart => exact ⟨0, 1 + q8, by omega, rfl, by simp, by omega, by omega, fun _ => by simp [M.cntVs], Below.refl _ _⟩
        case round =>
          obtain ⟨k, q, hk, rfl, rfl, hq1, hq2, hq3, hW⟩ := hrel
          have hbx := hB.from_ hW (by omega)
          have hLr := (hL.from_ hb0).from_ (hW.mono (by omega))
          have hsz := hW.size
          have hc5 := hbx.c5
          have hbW : Below w.heap.size w wr := hb0.trans (hW.mono (by omega))
          by_cases hlt : k < xs.length
          · obtain ⟨b, o, N', bs', us, p', ab', cb', au, cu, rfl, hbn, hxk, hC, hVl⟩ := hLr.v.at_ hlt
            obtain ⟨e0, e1, e2, e3, e4, e5, e6⟩ := hC
            by_cases hqm : q ≤ mo
            · have hk2 : k < 1000 := by have := hq3 hqm; have h2 := M.length_cntV (xs.take k); rw [List.length_take] at h2; omega
              have hnx := M.cntVs_next hxk
              generalize M.cntVs (xs.take k) = c at *
              have hsx := size_va hxk
              rw [M.Va.mk.sizeOf_spec] at hsx
              obtain ⟨r, hr⟩ : ∃ r, r = mo - q := ⟨_, rfl⟩
              have hr2 : (mo : Int) - (q : Int) = (r : Nat) := by omega
              have hr3 : Hid (r + q = mo) := by show _ = _; omega
              have hr4 : r ≤ 1000 := by omega
              clear hr
              have HQ := Lib.hid hq3
              have IH := Lib.hid ih
              have HN := Lib.hid hnx
              clear hq3 ih hnx
              go_wp2_with fail
              refine (IH.out N' bs' us p' ab' cb' au cu _ r _ (by omega) (hVl.mono (by omega)) (by omega) (by omega) (by omega)).mono ?_
              rintro e w1 ⟨⟨s, rfl, hs1, hs2, hs3⟩, hb1⟩
              have hw1 : Below w0.heap.size w0 w1 := hW.trans (hb1.mono hsz)
              have hqs : q + s ≤ 2000 := by have := hr3.out; omega
              generalize M.cntV (M.Va.mk N' bs' us p') = c2 at *
              have HS := Lib.hid hs3
              clear hs3
              go_wp2_with fail
              go_roundw
              case rel => exact ⟨k + 1, q + s, by omega, by simp, by simp, by omega, by have := hr3.out; omega, fun h => by have := hr3.out; rw [HN.out]; have := HS.out (by omega); have := HQ.out hqm; omega, hw1⟩
              case measure => simp [intOf]; omega
            · go_wp2_with fail
              go_ret
              exact ⟨⟨q, rfl, by omega, by omega, fun h => by omega⟩, hbW⟩
          · obtain rfl : k = xs.length := by omega
            rw [List.take_length] at *
            have HQ := Lib.hid hq3
            clear hq3
            go_wp2_with fail
            go_ret
            exact ⟨⟨q, rfl, by omega, by omega, fun h => by rw [hc8.out]; exact HQ.out h⟩, hbW⟩
end Go.Proofs.YtaajkbclojmbeaaGreatDoor
namespace Go.Proofs.YtaajkbclojmbeaaGreatDoor
open Go Go.RowKit

/-- What Few tells. -/
structure FewP (e : Ending) (t : M.Ty) (v : M.Va) : Prop where
  out : ∃ q : Bool, e = .returned (.bool q) ∧ (q = true → M.cntT t ≤ 60 ∧ M.cntV v ≤ 150)
theorem two_boxes (w : World) (o o' : Obj) : Below w.heap.size w ((w.alloc o).alloc o') := ((Below.refl _ w).alloc (Nat.le_refl _) o).alloc (by simp) o'

set_option maxRecDepth 100000 in
set_option maxHeartbeats 4000000 in
theorem tfits_any (k n : Int) (ts : List M.Ty) (at_ : Option Addr) (ct : Nat) (N : Nat) (bs : List Bool) (us : List M.Va) (p : Int) (ab : Option Addr) (cb : Nat) (a : Option Addr) (cap : Nat) (w : World) (hT : LayT w w.heap.size ts (.slice at_ ts.length ct)) (hV : Vl w w.heap.size N bs us ab cb a cap) :
    Calls Tryz.prog 26 #[tv k n (.slice at_ ts.length ct), vv N (.slice ab bs.length cb) (.slice a us.length cap) p] w fun e w' => e = .returned (.int .i64 (M.fitsV (.mk k n ts) (.mk N bs us p) : Nat)) ∧ Below w.heap.size w w' := by
  have HC := Lib.hid (fun W (h : Below w.heap.size w W) => tcheck_any k n ts at_ ct W ((hT.from_ h).mono h.size))
  have hb0 := two_boxes w
  by_cases hz : M.chkT 0 (.mk k n ts) = 0
  · have HF := Lib.hid (fun W (h : Below w.heap.size w W) => tfits_n _ k n ts at_ ct 0 N bs us p ab cb a cap W (Nat.le_refl _) ((hT.from_ h).mono h.size) ((hV.from_ h).mono h.size) hz)
    rw [M.fitsV_in hz]
    rw [hz] at HC
    generalize M.fitV (.mk k n ts) (.mk N bs us p) = q at *
    clear hz hT hV
    go_enter Tryz.func26, Tryz.ntmps26
    go_wp2_with fail
    refine (HC.out _ (hb0 _ _)).mono ?_
    rintro e w1 ⟨rfl, hb1⟩
    obtain ⟨hce, hfr⟩ := bcell hb1
    go_wp2_with fail
    refine (HF.out _ ((hb0 _ _).trans (hb1.mono (by simp; omega)))).mono ?_
    rintro e w2 ⟨rfl, hb2⟩
    go_wp2_with fail
    go_ret
    exact ⟨rfl, (hb0 _ _).trans ((hb1.trans (hb2.mono hb1.size)).mono (by simp; omega))⟩
  · rw [show M.fitsV (.mk k n ts) (.mk N bs us p) = M.chkT 0 (.mk k n ts) by rw [M.fitsV, if_neg hz]]
    generalize M.chkT 0 (.mk k n ts) = q at *
    have hq : ¬ ((q : Nat) : Int) = 0 := by omega
    clear hz hT hV
    go_enter Tryz.func26, Tryz.ntmps26
    go_wp2_with fail
    refine (HC.out _ (hb0 _ _)).mono ?_
    rintro e w1 ⟨rfl, hb1⟩
    go_wp2_with fail
    go_ret
    exact ⟨rfl, (hb0 _ _).trans (hb1.mono (by simp; omega))⟩

set_option maxRecDepth 100000 in
set_option maxHeartbeats 4000000 in
theorem sfew_any (k n : Int) (ts : List M.Ty) (at_ : Option Addr) (ct : Nat) (N : Nat) (bs : List Bool) (us : List M.Va) (p : Int) (ab : Option Addr) (cb : Nat) (a : Option Addr) (cap : Nat) (w : World) (hT : LayT w w.heap.size ts (.slice at_ ts.length ct)) (hV : Vl w w.heap.size N bs us ab cb a cap) :
    Calls Tryz.prog 21 #[tv k n (.slice at_ ts.length ct), vv N (.slice ab bs.length cb) (.slice a us.length cap) p] w fun e w' => FewP e (.mk k n ts) (.mk N bs us p) ∧ Below w.heap.size w w' := by
  have HC := Lib.hid (fun W (h : Below w.heap.size w W) => types_n _ k n ts at_ ct W 60 9 (Nat.le_refl _) ((hT.from_ h).mono h.size) (by omega) (by omega) (by omega))
  have HF := Lib.hid (fun W (h : Below w.heap.size w W) => vals_n _ N bs us p ab cb a cap W 150 9 (Nat.le_refl _) ((hV.from_ h).mono h.size) (by omega) (by omega) (by omega))
  have hb0 := two_boxes w
  clear hT hV
  go_enter Tryz.func21, Tryz.ntmps21
  go_wp2_with fail
  refine (HC.out _ (hb0 _ _)).mono ?_
  rintro e w1 ⟨⟨r, rfl, hr1, hr2, hr3⟩, hb1⟩
  obtain ⟨hce, hfr⟩ := bcell hb1
  have HR := Lib.hid hr3
  by_cases hr : r ≤ 60
  · have hr' : (r : Int) ≤ 60 := by omega
    clear hr3
    go_wp2_with fail
    refine (HF.out _ ((hb0 _ _).trans (hb1.mono (by simp; omega)))).mono ?_
    rintro e w2 ⟨⟨s, rfl, hs1, hs2, hs3⟩, hb2⟩
    have HS := Lib.hid hs3
    clear hs3
    go_wp2_with fail
    go_ret
    refine ⟨⟨_, rfl, fun h => ?_⟩, (hb0 _ _).trans ((hb1.trans (hb2.mono hb1.size)).mono (by simp; omega))⟩
    have h1 : s ≤ 150 := by simp at h; omega
    exact ⟨Nat.le_trans (HR.out hr) hr, Nat.le_trans (HS.out h1) h1⟩
  · have hr' : ¬ (r : Int) ≤ 60 := by omega
    clear hr3
    go_wp2_with fail
    go_ret
    exact ⟨⟨false, rfl, fun h => by simp at h⟩, (hb0 _ _).trans (hb1.mono (by simp; omega))⟩
end Go.Proofs.YtaajkbclojmbeaaGreatDoor
namespace Go.Proofs.YtaajkbclojmbeaaGreatDoor
open Go Go.RowKit Go.Shelf
attribute [local go_sem] Oper.semAt_some

/-- The four values of a word, by place. -/
def at4 (a0 a1 a2 a3 : Int) : Fin 4 → Int
  | 0 => a0
  | 1 => a1
  | 2 => a2
  | 3 => a3

abbrev enc4 (a0 a1 a2 a3 : Int) (i : Fin 4) : Array Value := #[.int .i64 (i.val : Int), .int .u64 (at4 a0 a1 a2 a3 i)]

/-- What a round that goes on keeps: the cells of one block. -/
def KeepsB (b : Nat) (W W' : World) : Prop := ∀ j, W'.cell? ⟨b, j, none⟩ = W.cell? ⟨b, j, none⟩
theorem keepsB_t {b : Nat} {A B C : World} (h : KeepsB b A B) (k : KeepsB b B C) : KeepsB b A C := fun j => (k j).trans (h j)
theorem keepsB_b {b : Nat} {w : World} (hb : b < w.heap.size) (W : World) (l : Nat) (o o' : Obj) (hl : w.heap.size ≤ l) (h : W.heap[l]? = some o) (h1 : o.isCells = false) (h2 : o.isWalk = false) : KeepsB b W (W.putObj l o') :=
  fun j => (belowK_b (n₀ := w.heap.size) (w := w) (Nat.le_refl _) W l o o' hl h h1 h2).cell (p := ⟨b, j, none⟩) hb

set_option maxHeartbeats 1000000 in
theorem top_in (F : Fence) (n : Nat) (hf : F.fn 139) (hro : F.round = none) (a0 a1 a2 a3 : Int) (w : World) :
    CallsIn F n Tryz.prog 139 #[wd a0 a1 a2 a3] w fun e w' =>
      e = .returned (.func (.func 164) #[] #[.pointer (some ⟨w.heap.size, 0, none⟩)]) ∧ w' = w.alloc (.cells #[.int .u64 a0, .int .u64 a1, .int .u64 a2, .int .u64 a3] 34) := by
  refine callsIn_of_wp Tryz.func139 rfl hf ?_ hro
  simp only [Tryz.ntmps139, List.size_toArray, List.length_cons, List.length_nil, Nat.reduceAdd, Nat.reduceSub, Array.replicate_succ, Array.replicate_zero, List.push_toArray, List.append_toArray, List.nil_append, List.cons_append]
  gi_wp2
  go_ret
  exact ⟨rfl, rfl⟩

set_option maxRecDepth 100000 in
set_option maxHeartbeats 2000000 in
theorem top_stops (F : Fence) (n : Nat) (hf : F.fn 164) (hro : F.round = none) (hn : 1 ≤ n) (Bn : Nat) (a0 a1 a2 a3 : Int) (w : World) (hBn : Bn < w.heap.size)
    (c0 : w.cell? ⟨Bn, 0, none⟩ = some (.int .u64 a0)) (c1 : w.cell? ⟨Bn, 1, none⟩ = some (.int .u64 a1)) (c2 : w.cell? ⟨Bn, 2, none⟩ = some (.int .u64 a2)) (c3 : w.cell? ⟨Bn, 3, none⟩ = some (.int .u64 a3)) :
    SeqStopsK F n Tryz.prog 164 #[.pointer (some ⟨Bn, 0, none⟩)] (enc4 a0 a1 a2 a3) (KeepsB Bn) (fun xs => xs = [3, 2, 1, 0]) (fun pre => pre = [3] ∨ pre = [3, 2] ∨ pre = [3, 2, 1] ∨ pre = [3, 2, 1, 0]) 4 w := fun l J Jx W hW _ _ hY h0 => by
  have d3 := (hW.cell (p := ⟨Bn, 3, none⟩) hBn).trans c3
  have d2 := (hW.cell (p := ⟨Bn, 2, none⟩) hBn).trans c2
  have d1 := (hW.cell (p := ⟨Bn, 1, none⟩) hBn).trans c1
  have d0 := (hW.cell (p := ⟨Bn, 0, none⟩) hBn).trans c0
  clear c0 c1 c2 c3
  refine callsIn_of_wp Tryz.func164 rfl hf ?_ hro
  simp only [Tryz.ntmps164, List.size_toArray, List.length_cons, List.length_nil, Nat.reduceAdd, Nat.reduceSub, Array.replicate_succ, Array.replicate_zero, List.push_toArray, List.append_toArray, List.nil_append, List.cons_append]
  gi_wp2
  refine wpIn_loop_rounds 5 ?_
  rw [roundsIn_succ]
  obtain ⟨f1, t1, as1, b1, hy1, hR1⟩ := hY [] 3 W h0 (by simp)
  replace hy1 : (Instr.yield l #[.int .i64 3, .int .u64 a3]).run Tryz.prog W = .ok (.round l f1 t1 as1 b1) W := hy1
  gi_wp2
  refine hR1.mono ?_
  clear hy1 hR1
  rintro e W1 (⟨rfl, hJ1, hk⟩ | ⟨rfl, hx⟩)
  · replace d2 := (hk 2).trans d2
    replace d1 := (hk 1).trans d1
    replace d0 := (hk 0).trans d0
    clear d3 hk
    obtain ⟨f1, t1, as1, b1, hy1, hR1⟩ := hY [3] 2 W1 hJ1 (by simp)
    replace hy1 : (Instr.yield l #[.int .i64 2, .int .u64 a2]).run Tryz.prog W1 = .ok (.round l f1 t1 as1 b1) W1 := hy1
    gi_wp2
    rw [roundsIn_succ]
    gi_wp2
    refine hR1.mono ?_
    clear hy1 hR1
    rintro e W2 (⟨rfl, hJ2, hk⟩ | ⟨rfl, hx⟩)
    · replace d1 := (hk 1).trans d1
      replace d0 := (hk 0).trans d0
      clear d2 hk
      obtain ⟨f1, t1, as1, b1, hy1, hR1⟩ := hY [3, 2] 1 W2 hJ2 (by simp)
      replace hy1 : (Instr.yield l #[.int .i64 1, .int .u64 a1]).run Tryz.prog W2 = .ok (.round l f1 t1 as1 b1) W2 := hy1
      gi_wp2
      rw [roundsIn_succ]
      gi_wp2
      refine hR1.mono ?_
      clear hy1 hR1
      rintro e W3 (⟨rfl, hJ3, hk⟩ | ⟨rfl, hx⟩)
      · replace d0 := (hk 0).trans d0
        clear d1 hk
        obtain ⟨f1, t1, as1, b1, hy1, hR1⟩ := hY [3, 2, 1] 0 W3 hJ3 (by simp)
        replace hy1 : (Instr.yield l #[.int .i64 0, .int .u64 a0]).run Tryz.prog W3 = .ok (.round l f1 t1 as1 b1) W3 := hy1
        gi_wp2
        rw [roundsIn_succ]
        gi_wp2
        refine hR1.mono ?_
        clear hy1 hR1
        rintro e W4 (⟨rfl, hJ4, hk⟩ | ⟨rfl, hx⟩)
        · clear d0 hk
          gi_wp2
          rw [roundsIn_succ]
          gi_wp2
          go_end0
          exact ⟨⟨_, rfl⟩, .inl ⟨_, rfl, hJ4⟩⟩
        · gi_wp2
          refine bodyPost_ret (results_none rfl _ _ _) rfl ?_
          exact ⟨⟨_, rfl⟩, .inr ⟨_, .inr (.inr (.inr rfl)), hx⟩⟩
      · gi_wp2
        refine bodyPost_ret (results_none rfl _ _ _) rfl ?_
        exact ⟨⟨_, rfl⟩, .inr ⟨_, .inr (.inr (.inl rfl)), hx⟩⟩
    · gi_wp2
      refine bodyPost_ret (results_none rfl _ _ _) rfl ?_
      exact ⟨⟨_, rfl⟩, .inr ⟨_, .inr (.inl rfl), hx⟩⟩
  · gi_wp2
    refine bodyPost_ret (results_none rfl _ _ _) rfl ?_
    exact ⟨⟨_, rfl⟩, .inr ⟨_, .inl rfl, hx⟩⟩
end Go.Proofs.YtaajkbclojmbeaaGreatDoor
