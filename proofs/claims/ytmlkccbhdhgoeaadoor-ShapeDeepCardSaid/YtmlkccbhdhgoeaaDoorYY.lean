/- Plain: what is wrong with a value, in the landed package's order; The landed package shape: held, fault; The landed package shape: fault. -/
import Derived.Test.YtmlkccbhdhgoeaaDoorY3g
import Derived.Test.YtmlkccbhdhgoeaaDoorT12g
import Derived.Test.YtmlkccbhdhgoeaaDoorY4g
import Derived.Test.YtmlkccbhdhgoeaaDoorY5g
import Derived.Shelf.Abstract
namespace Go.Proofs.YtmlkccbhdhgoeaaDoor
open Go Go.RowKit

/-- Is what is left empty? -/
def M.emptyR (k : Int) (N lb lu : Nat) (p : Int) : Bool :=
  (if k = 1 ∨ k = 2 then 0 else N) == 0 && (if k = 5 ∨ k = 6 then 0 else lb) == 0 && (if k = 3 ∨ k = 4 ∨ k = 7 ∨ k = 8 then 0 else lu) == 0 && (if k = 8 then 0 else p) == 0
theorem fu_no {b : Bool} : M.fu b ≠ 0 ↔ b = false := by cases b <;> simp [M.fu]
theorem M.own_rest {k n : Int} {m N : Nat} {bs : List Bool} {us : List M.Va} {p : Int} (h1 : 1 ≤ k) (h8 : k ≤ 8) (X : Nat) :
    (if M.ownF k n m (.mk N bs us p) ≠ 0 then M.ownF k n m (.mk N bs us p) else if M.emptyR k N bs.length us.length p = false then 2 else X) =
      (if (k = 4 ∧ n < us.length) ∨ (k = 6 ∧ n < bs.length) then 5 else if M.ofV k n m (.mk N bs us p) = false then 2 else X) := by
  have hf : M.fu false = 2 := rfl
  have ht : M.fu true = 0 := rfl
  by_cases e1 : k = 1
  · subst e1
    simp [M.ownF, M.ofV, M.emptyR]
    by_cases c : ((M.tr (M.f32 N)).length : Int) ≤ n
    · simp only [c, decide_true, ht]
      by_cases a1 : bs = [] <;> by_cases a2 : us = [] <;> by_cases a3 : p = 0 <;> simp [a1, a2, a3]
      intro h; omega
    · simp only [c, decide_false, hf]
      simp
      intro _ _ _ h
      omega
  by_cases e2 : k = 2
  · subst e2
    simp [M.ownF, M.ofV, M.emptyR]
    by_cases c : N < 2
    · have c' : (N = 0 ∨ N = 1) := by omega
      simp [c, ht]
      by_cases a1 : bs = [] <;> by_cases a2 : us = [] <;> by_cases a3 : p = 0 <;> simp [a1, a2, a3]
      intros
      omega
    · have c1 : ¬ N = 0 := by omega
      have c2 : ¬ N = 1 := by omega
      simp [c, c1, c2, hf]
  by_cases e3 : k = 3
  · subst e3
    simp [M.ownF, M.ofV, M.emptyR]
    by_cases c : (us.length : Int) = n
    · simp [c, ht]
    · simp [c, hf]
  by_cases e4 : k = 4
  · subst e4
    simp [M.ownF, M.ofV, M.emptyR]
    by_cases c : n < (us.length : Int)
    · simp [c]
    · simp [c]
  by_cases e5 : k = 5
  · subst e5
    simp [M.ownF, M.ofV, M.emptyR]
    by_cases c : (bs.length : Int) = n
    · simp [c, ht]
    · simp [c, hf]
  by_cases e6 : k = 6
  · subst e6
    simp [M.ownF, M.ofV, M.emptyR]
    by_cases c : n < (bs.length : Int)
    · simp [c]
    · simp [c]
  by_cases e7 : k = 7
  · subst e7
    simp [M.ownF, M.ofV, M.emptyR]
    by_cases c : us.length = m
    · simp [c, ht]
    · have c' : ¬ (us.length : Int) = (m : Int) := by omega
      simp [c, c', hf]
  obtain rfl : k = 8 := by omega
  simp [M.ownF, M.ofV, M.emptyR]
  by_cases c : p < 0 ∨ (m : Int) ≤ p
  · simp only [if_pos c]
    have c' : ¬ (0 ≤ p ∧ p < m) := by omega
    rcases c with c | c
    · have d1 : ¬ 0 ≤ p := by omega
      simp [d1]
    · have d1 : ¬ p < (m : Int) := by omega
      simp [d1]
  · simp only [if_neg c]
    have d1 : 0 ≤ p := by omega
    have d2 : p < (m : Int) := by omega
    by_cases a1 : us.length = 1
    · have a1' : (us.length : Int) = 1 := by omega
      have d3 : ¬ (m : Int) ≤ p := by omega
      by_cases b1 : N = 0 <;> by_cases b2 : bs = ([] : List Bool) <;> simp [a1, ht, d1, d3, b1, b2]
    · have a1' : ¬ (us.length : Int) = 1 := by omega
      simp [a1, a1', hf, d1]
theorem M.fit_own {k n : Int} {ins : List M.Ty} {N : Nat} {bs : List Bool} {us : List M.Va} {p : Int} (h1 : 1 ≤ k) (h8 : k ≤ 8) :
    M.fitV (.mk k n ins) (.mk N bs us p) = if M.ownF k n ins.length (.mk N bs us p) ≠ 0 then M.ownF k n ins.length (.mk N bs us p) else if M.emptyR k N bs.length us.length p = false then 2 else M.fitVs k ins p 0 us := by
  rw [M.fitV_eq, M.own_rest h1 h8]
/-- What is as it must be itself is of its kind. -/
theorem M.own_of {k n : Int} {m N : Nat} {bs : List Bool} {us : List M.Va} {p : Int} (h1 : 1 ≤ k) (h8 : k ≤ 8) (ho : M.ownF k n m (.mk N bs us p) = 0) (he : M.emptyR k N bs.length us.length p = true) : M.ofV k n m (.mk N bs us p) = true := by
  have h := M.own_rest (n := n) (m := m) (N := N) (bs := bs) (us := us) (p := p) h1 h8 7
  rw [if_neg (by simp [ho]), if_neg (by simp [he])] at h
  cases hq : M.ofV k n m (.mk N bs us p) with
  | true => rfl
  | false =>
    rw [hq] at h
    split at h
    · cases h
    · simp at h
end Go.Proofs.YtmlkccbhdhgoeaaDoor
namespace Go.Proofs.YtmlkccbhdhgoeaaDoor
open Go Go.RowKit Go.Shelf

/-- The first of a row that is wrong. -/
def HeldF (us : List M.Va) (caps : Array Value) (f : Nat → M.Va → Nat) (w : World) : Prop :=
  ∀ (i N : Nat) (bs : List Bool) (vs : List M.Va) (p : Int) (ab : Option Addr) (cb : Nat) (av : Option Addr) (cv : Nat), us[i]? = some (.mk N bs vs p) → Vl w w.heap.size N bs vs ab cb av cv → ∀ W, Below w.heap.size w W →
    Calls Tryd.prog 71 (#[.int .i64 i, vv N (.slice ab bs.length cb) (.slice av vs.length cv) p] ++ caps) W fun e w' => e = .returned (.int .i64 (f i (.mk N bs vs p) : Nat)) ∧ Below W.heap.size W w'

set_option maxRecDepth 100000 in
set_option maxHeartbeats 8000000 in
theorem held_any (us : List M.Va) (au : Option Addr) (cu : Nat) (c0 c1 c2 c3 : Value) (k : Int) (ins : List M.Ty) (pick : Int) (w : World) (hV : LayV w w.heap.size us (.slice au us.length cu)) (hlong : us.length ≤ 4000)
    (H : HeldF us #[c0, c1, c2, c3] (fun i u => M.fitV (M.inT k ins pick i) u) w) :
    Calls Tryd.prog 70 #[.slice au us.length cu, .func (.func 71) #[] #[c0, c1, c2, c3]] w fun e w' => e = .returned (.int .i64 (M.fitVs k ins pick 0 us : Nat)) ∧ Below w.heap.size w w' := by
  have E1 : ∀ args w, (callFunc 71 args).run Tryd.prog w = .ok (.enter 71 args) w := enters_of Tryd.func71 (by kernel_rfl) rfl
  have HH := Lib.hid H
  obtain ⟨R, hR⟩ : ∃ R, R = M.fitVs k ins pick 0 us := ⟨_, rfl⟩
  rw [← hR]
  clear H
  go_enter Tryd.func70, Tryd.ntmps70
  go_wp2_with fail
  go_loopw [10] (fun i wr => ∃ j : Nat, j ≤ us.length ∧ i = .int .i64 j ∧ M.fitVs k ins pick 0 (us.take j) = 0 ∧ Below w.heap.size w wr) (fun i _ => us.length - (intOf i).toNat)
  case atStart => exact ⟨0, by omega, rfl, rfl, Below.refl _ _⟩
  case round =>
    obtain ⟨j, hj, rfl, hq, hW⟩ := hrel
    by_cases hlt : j < us.length
    · obtain ⟨b, o, N, bs, vs, p, ab, cb, av, cv, rfl, hbn, hxk, h7, hVl⟩ := hV.at_ hlt
      have h7r := h7.from_ hW hbn
      have e0 := h7r.c0
      have e1 := h7r.c1
      have e2 := h7r.c2
      have e3 := h7r.c3
      have e4 := h7r.c4
      have e5 := h7r.c5
      have e6 := h7r.c6
      have HC := Lib.hid (HH.out j N bs vs p ab cb av cv hxk hVl)
      dsimp only at HC
      have hbA : Below w.heap.size w (wr.alloc (.cells #[.int .u64 (M.pt 0 N), .int .u64 (M.pt 1 N), .int .u64 (M.pt 2 N), .int .u64 (M.pt 3 N), .slice ab bs.length cb, .slice av vs.length cv, .int .i64 p] 31)) := hW.alloc hW.size _
      have hj9 : j < 4000 := by omega
      have HN := Lib.hid (M.fitVs_next (k := k) (ins := ins) (pick := pick) hxk hq)
      have HF := Lib.hid (M.fitVs_first (k := k) (ins := ins) (pick := pick) hxk hq)
      clear hq hV h7 h7r hVl hlong
      generalize M.fitV (M.inT k ins pick j) (.mk N bs vs p) = q at *
      by_cases hz : q = 0
      · subst hz
        go_wp2_with fail
        refine (HC.out _ hbA).mono ?_
        rintro e w2 ⟨rfl, hb2⟩
        go_wp2_with fail
        go_roundw
        case rel => exact ⟨j + 1, by omega, by simp, HN.out, hbA.trans (hb2.mono hbA.size)⟩
        case measure => simp [intOf]; omega
      · have hz' : (((q : Nat) : Int) != 0) = true := by simp; omega
        have HR : Hid (R = q) := by show _ = _; rw [hR]; exact HF.out hz
        clear hz hR
        go_wp2_with fail
        refine (HC.out _ hbA).mono ?_
        rintro e w2 ⟨rfl, hb2⟩
        go_wp2_with fail
        go_ret
        exact ⟨by rw [HR.out]; rfl, hbA.trans (hb2.mono hbA.size)⟩
    · obtain rfl : j = us.length := by omega
      rw [List.take_length] at hq
      rw [hq] at hR
      have HR := Lib.hid hR
      clear hR hq
      go_wp2_with fail
      go_ret
      exact ⟨by rw [HR.out]; rfl, hW⟩

theorem fault_at (j : Nat) (hj : j < 8) : FaultC ((j + 1 : Nat) : Int) (faultG (j + 1)) ∧ (∀ args w, (callFunc (faultG (j + 1)) args).run Tryd.prog w = .ok (.enter (faultG (j + 1)) args) w) ∧
    RestC ((j + 1 : Nat) : Int) (restG (j + 1)) ∧ (∀ args w, (callFunc (restG (j + 1)) args).run Tryd.prog w = .ok (.enter (restG (j + 1)) args) w) := by
  match j, hj with
  | 0, _ => exact ⟨fault_1, enters_of Tryd.func37 (by kernel_rfl) rfl, rest_1, enters_of Tryd.func40 (by kernel_rfl) rfl⟩
  | 1, _ => exact ⟨fault_2, enters_of Tryd.func43 (by kernel_rfl) rfl, rest_2, enters_of Tryd.func40 (by kernel_rfl) rfl⟩
  | 2, _ => exact ⟨fault_3, enters_of Tryd.func48 (by kernel_rfl) rfl, rest_3, enters_of Tryd.func50 (by kernel_rfl) rfl⟩
  | 3, _ => exact ⟨fault_4, enters_of Tryd.func52 (by kernel_rfl) rfl, rest_4, enters_of Tryd.func50 (by kernel_rfl) rfl⟩
  | 4, _ => exact ⟨fault_5, enters_of Tryd.func55 (by kernel_rfl) rfl, rest_5, enters_of Tryd.func57 (by kernel_rfl) rfl⟩
  | 5, _ => exact ⟨fault_6, enters_of Tryd.func58 (by kernel_rfl) rfl, rest_6, enters_of Tryd.func57 (by kernel_rfl) rfl⟩
  | 6, _ => exact ⟨fault_7, enters_of Tryd.func61 (by kernel_rfl) rfl, rest_7, enters_of Tryd.func50 (by kernel_rfl) rfl⟩
  | 7, _ => exact ⟨fault_8, enters_of Tryd.func63 (by kernel_rfl) rfl, rest_8, enters_of Tryd.func64 (by kernel_rfl) rfl⟩
theorem of_at (j : Nat) (hj : j + 1 = 3 ∨ j + 1 = 4 ∨ j + 1 = 7 ∨ j + 1 = 8) : ∃ g, ofF (j + 1) = .func (.func g) #[] #[] ∧ OfC ((j + 1 : Nat) : Int) g ∧ ∀ args w, (callFunc g args).run Tryd.prog w = .ok (.enter g args) w := by
  rcases hj with h | h | h | h
  · obtain rfl : j = 2 := by omega
    exact ⟨_, rfl, of_3, enters_of Tryd.func51 (by kernel_rfl) rfl⟩
  · obtain rfl : j = 3 := by omega
    exact ⟨_, rfl, of_4, enters_of Tryd.func51 (by kernel_rfl) rfl⟩
  · obtain rfl : j = 6 := by omega
    exact ⟨_, rfl, of_7, enters_of Tryd.func62 (by kernel_rfl) rfl⟩
  · obtain rfl : j = 7 := by omega
    exact ⟨_, rfl, of_8, enters_of Tryd.func65 (by kernel_rfl) rfl⟩

/-- What fault must do, of values of a size. -/
def FaultK (b : Nat) (cs : List Nat) (z : Nat) : Prop := ∀ (k n : Int) (ts : List M.Ty) (a : Option Addr) (cap : Nat) (N : Nat) (bs : List Bool) (us : List M.Va) (p : Int) (ab : Option Addr) (cb : Nat) (au : Option Addr) (cu : Nat) (w : World), SizeOf.sizeOf us ≤ z → LayT w w.heap.size ts (.slice a ts.length cap) → Vl w w.heap.size N bs us ab cb au cu →
  (∃ e, M.chkT e (.mk k n ts) = 0) → Kinds w w.heap.size b cs → M.cntVs us ≤ 200 →
  Calls Tryd.prog 32 #[.map (some b), tv k n (.slice a ts.length cap), vv N (.slice ab bs.length cb) (.slice au us.length cu) p] w fun e w' => e = .returned (.int .i64 (M.fitV (.mk k n ts) (.mk N bs us p) : Nat)) ∧ Below w.heap.size w w'

set_option maxRecDepth 100000 in
set_option maxHeartbeats 8000000 in
/-- The closure that goes on into an item. -/
theorem into_any (b : Nat) (cs : List Nat) (z : Nat) (ih : FaultK b cs z) (g : FuncId) (k n : Int) (ts : List M.Ty) (a : Option Addr) (cap : Nat) (hg : OfC k g) (hen : ∀ args w, (callFunc g args).run Tryd.prog w = .ok (.enter g args) w)
    (Sm Sk St Sv : Nat) (p : Int) (i N : Nat) (bs : List Bool) (us : List M.Va) (q : Int) (ab : Option Addr) (cb : Nat) (au : Option Addr) (cu : Nat) (w : World) (hs : SizeOf.sizeOf us ≤ z) (hT : LayT w w.heap.size ts (.slice a ts.length cap)) (hlen : ts.length ≤ 1000) (hV : Vl w w.heap.size N bs us ab cb au cu)
    (j : Nat) (k' m' : Int) (ts' : List M.Ty) (hj : j < ts.length) (hxj : ts[j]? = some (.mk k' m' ts')) (hi : (k = 7 ∧ i = j) ∨ (k ≠ 7 ∧ k = 8 ∧ p = j) ∨ (k ≠ 7 ∧ k ≠ 8 ∧ j = 0)) (hch : ∃ e, M.chkT e (.mk k' m' ts') = 0) (hK : Kinds w w.heap.size b cs) (hc : M.cntVs us ≤ 200)
    (m0 : w.cell? ⟨Sm, 0, none⟩ = some (.map (some b))) (k4 : w.cell? ⟨Sk, 4, none⟩ = some (.func (.func g) #[] #[])) (hB : BoxT w St k n (.slice a ts.length cap)) (v6 : w.cell? ⟨Sv, 6, none⟩ = some (.int .i64 p))
    (l0 : Sm < w.heap.size) (l1 : Sk < w.heap.size) (l2 : St < w.heap.size) (l3 : Sv < w.heap.size) :
    Calls Tryd.prog 71 #[.int .i64 i, vv N (.slice ab bs.length cb) (.slice au us.length cu) q, .pointer (some ⟨Sm, 0, none⟩), .pointer (some ⟨Sk, 0, none⟩), .pointer (some ⟨St, 0, none⟩), .pointer (some ⟨Sv, 0, none⟩)] w
      fun e w' => e = .returned (.int .i64 (M.fitV (.mk k' m' ts') (.mk N bs us q) : Nat)) ∧ Below w.heap.size w w' := by
  obtain ⟨w0, hw0⟩ : ∃ w0, w.alloc (.cells #[.int .u64 (M.pt 0 N), .int .u64 (M.pt 1 N), .int .u64 (M.pt 2 N), .int .u64 (M.pt 3 N), .slice ab bs.length cb, .slice au us.length cu, .int .i64 q] 31) = w0 := ⟨_, rfl⟩
  have hb0 : Below w.heap.size w w0 := by rw [← hw0]; (repeat (first | exact Below.refl _ _ | refine Below.drew ?_ | refine Below.alloc ?_ (by first | omega | (simp; omega) | simp) _ | refine Below.setCell ?_ (by first | omega | (simp; omega) | simp) _))
  have hz0 : w0.heap.size = w.heap.size + 1 := by rw [← hw0]; simp
  have hv0 : Cells7 w0 w.heap.size 0 N (.slice ab bs.length cb) (.slice au us.length cu) q := by rw [← hw0]; exact Cells7.new _ _ _ _ _ _
  obtain ⟨R, hR⟩ : ∃ R, R = M.fitV (.mk k' m' ts') (.mk N bs us q) := ⟨_, rfl⟩
  rw [← hR]
  have HW := Lib.hid hw0
  clear hw0
  go_enter Tryd.func71, Tryd.ntmps71
  go_wp2_with fail
  rw [HW.out]
  have mixed : Tryd.prog.follows .mixedOrders = true := by kernel_rfl
  obtain ⟨b', o', k2, m2, ts2, at', ct', rfl, hbn, hx2, e0, e1, e2, hLt⟩ := hT.at_ hj
  rw [hxj] at hx2
  cases hx2
  have hbb := bcell hb0
  have M0 := (hbb.1 _ 0 l0).trans m0
  have K4 := (hbb.1 _ 4 l1).trans k4
  have T0 := (hbb.1 _ 0 l2).trans hB.c0
  have T1 := (hbb.1 _ 1 l2).trans hB.c1
  have T2 := (hbb.1 _ 2 l2).trans hB.c2
  have V6 := (hbb.1 _ 6 l3).trans v6
  have E0 := (hbb.1 _ _ hbn).trans e0
  have E1 := (hbb.1 _ _ hbn).trans e1
  have E2 := (hbb.1 _ _ hbn).trans e2
  have a0 := hv0.c0
  have a1 := hv0.c1
  have a2 := hv0.c2
  have a3 := hv0.c3
  have a4 := hv0.c4
  have a5 := hv0.c5
  have a6 := hv0.c6
  simp only [Nat.zero_add] at a1 a2 a3 a4 a5 a6
  have HO : Hid (∀ W, Below w0.heap.size w0 W → Calls Tryd.prog g #[tv k n (.slice (some ⟨b', o', none⟩) ts.length cap), .int .i64 p, .int .i64 i] W fun e w' => e = .returned (tv k' m' (.slice at' ts'.length ct')) ∧ Below W.heap.size W w') := fun W hC =>
    hg n ts.length cap b' o' p i j k' m' at' ts'.length ct' W hj (by have := hC.size; omega) hlen hi ((hC.cell (p := ⟨b', o' + j * 3, none⟩) (by simp; omega)).trans E0) ((hC.cell (p := ⟨b', o' + j * 3 + 1, none⟩) (by simp; omega)).trans E1) ((hC.cell (p := ⟨b', o' + j * 3 + 2, none⟩) (by simp; omega)).trans E2)
  have HI : Hid (∀ W, Below w0.heap.size w0 W → Calls Tryd.prog 32 #[.map (some b), tv k' m' (.slice at' ts'.length ct'), vv N (.slice ab bs.length cb) (.slice au us.length cu) q] W fun e w' => e = .returned (.int .i64 (R : Nat)) ∧ Below W.heap.size W w') := fun W hC => by
    have hw : Below w.heap.size w W := hb0.trans (hC.mono hb0.size)
    rw [hR]
    exact ih k' m' ts' at' ct' N bs us q ab cb au cu W hs ((hLt.from_ hw).mono hw.size) ((hV.from_ hw).mono hw.size) hch ((hK.from_ hw).mono hw.size) hc
  refine region_quiet (C := fun W => Below w0.heap.size w0 W) mixed (by kernel_rfl) (Below.drew (Below.refl _ _)) ?_
  refine quiet_val (.map (some b)) (by rfl) (fun W hC => by have x := (hC.cell (p := ⟨Sm, 0, none⟩) (by simp; omega)).trans M0; go_simp) ?_
  simp only [Act.put, List.setIfInBounds_toArray, List.set_cons_zero, List.set_cons_succ]
  refine quiet_val (.pointer (some ⟨Sk, 4, none⟩)) (by rfl) (fun W hC => by go_simp) ?_
  simp only [Act.put, List.setIfInBounds_toArray, List.set_cons_zero, List.set_cons_succ]
  refine quiet_val (.func (.func g) #[] #[]) (by rfl) (fun W hC => by have x := (hC.cell (p := ⟨Sk, 4, none⟩) (by simp; omega)).trans K4; go_simp) ?_
  simp only [Act.put, List.setIfInBounds_toArray, List.set_cons_zero, List.set_cons_succ]
  refine quiet_val (tv k n (.slice (some ⟨b', o', none⟩) ts.length cap)) (by rfl) (fun W hC => by have x0 := (hC.cell (p := ⟨St, 0, none⟩) (by simp; omega)).trans T0; have x1 := (hC.cell (p := ⟨St, 1, none⟩) (by simp; omega)).trans T1; have x2 := (hC.cell (p := ⟨St, 2, none⟩) (by simp; omega)).trans T2; go_simp) ?_
  simp only [Act.put, List.setIfInBounds_toArray, List.set_cons_zero, List.set_cons_succ]
  refine quiet_val (.pointer (some ⟨Sv, 6, none⟩)) (by rfl) (fun W hC => by go_simp) ?_
  simp only [Act.put, List.setIfInBounds_toArray, List.set_cons_zero, List.set_cons_succ]
  refine quiet_val (.int .i64 p) (by rfl) (fun W hC => by have x := (hC.cell (p := ⟨Sv, 6, none⟩) (by simp; omega)).trans V6; go_simp) ?_
  simp only [Act.put, List.setIfInBounds_toArray, List.set_cons_zero, List.set_cons_succ]
  refine quiet_val (.int .i64 i) (by rfl) (fun W hC => by go_simp) ?_
  simp only [Act.put, List.setIfInBounds_toArray, List.set_cons_zero, List.set_cons_succ]
  refine quiet_call (tv k' m' (.slice at' ts'.length ct')) g #[tv k n (.slice (some ⟨b', o', none⟩) ts.length cap), .int .i64 p, .int .i64 i] (by rfl) (fun W _ => by have hen' := hen; go_simp) (fun W hC => (HO.out W hC).mono fun _ _ h => ⟨h.1, hC.trans (h.2.mono hC.size)⟩) ?_
  simp only [Act.put, List.setIfInBounds_toArray, List.set_cons_zero, List.set_cons_succ]
  refine quiet_val (vv N (.slice ab bs.length cb) (.slice au us.length cu) q) (by rfl) (fun W hC => by have x0 := (hC.cell (p := ⟨w.heap.size, 0, none⟩) (by simp; omega)).trans a0; have x1 := (hC.cell (p := ⟨w.heap.size, 1, none⟩) (by simp; omega)).trans a1; have x2 := (hC.cell (p := ⟨w.heap.size, 2, none⟩) (by simp; omega)).trans a2; have x3 := (hC.cell (p := ⟨w.heap.size, 3, none⟩) (by simp; omega)).trans a3; have x4 := (hC.cell (p := ⟨w.heap.size, 4, none⟩) (by simp; omega)).trans a4; have x5 := (hC.cell (p := ⟨w.heap.size, 5, none⟩) (by simp; omega)).trans a5; have x6 := (hC.cell (p := ⟨w.heap.size, 6, none⟩) (by simp; omega)).trans a6; go_simp) ?_
  simp only [Act.put, List.setIfInBounds_toArray, List.set_cons_zero, List.set_cons_succ]
  refine quiet_call (.int .i64 (R : Nat)) 32 #[.map (some b), tv k' m' (.slice at' ts'.length ct'), vv N (.slice ab bs.length cb) (.slice au us.length cu) q] (by rfl) (fun W _ => by go_simp) (fun W hC => (HI.out W hC).mono fun _ _ h => ⟨h.1, hC.trans (h.2.mono hC.size)⟩) ?_
  simp only [Act.put, List.setIfInBounds_toArray, List.set_cons_zero, List.set_cons_succ]
  refine quiet_val (.int .i64 (R : Nat)) (by rfl) (fun W hC => by go_simp) ?_
  simp only [Act.put, List.setIfInBounds_toArray, List.set_cons_zero, List.set_cons_succ]
  refine wpQuiet_nil ?_
  intro w1 hb1
  go_wp2_with fail
  go_ret
  exact ⟨rfl, hb0.trans (hb1.mono hb0.size)⟩
end Go.Proofs.YtmlkccbhdhgoeaaDoor
namespace Go.Proofs.YtmlkccbhdhgoeaaDoor
open Go Go.RowKit Go.Shelf

/-- A function value, or none, is stored. -/
def IsG (V : Value) : Prop := V = .nilFunc ∨ ∃ F xa xb, V = .func F xa xb
theorem store_g {V : Value} (hV : IsG V) (W : World) (p : Addr) (h1 : (W.cell? p).isSome = true) (h2 : W.frozen? p = false) : (store p V).run Tryd.prog W = .ok () (W.setCell p V) := by
  rw [run_store _ _ _ _ _ (by rcases hV with rfl | ⟨F, xa, xb, rfl⟩ <;> rfl)]
  obtain ⟨v, hv⟩ := Option.isSome_iff_exists.1 h1
  rw [hv]
  simp [h2]
theorem isG_size (j : Nat) : IsG (sizeV j) := by unfold sizeV; split <;> first | exact .inr ⟨_, _, _, rfl⟩ | exact .inl rfl
theorem isG_of (j : Nat) : IsG (ofF j) := by unfold ofF; split <;> first | exact .inr ⟨_, _, _, rfl⟩ | exact .inl rfl

set_option maxRecDepth 100000 in
set_option maxHeartbeats 8000000 in
theorem kfault_n (b : Nat) (cs : List Nat) (z : Nat) : FaultK b cs z := by
  induction z with
  | zero => intro k n ts a cap N bs us p ab cb au cu w h; cases us <;> simp at h
  | succ z ih =>
    intro k n ts a cap N bs us p ab cb au cu w hs hT hV hch hK hc
    have hk : 1 ≤ k ∧ k ≤ 8 := by obtain ⟨e, he⟩ := hch; exact (M.chkT_ok.1 he).1
    have htl : ts.length ≤ 1000 := by
      obtain ⟨e, he⟩ := hch
      have h1 := (M.chkT_ok.1 he).2.1
      unfold M.formT at h1
      split at h1
      · simp at h1; simp [h1.1]
      · split at h1
        · simp at h1; simp [h1.1]
        · split at h1
          · simp at h1; omega
          · split at h1
            · simp at h1; simp [h1.1]
            · split at h1
              · simp at h1; omega
              · simp at h1; omega
    have hul : us.length ≤ 200 := Nat.le_trans (M.length_cntV us) hc
    have hlongs := hV.longs
    obtain ⟨j, c, hkj, hj, hH, hlk⟩ := hK.at_ k hk.1 hk.2
    obtain ⟨hf, hfe, hr, hre⟩ := fault_at j hj
    rw [← hkj] at hf hr
    obtain ⟨w0, hw0⟩ : ∃ w0, ((w.alloc (.cells #[.map (some b)] 47)).alloc (.cells #[.int .i64 k, .int .i64 n, .slice a ts.length cap] 24)).alloc (.cells #[.int .u64 (M.pt 0 N), .int .u64 (M.pt 1 N), .int .u64 (M.pt 2 N), .int .u64 (M.pt 3 N), .slice ab bs.length cb, .slice au us.length cu, .int .i64 p] 31) = w0 := ⟨_, rfl⟩
    have hb0 : Below w.heap.size w w0 := by rw [← hw0]; (repeat (first | exact Below.refl _ _ | refine Below.drew ?_ | refine Below.alloc ?_ (by first | omega | (simp; omega) | simp) _ | refine Below.setCell ?_ (by first | omega | (simp; omega) | simp) _))
    have hz0 : w0.heap.size = w.heap.size + 3 := by rw [← hw0]; simp
    have hm0 : w0.cell? ⟨w.heap.size, 0, none⟩ = some (.map (some b)) := by rw [← hw0]; simp [go_sem]
    have hB0 : BoxT w0 (w.heap.size + 1) k n (.slice a ts.length cap) := by
      rw [← hw0]
      exact ⟨by simp [go_sem], by simp [go_sem], by simp [go_sem]⟩
    have hv0 : Cells7 w0 (w.heap.size + 1 + 1) 0 N (.slice ab bs.length cb) (.slice au us.length cu) p := by
      rw [← hw0]
      exact ⟨by simp [go_sem], by simp [go_sem], by simp [go_sem], by simp [go_sem], by simp [go_sem], by simp [go_sem], by simp [go_sem]⟩
    have hlk0 := hlk false w0 hb0
    simp only [ent] at hlk0
    rw [← hw0] at hlk0
    have HK := Lib.hid hkj
    have HW := Lib.hid hw0
    have t0 := hB0.c0
    clear hw0 hkj hlk
    have s0 := fun W p => store_g (V := hasV c) (.inr ⟨_, _, _, rfl⟩) W p
    have s1 := fun W p => store_g (isG_size (j + 1)) W p
    have s2 := fun W p => store_g (V := .func (.func (faultG (j + 1))) #[] #[]) (.inr ⟨_, _, _, rfl⟩) W p
    have s3 := fun W p => store_g (V := .func (.func (restG (j + 1))) #[] #[]) (.inr ⟨_, _, _, rfl⟩) W p
    have s4 := fun W p => store_g (isG_of (j + 1)) W p
    obtain ⟨R, hR⟩ : ∃ R, R = M.fitV (.mk k n ts) (.mk N bs us p) := ⟨_, rfl⟩
    rw [← hR]
    rw [M.fit_own hk.1 hk.2] at hR
    have HRR := Lib.hid hR
    clear hR
    go_enter Tryd.func32, Tryd.ntmps32
    go_wp2_with fail
    rw [HW.out]
    obtain ⟨w1, hw1⟩ : ∃ w1, w0.alloc (.cells #[hasV c, sizeV (j + 1), .func (.func (faultG (j + 1))) #[] #[], .func (.func (restG (j + 1))) #[] #[], ofF (j + 1)] 59) = w1 := ⟨_, rfl⟩
    rw [hw1]
    have hb1 : Below w0.heap.size w0 w1 := by rw [← hw1]; exact (Below.refl _ _).alloc (Nat.le_refl _) _
    have hz1 : w1.heap.size = w.heap.size + 4 := by rw [← hw1]; simp; omega
    have hbw1 : Below w.heap.size w w1 := hb0.trans (hb1.mono hb0.size)
    have hk3 : w1.cell? ⟨w.heap.size + 1 + 1 + 1, 3, none⟩ = some (.func (.func (restG (j + 1))) #[] #[]) := by rw [← hw1, show w.heap.size + 1 + 1 + 1 = w0.heap.size by omega]; simp [go_sem]
    have hk4 : w1.cell? ⟨w.heap.size + 1 + 1 + 1, 4, none⟩ = some (ofF (j + 1)) := by rw [← hw1, show w.heap.size + 1 + 1 + 1 = w0.heap.size by omega]; simp [go_sem]
    have hm1 : w1.cell? ⟨w.heap.size, 0, none⟩ = some (.map (some b)) := (hb1.cell (p := ⟨w.heap.size, 0, none⟩) (by simp; omega)).trans hm0
    have hB1 := hB0.from_ hb1 (by omega)
    have hv1 := hv0.from_ hb1 (by omega)
    clear hw1 hm0 hB0 hv0 s0 s1 s2 s3 s4 hlk0 HW t0
    have HF := Lib.hid (hf n ts a cap N bs us p ab cb au cu w1 htl ((hV.from_ hbw1).mono hbw1.size))
    refine HF.out.mono ?_
    rintro e w2 ⟨rfl, hb2⟩
    have hbw2 := hbw1.trans (hb2.mono hbw1.size)
    generalize ho : M.ownF k n ts.length (.mk N bs us p) = q at *
    by_cases hq : q = 0
    · subst hq
      have hR := HRR.out
      rw [if_neg (by simp)] at hR
      have HRS := Lib.hid hR
      clear hR HRR
      have HO := Lib.hid ho
      clear ho
      have hv2 := hv1.from_ hb2 (by omega)
      have v0 := hv2.c0
      have v1 := hv2.c1
      have v2 := hv2.c2
      have v3 := hv2.c3
      have v4 := hv2.c4
      have v5 := hv2.c5
      have v6 := hv2.c6
      simp only [Nat.zero_add] at v1 v2 v3 v4 v5 v6
      have hk3' := (hb2.cell (p := ⟨w.heap.size + 1 + 1 + 1, 3, none⟩) (by simp; omega)).trans hk3
      have HR := Lib.hid (hr N bs.length us.length p ab cb au cu w2 hV.hN hlongs.1 hlongs.2)
      go_wp2_with fail
      refine HR.out.mono ?_
      rintro e w3 ⟨N', lb', lu', p', ab', cb', au', cu', rfl, ⟨e1, e2, e3, e4⟩, hb3⟩
      have hem : M.emptyR k N bs.length us.length p = (N' == 0 && lb' == 0 && lu' == 0 && p' == 0) := by unfold M.emptyR; rw [← e1, ← e2, ← e3, ← e4]
      have hN' : M.In N' := by
        rw [e1]
        split
        · unfold M.In; omega
        · exact hV.hN
      have hl1 : lb' ≤ 9223372036854775807 := by rw [e2]; split <;> omega
      have hl2 : lu' ≤ 9223372036854775807 := by rw [e3]; split <;> omega
      have HE := Lib.hid (empty_any N' hN' lb' lu' hl1 hl2 ab' cb' au' cu' p' w3)
      have hbw3 := hbw2.trans (hb3.mono hbw2.size)
      have hb13 : Below w1.heap.size w1 w3 := hb2.trans (hb3.mono hb2.size)
      rw [hem] at HRS
      have HEM := Lib.hid hem
      clear e1 e2 e3 e4 hl1 hl2 hN' hem v0 v1 v2 v3 v4 v5 v6 hk3' hv2 HR
      go_wp2_with fail
      refine HE.out.mono ?_
      rintro e w4 ⟨rfl, hb4⟩
      have hbw4 := hbw3.trans (hb4.mono hbw3.size)
      have hb14 := hb13.trans (hb4.mono hb13.size)
      generalize (N' == 0 && lb' == 0 && lu' == 0 && p' == 0) = q2 at *
      cases q2 with
      | false =>
        clear HE
        go_wp2_with fail
        go_ret
        exact ⟨by rw [HRS.out]; rfl, hbw4⟩
      | true =>
        have hmf : ∀ (fn : Fn) (first cap : Array Value) (w : World), (Instr.makeFunc fn first cap).run Tryd.prog w = .ok (.func fn first cap) w := fun _ _ _ _ => rfl
        have v5 := (hv1.from_ hb14 (by omega)).c5
        simp only [Nat.zero_add] at v5
        have HH : Hid (Calls Tryd.prog 70 #[.slice au us.length cu, .func (.func 71) #[] #[.pointer (some ⟨w.heap.size, 0, none⟩), .pointer (some ⟨w.heap.size + 1 + 1 + 1, 0, none⟩), .pointer (some ⟨w.heap.size + 1, 0, none⟩), .pointer (some ⟨w.heap.size + 1 + 1, 0, none⟩)]] w4 fun e w' => e = .returned (.int .i64 (M.fitVs k ts p 0 us : Nat)) ∧ Below w4.heap.size w4 w') := by
          refine held_any us au cu _ _ _ _ k ts p w4 ((hV.v.from_ hbw4).mono hbw4.size) (by omega) ?_
          intro i N2 bs2 vs p2 ab2 cb2 av cv hxi hVi W hbW
          have hi := (List.getElem?_eq_some_iff.1 hxi).1
          obtain ⟨d, hd⟩ := hch
          obtain ⟨j2, k', m', ts', hj2, hx2, hin, hrel⟩ := M.in_at (M.own_of hk.1 hk.2 HO.out HEM.out) hd hi
          have hj4 : j + 1 = 3 ∨ j + 1 = 4 ∨ j + 1 = 7 ∨ j + 1 = 8 := by
            have h1 := HEM.out
            have h2 := HK.out
            unfold M.emptyR at h1
            simp at h1
            have h3 := h1.1.2
            by_cases h : k = 3 ∨ k = 4 ∨ k = 7 ∨ k = 8
            · omega
            · simp only [not_or] at h
              have h4 := h3 h.1 h.2.1 h.2.2.1 h.2.2.2
              rw [h4] at hi
              simp at hi
          obtain ⟨g, hgv, hgc, hge⟩ := of_at j hj4
          rw [← HK.out] at hgc
          have hsx := size_va hxi
          rw [M.Va.mk.sizeOf_spec] at hsx
          have hcx := M.cntV_part (List.mem_of_getElem? hxi)
          rw [M.cntV] at hcx
          have hb1W := hb14.trans (hbW.mono hb14.size)
          have hbwW := hbw4.trans (hbW.mono hbw4.size)
          have hzW := hb1W.size
          dsimp only
          rw [hin]
          refine into_any b cs z ih g k n ts a cap hgc hge w.heap.size (w.heap.size + 1 + 1 + 1) (w.heap.size + 1) (w.heap.size + 1 + 1) p i N2 bs2 vs p2 ab2 cb2 av cv W (by omega) ((hT.from_ hbwW).mono hbwW.size) htl ((hVi.from_ hbW).mono hbW.size) j2 k' m' ts' hj2 hx2 hrel
            ⟨d + 1, M.chkTs_ok.1 (M.chkT_ok.1 hd).2.2.2 _ (List.mem_of_getElem? hx2)⟩ ((hK.from_ hbwW).mono hbwW.size) (by omega) ((hb1W.cell (p := ⟨w.heap.size, 0, none⟩) (by simp; omega)).trans hm1) ?_ (hB1.from_ hb1W (by omega)) ?_ (by omega) (by omega) (by omega) (by omega)
          · rw [← hgv]
            exact (hb1W.cell (p := ⟨w.heap.size + 1 + 1 + 1, 4, none⟩) (by simp; omega)).trans hk4
          · have := (hv1.from_ hb1W (by omega)).c6
            simpa only [Nat.zero_add] using this
        clear HE
        go_wp2_with fail
        refine HH.out.mono ?_
        rintro e w5 ⟨rfl, hb5⟩
        go_wp2_with fail
        go_ret
        exact ⟨by rw [HRS.out]; rfl, hbw4.trans (hb5.mono hbw4.size)⟩
    · have hR := HRR.out
      rw [if_pos hq] at hR
      have HRS := Lib.hid hR
      clear hR HRR
      have hq' : (((q : Nat) : Int) != 0) = true := by simp; omega
      clear ho hq
      go_wp2_with fail
      go_ret
      exact ⟨by rw [HRS.out]; rfl, hbw2⟩
end Go.Proofs.YtmlkccbhdhgoeaaDoor
