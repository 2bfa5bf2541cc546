/- WordOrder: the walk: of two words one is below the other one, or they are the same; a word that is below one is so by bytes, too. -/
import Derived.Test.YtcnngpmganhjoaaDoorK2
namespace Go.Proofs.YtcnngpmganhjoaaDoor
open Go Go.RowKit

/-- What such a region leaves: the answer is true, and what every operation keeps. -/
def RX (k : Nat) (S : World → Prop) (e : Exit) (b : Act) (U : World) : Prop := e = .normal ∧ b.tmps[k]? = some (.bool true) ∧ b.defers = [] ∧ S U

/-- Three words in memory, and nothing old has changed. -/
structure SO (w : World) (b0 b1 b2 : Nat) (A B C : Nat) (W : World) : Prop where
  h0 : W4 W b0 (M.pt 0 A) (M.pt 1 A) (M.pt 2 A) (M.pt 3 A)
  h1 : W4 W b1 (M.pt 0 B) (M.pt 1 B) (M.pt 2 B) (M.pt 3 B)
  h2 : W4 W b2 (M.pt 0 C) (M.pt 1 C) (M.pt 2 C) (M.pt 3 C)
  low : Below w.heap.size w W
theorem SO.keep {w W W' : World} {b0 b1 b2 A B C : Nat} (h : SO w b0 b1 b2 A B C W) (hb : Below W.heap.size W W') : SO w b0 b1 b2 A B C W' :=
  ⟨h.h0.below hb, h.h1.below hb, h.h2.below hb, h.low.trans (hb.mono h.low.size)⟩

set_option maxRecDepth 100000 in
set_option maxHeartbeats 8000000 in
theorem or_a_all (w W : World) (b0 b1 b2 A B C : Nat) (fa fb : List UInt8) (heq : ∀ w : World, (Op.equalIn 10000 24 (wn A) (wn B)).run Tryd.prog w = .ok false w) (hlt : Hid (Op.bytesLess fa fb = true)) (hbc : Hid (∀ w : World, Calls Tryd.prog 17 #[wn B, wn C] w fun e w' => e = .returned (.bool true) ∧ Below w.heap.size w w')) (hac : Hid (∀ w : World, Calls Tryd.prog 17 #[wn A, wn C] w fun e w' => e = .returned (.bool true) ∧ Below w.heap.size w w')) (hfa : Hid (∀ w : World, Calls Tryd.prog 25 #[wn A] w fun e w' => e = .returned (.string ⟨fa.toArray⟩) ∧ Below w.heap.size w w')) (hfb : Hid (∀ w : World, Calls Tryd.prog 25 #[wn B] w fun e w' => e = .returned (.string ⟨fb.toArray⟩) ∧ Below w.heap.size w w')) (x0 x1 x2 x10 x11 x12 x13 x14 x15 x16 x17 x18 x19 x20 x21 x22 x23 x24 x25 x26 x27 x28 x29 x30 x31 x32 x33 x34 x35 x36 x37 x38 x39 x40 x41 x42 x43 x44 x45 x46 x47 x48 x49 x50 x51 x52 x53 x54 x55 x56 x57 x58 x59 x60 x61 x62 : Value) (ops : Array Oper) (hcode : Tryd.f7.body.bind (regAt 6) = some (.region 6 ops true)) (hS : SO w b0 b1 b2 A B C W) :
    wpAnyH Tryd.prog .any ops (RX 6 (SO w b0 b1 b2 A B C)) (SO w b0 b1 b2 A B C) 45 #[false, false, false, false, false, false, false, false, false, false, false, false, false, false, false, false, false, false, false, false, false, false, false, false, false, false, false, false, false, false, false, false, false, false, false, false, false, false, false, false, false, false, false, false, false] { tmps := #[x0, x1, x2, .pointer (some ⟨b0, 0, none⟩), .pointer (some ⟨b1, 0, none⟩), .pointer (some ⟨b2, 0, none⟩), .bool false, .bool true, .bool true, .bool false, x10, x11, x12, x13, x14, x15, x16, x17, x18, x19, x20, x21, x22, x23, x24, x25, x26, x27, x28, x29, x30, x31, x32, x33, x34, x35, x36, x37, x38, x39, x40, x41, x42, x43, x44, x45, x46, x47, x48, x49, x50, x51, x52, x53, x54, x55, x56, x57, x58, x59, x60, x61, x62], defers := [] } W := by
  simp only [Tryd.f7, Option.bind_some, regAt, Option.some_or, Option.none_or, if_true, if_false, Nat.reduceEqDiff, Option.some.injEq, Code.region.injEq, true_and, and_true] at hcode
  subst hcode
  have hlu := hlt.out
  refine wpAnyH_take (i := 0) (v := ?_) rfl (by kernel_rfl) (by kernel_rfl) (by kernel_rfl) (fun _ _ _ h => nomatch h.1) (Or.inl ⟨by rfl, ?_⟩) hS ?_
  rotate_left
  · intro w hSw
    obtain ⟨⟨p0, p1, p2, p3, lp⟩, ⟨q0, q1, q2, q3, lq⟩, ⟨t0, t1, t2, t3, lt⟩, _⟩ := hSw
    go_simp
    first | done | with_reducible rfl
  simp only [Act.put, List.getElem_toArray, List.getElem_cons_zero, List.setIfInBounds_toArray, List.set_cons_zero, List.set_cons_succ]
  refine wpAnyH_take (i := 1) (v := ?_) rfl (by kernel_rfl) (by kernel_rfl) (by kernel_rfl) (fun _ _ _ h => nomatch h.1) (Or.inl ⟨by rfl, ?_⟩) hS ?_
  rotate_left
  · intro w hSw
    obtain ⟨⟨p0, p1, p2, p3, lp⟩, ⟨q0, q1, q2, q3, lq⟩, ⟨t0, t1, t2, t3, lt⟩, _⟩ := hSw
    go_simp
    first | done | with_reducible rfl
  simp only [Act.put, List.getElem_toArray, List.getElem_cons_succ, List.getElem_cons_zero, List.setIfInBounds_toArray, List.set_cons_zero, List.set_cons_succ]
  refine wpAnyH_take (i := 2) (v := ?_) rfl (by kernel_rfl) (by kernel_rfl) (by kernel_rfl) (fun _ _ _ h => nomatch h.1) (Or.inl ⟨by rfl, ?_⟩) hS ?_
  rotate_left
  · intro w hSw
    obtain ⟨⟨p0, p1, p2, p3, lp⟩, ⟨q0, q1, q2, q3, lq⟩, ⟨t0, t1, t2, t3, lt⟩, _⟩ := hSw
    go_simp
    first | done | with_reducible rfl
  simp only [Act.put, List.getElem_toArray, List.getElem_cons_succ, List.getElem_cons_zero, List.setIfInBounds_toArray, List.set_cons_zero, List.set_cons_succ]
  refine wpAnyH_take (i := 3) (v := ?_) rfl (by kernel_rfl) (by kernel_rfl) (by kernel_rfl) (fun _ _ _ h => nomatch h.1) (Or.inl ⟨by rfl, ?_⟩) hS ?_
  rotate_left
  · intro w hSw
    obtain ⟨⟨p0, p1, p2, p3, lp⟩, ⟨q0, q1, q2, q3, lq⟩, ⟨t0, t1, t2, t3, lt⟩, _⟩ := hSw
    go_simp
    first | done | with_reducible rfl
  simp only [Act.put, List.getElem_toArray, List.getElem_cons_succ, List.getElem_cons_zero, List.setIfInBounds_toArray, List.set_cons_zero, List.set_cons_succ]
  refine wpAnyH_take (i := 4) (v := ?_) rfl (by kernel_rfl) (by kernel_rfl) (by kernel_rfl) (fun _ _ _ h => nomatch h.1) (Or.inl ⟨by rfl, ?_⟩) hS ?_
  rotate_left
  · intro w hSw
    obtain ⟨⟨p0, p1, p2, p3, lp⟩, ⟨q0, q1, q2, q3, lq⟩, ⟨t0, t1, t2, t3, lt⟩, _⟩ := hSw
    go_simp
    first | done | with_reducible rfl
  simp only [Act.put, List.getElem_toArray, List.getElem_cons_succ, List.getElem_cons_zero, List.setIfInBounds_toArray, List.set_cons_zero, List.set_cons_succ]
  refine wpAnyH_take (i := 5) (v := ?_) rfl (by kernel_rfl) (by kernel_rfl) (by kernel_rfl) (fun _ _ _ h => nomatch h.1) (Or.inl ⟨by rfl, ?_⟩) hS ?_
  rotate_left
  · intro w hSw
    obtain ⟨⟨p0, p1, p2, p3, lp⟩, ⟨q0, q1, q2, q3, lq⟩, ⟨t0, t1, t2, t3, lt⟩, _⟩ := hSw
    go_simp
    first | done | with_reducible rfl
  simp only [Act.put, List.getElem_toArray, List.getElem_cons_succ, List.getElem_cons_zero, List.setIfInBounds_toArray, List.set_cons_zero, List.set_cons_succ]
  refine wpAnyH_take (i := 6) (v := ?_) rfl (by kernel_rfl) (by kernel_rfl) (by kernel_rfl) (fun _ _ _ h => nomatch h.1) (Or.inl ⟨by rfl, ?_⟩) hS ?_
  rotate_left
  · intro w hSw
    obtain ⟨⟨p0, p1, p2, p3, lp⟩, ⟨q0, q1, q2, q3, lq⟩, ⟨t0, t1, t2, t3, lt⟩, _⟩ := hSw
    go_simp
    first | done | with_reducible rfl
  simp only [Act.put, List.getElem_toArray, List.getElem_cons_succ, List.getElem_cons_zero, List.setIfInBounds_toArray, List.set_cons_zero, List.set_cons_succ]
  refine wpAnyH_take (i := 7) (v := ?_) rfl (by kernel_rfl) (by kernel_rfl) (by kernel_rfl) (fun _ _ _ h => nomatch h.1) (Or.inl ⟨by rfl, ?_⟩) hS ?_
  rotate_left
  · intro w hSw
    obtain ⟨⟨p0, p1, p2, p3, lp⟩, ⟨q0, q1, q2, q3, lq⟩, ⟨t0, t1, t2, t3, lt⟩, _⟩ := hSw
    go_simp
    first | done | with_reducible rfl
  simp only [Act.put, List.getElem_toArray, List.getElem_cons_succ, List.getElem_cons_zero, List.setIfInBounds_toArray, List.set_cons_zero, List.set_cons_succ]
  refine wpAnyH_take (i := 8) (v := ?_) rfl (by kernel_rfl) (by kernel_rfl) (by kernel_rfl) (fun _ _ _ h => nomatch h.1) (Or.inl ⟨by rfl, ?_⟩) hS ?_
  rotate_left
  · intro w hSw
    obtain ⟨⟨p0, p1, p2, p3, lp⟩, ⟨q0, q1, q2, q3, lq⟩, ⟨t0, t1, t2, t3, lt⟩, _⟩ := hSw
    go_simp
    first | done | with_reducible rfl
  simp only [Act.put, List.getElem_toArray, List.getElem_cons_succ, List.getElem_cons_zero, List.setIfInBounds_toArray, List.set_cons_zero, List.set_cons_succ]
  refine wpAnyH_take (i := 9) (v := ?_) rfl (by kernel_rfl) (by kernel_rfl) (by kernel_rfl) (fun _ _ _ h => nomatch h.1) (Or.inl ⟨by rfl, ?_⟩) hS ?_
  rotate_left
  · intro w hSw
    obtain ⟨⟨p0, p1, p2, p3, lp⟩, ⟨q0, q1, q2, q3, lq⟩, ⟨t0, t1, t2, t3, lt⟩, _⟩ := hSw
    go_simp
    first | done | with_reducible rfl
  simp only [Act.put, List.getElem_toArray, List.getElem_cons_succ, List.getElem_cons_zero, List.setIfInBounds_toArray, List.set_cons_zero, List.set_cons_succ]
  refine wpAnyH_take (i := 10) (v := ?_) rfl (by kernel_rfl) (by kernel_rfl) (by kernel_rfl) (fun _ _ _ h => nomatch h.1) (Or.inl ⟨by rfl, ?_⟩) hS ?_
  rotate_left
  · intro w hSw
    obtain ⟨⟨p0, p1, p2, p3, lp⟩, ⟨q0, q1, q2, q3, lq⟩, ⟨t0, t1, t2, t3, lt⟩, _⟩ := hSw
    go_simp
    first | done | with_reducible rfl
  simp only [Act.put, List.getElem_toArray, List.getElem_cons_succ, List.getElem_cons_zero, List.setIfInBounds_toArray, List.set_cons_zero, List.set_cons_succ]
  refine wpAnyH_take (i := 11) (v := ?_) rfl (by kernel_rfl) (by kernel_rfl) (by kernel_rfl) (fun _ _ _ h => nomatch h.1) (Or.inl ⟨by rfl, ?_⟩) hS ?_
  rotate_left
  · intro w hSw
    obtain ⟨⟨p0, p1, p2, p3, lp⟩, ⟨q0, q1, q2, q3, lq⟩, ⟨t0, t1, t2, t3, lt⟩, _⟩ := hSw
    go_simp
    first | done | with_reducible rfl
  simp only [Act.put, List.getElem_toArray, List.getElem_cons_succ, List.getElem_cons_zero, List.setIfInBounds_toArray, List.set_cons_zero, List.set_cons_succ]
  refine wpAnyH_take (i := 12) (v := ?_) rfl (by kernel_rfl) (by kernel_rfl) (by kernel_rfl) (fun _ _ _ h => nomatch h.1) (Or.inl ⟨by rfl, ?_⟩) hS ?_
  rotate_left
  · intro w hSw
    obtain ⟨⟨p0, p1, p2, p3, lp⟩, ⟨q0, q1, q2, q3, lq⟩, ⟨t0, t1, t2, t3, lt⟩, _⟩ := hSw
    go_simp
    first | done | with_reducible rfl
  simp only [Act.put, List.getElem_toArray, List.getElem_cons_succ, List.getElem_cons_zero, List.setIfInBounds_toArray, List.set_cons_zero, List.set_cons_succ]
  refine wpAnyH_take (i := 13) (v := ?_) rfl (by kernel_rfl) (by kernel_rfl) (by kernel_rfl) (fun _ _ _ h => nomatch h.1) (Or.inl ⟨by rfl, ?_⟩) hS ?_
  rotate_left
  · intro w hSw
    obtain ⟨⟨p0, p1, p2, p3, lp⟩, ⟨q0, q1, q2, q3, lq⟩, ⟨t0, t1, t2, t3, lt⟩, _⟩ := hSw
    go_simp
    first | done | with_reducible rfl
  simp only [Act.put, List.getElem_toArray, List.getElem_cons_succ, List.getElem_cons_zero, List.setIfInBounds_toArray, List.set_cons_zero, List.set_cons_succ]
  refine wpAnyH_take (i := 14) (v := ?_) rfl (by kernel_rfl) (by kernel_rfl) (by kernel_rfl) (fun _ _ _ h => nomatch h.1) (Or.inl ⟨by rfl, ?_⟩) hS ?_
  rotate_left
  · intro w hSw
    obtain ⟨⟨p0, p1, p2, p3, lp⟩, ⟨q0, q1, q2, q3, lq⟩, ⟨t0, t1, t2, t3, lt⟩, _⟩ := hSw
    go_simp
    first | done | with_reducible rfl
  simp only [Act.put, List.getElem_toArray, List.getElem_cons_succ, List.getElem_cons_zero, List.setIfInBounds_toArray, List.set_cons_zero, List.set_cons_succ]
  refine wpAnyH_take (i := 15) (v := undef) rfl (by kernel_rfl) (by kernel_rfl) (by kernel_rfl) (fun _ _ _ h => nomatch h.1) (Or.inr ⟨by rfl, rfl⟩) hS ?_
  simp only [Act.put, List.getElem_toArray, List.getElem_cons_succ, List.getElem_cons_zero, List.setIfInBounds_toArray, List.set_cons_zero, List.set_cons_succ]
  refine wpAnyH_take (i := 16) (v := undef) rfl (by kernel_rfl) (by kernel_rfl) (by kernel_rfl) (fun _ _ _ h => nomatch h.1) (Or.inr ⟨by rfl, rfl⟩) hS ?_
  simp only [Act.put, List.getElem_toArray, List.getElem_cons_succ, List.getElem_cons_zero, List.setIfInBounds_toArray, List.set_cons_zero, List.set_cons_succ]
  refine wpAnyH_take (i := 17) (v := ?_) rfl (by kernel_rfl) (by kernel_rfl) (by kernel_rfl) (fun _ _ _ h => nomatch h.1) (Or.inl ⟨by rfl, ?_⟩) hS ?_
  rotate_left
  · intro w hSw
    obtain ⟨⟨p0, p1, p2, p3, lp⟩, ⟨q0, q1, q2, q3, lq⟩, ⟨t0, t1, t2, t3, lt⟩, _⟩ := hSw
    go_simp
    first | done | with_reducible rfl
  simp only [Act.put, List.getElem_toArray, List.getElem_cons_succ, List.getElem_cons_zero, List.setIfInBounds_toArray, List.set_cons_zero, List.set_cons_succ]
  refine wpAnyH_take (i := 18) (v := ?_) rfl (by kernel_rfl) (by kernel_rfl) (by kernel_rfl) (fun _ _ _ h => nomatch h.1) (Or.inl ⟨by rfl, ?_⟩) hS ?_
  rotate_left
  · intro w hSw
    obtain ⟨⟨p0, p1, p2, p3, lp⟩, ⟨q0, q1, q2, q3, lq⟩, ⟨t0, t1, t2, t3, lt⟩, _⟩ := hSw
    go_simp
    first | done | with_reducible rfl
  simp only [Act.put, List.getElem_toArray, List.getElem_cons_succ, List.getElem_cons_zero, List.setIfInBounds_toArray, List.set_cons_zero, List.set_cons_succ]
  refine wpAnyH_take (i := 19) (v := ?_) rfl (by kernel_rfl) (by kernel_rfl) (by kernel_rfl) (fun _ _ _ h => nomatch h.1) (Or.inl ⟨by rfl, ?_⟩) hS ?_
  rotate_left
  · intro w hSw
    obtain ⟨⟨p0, p1, p2, p3, lp⟩, ⟨q0, q1, q2, q3, lq⟩, ⟨t0, t1, t2, t3, lt⟩, _⟩ := hSw
    go_simp
    first | done | with_reducible rfl
  simp only [Act.put, List.getElem_toArray, List.getElem_cons_succ, List.getElem_cons_zero, List.setIfInBounds_toArray, List.set_cons_zero, List.set_cons_succ]
  refine wpAnyH_take (i := 20) (v := ?_) rfl (by kernel_rfl) (by kernel_rfl) (by kernel_rfl) (fun _ _ _ h => nomatch h.1) (Or.inl ⟨by rfl, ?_⟩) hS ?_
  rotate_left
  · intro w hSw
    obtain ⟨⟨p0, p1, p2, p3, lp⟩, ⟨q0, q1, q2, q3, lq⟩, ⟨t0, t1, t2, t3, lt⟩, _⟩ := hSw
    go_simp
    first | done | with_reducible rfl
  simp only [Act.put, List.getElem_toArray, List.getElem_cons_succ, List.getElem_cons_zero, List.setIfInBounds_toArray, List.set_cons_zero, List.set_cons_succ]
  refine wpAnyH_take (i := 21) (v := ?_) rfl (by kernel_rfl) (by kernel_rfl) (by kernel_rfl) (fun _ _ _ h => nomatch h.1) (Or.inl ⟨by rfl, ?_⟩) hS ?_
  rotate_left
  · intro w hSw
    obtain ⟨⟨p0, p1, p2, p3, lp⟩, ⟨q0, q1, q2, q3, lq⟩, ⟨t0, t1, t2, t3, lt⟩, _⟩ := hSw
    go_simp
    first | done | with_reducible rfl
  simp only [Act.put, List.getElem_toArray, List.getElem_cons_succ, List.getElem_cons_zero, List.setIfInBounds_toArray, List.set_cons_zero, List.set_cons_succ]
  refine wpAnyH_take (i := 22) (v := ?_) rfl (by kernel_rfl) (by kernel_rfl) (by kernel_rfl) (fun _ _ _ h => nomatch h.1) (Or.inl ⟨by rfl, ?_⟩) hS ?_
  rotate_left
  · intro w hSw
    obtain ⟨⟨p0, p1, p2, p3, lp⟩, ⟨q0, q1, q2, q3, lq⟩, ⟨t0, t1, t2, t3, lt⟩, _⟩ := hSw
    go_simp
    first | done | with_reducible rfl
  simp only [Act.put, List.getElem_toArray, List.getElem_cons_succ, List.getElem_cons_zero, List.setIfInBounds_toArray, List.set_cons_zero, List.set_cons_succ]
  refine wpAnyH_take (i := 23) (v := ?_) rfl (by kernel_rfl) (by kernel_rfl) (by kernel_rfl) (fun _ _ _ h => nomatch h.1) (Or.inl ⟨by rfl, ?_⟩) hS ?_
  rotate_left
  · intro w hSw
    obtain ⟨⟨p0, p1, p2, p3, lp⟩, ⟨q0, q1, q2, q3, lq⟩, ⟨t0, t1, t2, t3, lt⟩, _⟩ := hSw
    go_simp
    first | done | with_reducible rfl
  simp only [Act.put, List.getElem_toArray, List.getElem_cons_succ, List.getElem_cons_zero, List.setIfInBounds_toArray, List.set_cons_zero, List.set_cons_succ]
  refine wpAnyH_take (i := 24) (v := ?_) rfl (by kernel_rfl) (by kernel_rfl) (by kernel_rfl) (fun _ _ _ h => nomatch h.1) (Or.inl ⟨by rfl, ?_⟩) hS ?_
  rotate_left
  · intro w hSw
    obtain ⟨⟨p0, p1, p2, p3, lp⟩, ⟨q0, q1, q2, q3, lq⟩, ⟨t0, t1, t2, t3, lt⟩, _⟩ := hSw
    go_simp
    first | done | with_reducible rfl
  simp only [Act.put, List.getElem_toArray, List.getElem_cons_succ, List.getElem_cons_zero, List.setIfInBounds_toArray, List.set_cons_zero, List.set_cons_succ]
  refine wpAnyH_take (i := 25) (v := ?_) rfl (by kernel_rfl) (by kernel_rfl) (by kernel_rfl) (fun _ _ _ h => nomatch h.1) (Or.inl ⟨by rfl, ?_⟩) hS ?_
  rotate_left
  · intro w hSw
    obtain ⟨⟨p0, p1, p2, p3, lp⟩, ⟨q0, q1, q2, q3, lq⟩, ⟨t0, t1, t2, t3, lt⟩, _⟩ := hSw
    go_simp
    first | done | with_reducible rfl
  simp only [Act.put, List.getElem_toArray, List.getElem_cons_succ, List.getElem_cons_zero, List.setIfInBounds_toArray, List.set_cons_zero, List.set_cons_succ]
  refine wpAnyH_ready (rs := [26]) (by kernel_rfl) (by simp) ?_
  refine AllReadyH.cons rfl (fun K hK => ?_) AllReadyH.nil
  go_simp
  refine (hbc.out _).mono ?_
  rintro e w1 ⟨rfl, hb⟩
  try go_wp2_with fail
  have hT := hS.keep hb
  refine hK.out _ _ hT (fun _ => ?_)
  clear hK K hS hb
  have hS := hT
  clear hT
  simp only [List.setIfInBounds_toArray, List.set_cons_zero, List.set_cons_succ]
  refine wpAnyH_take (i := 27) (v := ?_) rfl (by kernel_rfl) (by kernel_rfl) (by kernel_rfl) (fun _ _ _ h => nomatch h.1) (Or.inl ⟨by rfl, ?_⟩) hS ?_
  rotate_left
  · intro w hSw
    obtain ⟨⟨p0, p1, p2, p3, lp⟩, ⟨q0, q1, q2, q3, lq⟩, ⟨t0, t1, t2, t3, lt⟩, _⟩ := hSw
    go_simp
    first | done | with_reducible rfl
  simp only [Act.put, List.getElem_toArray, List.getElem_cons_succ, List.getElem_cons_zero, List.setIfInBounds_toArray, List.set_cons_zero, List.set_cons_succ]
  refine wpAnyH_take (i := 28) (v := ?_) rfl (by kernel_rfl) (by kernel_rfl) (by kernel_rfl) (fun _ _ _ h => nomatch h.1) (Or.inl ⟨by rfl, ?_⟩) hS ?_
  rotate_left
  · intro w hSw
    obtain ⟨⟨p0, p1, p2, p3, lp⟩, ⟨q0, q1, q2, q3, lq⟩, ⟨t0, t1, t2, t3, lt⟩, _⟩ := hSw
    go_simp
    first | done | with_reducible rfl
  simp only [Act.put, List.getElem_toArray, List.getElem_cons_succ, List.getElem_cons_zero, List.setIfInBounds_toArray, List.set_cons_zero, List.set_cons_succ]
  refine wpAnyH_take (i := 29) (v := ?_) rfl (by kernel_rfl) (by kernel_rfl) (by kernel_rfl) (fun _ _ _ h => nomatch h.1) (Or.inl ⟨by rfl, ?_⟩) hS ?_
  rotate_left
  · intro w hSw
    obtain ⟨⟨p0, p1, p2, p3, lp⟩, ⟨q0, q1, q2, q3, lq⟩, ⟨t0, t1, t2, t3, lt⟩, _⟩ := hSw
    go_simp
    first | done | with_reducible rfl
  simp only [Act.put, List.getElem_toArray, List.getElem_cons_succ, List.getElem_cons_zero, List.setIfInBounds_toArray, List.set_cons_zero, List.set_cons_succ]
  refine wpAnyH_take (i := 30) (v := ?_) rfl (by kernel_rfl) (by kernel_rfl) (by kernel_rfl) (fun _ _ _ h => nomatch h.1) (Or.inl ⟨by rfl, ?_⟩) hS ?_
  rotate_left
  · intro w hSw
    obtain ⟨⟨p0, p1, p2, p3, lp⟩, ⟨q0, q1, q2, q3, lq⟩, ⟨t0, t1, t2, t3, lt⟩, _⟩ := hSw
    go_simp
    first | done | with_reducible rfl
  simp only [Act.put, List.getElem_toArray, List.getElem_cons_succ, List.getElem_cons_zero, List.setIfInBounds_toArray, List.set_cons_zero, List.set_cons_succ]
  refine wpAnyH_take (i := 31) (v := ?_) rfl (by kernel_rfl) (by kernel_rfl) (by kernel_rfl) (fun _ _ _ h => nomatch h.1) (Or.inl ⟨by rfl, ?_⟩) hS ?_
  rotate_left
  · intro w hSw
    obtain ⟨⟨p0, p1, p2, p3, lp⟩, ⟨q0, q1, q2, q3, lq⟩, ⟨t0, t1, t2, t3, lt⟩, _⟩ := hSw
    go_simp
    first | done | with_reducible rfl
  simp only [Act.put, List.getElem_toArray, List.getElem_cons_succ, List.getElem_cons_zero, List.setIfInBounds_toArray, List.set_cons_zero, List.set_cons_succ]
  refine wpAnyH_ready (rs := [32]) (by kernel_rfl) (by simp) ?_
  refine AllReadyH.cons rfl (fun K hK => ?_) AllReadyH.nil
  go_simp
  refine (hac.out _).mono ?_
  rintro e w1 ⟨rfl, hb⟩
  try go_wp2_with fail
  have hT := hS.keep hb
  refine hK.out _ _ hT (fun _ => ?_)
  clear hK K hS hb
  have hS := hT
  clear hT
  simp only [List.setIfInBounds_toArray, List.set_cons_zero, List.set_cons_succ]
  refine wpAnyH_take (i := 33) (v := ?_) rfl (by kernel_rfl) (by kernel_rfl) (by kernel_rfl) (fun _ _ _ h => nomatch h.1) (Or.inl ⟨by rfl, ?_⟩) hS ?_
  rotate_left
  · intro w hSw
    obtain ⟨⟨p0, p1, p2, p3, lp⟩, ⟨q0, q1, q2, q3, lq⟩, ⟨t0, t1, t2, t3, lt⟩, _⟩ := hSw
    go_simp
    first | done | with_reducible rfl
  simp only [Act.put, List.getElem_toArray, List.getElem_cons_succ, List.getElem_cons_zero, List.setIfInBounds_toArray, List.set_cons_zero, List.set_cons_succ]
  refine wpAnyH_take (i := 34) (v := ?_) rfl (by kernel_rfl) (by kernel_rfl) (by kernel_rfl) (fun _ _ _ h => nomatch h.1) (Or.inl ⟨by rfl, ?_⟩) hS ?_
  rotate_left
  · intro w hSw
    obtain ⟨⟨p0, p1, p2, p3, lp⟩, ⟨q0, q1, q2, q3, lq⟩, ⟨t0, t1, t2, t3, lt⟩, _⟩ := hSw
    go_simp
    first | done | with_reducible rfl
  simp only [Act.put, List.getElem_toArray, List.getElem_cons_succ, List.getElem_cons_zero, List.setIfInBounds_toArray, List.set_cons_zero, List.set_cons_succ]
  refine wpAnyH_take (i := 35) (v := ?_) rfl (by kernel_rfl) (by kernel_rfl) (by kernel_rfl) (fun _ _ _ h => nomatch h.1) (Or.inl ⟨by rfl, ?_⟩) hS ?_
  rotate_left
  · intro w hSw
    obtain ⟨⟨p0, p1, p2, p3, lp⟩, ⟨q0, q1, q2, q3, lq⟩, ⟨t0, t1, t2, t3, lt⟩, _⟩ := hSw
    go_simp
    first | done | with_reducible rfl
  simp only [Act.put, List.getElem_toArray, List.getElem_cons_succ, List.getElem_cons_zero, List.setIfInBounds_toArray, List.set_cons_zero, List.set_cons_succ]
  refine wpAnyH_take (i := 36) (v := ?_) rfl (by kernel_rfl) (by kernel_rfl) (by kernel_rfl) (fun _ _ _ h => nomatch h.1) (Or.inl ⟨by rfl, ?_⟩) hS ?_
  rotate_left
  · intro w hSw
    obtain ⟨⟨p0, p1, p2, p3, lp⟩, ⟨q0, q1, q2, q3, lq⟩, ⟨t0, t1, t2, t3, lt⟩, _⟩ := hSw
    go_simp
    first | done | with_reducible rfl
  simp only [Act.put, List.getElem_toArray, List.getElem_cons_succ, List.getElem_cons_zero, List.setIfInBounds_toArray, List.set_cons_zero, List.set_cons_succ]
  refine wpAnyH_take (i := 37) (v := ?_) rfl (by kernel_rfl) (by kernel_rfl) (by kernel_rfl) (fun _ _ _ h => nomatch h.1) (Or.inl ⟨by rfl, ?_⟩) hS ?_
  rotate_left
  · intro w hSw
    obtain ⟨⟨p0, p1, p2, p3, lp⟩, ⟨q0, q1, q2, q3, lq⟩, ⟨t0, t1, t2, t3, lt⟩, _⟩ := hSw
    go_simp
    first | done | with_reducible rfl
  simp only [Act.put, List.getElem_toArray, List.getElem_cons_succ, List.getElem_cons_zero, List.setIfInBounds_toArray, List.set_cons_zero, List.set_cons_succ]
  refine wpAnyH_take (i := 39) (v := ?_) rfl (by kernel_rfl) (by kernel_rfl) (by kernel_rfl) (fun _ _ _ h => nomatch h.1) (Or.inl ⟨by rfl, ?_⟩) hS ?_
  rotate_left
  · intro w hSw
    obtain ⟨⟨p0, p1, p2, p3, lp⟩, ⟨q0, q1, q2, q3, lq⟩, ⟨t0, t1, t2, t3, lt⟩, _⟩ := hSw
    go_simp
    first | done | with_reducible rfl
  simp only [Act.put, List.getElem_toArray, List.getElem_cons_succ, List.getElem_cons_zero, List.setIfInBounds_toArray, List.set_cons_zero, List.set_cons_succ]
  refine wpAnyH_ready (rs := [38]) (by kernel_rfl) (by simp) ?_
  refine AllReadyH.cons rfl (fun K hK => ?_) AllReadyH.nil
  go_simp
  refine (hfa.out _).mono ?_
  rintro e w1 ⟨rfl, hb⟩
  try go_wp2_with fail
  have hT := hS.keep hb
  refine hK.out _ _ hT (fun _ => ?_)
  clear hK K hS hb
  have hS := hT
  clear hT
  simp only [List.setIfInBounds_toArray, List.set_cons_zero, List.set_cons_succ]
  refine wpAnyH_ready (rs := [40]) (by kernel_rfl) (by simp) ?_
  refine AllReadyH.cons rfl (fun K hK => ?_) AllReadyH.nil
  go_simp
  refine (hfb.out _).mono ?_
  rintro e w1 ⟨rfl, hb⟩
  try go_wp2_with fail
  have hT := hS.keep hb
  refine hK.out _ _ hT (fun _ => ?_)
  clear hK K hS hb
  have hS := hT
  clear hT
  simp only [List.setIfInBounds_toArray, List.set_cons_zero, List.set_cons_succ]
  refine wpAnyH_take (i := 41) (v := ?_) rfl (by kernel_rfl) (by kernel_rfl) (by kernel_rfl) (fun _ _ _ h => nomatch h.1) (Or.inl ⟨by rfl, ?_⟩) hS ?_
  rotate_left
  · intro w hSw
    obtain ⟨⟨p0, p1, p2, p3, lp⟩, ⟨q0, q1, q2, q3, lq⟩, ⟨t0, t1, t2, t3, lt⟩, _⟩ := hSw
    go_simp
    first | done | with_reducible rfl
  simp only [Act.put, List.getElem_toArray, List.getElem_cons_succ, List.getElem_cons_zero, List.setIfInBounds_toArray, List.set_cons_zero, List.set_cons_succ]
  refine wpAnyH_take (i := 42) (v := ?_) rfl (by kernel_rfl) (by kernel_rfl) (by kernel_rfl) (fun _ _ _ h => nomatch h.1) (Or.inl ⟨by rfl, ?_⟩) hS ?_
  rotate_left
  · intro w hSw
    obtain ⟨⟨p0, p1, p2, p3, lp⟩, ⟨q0, q1, q2, q3, lq⟩, ⟨t0, t1, t2, t3, lt⟩, _⟩ := hSw
    go_simp
    first | done | with_reducible rfl
  simp only [Act.put, List.getElem_toArray, List.getElem_cons_succ, List.getElem_cons_zero, List.setIfInBounds_toArray, List.set_cons_zero, List.set_cons_succ]
  refine wpAnyH_take (i := 43) (v := ?_) rfl (by kernel_rfl) (by kernel_rfl) (by kernel_rfl) (fun _ _ _ h => nomatch h.1) (Or.inl ⟨by rfl, ?_⟩) hS ?_
  rotate_left
  · intro w hSw
    obtain ⟨⟨p0, p1, p2, p3, lp⟩, ⟨q0, q1, q2, q3, lq⟩, ⟨t0, t1, t2, t3, lt⟩, _⟩ := hSw
    go_simp
    first | done | with_reducible rfl
  simp only [Act.put, List.getElem_toArray, List.getElem_cons_succ, List.getElem_cons_zero, List.setIfInBounds_toArray, List.set_cons_zero, List.set_cons_succ]
  refine wpAnyH_take (i := 44) (v := ?_) rfl (by kernel_rfl) (by kernel_rfl) (by kernel_rfl) (fun _ _ _ h => nomatch h.1) (Or.inl ⟨by rfl, ?_⟩) hS ?_
  rotate_left
  · intro w hSw
    obtain ⟨⟨p0, p1, p2, p3, lp⟩, ⟨q0, q1, q2, q3, lq⟩, ⟨t0, t1, t2, t3, lt⟩, _⟩ := hSw
    go_simp
    first | done | with_reducible rfl
  simp only [Act.put, List.getElem_toArray, List.getElem_cons_succ, List.getElem_cons_zero, List.setIfInBounds_toArray, List.set_cons_zero, List.set_cons_succ]
  refine wpAnyH_done (by kernel_rfl) ?_ _
  exact ⟨rfl, rfl, rfl, hS⟩

theorem or_a_false : Array.replicate 45 false = #[false, false, false, false, false, false, false, false, false, false, false, false, false, false, false, false, false, false, false, false, false, false, false, false, false, false, false, false, false, false, false, false, false, false, false, false, false, false, false, false, false, false, false, false, false] := by kernel_rfl
theorem or_a_size {ops : Array Oper} (hcode : Tryd.f7.body.bind (regAt 6) = some (.region 6 ops true)) : ops.size = 45 := by
  have h : (Tryd.f7.body.bind (regAt 6)).map (fun c => match c with | .region _ o _ => o.size | _ => 0) = some 45 := by kernel_rfl
  rw [hcode] at h
  exact Option.some.inj h
theorem or_a_wp (w W : World) (b0 b1 b2 A B C : Nat) (fa fb : List UInt8) (heq : ∀ w : World, (Op.equalIn 10000 24 (wn A) (wn B)).run Tryd.prog w = .ok false w) (hlt : Hid (Op.bytesLess fa fb = true)) (hbc : Hid (∀ w : World, Calls Tryd.prog 17 #[wn B, wn C] w fun e w' => e = .returned (.bool true) ∧ Below w.heap.size w w')) (hac : Hid (∀ w : World, Calls Tryd.prog 17 #[wn A, wn C] w fun e w' => e = .returned (.bool true) ∧ Below w.heap.size w w')) (hfa : Hid (∀ w : World, Calls Tryd.prog 25 #[wn A] w fun e w' => e = .returned (.string ⟨fa.toArray⟩) ∧ Below w.heap.size w w')) (hfb : Hid (∀ w : World, Calls Tryd.prog 25 #[wn B] w fun e w' => e = .returned (.string ⟨fb.toArray⟩) ∧ Below w.heap.size w w')) (x0 x1 x2 x10 x11 x12 x13 x14 x15 x16 x17 x18 x19 x20 x21 x22 x23 x24 x25 x26 x27 x28 x29 x30 x31 x32 x33 x34 x35 x36 x37 x38 x39 x40 x41 x42 x43 x44 x45 x46 x47 x48 x49 x50 x51 x52 x53 x54 x55 x56 x57 x58 x59 x60 x61 x62 : Value) (ops : Array Oper) (hcode : Tryd.f7.body.bind (regAt 6) = some (.region 6 ops true)) (hS : SO w b0 b1 b2 A B C W) :
    (Code.region 6 ops true).wp Tryd.prog (RX 6 (SO w b0 b1 b2 A B C)) { tmps := #[x0, x1, x2, .pointer (some ⟨b0, 0, none⟩), .pointer (some ⟨b1, 0, none⟩), .pointer (some ⟨b2, 0, none⟩), .bool false, .bool true, .bool true, .bool false, x10, x11, x12, x13, x14, x15, x16, x17, x18, x19, x20, x21, x22, x23, x24, x25, x26, x27, x28, x29, x30, x31, x32, x33, x34, x35, x36, x37, x38, x39, x40, x41, x42, x43, x44, x45, x46, x47, x48, x49, x50, x51, x52, x53, x54, x55, x56, x57, x58, x59, x60, x61, x62], defers := [] } W := by
  refine wp_region_held_drew (S := SO w b0 b1 b2 A B C) (by kernel_rfl) (hS.keep (Below.refl _ W).drew) (fun h => ?_)
  rw [or_a_size hcode, or_a_false]
  exact or_a_all w _ b0 b1 b2 A B C fa fb heq hlt hbc hac hfa hfb x0 x1 x2 x10 x11 x12 x13 x14 x15 x16 x17 x18 x19 x20 x21 x22 x23 x24 x25 x26 x27 x28 x29 x30 x31 x32 x33 x34 x35 x36 x37 x38 x39 x40 x41 x42 x43 x44 x45 x46 x47 x48 x49 x50 x51 x52 x53 x54 x55 x56 x57 x58 x59 x60 x61 x62 ops hcode h

set_option maxRecDepth 100000 in
set_option maxHeartbeats 8000000 in
theorem or_b_all (w W : World) (b0 b1 b2 A B C : Nat) (fa fb : List UInt8) (heq : ∀ w : World, (Op.equalIn 10000 24 (wn A) (wn B)).run Tryd.prog w = .ok false w) (hlt : Hid (Op.bytesLess fa fb = true)) (hbc : Hid (∀ w : World, Calls Tryd.prog 17 #[wn B, wn C] w fun e w' => e = .returned (.bool false) ∧ Below w.heap.size w w')) (hfa : Hid (∀ w : World, Calls Tryd.prog 25 #[wn A] w fun e w' => e = .returned (.string ⟨fa.toArray⟩) ∧ Below w.heap.size w w')) (hfb : Hid (∀ w : World, Calls Tryd.prog 25 #[wn B] w fun e w' => e = .returned (.string ⟨fb.toArray⟩) ∧ Below w.heap.size w w')) (x0 x1 x2 x10 x11 x12 x13 x14 x15 x16 x17 x18 x19 x20 x21 x22 x23 x24 x25 x26 x27 x28 x29 x30 x31 x32 x33 x34 x35 x36 x37 x38 x39 x40 x41 x42 x43 x44 x45 x46 x47 x48 x49 x50 x51 x52 x53 x54 x55 x56 x57 x58 x59 x60 x61 x62 : Value) (ops : Array Oper) (hcode : Tryd.f7.body.bind (regAt 6) = some (.region 6 ops true)) (hS : SO w b0 b1 b2 A B C W) :
    wpAnyH Tryd.prog .any ops (RX 6 (SO w b0 b1 b2 A B C)) (SO w b0 b1 b2 A B C) 45 #[false, false, false, false, false, false, false, false, false, false, false, false, false, false, false, false, false, false, false, false, false, false, false, false, false, false, false, false, false, false, false, false, false, false, false, false, false, false, false, false, false, false, false, false, false] { tmps := #[x0, x1, x2, .pointer (some ⟨b0, 0, none⟩), .pointer (some ⟨b1, 0, none⟩), .pointer (some ⟨b2, 0, none⟩), .bool false, .bool true, .bool true, .bool false, x10, x11, x12, x13, x14, x15, x16, x17, x18, x19, x20, x21, x22, x23, x24, x25, x26, x27, x28, x29, x30, x31, x32, x33, x34, x35, x36, x37, x38, x39, x40, x41, x42, x43, x44, x45, x46, x47, x48, x49, x50, x51, x52, x53, x54, x55, x56, x57, x58, x59, x60, x61, x62], defers := [] } W := by
  simp only [Tryd.f7, Option.bind_some, regAt, Option.some_or, Option.none_or, if_true, if_false, Nat.reduceEqDiff, Option.some.injEq, Code.region.injEq, true_and, and_true] at hcode
  subst hcode
  have hlu := hlt.out
  refine wpAnyH_take (i := 0) (v := ?_) rfl (by kernel_rfl) (by kernel_rfl) (by kernel_rfl) (fun _ _ _ h => nomatch h.1) (Or.inl ⟨by rfl, ?_⟩) hS ?_
  rotate_left
  · intro w hSw
    obtain ⟨⟨p0, p1, p2, p3, lp⟩, ⟨q0, q1, q2, q3, lq⟩, ⟨t0, t1, t2, t3, lt⟩, _⟩ := hSw
    go_simp
    first | done | with_reducible rfl
  simp only [Act.put, List.getElem_toArray, List.getElem_cons_zero, List.setIfInBounds_toArray, List.set_cons_zero, List.set_cons_succ]
  refine wpAnyH_take (i := 1) (v := ?_) rfl (by kernel_rfl) (by kernel_rfl) (by kernel_rfl) (fun _ _ _ h => nomatch h.1) (Or.inl ⟨by rfl, ?_⟩) hS ?_
  rotate_left
  · intro w hSw
    obtain ⟨⟨p0, p1, p2, p3, lp⟩, ⟨q0, q1, q2, q3, lq⟩, ⟨t0, t1, t2, t3, lt⟩, _⟩ := hSw
    go_simp
    first | done | with_reducible rfl
  simp only [Act.put, List.getElem_toArray, List.getElem_cons_succ, List.getElem_cons_zero, List.setIfInBounds_toArray, List.set_cons_zero, List.set_cons_succ]
  refine wpAnyH_take (i := 2) (v := ?_) rfl (by kernel_rfl) (by kernel_rfl) (by kernel_rfl) (fun _ _ _ h => nomatch h.1) (Or.inl ⟨by rfl, ?_⟩) hS ?_
  rotate_left
  · intro w hSw
    obtain ⟨⟨p0, p1, p2, p3, lp⟩, ⟨q0, q1, q2, q3, lq⟩, ⟨t0, t1, t2, t3, lt⟩, _⟩ := hSw
    go_simp
    first | done | with_reducible rfl
  simp only [Act.put, List.getElem_toArray, List.getElem_cons_succ, List.getElem_cons_zero, List.setIfInBounds_toArray, List.set_cons_zero, List.set_cons_succ]
  refine wpAnyH_take (i := 3) (v := ?_) rfl (by kernel_rfl) (by kernel_rfl) (by kernel_rfl) (fun _ _ _ h => nomatch h.1) (Or.inl ⟨by rfl, ?_⟩) hS ?_
  rotate_left
  · intro w hSw
    obtain ⟨⟨p0, p1, p2, p3, lp⟩, ⟨q0, q1, q2, q3, lq⟩, ⟨t0, t1, t2, t3, lt⟩, _⟩ := hSw
    go_simp
    first | done | with_reducible rfl
  simp only [Act.put, List.getElem_toArray, List.getElem_cons_succ, List.getElem_cons_zero, List.setIfInBounds_toArray, List.set_cons_zero, List.set_cons_succ]
  refine wpAnyH_take (i := 4) (v := ?_) rfl (by kernel_rfl) (by kernel_rfl) (by kernel_rfl) (fun _ _ _ h => nomatch h.1) (Or.inl ⟨by rfl, ?_⟩) hS ?_
  rotate_left
  · intro w hSw
    obtain ⟨⟨p0, p1, p2, p3, lp⟩, ⟨q0, q1, q2, q3, lq⟩, ⟨t0, t1, t2, t3, lt⟩, _⟩ := hSw
    go_simp
    first | done | with_reducible rfl
  simp only [Act.put, List.getElem_toArray, List.getElem_cons_succ, List.getElem_cons_zero, List.setIfInBounds_toArray, List.set_cons_zero, List.set_cons_succ]
  refine wpAnyH_take (i := 5) (v := ?_) rfl (by kernel_rfl) (by kernel_rfl) (by kernel_rfl) (fun _ _ _ h => nomatch h.1) (Or.inl ⟨by rfl, ?_⟩) hS ?_
  rotate_left
  · intro w hSw
    obtain ⟨⟨p0, p1, p2, p3, lp⟩, ⟨q0, q1, q2, q3, lq⟩, ⟨t0, t1, t2, t3, lt⟩, _⟩ := hSw
    go_simp
    first | done | with_reducible rfl
  simp only [Act.put, List.getElem_toArray, List.getElem_cons_succ, List.getElem_cons_zero, List.setIfInBounds_toArray, List.set_cons_zero, List.set_cons_succ]
  refine wpAnyH_take (i := 6) (v := ?_) rfl (by kernel_rfl) (by kernel_rfl) (by kernel_rfl) (fun _ _ _ h => nomatch h.1) (Or.inl ⟨by rfl, ?_⟩) hS ?_
  rotate_left
  · intro w hSw
    obtain ⟨⟨p0, p1, p2, p3, lp⟩, ⟨q0, q1, q2, q3, lq⟩, ⟨t0, t1, t2, t3, lt⟩, _⟩ := hSw
    go_simp
    first | done | with_reducible rfl
  simp only [Act.put, List.getElem_toArray, List.getElem_cons_succ, List.getElem_cons_zero, List.setIfInBounds_toArray, List.set_cons_zero, List.set_cons_succ]
  refine wpAnyH_take (i := 7) (v := ?_) rfl (by kernel_rfl) (by kernel_rfl) (by kernel_rfl) (fun _ _ _ h => nomatch h.1) (Or.inl ⟨by rfl, ?_⟩) hS ?_
  rotate_left
  · intro w hSw
    obtain ⟨⟨p0, p1, p2, p3, lp⟩, ⟨q0, q1, q2, q3, lq⟩, ⟨t0, t1, t2, t3, lt⟩, _⟩ := hSw
    go_simp
    first | done | with_reducible rfl
  simp only [Act.put, List.getElem_toArray, List.getElem_cons_succ, List.getElem_cons_zero, List.setIfInBounds_toArray, List.set_cons_zero, List.set_cons_succ]
  refine wpAnyH_take (i := 8) (v := ?_) rfl (by kernel_rfl) (by kernel_rfl) (by kernel_rfl) (fun _ _ _ h => nomatch h.1) (Or.inl ⟨by rfl, ?_⟩) hS ?_
  rotate_left
  · intro w hSw
    obtain ⟨⟨p0, p1, p2, p3, lp⟩, ⟨q0, q1, q2, q3, lq⟩, ⟨t0, t1, t2, t3, lt⟩, _⟩ := hSw
    go_simp
    first | done | with_reducible rfl
  simp only [Act.put, List.getElem_toArray, List.getElem_cons_succ, List.getElem_cons_zero, List.setIfInBounds_toArray, List.set_cons_zero, List.set_cons_succ]
  refine wpAnyH_take (i := 9) (v := ?_) rfl (by kernel_rfl) (by kernel_rfl) (by kernel_rfl) (fun _ _ _ h => nomatch h.1) (Or.inl ⟨by rfl, ?_⟩) hS ?_
  rotate_left
  · intro w hSw
    obtain ⟨⟨p0, p1, p2, p3, lp⟩, ⟨q0, q1, q2, q3, lq⟩, ⟨t0, t1, t2, t3, lt⟩, _⟩ := hSw
    go_simp
    first | done | with_reducible rfl
  simp only [Act.put, List.getElem_toArray, List.getElem_cons_succ, List.getElem_cons_zero, List.setIfInBounds_toArray, List.set_cons_zero, List.set_cons_succ]
  refine wpAnyH_take (i := 10) (v := ?_) rfl (by kernel_rfl) (by kernel_rfl) (by kernel_rfl) (fun _ _ _ h => nomatch h.1) (Or.inl ⟨by rfl, ?_⟩) hS ?_
  rotate_left
  · intro w hSw
    obtain ⟨⟨p0, p1, p2, p3, lp⟩, ⟨q0, q1, q2, q3, lq⟩, ⟨t0, t1, t2, t3, lt⟩, _⟩ := hSw
    go_simp
    first | done | with_reducible rfl
  simp only [Act.put, List.getElem_toArray, List.getElem_cons_succ, List.getElem_cons_zero, List.setIfInBounds_toArray, List.set_cons_zero, List.set_cons_succ]
  refine wpAnyH_take (i := 11) (v := ?_) rfl (by kernel_rfl) (by kernel_rfl) (by kernel_rfl) (fun _ _ _ h => nomatch h.1) (Or.inl ⟨by rfl, ?_⟩) hS ?_
  rotate_left
  · intro w hSw
    obtain ⟨⟨p0, p1, p2, p3, lp⟩, ⟨q0, q1, q2, q3, lq⟩, ⟨t0, t1, t2, t3, lt⟩, _⟩ := hSw
    go_simp
    first | done | with_reducible rfl
  simp only [Act.put, List.getElem_toArray, List.getElem_cons_succ, List.getElem_cons_zero, List.setIfInBounds_toArray, List.set_cons_zero, List.set_cons_succ]
  refine wpAnyH_take (i := 12) (v := ?_) rfl (by kernel_rfl) (by kernel_rfl) (by kernel_rfl) (fun _ _ _ h => nomatch h.1) (Or.inl ⟨by rfl, ?_⟩) hS ?_
  rotate_left
  · intro w hSw
    obtain ⟨⟨p0, p1, p2, p3, lp⟩, ⟨q0, q1, q2, q3, lq⟩, ⟨t0, t1, t2, t3, lt⟩, _⟩ := hSw
    go_simp
    first | done | with_reducible rfl
  simp only [Act.put, List.getElem_toArray, List.getElem_cons_succ, List.getElem_cons_zero, List.setIfInBounds_toArray, List.set_cons_zero, List.set_cons_succ]
  refine wpAnyH_take (i := 13) (v := ?_) rfl (by kernel_rfl) (by kernel_rfl) (by kernel_rfl) (fun _ _ _ h => nomatch h.1) (Or.inl ⟨by rfl, ?_⟩) hS ?_
  rotate_left
  · intro w hSw
    obtain ⟨⟨p0, p1, p2, p3, lp⟩, ⟨q0, q1, q2, q3, lq⟩, ⟨t0, t1, t2, t3, lt⟩, _⟩ := hSw
    go_simp
    first | done | with_reducible rfl
  simp only [Act.put, List.getElem_toArray, List.getElem_cons_succ, List.getElem_cons_zero, List.setIfInBounds_toArray, List.set_cons_zero, List.set_cons_succ]
  refine wpAnyH_take (i := 14) (v := ?_) rfl (by kernel_rfl) (by kernel_rfl) (by kernel_rfl) (fun _ _ _ h => nomatch h.1) (Or.inl ⟨by rfl, ?_⟩) hS ?_
  rotate_left
  · intro w hSw
    obtain ⟨⟨p0, p1, p2, p3, lp⟩, ⟨q0, q1, q2, q3, lq⟩, ⟨t0, t1, t2, t3, lt⟩, _⟩ := hSw
    go_simp
    first | done | with_reducible rfl
  simp only [Act.put, List.getElem_toArray, List.getElem_cons_succ, List.getElem_cons_zero, List.setIfInBounds_toArray, List.set_cons_zero, List.set_cons_succ]
  refine wpAnyH_take (i := 15) (v := undef) rfl (by kernel_rfl) (by kernel_rfl) (by kernel_rfl) (fun _ _ _ h => nomatch h.1) (Or.inr ⟨by rfl, rfl⟩) hS ?_
  simp only [Act.put, List.getElem_toArray, List.getElem_cons_succ, List.getElem_cons_zero, List.setIfInBounds_toArray, List.set_cons_zero, List.set_cons_succ]
  refine wpAnyH_take (i := 16) (v := undef) rfl (by kernel_rfl) (by kernel_rfl) (by kernel_rfl) (fun _ _ _ h => nomatch h.1) (Or.inr ⟨by rfl, rfl⟩) hS ?_
  simp only [Act.put, List.getElem_toArray, List.getElem_cons_succ, List.getElem_cons_zero, List.setIfInBounds_toArray, List.set_cons_zero, List.set_cons_succ]
  refine wpAnyH_take (i := 17) (v := ?_) rfl (by kernel_rfl) (by kernel_rfl) (by kernel_rfl) (fun _ _ _ h => nomatch h.1) (Or.inl ⟨by rfl, ?_⟩) hS ?_
  rotate_left
  · intro w hSw
    obtain ⟨⟨p0, p1, p2, p3, lp⟩, ⟨q0, q1, q2, q3, lq⟩, ⟨t0, t1, t2, t3, lt⟩, _⟩ := hSw
    go_simp
    first | done | with_reducible rfl
  simp only [Act.put, List.getElem_toArray, List.getElem_cons_succ, List.getElem_cons_zero, List.setIfInBounds_toArray, List.set_cons_zero, List.set_cons_succ]
  refine wpAnyH_take (i := 18) (v := ?_) rfl (by kernel_rfl) (by kernel_rfl) (by kernel_rfl) (fun _ _ _ h => nomatch h.1) (Or.inl ⟨by rfl, ?_⟩) hS ?_
  rotate_left
  · intro w hSw
    obtain ⟨⟨p0, p1, p2, p3, lp⟩, ⟨q0, q1, q2, q3, lq⟩, ⟨t0, t1, t2, t3, lt⟩, _⟩ := hSw
    go_simp
    first | done | with_reducible rfl
  simp only [Act.put, List.getElem_toArray, List.getElem_cons_succ, List.getElem_cons_zero, List.setIfInBounds_toArray, List.set_cons_zero, List.set_cons_succ]
  refine wpAnyH_take (i := 19) (v := ?_) rfl (by kernel_rfl) (by kernel_rfl) (by kernel_rfl) (fun _ _ _ h => nomatch h.1) (Or.inl ⟨by rfl, ?_⟩) hS ?_
  rotate_left
  · intro w hSw
    obtain ⟨⟨p0, p1, p2, p3, lp⟩, ⟨q0, q1, q2, q3, lq⟩, ⟨t0, t1, t2, t3, lt⟩, _⟩ := hSw
    go_simp
    first | done | with_reducible rfl
  simp only [Act.put, List.getElem_toArray, List.getElem_cons_succ, List.getElem_cons_zero, List.setIfInBounds_toArray, List.set_cons_zero, List.set_cons_succ]
  refine wpAnyH_take (i := 20) (v := ?_) rfl (by kernel_rfl) (by kernel_rfl) (by kernel_rfl) (fun _ _ _ h => nomatch h.1) (Or.inl ⟨by rfl, ?_⟩) hS ?_
  rotate_left
  · intro w hSw
    obtain ⟨⟨p0, p1, p2, p3, lp⟩, ⟨q0, q1, q2, q3, lq⟩, ⟨t0, t1, t2, t3, lt⟩, _⟩ := hSw
    go_simp
    first | done | with_reducible rfl
  simp only [Act.put, List.getElem_toArray, List.getElem_cons_succ, List.getElem_cons_zero, List.setIfInBounds_toArray, List.set_cons_zero, List.set_cons_succ]
  refine wpAnyH_take (i := 21) (v := ?_) rfl (by kernel_rfl) (by kernel_rfl) (by kernel_rfl) (fun _ _ _ h => nomatch h.1) (Or.inl ⟨by rfl, ?_⟩) hS ?_
  rotate_left
  · intro w hSw
    obtain ⟨⟨p0, p1, p2, p3, lp⟩, ⟨q0, q1, q2, q3, lq⟩, ⟨t0, t1, t2, t3, lt⟩, _⟩ := hSw
    go_simp
    first | done | with_reducible rfl
  simp only [Act.put, List.getElem_toArray, List.getElem_cons_succ, List.getElem_cons_zero, List.setIfInBounds_toArray, List.set_cons_zero, List.set_cons_succ]
  refine wpAnyH_take (i := 22) (v := ?_) rfl (by kernel_rfl) (by kernel_rfl) (by kernel_rfl) (fun _ _ _ h => nomatch h.1) (Or.inl ⟨by rfl, ?_⟩) hS ?_
  rotate_left
  · intro w hSw
    obtain ⟨⟨p0, p1, p2, p3, lp⟩, ⟨q0, q1, q2, q3, lq⟩, ⟨t0, t1, t2, t3, lt⟩, _⟩ := hSw
    go_simp
    first | done | with_reducible rfl
  simp only [Act.put, List.getElem_toArray, List.getElem_cons_succ, List.getElem_cons_zero, List.setIfInBounds_toArray, List.set_cons_zero, List.set_cons_succ]
  refine wpAnyH_take (i := 23) (v := ?_) rfl (by kernel_rfl) (by kernel_rfl) (by kernel_rfl) (fun _ _ _ h => nomatch h.1) (Or.inl ⟨by rfl, ?_⟩) hS ?_
  rotate_left
  · intro w hSw
    obtain ⟨⟨p0, p1, p2, p3, lp⟩, ⟨q0, q1, q2, q3, lq⟩, ⟨t0, t1, t2, t3, lt⟩, _⟩ := hSw
    go_simp
    first | done | with_reducible rfl
  simp only [Act.put, List.getElem_toArray, List.getElem_cons_succ, List.getElem_cons_zero, List.setIfInBounds_toArray, List.set_cons_zero, List.set_cons_succ]
  refine wpAnyH_take (i := 24) (v := ?_) rfl (by kernel_rfl) (by kernel_rfl) (by kernel_rfl) (fun _ _ _ h => nomatch h.1) (Or.inl ⟨by rfl, ?_⟩) hS ?_
  rotate_left
  · intro w hSw
    obtain ⟨⟨p0, p1, p2, p3, lp⟩, ⟨q0, q1, q2, q3, lq⟩, ⟨t0, t1, t2, t3, lt⟩, _⟩ := hSw
    go_simp
    first | done | with_reducible rfl
  simp only [Act.put, List.getElem_toArray, List.getElem_cons_succ, List.getElem_cons_zero, List.setIfInBounds_toArray, List.set_cons_zero, List.set_cons_succ]
  refine wpAnyH_take (i := 25) (v := ?_) rfl (by kernel_rfl) (by kernel_rfl) (by kernel_rfl) (fun _ _ _ h => nomatch h.1) (Or.inl ⟨by rfl, ?_⟩) hS ?_
  rotate_left
  · intro w hSw
    obtain ⟨⟨p0, p1, p2, p3, lp⟩, ⟨q0, q1, q2, q3, lq⟩, ⟨t0, t1, t2, t3, lt⟩, _⟩ := hSw
    go_simp
    first | done | with_reducible rfl
  simp only [Act.put, List.getElem_toArray, List.getElem_cons_succ, List.getElem_cons_zero, List.setIfInBounds_toArray, List.set_cons_zero, List.set_cons_succ]
  refine wpAnyH_ready (rs := [26]) (by kernel_rfl) (by simp) ?_
  refine AllReadyH.cons rfl (fun K hK => ?_) AllReadyH.nil
  go_simp
  refine (hbc.out _).mono ?_
  rintro e w1 ⟨rfl, hb⟩
  try go_wp2_with fail
  have hT := hS.keep hb
  refine hK.out _ _ hT (fun _ => ?_)
  clear hK K hS hb
  have hS := hT
  clear hT
  simp only [List.setIfInBounds_toArray, List.set_cons_zero, List.set_cons_succ]
  refine wpAnyH_take (i := 27) (v := ?_) rfl (by kernel_rfl) (by kernel_rfl) (by kernel_rfl) (fun _ _ _ h => nomatch h.1) (Or.inl ⟨by rfl, ?_⟩) hS ?_
  rotate_left
  · intro w hSw
    obtain ⟨⟨p0, p1, p2, p3, lp⟩, ⟨q0, q1, q2, q3, lq⟩, ⟨t0, t1, t2, t3, lt⟩, _⟩ := hSw
    go_simp
    first | done | with_reducible rfl
  simp only [Act.put, List.getElem_toArray, List.getElem_cons_succ, List.getElem_cons_zero, List.setIfInBounds_toArray, List.set_cons_zero, List.set_cons_succ]
  refine wpAnyH_take (i := 28) (v := ?_) rfl (by kernel_rfl) (by kernel_rfl) (by kernel_rfl) (fun _ _ _ h => nomatch h.1) (Or.inl ⟨by rfl, ?_⟩) hS ?_
  rotate_left
  · intro w hSw
    obtain ⟨⟨p0, p1, p2, p3, lp⟩, ⟨q0, q1, q2, q3, lq⟩, ⟨t0, t1, t2, t3, lt⟩, _⟩ := hSw
    go_simp
    first | done | with_reducible rfl
  simp only [Act.put, List.getElem_toArray, List.getElem_cons_succ, List.getElem_cons_zero, List.setIfInBounds_toArray, List.set_cons_zero, List.set_cons_succ]
  refine wpAnyH_take (i := 29) (v := ?_) rfl (by kernel_rfl) (by kernel_rfl) (by kernel_rfl) (fun _ _ _ h => nomatch h.1) (Or.inl ⟨by rfl, ?_⟩) hS ?_
  rotate_left
  · intro w hSw
    obtain ⟨⟨p0, p1, p2, p3, lp⟩, ⟨q0, q1, q2, q3, lq⟩, ⟨t0, t1, t2, t3, lt⟩, _⟩ := hSw
    go_simp
    first | done | with_reducible rfl
  simp only [Act.put, List.getElem_toArray, List.getElem_cons_succ, List.getElem_cons_zero, List.setIfInBounds_toArray, List.set_cons_zero, List.set_cons_succ]
  refine wpAnyH_take (i := 30) (v := undef) rfl (by kernel_rfl) (by kernel_rfl) (by kernel_rfl) (fun _ _ _ h => nomatch h.1) (Or.inr ⟨by rfl, rfl⟩) hS ?_
  simp only [Act.put, List.getElem_toArray, List.getElem_cons_succ, List.getElem_cons_zero, List.setIfInBounds_toArray, List.set_cons_zero, List.set_cons_succ]
  refine wpAnyH_take (i := 31) (v := undef) rfl (by kernel_rfl) (by kernel_rfl) (by kernel_rfl) (fun _ _ _ h => nomatch h.1) (Or.inr ⟨by rfl, rfl⟩) hS ?_
  simp only [Act.put, List.getElem_toArray, List.getElem_cons_succ, List.getElem_cons_zero, List.setIfInBounds_toArray, List.set_cons_zero, List.set_cons_succ]
  refine wpAnyH_take (i := 32) (v := undef) rfl (by kernel_rfl) (by kernel_rfl) (by kernel_rfl) (fun _ _ _ h => nomatch h.1) (Or.inr ⟨by rfl, rfl⟩) hS ?_
  simp only [Act.put, List.getElem_toArray, List.getElem_cons_succ, List.getElem_cons_zero, List.setIfInBounds_toArray, List.set_cons_zero, List.set_cons_succ]
  refine wpAnyH_take (i := 33) (v := ?_) rfl (by kernel_rfl) (by kernel_rfl) (by kernel_rfl) (fun _ _ _ h => nomatch h.1) (Or.inl ⟨by rfl, ?_⟩) hS ?_
  rotate_left
  · intro w hSw
    obtain ⟨⟨p0, p1, p2, p3, lp⟩, ⟨q0, q1, q2, q3, lq⟩, ⟨t0, t1, t2, t3, lt⟩, _⟩ := hSw
    go_simp
    first | done | with_reducible rfl
  simp only [Act.put, List.getElem_toArray, List.getElem_cons_succ, List.getElem_cons_zero, List.setIfInBounds_toArray, List.set_cons_zero, List.set_cons_succ]
  refine wpAnyH_take (i := 34) (v := ?_) rfl (by kernel_rfl) (by kernel_rfl) (by kernel_rfl) (fun _ _ _ h => nomatch h.1) (Or.inl ⟨by rfl, ?_⟩) hS ?_
  rotate_left
  · intro w hSw
    obtain ⟨⟨p0, p1, p2, p3, lp⟩, ⟨q0, q1, q2, q3, lq⟩, ⟨t0, t1, t2, t3, lt⟩, _⟩ := hSw
    go_simp
    first | done | with_reducible rfl
  simp only [Act.put, List.getElem_toArray, List.getElem_cons_succ, List.getElem_cons_zero, List.setIfInBounds_toArray, List.set_cons_zero, List.set_cons_succ]
  refine wpAnyH_take (i := 35) (v := ?_) rfl (by kernel_rfl) (by kernel_rfl) (by kernel_rfl) (fun _ _ _ h => nomatch h.1) (Or.inl ⟨by rfl, ?_⟩) hS ?_
  rotate_left
  · intro w hSw
    obtain ⟨⟨p0, p1, p2, p3, lp⟩, ⟨q0, q1, q2, q3, lq⟩, ⟨t0, t1, t2, t3, lt⟩, _⟩ := hSw
    go_simp
    first | done | with_reducible rfl
  simp only [Act.put, List.getElem_toArray, List.getElem_cons_succ, List.getElem_cons_zero, List.setIfInBounds_toArray, List.set_cons_zero, List.set_cons_succ]
  refine wpAnyH_take (i := 36) (v := ?_) rfl (by kernel_rfl) (by kernel_rfl) (by kernel_rfl) (fun _ _ _ h => nomatch h.1) (Or.inl ⟨by rfl, ?_⟩) hS ?_
  rotate_left
  · intro w hSw
    obtain ⟨⟨p0, p1, p2, p3, lp⟩, ⟨q0, q1, q2, q3, lq⟩, ⟨t0, t1, t2, t3, lt⟩, _⟩ := hSw
    go_simp
    first | done | with_reducible rfl
  simp only [Act.put, List.getElem_toArray, List.getElem_cons_succ, List.getElem_cons_zero, List.setIfInBounds_toArray, List.set_cons_zero, List.set_cons_succ]
  refine wpAnyH_take (i := 37) (v := ?_) rfl (by kernel_rfl) (by kernel_rfl) (by kernel_rfl) (fun _ _ _ h => nomatch h.1) (Or.inl ⟨by rfl, ?_⟩) hS ?_
  rotate_left
  · intro w hSw
    obtain ⟨⟨p0, p1, p2, p3, lp⟩, ⟨q0, q1, q2, q3, lq⟩, ⟨t0, t1, t2, t3, lt⟩, _⟩ := hSw
    go_simp
    first | done | with_reducible rfl
  simp only [Act.put, List.getElem_toArray, List.getElem_cons_succ, List.getElem_cons_zero, List.setIfInBounds_toArray, List.set_cons_zero, List.set_cons_succ]
  refine wpAnyH_take (i := 39) (v := ?_) rfl (by kernel_rfl) (by kernel_rfl) (by kernel_rfl) (fun _ _ _ h => nomatch h.1) (Or.inl ⟨by rfl, ?_⟩) hS ?_
  rotate_left
  · intro w hSw
    obtain ⟨⟨p0, p1, p2, p3, lp⟩, ⟨q0, q1, q2, q3, lq⟩, ⟨t0, t1, t2, t3, lt⟩, _⟩ := hSw
    go_simp
    first | done | with_reducible rfl
  simp only [Act.put, List.getElem_toArray, List.getElem_cons_succ, List.getElem_cons_zero, List.setIfInBounds_toArray, List.set_cons_zero, List.set_cons_succ]
  refine wpAnyH_ready (rs := [38]) (by kernel_rfl) (by simp) ?_
  refine AllReadyH.cons rfl (fun K hK => ?_) AllReadyH.nil
  go_simp
  refine (hfa.out _).mono ?_
  rintro e w1 ⟨rfl, hb⟩
  try go_wp2_with fail
  have hT := hS.keep hb
  refine hK.out _ _ hT (fun _ => ?_)
  clear hK K hS hb
  have hS := hT
  clear hT
  simp only [List.setIfInBounds_toArray, List.set_cons_zero, List.set_cons_succ]
  refine wpAnyH_ready (rs := [40]) (by kernel_rfl) (by simp) ?_
  refine AllReadyH.cons rfl (fun K hK => ?_) AllReadyH.nil
  go_simp
  refine (hfb.out _).mono ?_
  rintro e w1 ⟨rfl, hb⟩
  try go_wp2_with fail
  have hT := hS.keep hb
  refine hK.out _ _ hT (fun _ => ?_)
  clear hK K hS hb
  have hS := hT
  clear hT
  simp only [List.setIfInBounds_toArray, List.set_cons_zero, List.set_cons_succ]
  refine wpAnyH_take (i := 41) (v := ?_) rfl (by kernel_rfl) (by kernel_rfl) (by kernel_rfl) (fun _ _ _ h => nomatch h.1) (Or.inl ⟨by rfl, ?_⟩) hS ?_
  rotate_left
  · intro w hSw
    obtain ⟨⟨p0, p1, p2, p3, lp⟩, ⟨q0, q1, q2, q3, lq⟩, ⟨t0, t1, t2, t3, lt⟩, _⟩ := hSw
    go_simp
    first | done | with_reducible rfl
  simp only [Act.put, List.getElem_toArray, List.getElem_cons_succ, List.getElem_cons_zero, List.setIfInBounds_toArray, List.set_cons_zero, List.set_cons_succ]
  refine wpAnyH_take (i := 42) (v := ?_) rfl (by kernel_rfl) (by kernel_rfl) (by kernel_rfl) (fun _ _ _ h => nomatch h.1) (Or.inl ⟨by rfl, ?_⟩) hS ?_
  rotate_left
  · intro w hSw
    obtain ⟨⟨p0, p1, p2, p3, lp⟩, ⟨q0, q1, q2, q3, lq⟩, ⟨t0, t1, t2, t3, lt⟩, _⟩ := hSw
    go_simp
    first | done | with_reducible rfl
  simp only [Act.put, List.getElem_toArray, List.getElem_cons_succ, List.getElem_cons_zero, List.setIfInBounds_toArray, List.set_cons_zero, List.set_cons_succ]
  refine wpAnyH_take (i := 43) (v := ?_) rfl (by kernel_rfl) (by kernel_rfl) (by kernel_rfl) (fun _ _ _ h => nomatch h.1) (Or.inl ⟨by rfl, ?_⟩) hS ?_
  rotate_left
  · intro w hSw
    obtain ⟨⟨p0, p1, p2, p3, lp⟩, ⟨q0, q1, q2, q3, lq⟩, ⟨t0, t1, t2, t3, lt⟩, _⟩ := hSw
    go_simp
    first | done | with_reducible rfl
  simp only [Act.put, List.getElem_toArray, List.getElem_cons_succ, List.getElem_cons_zero, List.setIfInBounds_toArray, List.set_cons_zero, List.set_cons_succ]
  refine wpAnyH_take (i := 44) (v := ?_) rfl (by kernel_rfl) (by kernel_rfl) (by kernel_rfl) (fun _ _ _ h => nomatch h.1) (Or.inl ⟨by rfl, ?_⟩) hS ?_
  rotate_left
  · intro w hSw
    obtain ⟨⟨p0, p1, p2, p3, lp⟩, ⟨q0, q1, q2, q3, lq⟩, ⟨t0, t1, t2, t3, lt⟩, _⟩ := hSw
    go_simp
    first | done | with_reducible rfl
  simp only [Act.put, List.getElem_toArray, List.getElem_cons_succ, List.getElem_cons_zero, List.setIfInBounds_toArray, List.set_cons_zero, List.set_cons_succ]
  refine wpAnyH_done (by kernel_rfl) ?_ _
  exact ⟨rfl, rfl, rfl, hS⟩

theorem or_b_false : Array.replicate 45 false = #[false, false, false, false, false, false, false, false, false, false, false, false, false, false, false, false, false, false, false, false, false, false, false, false, false, false, false, false, false, false, false, false, false, false, false, false, false, false, false, false, false, false, false, false, false] := by kernel_rfl
theorem or_b_size {ops : Array Oper} (hcode : Tryd.f7.body.bind (regAt 6) = some (.region 6 ops true)) : ops.size = 45 := by
  have h : (Tryd.f7.body.bind (regAt 6)).map (fun c => match c with | .region _ o _ => o.size | _ => 0) = some 45 := by kernel_rfl
  rw [hcode] at h
  exact Option.some.inj h
theorem or_b_wp (w W : World) (b0 b1 b2 A B C : Nat) (fa fb : List UInt8) (heq : ∀ w : World, (Op.equalIn 10000 24 (wn A) (wn B)).run Tryd.prog w = .ok false w) (hlt : Hid (Op.bytesLess fa fb = true)) (hbc : Hid (∀ w : World, Calls Tryd.prog 17 #[wn B, wn C] w fun e w' => e = .returned (.bool false) ∧ Below w.heap.size w w')) (hfa : Hid (∀ w : World, Calls Tryd.prog 25 #[wn A] w fun e w' => e = .returned (.string ⟨fa.toArray⟩) ∧ Below w.heap.size w w')) (hfb : Hid (∀ w : World, Calls Tryd.prog 25 #[wn B] w fun e w' => e = .returned (.string ⟨fb.toArray⟩) ∧ Below w.heap.size w w')) (x0 x1 x2 x10 x11 x12 x13 x14 x15 x16 x17 x18 x19 x20 x21 x22 x23 x24 x25 x26 x27 x28 x29 x30 x31 x32 x33 x34 x35 x36 x37 x38 x39 x40 x41 x42 x43 x44 x45 x46 x47 x48 x49 x50 x51 x52 x53 x54 x55 x56 x57 x58 x59 x60 x61 x62 : Value) (ops : Array Oper) (hcode : Tryd.f7.body.bind (regAt 6) = some (.region 6 ops true)) (hS : SO w b0 b1 b2 A B C W) :
    (Code.region 6 ops true).wp Tryd.prog (RX 6 (SO w b0 b1 b2 A B C)) { tmps := #[x0, x1, x2, .pointer (some ⟨b0, 0, none⟩), .pointer (some ⟨b1, 0, none⟩), .pointer (some ⟨b2, 0, none⟩), .bool false, .bool true, .bool true, .bool false, x10, x11, x12, x13, x14, x15, x16, x17, x18, x19, x20, x21, x22, x23, x24, x25, x26, x27, x28, x29, x30, x31, x32, x33, x34, x35, x36, x37, x38, x39, x40, x41, x42, x43, x44, x45, x46, x47, x48, x49, x50, x51, x52, x53, x54, x55, x56, x57, x58, x59, x60, x61, x62], defers := [] } W := by
  refine wp_region_held_drew (S := SO w b0 b1 b2 A B C) (by kernel_rfl) (hS.keep (Below.refl _ W).drew) (fun h => ?_)
  rw [or_b_size hcode, or_b_false]
  exact or_b_all w _ b0 b1 b2 A B C fa fb heq hlt hbc hfa hfb x0 x1 x2 x10 x11 x12 x13 x14 x15 x16 x17 x18 x19 x20 x21 x22 x23 x24 x25 x26 x27 x28 x29 x30 x31 x32 x33 x34 x35 x36 x37 x38 x39 x40 x41 x42 x43 x44 x45 x46 x47 x48 x49 x50 x51 x52 x53 x54 x55 x56 x57 x58 x59 x60 x61 x62 ops hcode h

set_option maxRecDepth 100000 in
set_option maxHeartbeats 8000000 in
theorem or_c_all (w W : World) (b0 b1 b2 A B C : Nat) (fa fb : List UInt8) (heq : ∀ w : World, (Op.equalIn 10000 24 (wn A) (wn B)).run Tryd.prog w = .ok false w) (hlt : Hid (Op.bytesLess fa fb = false)) (hfa : Hid (∀ w : World, Calls Tryd.prog 25 #[wn A] w fun e w' => e = .returned (.string ⟨fa.toArray⟩) ∧ Below w.heap.size w w')) (hfb : Hid (∀ w : World, Calls Tryd.prog 25 #[wn B] w fun e w' => e = .returned (.string ⟨fb.toArray⟩) ∧ Below w.heap.size w w')) (x0 x1 x2 x10 x11 x12 x13 x14 x15 x16 x17 x18 x19 x20 x21 x22 x23 x24 x25 x26 x27 x28 x29 x30 x31 x32 x33 x34 x35 x36 x37 x38 x39 x40 x41 x42 x43 x44 x45 x46 x47 x48 x49 x50 x51 x52 x53 x54 x55 x56 x57 x58 x59 x60 x61 x62 : Value) (ops : Array Oper) (hcode : Tryd.f7.body.bind (regAt 6) = some (.region 6 ops true)) (hS : SO w b0 b1 b2 A B C W) :
    wpAnyH Tryd.prog .any ops (RX 6 (SO w b0 b1 b2 A B C)) (SO w b0 b1 b2 A B C) 45 #[false, false, false, false, false, false, false, false, false, false, false, false, false, false, false, false, false, false, false, false, false, false, false, false, false, false, false, false, false, false, false, false, false, false, false, false, false, false, false, false, false, false, false, false, false] { tmps := #[x0, x1, x2, .pointer (some ⟨b0, 0, none⟩), .pointer (some ⟨b1, 0, none⟩), .pointer (some ⟨b2, 0, none⟩), .bool false, .bool true, .bool false, .bool true, x10, x11, x12, x13, x14, x15, x16, x17, x18, x19, x20, x21, x22, x23, x24, x25, x26, x27, x28, x29, x30, x31, x32, x33, x34, x35, x36, x37, x38, x39, x40, x41, x42, x43, x44, x45, x46, x47, x48, x49, x50, x51, x52, x53, x54, x55, x56, x57, x58, x59, x60, x61, x62], defers := [] } W := by
  simp only [Tryd.f7, Option.bind_some, regAt, Option.some_or, Option.none_or, if_true, if_false, Nat.reduceEqDiff, Option.some.injEq, Code.region.injEq, true_and, and_true] at hcode
  subst hcode
  have hlu := hlt.out
  refine wpAnyH_take (i := 0) (v := ?_) rfl (by kernel_rfl) (by kernel_rfl) (by kernel_rfl) (fun _ _ _ h => nomatch h.1) (Or.inl ⟨by rfl, ?_⟩) hS ?_
  rotate_left
  · intro w hSw
    obtain ⟨⟨p0, p1, p2, p3, lp⟩, ⟨q0, q1, q2, q3, lq⟩, ⟨t0, t1, t2, t3, lt⟩, _⟩ := hSw
    go_simp
    first | done | with_reducible rfl
  simp only [Act.put, List.getElem_toArray, List.getElem_cons_zero, List.setIfInBounds_toArray, List.set_cons_zero, List.set_cons_succ]
  refine wpAnyH_take (i := 1) (v := ?_) rfl (by kernel_rfl) (by kernel_rfl) (by kernel_rfl) (fun _ _ _ h => nomatch h.1) (Or.inl ⟨by rfl, ?_⟩) hS ?_
  rotate_left
  · intro w hSw
    obtain ⟨⟨p0, p1, p2, p3, lp⟩, ⟨q0, q1, q2, q3, lq⟩, ⟨t0, t1, t2, t3, lt⟩, _⟩ := hSw
    go_simp
    first | done | with_reducible rfl
  simp only [Act.put, List.getElem_toArray, List.getElem_cons_succ, List.getElem_cons_zero, List.setIfInBounds_toArray, List.set_cons_zero, List.set_cons_succ]
  refine wpAnyH_take (i := 2) (v := ?_) rfl (by kernel_rfl) (by kernel_rfl) (by kernel_rfl) (fun _ _ _ h => nomatch h.1) (Or.inl ⟨by rfl, ?_⟩) hS ?_
  rotate_left
  · intro w hSw
    obtain ⟨⟨p0, p1, p2, p3, lp⟩, ⟨q0, q1, q2, q3, lq⟩, ⟨t0, t1, t2, t3, lt⟩, _⟩ := hSw
    go_simp
    first | done | with_reducible rfl
  simp only [Act.put, List.getElem_toArray, List.getElem_cons_succ, List.getElem_cons_zero, List.setIfInBounds_toArray, List.set_cons_zero, List.set_cons_succ]
  refine wpAnyH_take (i := 3) (v := ?_) rfl (by kernel_rfl) (by kernel_rfl) (by kernel_rfl) (fun _ _ _ h => nomatch h.1) (Or.inl ⟨by rfl, ?_⟩) hS ?_
  rotate_left
  · intro w hSw
    obtain ⟨⟨p0, p1, p2, p3, lp⟩, ⟨q0, q1, q2, q3, lq⟩, ⟨t0, t1, t2, t3, lt⟩, _⟩ := hSw
    go_simp
    first | done | with_reducible rfl
  simp only [Act.put, List.getElem_toArray, List.getElem_cons_succ, List.getElem_cons_zero, List.setIfInBounds_toArray, List.set_cons_zero, List.set_cons_succ]
  refine wpAnyH_take (i := 4) (v := undef) rfl (by kernel_rfl) (by kernel_rfl) (by kernel_rfl) (fun _ _ _ h => nomatch h.1) (Or.inr ⟨by rfl, rfl⟩) hS ?_
  simp only [Act.put, List.getElem_toArray, List.getElem_cons_succ, List.getElem_cons_zero, List.setIfInBounds_toArray, List.set_cons_zero, List.set_cons_succ]
  refine wpAnyH_take (i := 5) (v := ?_) rfl (by kernel_rfl) (by kernel_rfl) (by kernel_rfl) (fun _ _ _ h => nomatch h.1) (Or.inl ⟨by rfl, ?_⟩) hS ?_
  rotate_left
  · intro w hSw
    obtain ⟨⟨p0, p1, p2, p3, lp⟩, ⟨q0, q1, q2, q3, lq⟩, ⟨t0, t1, t2, t3, lt⟩, _⟩ := hSw
    go_simp
    first | done | with_reducible rfl
  simp only [Act.put, List.getElem_toArray, List.getElem_cons_succ, List.getElem_cons_zero, List.setIfInBounds_toArray, List.set_cons_zero, List.set_cons_succ]
  refine wpAnyH_take (i := 6) (v := ?_) rfl (by kernel_rfl) (by kernel_rfl) (by kernel_rfl) (fun _ _ _ h => nomatch h.1) (Or.inl ⟨by rfl, ?_⟩) hS ?_
  rotate_left
  · intro w hSw
    obtain ⟨⟨p0, p1, p2, p3, lp⟩, ⟨q0, q1, q2, q3, lq⟩, ⟨t0, t1, t2, t3, lt⟩, _⟩ := hSw
    go_simp
    first | done | with_reducible rfl
  simp only [Act.put, List.getElem_toArray, List.getElem_cons_succ, List.getElem_cons_zero, List.setIfInBounds_toArray, List.set_cons_zero, List.set_cons_succ]
  refine wpAnyH_take (i := 7) (v := ?_) rfl (by kernel_rfl) (by kernel_rfl) (by kernel_rfl) (fun _ _ _ h => nomatch h.1) (Or.inl ⟨by rfl, ?_⟩) hS ?_
  rotate_left
  · intro w hSw
    obtain ⟨⟨p0, p1, p2, p3, lp⟩, ⟨q0, q1, q2, q3, lq⟩, ⟨t0, t1, t2, t3, lt⟩, _⟩ := hSw
    go_simp
    first | done | with_reducible rfl
  simp only [Act.put, List.getElem_toArray, List.getElem_cons_succ, List.getElem_cons_zero, List.setIfInBounds_toArray, List.set_cons_zero, List.set_cons_succ]
  refine wpAnyH_take (i := 8) (v := ?_) rfl (by kernel_rfl) (by kernel_rfl) (by kernel_rfl) (fun _ _ _ h => nomatch h.1) (Or.inl ⟨by rfl, ?_⟩) hS ?_
  rotate_left
  · intro w hSw
    obtain ⟨⟨p0, p1, p2, p3, lp⟩, ⟨q0, q1, q2, q3, lq⟩, ⟨t0, t1, t2, t3, lt⟩, _⟩ := hSw
    go_simp
    first | done | with_reducible rfl
  simp only [Act.put, List.getElem_toArray, List.getElem_cons_succ, List.getElem_cons_zero, List.setIfInBounds_toArray, List.set_cons_zero, List.set_cons_succ]
  refine wpAnyH_take (i := 9) (v := ?_) rfl (by kernel_rfl) (by kernel_rfl) (by kernel_rfl) (fun _ _ _ h => nomatch h.1) (Or.inl ⟨by rfl, ?_⟩) hS ?_
  rotate_left
  · intro w hSw
    obtain ⟨⟨p0, p1, p2, p3, lp⟩, ⟨q0, q1, q2, q3, lq⟩, ⟨t0, t1, t2, t3, lt⟩, _⟩ := hSw
    go_simp
    first | done | with_reducible rfl
  simp only [Act.put, List.getElem_toArray, List.getElem_cons_succ, List.getElem_cons_zero, List.setIfInBounds_toArray, List.set_cons_zero, List.set_cons_succ]
  refine wpAnyH_take (i := 10) (v := ?_) rfl (by kernel_rfl) (by kernel_rfl) (by kernel_rfl) (fun _ _ _ h => nomatch h.1) (Or.inl ⟨by rfl, ?_⟩) hS ?_
  rotate_left
  · intro w hSw
    obtain ⟨⟨p0, p1, p2, p3, lp⟩, ⟨q0, q1, q2, q3, lq⟩, ⟨t0, t1, t2, t3, lt⟩, _⟩ := hSw
    go_simp
    first | done | with_reducible rfl
  simp only [Act.put, List.getElem_toArray, List.getElem_cons_succ, List.getElem_cons_zero, List.setIfInBounds_toArray, List.set_cons_zero, List.set_cons_succ]
  refine wpAnyH_take (i := 11) (v := ?_) rfl (by kernel_rfl) (by kernel_rfl) (by kernel_rfl) (fun _ _ _ h => nomatch h.1) (Or.inl ⟨by rfl, ?_⟩) hS ?_
  rotate_left
  · intro w hSw
    obtain ⟨⟨p0, p1, p2, p3, lp⟩, ⟨q0, q1, q2, q3, lq⟩, ⟨t0, t1, t2, t3, lt⟩, _⟩ := hSw
    go_simp
    first | done | with_reducible rfl
  simp only [Act.put, List.getElem_toArray, List.getElem_cons_succ, List.getElem_cons_zero, List.setIfInBounds_toArray, List.set_cons_zero, List.set_cons_succ]
  refine wpAnyH_take (i := 12) (v := ?_) rfl (by kernel_rfl) (by kernel_rfl) (by kernel_rfl) (fun _ _ _ h => nomatch h.1) (Or.inl ⟨by rfl, ?_⟩) hS ?_
  rotate_left
  · intro w hSw
    obtain ⟨⟨p0, p1, p2, p3, lp⟩, ⟨q0, q1, q2, q3, lq⟩, ⟨t0, t1, t2, t3, lt⟩, _⟩ := hSw
    go_simp
    first | done | with_reducible rfl
  simp only [Act.put, List.getElem_toArray, List.getElem_cons_succ, List.getElem_cons_zero, List.setIfInBounds_toArray, List.set_cons_zero, List.set_cons_succ]
  refine wpAnyH_take (i := 13) (v := ?_) rfl (by kernel_rfl) (by kernel_rfl) (by kernel_rfl) (fun _ _ _ h => nomatch h.1) (Or.inl ⟨by rfl, ?_⟩) hS ?_
  rotate_left
  · intro w hSw
    obtain ⟨⟨p0, p1, p2, p3, lp⟩, ⟨q0, q1, q2, q3, lq⟩, ⟨t0, t1, t2, t3, lt⟩, _⟩ := hSw
    go_simp
    first | done | with_reducible rfl
  simp only [Act.put, List.getElem_toArray, List.getElem_cons_succ, List.getElem_cons_zero, List.setIfInBounds_toArray, List.set_cons_zero, List.set_cons_succ]
  refine wpAnyH_take (i := 14) (v := ?_) rfl (by kernel_rfl) (by kernel_rfl) (by kernel_rfl) (fun _ _ _ h => nomatch h.1) (Or.inl ⟨by rfl, ?_⟩) hS ?_
  rotate_left
  · intro w hSw
    obtain ⟨⟨p0, p1, p2, p3, lp⟩, ⟨q0, q1, q2, q3, lq⟩, ⟨t0, t1, t2, t3, lt⟩, _⟩ := hSw
    go_simp
    first | done | with_reducible rfl
  simp only [Act.put, List.getElem_toArray, List.getElem_cons_succ, List.getElem_cons_zero, List.setIfInBounds_toArray, List.set_cons_zero, List.set_cons_succ]
  refine wpAnyH_take (i := 15) (v := ?_) rfl (by kernel_rfl) (by kernel_rfl) (by kernel_rfl) (fun _ _ _ h => nomatch h.1) (Or.inl ⟨by rfl, ?_⟩) hS ?_
  rotate_left
  · intro w hSw
    obtain ⟨⟨p0, p1, p2, p3, lp⟩, ⟨q0, q1, q2, q3, lq⟩, ⟨t0, t1, t2, t3, lt⟩, _⟩ := hSw
    go_simp
    first | done | with_reducible rfl
  simp only [Act.put, List.getElem_toArray, List.getElem_cons_succ, List.getElem_cons_zero, List.setIfInBounds_toArray, List.set_cons_zero, List.set_cons_succ]
  refine wpAnyH_take (i := 16) (v := ?_) rfl (by kernel_rfl) (by kernel_rfl) (by kernel_rfl) (fun _ _ _ h => nomatch h.1) (Or.inl ⟨by rfl, ?_⟩) hS ?_
  rotate_left
  · intro w hSw
    obtain ⟨⟨p0, p1, p2, p3, lp⟩, ⟨q0, q1, q2, q3, lq⟩, ⟨t0, t1, t2, t3, lt⟩, _⟩ := hSw
    go_simp
    first | done | with_reducible rfl
  simp only [Act.put, List.getElem_toArray, List.getElem_cons_succ, List.getElem_cons_zero, List.setIfInBounds_toArray, List.set_cons_zero, List.set_cons_succ]
  refine wpAnyH_take (i := 17) (v := ?_) rfl (by kernel_rfl) (by kernel_rfl) (by kernel_rfl) (fun _ _ _ h => nomatch h.1) (Or.inl ⟨by rfl, ?_⟩) hS ?_
  rotate_left
  · intro w hSw
    obtain ⟨⟨p0, p1, p2, p3, lp⟩, ⟨q0, q1, q2, q3, lq⟩, ⟨t0, t1, t2, t3, lt⟩, _⟩ := hSw
    go_simp
    first | done | with_reducible rfl
  simp only [Act.put, List.getElem_toArray, List.getElem_cons_succ, List.getElem_cons_zero, List.setIfInBounds_toArray, List.set_cons_zero, List.set_cons_succ]
  refine wpAnyH_take (i := 18) (v := ?_) rfl (by kernel_rfl) (by kernel_rfl) (by kernel_rfl) (fun _ _ _ h => nomatch h.1) (Or.inl ⟨by rfl, ?_⟩) hS ?_
  rotate_left
  · intro w hSw
    obtain ⟨⟨p0, p1, p2, p3, lp⟩, ⟨q0, q1, q2, q3, lq⟩, ⟨t0, t1, t2, t3, lt⟩, _⟩ := hSw
    go_simp
    first | done | with_reducible rfl
  simp only [Act.put, List.getElem_toArray, List.getElem_cons_succ, List.getElem_cons_zero, List.setIfInBounds_toArray, List.set_cons_zero, List.set_cons_succ]
  refine wpAnyH_take (i := 19) (v := ?_) rfl (by kernel_rfl) (by kernel_rfl) (by kernel_rfl) (fun _ _ _ h => nomatch h.1) (Or.inl ⟨by rfl, ?_⟩) hS ?_
  rotate_left
  · intro w hSw
    obtain ⟨⟨p0, p1, p2, p3, lp⟩, ⟨q0, q1, q2, q3, lq⟩, ⟨t0, t1, t2, t3, lt⟩, _⟩ := hSw
    go_simp
    first | done | with_reducible rfl
  simp only [Act.put, List.getElem_toArray, List.getElem_cons_succ, List.getElem_cons_zero, List.setIfInBounds_toArray, List.set_cons_zero, List.set_cons_succ]
  refine wpAnyH_take (i := 20) (v := ?_) rfl (by kernel_rfl) (by kernel_rfl) (by kernel_rfl) (fun _ _ _ h => nomatch h.1) (Or.inl ⟨by rfl, ?_⟩) hS ?_
  rotate_left
  · intro w hSw
    obtain ⟨⟨p0, p1, p2, p3, lp⟩, ⟨q0, q1, q2, q3, lq⟩, ⟨t0, t1, t2, t3, lt⟩, _⟩ := hSw
    go_simp
    first | done | with_reducible rfl
  simp only [Act.put, List.getElem_toArray, List.getElem_cons_succ, List.getElem_cons_zero, List.setIfInBounds_toArray, List.set_cons_zero, List.set_cons_succ]
  refine wpAnyH_take (i := 21) (v := ?_) rfl (by kernel_rfl) (by kernel_rfl) (by kernel_rfl) (fun _ _ _ h => nomatch h.1) (Or.inl ⟨by rfl, ?_⟩) hS ?_
  rotate_left
  · intro w hSw
    obtain ⟨⟨p0, p1, p2, p3, lp⟩, ⟨q0, q1, q2, q3, lq⟩, ⟨t0, t1, t2, t3, lt⟩, _⟩ := hSw
    go_simp
    first | done | with_reducible rfl
  simp only [Act.put, List.getElem_toArray, List.getElem_cons_succ, List.getElem_cons_zero, List.setIfInBounds_toArray, List.set_cons_zero, List.set_cons_succ]
  refine wpAnyH_take (i := 22) (v := ?_) rfl (by kernel_rfl) (by kernel_rfl) (by kernel_rfl) (fun _ _ _ h => nomatch h.1) (Or.inl ⟨by rfl, ?_⟩) hS ?_
  rotate_left
  · intro w hSw
    obtain ⟨⟨p0, p1, p2, p3, lp⟩, ⟨q0, q1, q2, q3, lq⟩, ⟨t0, t1, t2, t3, lt⟩, _⟩ := hSw
    go_simp
    first | done | with_reducible rfl
  simp only [Act.put, List.getElem_toArray, List.getElem_cons_succ, List.getElem_cons_zero, List.setIfInBounds_toArray, List.set_cons_zero, List.set_cons_succ]
  refine wpAnyH_take (i := 23) (v := ?_) rfl (by kernel_rfl) (by kernel_rfl) (by kernel_rfl) (fun _ _ _ h => nomatch h.1) (Or.inl ⟨by rfl, ?_⟩) hS ?_
  rotate_left
  · intro w hSw
    obtain ⟨⟨p0, p1, p2, p3, lp⟩, ⟨q0, q1, q2, q3, lq⟩, ⟨t0, t1, t2, t3, lt⟩, _⟩ := hSw
    go_simp
    first | done | with_reducible rfl
  simp only [Act.put, List.getElem_toArray, List.getElem_cons_succ, List.getElem_cons_zero, List.setIfInBounds_toArray, List.set_cons_zero, List.set_cons_succ]
  refine wpAnyH_take (i := 24) (v := undef) rfl (by kernel_rfl) (by kernel_rfl) (by kernel_rfl) (fun _ _ _ h => nomatch h.1) (Or.inr ⟨by rfl, rfl⟩) hS ?_
  simp only [Act.put, List.getElem_toArray, List.getElem_cons_succ, List.getElem_cons_zero, List.setIfInBounds_toArray, List.set_cons_zero, List.set_cons_succ]
  refine wpAnyH_take (i := 25) (v := undef) rfl (by kernel_rfl) (by kernel_rfl) (by kernel_rfl) (fun _ _ _ h => nomatch h.1) (Or.inr ⟨by rfl, rfl⟩) hS ?_
  simp only [Act.put, List.getElem_toArray, List.getElem_cons_succ, List.getElem_cons_zero, List.setIfInBounds_toArray, List.set_cons_zero, List.set_cons_succ]
  refine wpAnyH_take (i := 26) (v := undef) rfl (by kernel_rfl) (by kernel_rfl) (by kernel_rfl) (fun _ _ _ h => nomatch h.1) (Or.inr ⟨by rfl, rfl⟩) hS ?_
  simp only [Act.put, List.getElem_toArray, List.getElem_cons_succ, List.getElem_cons_zero, List.setIfInBounds_toArray, List.set_cons_zero, List.set_cons_succ]
  refine wpAnyH_take (i := 27) (v := undef) rfl (by kernel_rfl) (by kernel_rfl) (by kernel_rfl) (fun _ _ _ h => nomatch h.1) (Or.inr ⟨by rfl, rfl⟩) hS ?_
  simp only [Act.put, List.getElem_toArray, List.getElem_cons_succ, List.getElem_cons_zero, List.setIfInBounds_toArray, List.set_cons_zero, List.set_cons_succ]
  refine wpAnyH_take (i := 28) (v := ?_) rfl (by kernel_rfl) (by kernel_rfl) (by kernel_rfl) (fun _ _ _ h => nomatch h.1) (Or.inl ⟨by rfl, ?_⟩) hS ?_
  rotate_left
  · intro w hSw
    obtain ⟨⟨p0, p1, p2, p3, lp⟩, ⟨q0, q1, q2, q3, lq⟩, ⟨t0, t1, t2, t3, lt⟩, _⟩ := hSw
    go_simp
    first | done | with_reducible rfl
  simp only [Act.put, List.getElem_toArray, List.getElem_cons_succ, List.getElem_cons_zero, List.setIfInBounds_toArray, List.set_cons_zero, List.set_cons_succ]
  refine wpAnyH_take (i := 29) (v := ?_) rfl (by kernel_rfl) (by kernel_rfl) (by kernel_rfl) (fun _ _ _ h => nomatch h.1) (Or.inl ⟨by rfl, ?_⟩) hS ?_
  rotate_left
  · intro w hSw
    obtain ⟨⟨p0, p1, p2, p3, lp⟩, ⟨q0, q1, q2, q3, lq⟩, ⟨t0, t1, t2, t3, lt⟩, _⟩ := hSw
    go_simp
    first | done | with_reducible rfl
  simp only [Act.put, List.getElem_toArray, List.getElem_cons_succ, List.getElem_cons_zero, List.setIfInBounds_toArray, List.set_cons_zero, List.set_cons_succ]
  refine wpAnyH_take (i := 30) (v := undef) rfl (by kernel_rfl) (by kernel_rfl) (by kernel_rfl) (fun _ _ _ h => nomatch h.1) (Or.inr ⟨by rfl, rfl⟩) hS ?_
  simp only [Act.put, List.getElem_toArray, List.getElem_cons_succ, List.getElem_cons_zero, List.setIfInBounds_toArray, List.set_cons_zero, List.set_cons_succ]
  refine wpAnyH_take (i := 31) (v := undef) rfl (by kernel_rfl) (by kernel_rfl) (by kernel_rfl) (fun _ _ _ h => nomatch h.1) (Or.inr ⟨by rfl, rfl⟩) hS ?_
  simp only [Act.put, List.getElem_toArray, List.getElem_cons_succ, List.getElem_cons_zero, List.setIfInBounds_toArray, List.set_cons_zero, List.set_cons_succ]
  refine wpAnyH_take (i := 32) (v := undef) rfl (by kernel_rfl) (by kernel_rfl) (by kernel_rfl) (fun _ _ _ h => nomatch h.1) (Or.inr ⟨by rfl, rfl⟩) hS ?_
  simp only [Act.put, List.getElem_toArray, List.getElem_cons_succ, List.getElem_cons_zero, List.setIfInBounds_toArray, List.set_cons_zero, List.set_cons_succ]
  refine wpAnyH_take (i := 33) (v := ?_) rfl (by kernel_rfl) (by kernel_rfl) (by kernel_rfl) (fun _ _ _ h => nomatch h.1) (Or.inl ⟨by rfl, ?_⟩) hS ?_
  rotate_left
  · intro w hSw
    obtain ⟨⟨p0, p1, p2, p3, lp⟩, ⟨q0, q1, q2, q3, lq⟩, ⟨t0, t1, t2, t3, lt⟩, _⟩ := hSw
    go_simp
    first | done | with_reducible rfl
  simp only [Act.put, List.getElem_toArray, List.getElem_cons_succ, List.getElem_cons_zero, List.setIfInBounds_toArray, List.set_cons_zero, List.set_cons_succ]
  refine wpAnyH_take (i := 34) (v := ?_) rfl (by kernel_rfl) (by kernel_rfl) (by kernel_rfl) (fun _ _ _ h => nomatch h.1) (Or.inl ⟨by rfl, ?_⟩) hS ?_
  rotate_left
  · intro w hSw
    obtain ⟨⟨p0, p1, p2, p3, lp⟩, ⟨q0, q1, q2, q3, lq⟩, ⟨t0, t1, t2, t3, lt⟩, _⟩ := hSw
    go_simp
    first | done | with_reducible rfl
  simp only [Act.put, List.getElem_toArray, List.getElem_cons_succ, List.getElem_cons_zero, List.setIfInBounds_toArray, List.set_cons_zero, List.set_cons_succ]
  refine wpAnyH_take (i := 35) (v := ?_) rfl (by kernel_rfl) (by kernel_rfl) (by kernel_rfl) (fun _ _ _ h => nomatch h.1) (Or.inl ⟨by rfl, ?_⟩) hS ?_
  rotate_left
  · intro w hSw
    obtain ⟨⟨p0, p1, p2, p3, lp⟩, ⟨q0, q1, q2, q3, lq⟩, ⟨t0, t1, t2, t3, lt⟩, _⟩ := hSw
    go_simp
    first | done | with_reducible rfl
  simp only [Act.put, List.getElem_toArray, List.getElem_cons_succ, List.getElem_cons_zero, List.setIfInBounds_toArray, List.set_cons_zero, List.set_cons_succ]
  refine wpAnyH_take (i := 36) (v := ?_) rfl (by kernel_rfl) (by kernel_rfl) (by kernel_rfl) (fun _ _ _ h => nomatch h.1) (Or.inl ⟨by rfl, ?_⟩) hS ?_
  rotate_left
  · intro w hSw
    obtain ⟨⟨p0, p1, p2, p3, lp⟩, ⟨q0, q1, q2, q3, lq⟩, ⟨t0, t1, t2, t3, lt⟩, _⟩ := hSw
    go_simp
    first | done | with_reducible rfl
  simp only [Act.put, List.getElem_toArray, List.getElem_cons_succ, List.getElem_cons_zero, List.setIfInBounds_toArray, List.set_cons_zero, List.set_cons_succ]
  refine wpAnyH_take (i := 37) (v := ?_) rfl (by kernel_rfl) (by kernel_rfl) (by kernel_rfl) (fun _ _ _ h => nomatch h.1) (Or.inl ⟨by rfl, ?_⟩) hS ?_
  rotate_left
  · intro w hSw
    obtain ⟨⟨p0, p1, p2, p3, lp⟩, ⟨q0, q1, q2, q3, lq⟩, ⟨t0, t1, t2, t3, lt⟩, _⟩ := hSw
    go_simp
    first | done | with_reducible rfl
  simp only [Act.put, List.getElem_toArray, List.getElem_cons_succ, List.getElem_cons_zero, List.setIfInBounds_toArray, List.set_cons_zero, List.set_cons_succ]
  refine wpAnyH_take (i := 39) (v := ?_) rfl (by kernel_rfl) (by kernel_rfl) (by kernel_rfl) (fun _ _ _ h => nomatch h.1) (Or.inl ⟨by rfl, ?_⟩) hS ?_
  rotate_left
  · intro w hSw
    obtain ⟨⟨p0, p1, p2, p3, lp⟩, ⟨q0, q1, q2, q3, lq⟩, ⟨t0, t1, t2, t3, lt⟩, _⟩ := hSw
    go_simp
    first | done | with_reducible rfl
  simp only [Act.put, List.getElem_toArray, List.getElem_cons_succ, List.getElem_cons_zero, List.setIfInBounds_toArray, List.set_cons_zero, List.set_cons_succ]
  refine wpAnyH_ready (rs := [38]) (by kernel_rfl) (by simp) ?_
  refine AllReadyH.cons rfl (fun K hK => ?_) AllReadyH.nil
  go_simp
  refine (hfa.out _).mono ?_
  rintro e w1 ⟨rfl, hb⟩
  try go_wp2_with fail
  have hT := hS.keep hb
  refine hK.out _ _ hT (fun _ => ?_)
  clear hK K hS hb
  have hS := hT
  clear hT
  simp only [List.setIfInBounds_toArray, List.set_cons_zero, List.set_cons_succ]
  refine wpAnyH_ready (rs := [40]) (by kernel_rfl) (by simp) ?_
  refine AllReadyH.cons rfl (fun K hK => ?_) AllReadyH.nil
  go_simp
  refine (hfb.out _).mono ?_
  rintro e w1 ⟨rfl, hb⟩
  try go_wp2_with fail
  have hT := hS.keep hb
  refine hK.out _ _ hT (fun _ => ?_)
  clear hK K hS hb
  have hS := hT
  clear hT
  simp only [List.setIfInBounds_toArray, List.set_cons_zero, List.set_cons_succ]
  refine wpAnyH_take (i := 41) (v := ?_) rfl (by kernel_rfl) (by kernel_rfl) (by kernel_rfl) (fun _ _ _ h => nomatch h.1) (Or.inl ⟨by rfl, ?_⟩) hS ?_
  rotate_left
  · intro w hSw
    obtain ⟨⟨p0, p1, p2, p3, lp⟩, ⟨q0, q1, q2, q3, lq⟩, ⟨t0, t1, t2, t3, lt⟩, _⟩ := hSw
    go_simp
    first | done | with_reducible rfl
  simp only [Act.put, List.getElem_toArray, List.getElem_cons_succ, List.getElem_cons_zero, List.setIfInBounds_toArray, List.set_cons_zero, List.set_cons_succ]
  refine wpAnyH_take (i := 42) (v := ?_) rfl (by kernel_rfl) (by kernel_rfl) (by kernel_rfl) (fun _ _ _ h => nomatch h.1) (Or.inl ⟨by rfl, ?_⟩) hS ?_
  rotate_left
  · intro w hSw
    obtain ⟨⟨p0, p1, p2, p3, lp⟩, ⟨q0, q1, q2, q3, lq⟩, ⟨t0, t1, t2, t3, lt⟩, _⟩ := hSw
    go_simp
    first | done | with_reducible rfl
  simp only [Act.put, List.getElem_toArray, List.getElem_cons_succ, List.getElem_cons_zero, List.setIfInBounds_toArray, List.set_cons_zero, List.set_cons_succ]
  refine wpAnyH_take (i := 43) (v := ?_) rfl (by kernel_rfl) (by kernel_rfl) (by kernel_rfl) (fun _ _ _ h => nomatch h.1) (Or.inl ⟨by rfl, ?_⟩) hS ?_
  rotate_left
  · intro w hSw
    obtain ⟨⟨p0, p1, p2, p3, lp⟩, ⟨q0, q1, q2, q3, lq⟩, ⟨t0, t1, t2, t3, lt⟩, _⟩ := hSw
    go_simp
    first | done | with_reducible rfl
  simp only [Act.put, List.getElem_toArray, List.getElem_cons_succ, List.getElem_cons_zero, List.setIfInBounds_toArray, List.set_cons_zero, List.set_cons_succ]
  refine wpAnyH_take (i := 44) (v := ?_) rfl (by kernel_rfl) (by kernel_rfl) (by kernel_rfl) (fun _ _ _ h => nomatch h.1) (Or.inl ⟨by rfl, ?_⟩) hS ?_
  rotate_left
  · intro w hSw
    obtain ⟨⟨p0, p1, p2, p3, lp⟩, ⟨q0, q1, q2, q3, lq⟩, ⟨t0, t1, t2, t3, lt⟩, _⟩ := hSw
    go_simp
    first | done | with_reducible rfl
  simp only [Act.put, List.getElem_toArray, List.getElem_cons_succ, List.getElem_cons_zero, List.setIfInBounds_toArray, List.set_cons_zero, List.set_cons_succ]
  refine wpAnyH_done (by kernel_rfl) ?_ _
  exact ⟨rfl, rfl, rfl, hS⟩

theorem or_c_false : Array.replicate 45 false = #[false, false, false, false, false, false, false, false, false, false, false, false, false, false, false, false, false, false, false, false, false, false, false, false, false, false, false, false, false, false, false, false, false, false, false, false, false, false, false, false, false, false, false, false, false] := by kernel_rfl
theorem or_c_size {ops : Array Oper} (hcode : Tryd.f7.body.bind (regAt 6) = some (.region 6 ops true)) : ops.size = 45 := by
  have h : (Tryd.f7.body.bind (regAt 6)).map (fun c => match c with | .region _ o _ => o.size | _ => 0) = some 45 := by kernel_rfl
  rw [hcode] at h
  exact Option.some.inj h
theorem or_c_wp (w W : World) (b0 b1 b2 A B C : Nat) (fa fb : List UInt8) (heq : ∀ w : World, (Op.equalIn 10000 24 (wn A) (wn B)).run Tryd.prog w = .ok false w) (hlt : Hid (Op.bytesLess fa fb = false)) (hfa : Hid (∀ w : World, Calls Tryd.prog 25 #[wn A] w fun e w' => e = .returned (.string ⟨fa.toArray⟩) ∧ Below w.heap.size w w')) (hfb : Hid (∀ w : World, Calls Tryd.prog 25 #[wn B] w fun e w' => e = .returned (.string ⟨fb.toArray⟩) ∧ Below w.heap.size w w')) (x0 x1 x2 x10 x11 x12 x13 x14 x15 x16 x17 x18 x19 x20 x21 x22 x23 x24 x25 x26 x27 x28 x29 x30 x31 x32 x33 x34 x35 x36 x37 x38 x39 x40 x41 x42 x43 x44 x45 x46 x47 x48 x49 x50 x51 x52 x53 x54 x55 x56 x57 x58 x59 x60 x61 x62 : Value) (ops : Array Oper) (hcode : Tryd.f7.body.bind (regAt 6) = some (.region 6 ops true)) (hS : SO w b0 b1 b2 A B C W) :
    (Code.region 6 ops true).wp Tryd.prog (RX 6 (SO w b0 b1 b2 A B C)) { tmps := #[x0, x1, x2, .pointer (some ⟨b0, 0, none⟩), .pointer (some ⟨b1, 0, none⟩), .pointer (some ⟨b2, 0, none⟩), .bool false, .bool true, .bool false, .bool true, x10, x11, x12, x13, x14, x15, x16, x17, x18, x19, x20, x21, x22, x23, x24, x25, x26, x27, x28, x29, x30, x31, x32, x33, x34, x35, x36, x37, x38, x39, x40, x41, x42, x43, x44, x45, x46, x47, x48, x49, x50, x51, x52, x53, x54, x55, x56, x57, x58, x59, x60, x61, x62], defers := [] } W := by
  refine wp_region_held_drew (S := SO w b0 b1 b2 A B C) (by kernel_rfl) (hS.keep (Below.refl _ W).drew) (fun h => ?_)
  rw [or_c_size hcode, or_c_false]
  exact or_c_all w _ b0 b1 b2 A B C fa fb heq hlt hfa hfb x0 x1 x2 x10 x11 x12 x13 x14 x15 x16 x17 x18 x19 x20 x21 x22 x23 x24 x25 x26 x27 x28 x29 x30 x31 x32 x33 x34 x35 x36 x37 x38 x39 x40 x41 x42 x43 x44 x45 x46 x47 x48 x49 x50 x51 x52 x53 x54 x55 x56 x57 x58 x59 x60 x61 x62 ops hcode h

set_option maxRecDepth 100000 in
set_option maxHeartbeats 8000000 in
theorem or_d_all (w W : World) (b0 b1 b2 A B C : Nat) (fa fb : List UInt8) (heq : ∀ w : World, (Op.equalIn 10000 24 (wn A) (wn B)).run Tryd.prog w = .ok true w) (hlt : Hid (Op.bytesLess fa fb = false)) (hfa : Hid (∀ w : World, Calls Tryd.prog 25 #[wn A] w fun e w' => e = .returned (.string ⟨fa.toArray⟩) ∧ Below w.heap.size w w')) (hfb : Hid (∀ w : World, Calls Tryd.prog 25 #[wn B] w fun e w' => e = .returned (.string ⟨fb.toArray⟩) ∧ Below w.heap.size w w')) (x0 x1 x2 x10 x11 x12 x13 x14 x15 x16 x17 x18 x19 x20 x21 x22 x23 x24 x25 x26 x27 x28 x29 x30 x31 x32 x33 x34 x35 x36 x37 x38 x39 x40 x41 x42 x43 x44 x45 x46 x47 x48 x49 x50 x51 x52 x53 x54 x55 x56 x57 x58 x59 x60 x61 x62 : Value) (ops : Array Oper) (hcode : Tryd.f7.body.bind (regAt 6) = some (.region 6 ops true)) (hS : SO w b0 b1 b2 A B C W) :
    wpAnyH Tryd.prog .any ops (RX 6 (SO w b0 b1 b2 A B C)) (SO w b0 b1 b2 A B C) 45 #[false, false, false, false, false, false, false, false, false, false, false, false, false, false, false, false, false, false, false, false, false, false, false, false, false, false, false, false, false, false, false, false, false, false, false, false, false, false, false, false, false, false, false, false, false] { tmps := #[x0, x1, x2, .pointer (some ⟨b0, 0, none⟩), .pointer (some ⟨b1, 0, none⟩), .pointer (some ⟨b2, 0, none⟩), .bool false, .bool true, .bool false, .bool false, x10, x11, x12, x13, x14, x15, x16, x17, x18, x19, x20, x21, x22, x23, x24, x25, x26, x27, x28, x29, x30, x31, x32, x33, x34, x35, x36, x37, x38, x39, x40, x41, x42, x43, x44, x45, x46, x47, x48, x49, x50, x51, x52, x53, x54, x55, x56, x57, x58, x59, x60, x61, x62], defers := [] } W := by
  simp only [Tryd.f7, Option.bind_some, regAt, Option.some_or, Option.none_or, if_true, if_false, Nat.reduceEqDiff, Option.some.injEq, Code.region.injEq, true_and, and_true] at hcode
  subst hcode
  have hlu := hlt.out
  refine wpAnyH_take (i := 0) (v := ?_) rfl (by kernel_rfl) (by kernel_rfl) (by kernel_rfl) (fun _ _ _ h => nomatch h.1) (Or.inl ⟨by rfl, ?_⟩) hS ?_
  rotate_left
  · intro w hSw
    obtain ⟨⟨p0, p1, p2, p3, lp⟩, ⟨q0, q1, q2, q3, lq⟩, ⟨t0, t1, t2, t3, lt⟩, _⟩ := hSw
    go_simp
    first | done | with_reducible rfl
  simp only [Act.put, List.getElem_toArray, List.getElem_cons_zero, List.setIfInBounds_toArray, List.set_cons_zero, List.set_cons_succ]
  refine wpAnyH_take (i := 1) (v := ?_) rfl (by kernel_rfl) (by kernel_rfl) (by kernel_rfl) (fun _ _ _ h => nomatch h.1) (Or.inl ⟨by rfl, ?_⟩) hS ?_
  rotate_left
  · intro w hSw
    obtain ⟨⟨p0, p1, p2, p3, lp⟩, ⟨q0, q1, q2, q3, lq⟩, ⟨t0, t1, t2, t3, lt⟩, _⟩ := hSw
    go_simp
    first | done | with_reducible rfl
  simp only [Act.put, List.getElem_toArray, List.getElem_cons_succ, List.getElem_cons_zero, List.setIfInBounds_toArray, List.set_cons_zero, List.set_cons_succ]
  refine wpAnyH_take (i := 2) (v := ?_) rfl (by kernel_rfl) (by kernel_rfl) (by kernel_rfl) (fun _ _ _ h => nomatch h.1) (Or.inl ⟨by rfl, ?_⟩) hS ?_
  rotate_left
  · intro w hSw
    obtain ⟨⟨p0, p1, p2, p3, lp⟩, ⟨q0, q1, q2, q3, lq⟩, ⟨t0, t1, t2, t3, lt⟩, _⟩ := hSw
    go_simp
    first | done | with_reducible rfl
  simp only [Act.put, List.getElem_toArray, List.getElem_cons_succ, List.getElem_cons_zero, List.setIfInBounds_toArray, List.set_cons_zero, List.set_cons_succ]
  refine wpAnyH_take (i := 3) (v := ?_) rfl (by kernel_rfl) (by kernel_rfl) (by kernel_rfl) (fun _ _ _ h => nomatch h.1) (Or.inl ⟨by rfl, ?_⟩) hS ?_
  rotate_left
  · intro w hSw
    obtain ⟨⟨p0, p1, p2, p3, lp⟩, ⟨q0, q1, q2, q3, lq⟩, ⟨t0, t1, t2, t3, lt⟩, _⟩ := hSw
    go_simp
    first | done | with_reducible rfl
  simp only [Act.put, List.getElem_toArray, List.getElem_cons_succ, List.getElem_cons_zero, List.setIfInBounds_toArray, List.set_cons_zero, List.set_cons_succ]
  refine wpAnyH_take (i := 4) (v := undef) rfl (by kernel_rfl) (by kernel_rfl) (by kernel_rfl) (fun _ _ _ h => nomatch h.1) (Or.inr ⟨by rfl, rfl⟩) hS ?_
  simp only [Act.put, List.getElem_toArray, List.getElem_cons_succ, List.getElem_cons_zero, List.setIfInBounds_toArray, List.set_cons_zero, List.set_cons_succ]
  refine wpAnyH_take (i := 5) (v := ?_) rfl (by kernel_rfl) (by kernel_rfl) (by kernel_rfl) (fun _ _ _ h => nomatch h.1) (Or.inl ⟨by rfl, ?_⟩) hS ?_
  rotate_left
  · intro w hSw
    obtain ⟨⟨p0, p1, p2, p3, lp⟩, ⟨q0, q1, q2, q3, lq⟩, ⟨t0, t1, t2, t3, lt⟩, _⟩ := hSw
    go_simp
    first | done | with_reducible rfl
  simp only [Act.put, List.getElem_toArray, List.getElem_cons_succ, List.getElem_cons_zero, List.setIfInBounds_toArray, List.set_cons_zero, List.set_cons_succ]
  refine wpAnyH_take (i := 6) (v := ?_) rfl (by kernel_rfl) (by kernel_rfl) (by kernel_rfl) (fun _ _ _ h => nomatch h.1) (Or.inl ⟨by rfl, ?_⟩) hS ?_
  rotate_left
  · intro w hSw
    obtain ⟨⟨p0, p1, p2, p3, lp⟩, ⟨q0, q1, q2, q3, lq⟩, ⟨t0, t1, t2, t3, lt⟩, _⟩ := hSw
    go_simp
    first | done | with_reducible rfl
  simp only [Act.put, List.getElem_toArray, List.getElem_cons_succ, List.getElem_cons_zero, List.setIfInBounds_toArray, List.set_cons_zero, List.set_cons_succ]
  refine wpAnyH_take (i := 7) (v := ?_) rfl (by kernel_rfl) (by kernel_rfl) (by kernel_rfl) (fun _ _ _ h => nomatch h.1) (Or.inl ⟨by rfl, ?_⟩) hS ?_
  rotate_left
  · intro w hSw
    obtain ⟨⟨p0, p1, p2, p3, lp⟩, ⟨q0, q1, q2, q3, lq⟩, ⟨t0, t1, t2, t3, lt⟩, _⟩ := hSw
    go_simp
    first | done | with_reducible rfl
  simp only [Act.put, List.getElem_toArray, List.getElem_cons_succ, List.getElem_cons_zero, List.setIfInBounds_toArray, List.set_cons_zero, List.set_cons_succ]
  refine wpAnyH_take (i := 8) (v := ?_) rfl (by kernel_rfl) (by kernel_rfl) (by kernel_rfl) (fun _ _ _ h => nomatch h.1) (Or.inl ⟨by rfl, ?_⟩) hS ?_
  rotate_left
  · intro w hSw
    obtain ⟨⟨p0, p1, p2, p3, lp⟩, ⟨q0, q1, q2, q3, lq⟩, ⟨t0, t1, t2, t3, lt⟩, _⟩ := hSw
    go_simp
    first | done | with_reducible rfl
  simp only [Act.put, List.getElem_toArray, List.getElem_cons_succ, List.getElem_cons_zero, List.setIfInBounds_toArray, List.set_cons_zero, List.set_cons_succ]
  refine wpAnyH_take (i := 9) (v := ?_) rfl (by kernel_rfl) (by kernel_rfl) (by kernel_rfl) (fun _ _ _ h => nomatch h.1) (Or.inl ⟨by rfl, ?_⟩) hS ?_
  rotate_left
  · intro w hSw
    obtain ⟨⟨p0, p1, p2, p3, lp⟩, ⟨q0, q1, q2, q3, lq⟩, ⟨t0, t1, t2, t3, lt⟩, _⟩ := hSw
    go_simp
    first | done | with_reducible rfl
  simp only [Act.put, List.getElem_toArray, List.getElem_cons_succ, List.getElem_cons_zero, List.setIfInBounds_toArray, List.set_cons_zero, List.set_cons_succ]
  refine wpAnyH_take (i := 10) (v := ?_) rfl (by kernel_rfl) (by kernel_rfl) (by kernel_rfl) (fun _ _ _ h => nomatch h.1) (Or.inl ⟨by rfl, ?_⟩) hS ?_
  rotate_left
  · intro w hSw
    obtain ⟨⟨p0, p1, p2, p3, lp⟩, ⟨q0, q1, q2, q3, lq⟩, ⟨t0, t1, t2, t3, lt⟩, _⟩ := hSw
    go_simp
    first | done | with_reducible rfl
  simp only [Act.put, List.getElem_toArray, List.getElem_cons_succ, List.getElem_cons_zero, List.setIfInBounds_toArray, List.set_cons_zero, List.set_cons_succ]
  refine wpAnyH_take (i := 11) (v := ?_) rfl (by kernel_rfl) (by kernel_rfl) (by kernel_rfl) (fun _ _ _ h => nomatch h.1) (Or.inl ⟨by rfl, ?_⟩) hS ?_
  rotate_left
  · intro w hSw
    obtain ⟨⟨p0, p1, p2, p3, lp⟩, ⟨q0, q1, q2, q3, lq⟩, ⟨t0, t1, t2, t3, lt⟩, _⟩ := hSw
    go_simp
    first | done | with_reducible rfl
  simp only [Act.put, List.getElem_toArray, List.getElem_cons_succ, List.getElem_cons_zero, List.setIfInBounds_toArray, List.set_cons_zero, List.set_cons_succ]
  refine wpAnyH_take (i := 12) (v := ?_) rfl (by kernel_rfl) (by kernel_rfl) (by kernel_rfl) (fun _ _ _ h => nomatch h.1) (Or.inl ⟨by rfl, ?_⟩) hS ?_
  rotate_left
  · intro w hSw
    obtain ⟨⟨p0, p1, p2, p3, lp⟩, ⟨q0, q1, q2, q3, lq⟩, ⟨t0, t1, t2, t3, lt⟩, _⟩ := hSw
    go_simp
    first | done | with_reducible rfl
  simp only [Act.put, List.getElem_toArray, List.getElem_cons_succ, List.getElem_cons_zero, List.setIfInBounds_toArray, List.set_cons_zero, List.set_cons_succ]
  refine wpAnyH_take (i := 13) (v := ?_) rfl (by kernel_rfl) (by kernel_rfl) (by kernel_rfl) (fun _ _ _ h => nomatch h.1) (Or.inl ⟨by rfl, ?_⟩) hS ?_
  rotate_left
  · intro w hSw
    obtain ⟨⟨p0, p1, p2, p3, lp⟩, ⟨q0, q1, q2, q3, lq⟩, ⟨t0, t1, t2, t3, lt⟩, _⟩ := hSw
    go_simp
    first | done | with_reducible rfl
  simp only [Act.put, List.getElem_toArray, List.getElem_cons_succ, List.getElem_cons_zero, List.setIfInBounds_toArray, List.set_cons_zero, List.set_cons_succ]
  refine wpAnyH_take (i := 14) (v := ?_) rfl (by kernel_rfl) (by kernel_rfl) (by kernel_rfl) (fun _ _ _ h => nomatch h.1) (Or.inl ⟨by rfl, ?_⟩) hS ?_
  rotate_left
  · intro w hSw
    obtain ⟨⟨p0, p1, p2, p3, lp⟩, ⟨q0, q1, q2, q3, lq⟩, ⟨t0, t1, t2, t3, lt⟩, _⟩ := hSw
    go_simp
    first | done | with_reducible rfl
  simp only [Act.put, List.getElem_toArray, List.getElem_cons_succ, List.getElem_cons_zero, List.setIfInBounds_toArray, List.set_cons_zero, List.set_cons_succ]
  refine wpAnyH_take (i := 15) (v := ?_) rfl (by kernel_rfl) (by kernel_rfl) (by kernel_rfl) (fun _ _ _ h => nomatch h.1) (Or.inl ⟨by rfl, ?_⟩) hS ?_
  rotate_left
  · intro w hSw
    obtain ⟨⟨p0, p1, p2, p3, lp⟩, ⟨q0, q1, q2, q3, lq⟩, ⟨t0, t1, t2, t3, lt⟩, _⟩ := hSw
    go_simp
    first | done | with_reducible rfl
  simp only [Act.put, List.getElem_toArray, List.getElem_cons_succ, List.getElem_cons_zero, List.setIfInBounds_toArray, List.set_cons_zero, List.set_cons_succ]
  refine wpAnyH_take (i := 16) (v := ?_) rfl (by kernel_rfl) (by kernel_rfl) (by kernel_rfl) (fun _ _ _ h => nomatch h.1) (Or.inl ⟨by rfl, ?_⟩) hS ?_
  rotate_left
  · intro w hSw
    obtain ⟨⟨p0, p1, p2, p3, lp⟩, ⟨q0, q1, q2, q3, lq⟩, ⟨t0, t1, t2, t3, lt⟩, _⟩ := hSw
    go_simp
    first | done | with_reducible rfl
  simp only [Act.put, List.getElem_toArray, List.getElem_cons_succ, List.getElem_cons_zero, List.setIfInBounds_toArray, List.set_cons_zero, List.set_cons_succ]
  refine wpAnyH_take (i := 17) (v := ?_) rfl (by kernel_rfl) (by kernel_rfl) (by kernel_rfl) (fun _ _ _ h => nomatch h.1) (Or.inl ⟨by rfl, ?_⟩) hS ?_
  rotate_left
  · intro w hSw
    obtain ⟨⟨p0, p1, p2, p3, lp⟩, ⟨q0, q1, q2, q3, lq⟩, ⟨t0, t1, t2, t3, lt⟩, _⟩ := hSw
    go_simp
    first | done | with_reducible rfl
  simp only [Act.put, List.getElem_toArray, List.getElem_cons_succ, List.getElem_cons_zero, List.setIfInBounds_toArray, List.set_cons_zero, List.set_cons_succ]
  refine wpAnyH_take (i := 18) (v := ?_) rfl (by kernel_rfl) (by kernel_rfl) (by kernel_rfl) (fun _ _ _ h => nomatch h.1) (Or.inl ⟨by rfl, ?_⟩) hS ?_
  rotate_left
  · intro w hSw
    obtain ⟨⟨p0, p1, p2, p3, lp⟩, ⟨q0, q1, q2, q3, lq⟩, ⟨t0, t1, t2, t3, lt⟩, _⟩ := hSw
    go_simp
    first | done | with_reducible rfl
  simp only [Act.put, List.getElem_toArray, List.getElem_cons_succ, List.getElem_cons_zero, List.setIfInBounds_toArray, List.set_cons_zero, List.set_cons_succ]
  refine wpAnyH_take (i := 19) (v := ?_) rfl (by kernel_rfl) (by kernel_rfl) (by kernel_rfl) (fun _ _ _ h => nomatch h.1) (Or.inl ⟨by rfl, ?_⟩) hS ?_
  rotate_left
  · intro w hSw
    obtain ⟨⟨p0, p1, p2, p3, lp⟩, ⟨q0, q1, q2, q3, lq⟩, ⟨t0, t1, t2, t3, lt⟩, _⟩ := hSw
    go_simp
    first | done | with_reducible rfl
  simp only [Act.put, List.getElem_toArray, List.getElem_cons_succ, List.getElem_cons_zero, List.setIfInBounds_toArray, List.set_cons_zero, List.set_cons_succ]
  refine wpAnyH_take (i := 20) (v := ?_) rfl (by kernel_rfl) (by kernel_rfl) (by kernel_rfl) (fun _ _ _ h => nomatch h.1) (Or.inl ⟨by rfl, ?_⟩) hS ?_
  rotate_left
  · intro w hSw
    obtain ⟨⟨p0, p1, p2, p3, lp⟩, ⟨q0, q1, q2, q3, lq⟩, ⟨t0, t1, t2, t3, lt⟩, _⟩ := hSw
    go_simp
    first | done | with_reducible rfl
  simp only [Act.put, List.getElem_toArray, List.getElem_cons_succ, List.getElem_cons_zero, List.setIfInBounds_toArray, List.set_cons_zero, List.set_cons_succ]
  refine wpAnyH_take (i := 21) (v := ?_) rfl (by kernel_rfl) (by kernel_rfl) (by kernel_rfl) (fun _ _ _ h => nomatch h.1) (Or.inl ⟨by rfl, ?_⟩) hS ?_
  rotate_left
  · intro w hSw
    obtain ⟨⟨p0, p1, p2, p3, lp⟩, ⟨q0, q1, q2, q3, lq⟩, ⟨t0, t1, t2, t3, lt⟩, _⟩ := hSw
    go_simp
    first | done | with_reducible rfl
  simp only [Act.put, List.getElem_toArray, List.getElem_cons_succ, List.getElem_cons_zero, List.setIfInBounds_toArray, List.set_cons_zero, List.set_cons_succ]
  refine wpAnyH_take (i := 22) (v := ?_) rfl (by kernel_rfl) (by kernel_rfl) (by kernel_rfl) (fun _ _ _ h => nomatch h.1) (Or.inl ⟨by rfl, ?_⟩) hS ?_
  rotate_left
  · intro w hSw
    obtain ⟨⟨p0, p1, p2, p3, lp⟩, ⟨q0, q1, q2, q3, lq⟩, ⟨t0, t1, t2, t3, lt⟩, _⟩ := hSw
    go_simp
    first | done | with_reducible rfl
  simp only [Act.put, List.getElem_toArray, List.getElem_cons_succ, List.getElem_cons_zero, List.setIfInBounds_toArray, List.set_cons_zero, List.set_cons_succ]
  refine wpAnyH_take (i := 23) (v := ?_) rfl (by kernel_rfl) (by kernel_rfl) (by kernel_rfl) (fun _ _ _ h => nomatch h.1) (Or.inl ⟨by rfl, ?_⟩) hS ?_
  rotate_left
  · intro w hSw
    obtain ⟨⟨p0, p1, p2, p3, lp⟩, ⟨q0, q1, q2, q3, lq⟩, ⟨t0, t1, t2, t3, lt⟩, _⟩ := hSw
    go_simp
    first | done | with_reducible rfl
  simp only [Act.put, List.getElem_toArray, List.getElem_cons_succ, List.getElem_cons_zero, List.setIfInBounds_toArray, List.set_cons_zero, List.set_cons_succ]
  refine wpAnyH_take (i := 24) (v := undef) rfl (by kernel_rfl) (by kernel_rfl) (by kernel_rfl) (fun _ _ _ h => nomatch h.1) (Or.inr ⟨by rfl, rfl⟩) hS ?_
  simp only [Act.put, List.getElem_toArray, List.getElem_cons_succ, List.getElem_cons_zero, List.setIfInBounds_toArray, List.set_cons_zero, List.set_cons_succ]
  refine wpAnyH_take (i := 25) (v := undef) rfl (by kernel_rfl) (by kernel_rfl) (by kernel_rfl) (fun _ _ _ h => nomatch h.1) (Or.inr ⟨by rfl, rfl⟩) hS ?_
  simp only [Act.put, List.getElem_toArray, List.getElem_cons_succ, List.getElem_cons_zero, List.setIfInBounds_toArray, List.set_cons_zero, List.set_cons_succ]
  refine wpAnyH_take (i := 26) (v := undef) rfl (by kernel_rfl) (by kernel_rfl) (by kernel_rfl) (fun _ _ _ h => nomatch h.1) (Or.inr ⟨by rfl, rfl⟩) hS ?_
  simp only [Act.put, List.getElem_toArray, List.getElem_cons_succ, List.getElem_cons_zero, List.setIfInBounds_toArray, List.set_cons_zero, List.set_cons_succ]
  refine wpAnyH_take (i := 27) (v := undef) rfl (by kernel_rfl) (by kernel_rfl) (by kernel_rfl) (fun _ _ _ h => nomatch h.1) (Or.inr ⟨by rfl, rfl⟩) hS ?_
  simp only [Act.put, List.getElem_toArray, List.getElem_cons_succ, List.getElem_cons_zero, List.setIfInBounds_toArray, List.set_cons_zero, List.set_cons_succ]
  refine wpAnyH_take (i := 28) (v := ?_) rfl (by kernel_rfl) (by kernel_rfl) (by kernel_rfl) (fun _ _ _ h => nomatch h.1) (Or.inl ⟨by rfl, ?_⟩) hS ?_
  rotate_left
  · intro w hSw
    obtain ⟨⟨p0, p1, p2, p3, lp⟩, ⟨q0, q1, q2, q3, lq⟩, ⟨t0, t1, t2, t3, lt⟩, _⟩ := hSw
    go_simp
    first | done | with_reducible rfl
  simp only [Act.put, List.getElem_toArray, List.getElem_cons_succ, List.getElem_cons_zero, List.setIfInBounds_toArray, List.set_cons_zero, List.set_cons_succ]
  refine wpAnyH_take (i := 29) (v := ?_) rfl (by kernel_rfl) (by kernel_rfl) (by kernel_rfl) (fun _ _ _ h => nomatch h.1) (Or.inl ⟨by rfl, ?_⟩) hS ?_
  rotate_left
  · intro w hSw
    obtain ⟨⟨p0, p1, p2, p3, lp⟩, ⟨q0, q1, q2, q3, lq⟩, ⟨t0, t1, t2, t3, lt⟩, _⟩ := hSw
    go_simp
    first | done | with_reducible rfl
  simp only [Act.put, List.getElem_toArray, List.getElem_cons_succ, List.getElem_cons_zero, List.setIfInBounds_toArray, List.set_cons_zero, List.set_cons_succ]
  refine wpAnyH_take (i := 30) (v := undef) rfl (by kernel_rfl) (by kernel_rfl) (by kernel_rfl) (fun _ _ _ h => nomatch h.1) (Or.inr ⟨by rfl, rfl⟩) hS ?_
  simp only [Act.put, List.getElem_toArray, List.getElem_cons_succ, List.getElem_cons_zero, List.setIfInBounds_toArray, List.set_cons_zero, List.set_cons_succ]
  refine wpAnyH_take (i := 31) (v := undef) rfl (by kernel_rfl) (by kernel_rfl) (by kernel_rfl) (fun _ _ _ h => nomatch h.1) (Or.inr ⟨by rfl, rfl⟩) hS ?_
  simp only [Act.put, List.getElem_toArray, List.getElem_cons_succ, List.getElem_cons_zero, List.setIfInBounds_toArray, List.set_cons_zero, List.set_cons_succ]
  refine wpAnyH_take (i := 32) (v := undef) rfl (by kernel_rfl) (by kernel_rfl) (by kernel_rfl) (fun _ _ _ h => nomatch h.1) (Or.inr ⟨by rfl, rfl⟩) hS ?_
  simp only [Act.put, List.getElem_toArray, List.getElem_cons_succ, List.getElem_cons_zero, List.setIfInBounds_toArray, List.set_cons_zero, List.set_cons_succ]
  refine wpAnyH_take (i := 33) (v := ?_) rfl (by kernel_rfl) (by kernel_rfl) (by kernel_rfl) (fun _ _ _ h => nomatch h.1) (Or.inl ⟨by rfl, ?_⟩) hS ?_
  rotate_left
  · intro w hSw
    obtain ⟨⟨p0, p1, p2, p3, lp⟩, ⟨q0, q1, q2, q3, lq⟩, ⟨t0, t1, t2, t3, lt⟩, _⟩ := hSw
    go_simp
    first | done | with_reducible rfl
  simp only [Act.put, List.getElem_toArray, List.getElem_cons_succ, List.getElem_cons_zero, List.setIfInBounds_toArray, List.set_cons_zero, List.set_cons_succ]
  refine wpAnyH_take (i := 34) (v := ?_) rfl (by kernel_rfl) (by kernel_rfl) (by kernel_rfl) (fun _ _ _ h => nomatch h.1) (Or.inl ⟨by rfl, ?_⟩) hS ?_
  rotate_left
  · intro w hSw
    obtain ⟨⟨p0, p1, p2, p3, lp⟩, ⟨q0, q1, q2, q3, lq⟩, ⟨t0, t1, t2, t3, lt⟩, _⟩ := hSw
    go_simp
    first | done | with_reducible rfl
  simp only [Act.put, List.getElem_toArray, List.getElem_cons_succ, List.getElem_cons_zero, List.setIfInBounds_toArray, List.set_cons_zero, List.set_cons_succ]
  refine wpAnyH_take (i := 35) (v := ?_) rfl (by kernel_rfl) (by kernel_rfl) (by kernel_rfl) (fun _ _ _ h => nomatch h.1) (Or.inl ⟨by rfl, ?_⟩) hS ?_
  rotate_left
  · intro w hSw
    obtain ⟨⟨p0, p1, p2, p3, lp⟩, ⟨q0, q1, q2, q3, lq⟩, ⟨t0, t1, t2, t3, lt⟩, _⟩ := hSw
    go_simp
    first | done | with_reducible rfl
  simp only [Act.put, List.getElem_toArray, List.getElem_cons_succ, List.getElem_cons_zero, List.setIfInBounds_toArray, List.set_cons_zero, List.set_cons_succ]
  refine wpAnyH_take (i := 36) (v := ?_) rfl (by kernel_rfl) (by kernel_rfl) (by kernel_rfl) (fun _ _ _ h => nomatch h.1) (Or.inl ⟨by rfl, ?_⟩) hS ?_
  rotate_left
  · intro w hSw
    obtain ⟨⟨p0, p1, p2, p3, lp⟩, ⟨q0, q1, q2, q3, lq⟩, ⟨t0, t1, t2, t3, lt⟩, _⟩ := hSw
    go_simp
    first | done | with_reducible rfl
  simp only [Act.put, List.getElem_toArray, List.getElem_cons_succ, List.getElem_cons_zero, List.setIfInBounds_toArray, List.set_cons_zero, List.set_cons_succ]
  refine wpAnyH_take (i := 37) (v := ?_) rfl (by kernel_rfl) (by kernel_rfl) (by kernel_rfl) (fun _ _ _ h => nomatch h.1) (Or.inl ⟨by rfl, ?_⟩) hS ?_
  rotate_left
  · intro w hSw
    obtain ⟨⟨p0, p1, p2, p3, lp⟩, ⟨q0, q1, q2, q3, lq⟩, ⟨t0, t1, t2, t3, lt⟩, _⟩ := hSw
    go_simp
    first | done | with_reducible rfl
  simp only [Act.put, List.getElem_toArray, List.getElem_cons_succ, List.getElem_cons_zero, List.setIfInBounds_toArray, List.set_cons_zero, List.set_cons_succ]
  refine wpAnyH_take (i := 39) (v := ?_) rfl (by kernel_rfl) (by kernel_rfl) (by kernel_rfl) (fun _ _ _ h => nomatch h.1) (Or.inl ⟨by rfl, ?_⟩) hS ?_
  rotate_left
  · intro w hSw
    obtain ⟨⟨p0, p1, p2, p3, lp⟩, ⟨q0, q1, q2, q3, lq⟩, ⟨t0, t1, t2, t3, lt⟩, _⟩ := hSw
    go_simp
    first | done | with_reducible rfl
  simp only [Act.put, List.getElem_toArray, List.getElem_cons_succ, List.getElem_cons_zero, List.setIfInBounds_toArray, List.set_cons_zero, List.set_cons_succ]
  refine wpAnyH_ready (rs := [38]) (by kernel_rfl) (by simp) ?_
  refine AllReadyH.cons rfl (fun K hK => ?_) AllReadyH.nil
  go_simp
  refine (hfa.out _).mono ?_
  rintro e w1 ⟨rfl, hb⟩
  try go_wp2_with fail
  have hT := hS.keep hb
  refine hK.out _ _ hT (fun _ => ?_)
  clear hK K hS hb
  have hS := hT
  clear hT
  simp only [List.setIfInBounds_toArray, List.set_cons_zero, List.set_cons_succ]
  refine wpAnyH_ready (rs := [40]) (by kernel_rfl) (by simp) ?_
  refine AllReadyH.cons rfl (fun K hK => ?_) AllReadyH.nil
  go_simp
  refine (hfb.out _).mono ?_
  rintro e w1 ⟨rfl, hb⟩
  try go_wp2_with fail
  have hT := hS.keep hb
  refine hK.out _ _ hT (fun _ => ?_)
  clear hK K hS hb
  have hS := hT
  clear hT
  simp only [List.setIfInBounds_toArray, List.set_cons_zero, List.set_cons_succ]
  refine wpAnyH_take (i := 41) (v := ?_) rfl (by kernel_rfl) (by kernel_rfl) (by kernel_rfl) (fun _ _ _ h => nomatch h.1) (Or.inl ⟨by rfl, ?_⟩) hS ?_
  rotate_left
  · intro w hSw
    obtain ⟨⟨p0, p1, p2, p3, lp⟩, ⟨q0, q1, q2, q3, lq⟩, ⟨t0, t1, t2, t3, lt⟩, _⟩ := hSw
    go_simp
    first | done | with_reducible rfl
  simp only [Act.put, List.getElem_toArray, List.getElem_cons_succ, List.getElem_cons_zero, List.setIfInBounds_toArray, List.set_cons_zero, List.set_cons_succ]
  refine wpAnyH_take (i := 42) (v := ?_) rfl (by kernel_rfl) (by kernel_rfl) (by kernel_rfl) (fun _ _ _ h => nomatch h.1) (Or.inl ⟨by rfl, ?_⟩) hS ?_
  rotate_left
  · intro w hSw
    obtain ⟨⟨p0, p1, p2, p3, lp⟩, ⟨q0, q1, q2, q3, lq⟩, ⟨t0, t1, t2, t3, lt⟩, _⟩ := hSw
    go_simp
    first | done | with_reducible rfl
  simp only [Act.put, List.getElem_toArray, List.getElem_cons_succ, List.getElem_cons_zero, List.setIfInBounds_toArray, List.set_cons_zero, List.set_cons_succ]
  refine wpAnyH_take (i := 43) (v := ?_) rfl (by kernel_rfl) (by kernel_rfl) (by kernel_rfl) (fun _ _ _ h => nomatch h.1) (Or.inl ⟨by rfl, ?_⟩) hS ?_
  rotate_left
  · intro w hSw
    obtain ⟨⟨p0, p1, p2, p3, lp⟩, ⟨q0, q1, q2, q3, lq⟩, ⟨t0, t1, t2, t3, lt⟩, _⟩ := hSw
    go_simp
    first | done | with_reducible rfl
  simp only [Act.put, List.getElem_toArray, List.getElem_cons_succ, List.getElem_cons_zero, List.setIfInBounds_toArray, List.set_cons_zero, List.set_cons_succ]
  refine wpAnyH_take (i := 44) (v := ?_) rfl (by kernel_rfl) (by kernel_rfl) (by kernel_rfl) (fun _ _ _ h => nomatch h.1) (Or.inl ⟨by rfl, ?_⟩) hS ?_
  rotate_left
  · intro w hSw
    obtain ⟨⟨p0, p1, p2, p3, lp⟩, ⟨q0, q1, q2, q3, lq⟩, ⟨t0, t1, t2, t3, lt⟩, _⟩ := hSw
    go_simp
    first | done | with_reducible rfl
  simp only [Act.put, List.getElem_toArray, List.getElem_cons_succ, List.getElem_cons_zero, List.setIfInBounds_toArray, List.set_cons_zero, List.set_cons_succ]
  refine wpAnyH_done (by kernel_rfl) ?_ _
  exact ⟨rfl, rfl, rfl, hS⟩

theorem or_d_false : Array.replicate 45 false = #[false, false, false, false, false, false, false, false, false, false, false, false, false, false, false, false, false, false, false, false, false, false, false, false, false, false, false, false, false, false, false, false, false, false, false, false, false, false, false, false, false, false, false, false, false] := by kernel_rfl
theorem or_d_size {ops : Array Oper} (hcode : Tryd.f7.body.bind (regAt 6) = some (.region 6 ops true)) : ops.size = 45 := by
  have h : (Tryd.f7.body.bind (regAt 6)).map (fun c => match c with | .region _ o _ => o.size | _ => 0) = some 45 := by kernel_rfl
  rw [hcode] at h
  exact Option.some.inj h
theorem or_d_wp (w W : World) (b0 b1 b2 A B C : Nat) (fa fb : List UInt8) (heq : ∀ w : World, (Op.equalIn 10000 24 (wn A) (wn B)).run Tryd.prog w = .ok true w) (hlt : Hid (Op.bytesLess fa fb = false)) (hfa : Hid (∀ w : World, Calls Tryd.prog 25 #[wn A] w fun e w' => e = .returned (.string ⟨fa.toArray⟩) ∧ Below w.heap.size w w')) (hfb : Hid (∀ w : World, Calls Tryd.prog 25 #[wn B] w fun e w' => e = .returned (.string ⟨fb.toArray⟩) ∧ Below w.heap.size w w')) (x0 x1 x2 x10 x11 x12 x13 x14 x15 x16 x17 x18 x19 x20 x21 x22 x23 x24 x25 x26 x27 x28 x29 x30 x31 x32 x33 x34 x35 x36 x37 x38 x39 x40 x41 x42 x43 x44 x45 x46 x47 x48 x49 x50 x51 x52 x53 x54 x55 x56 x57 x58 x59 x60 x61 x62 : Value) (ops : Array Oper) (hcode : Tryd.f7.body.bind (regAt 6) = some (.region 6 ops true)) (hS : SO w b0 b1 b2 A B C W) :
    (Code.region 6 ops true).wp Tryd.prog (RX 6 (SO w b0 b1 b2 A B C)) { tmps := #[x0, x1, x2, .pointer (some ⟨b0, 0, none⟩), .pointer (some ⟨b1, 0, none⟩), .pointer (some ⟨b2, 0, none⟩), .bool false, .bool true, .bool false, .bool false, x10, x11, x12, x13, x14, x15, x16, x17, x18, x19, x20, x21, x22, x23, x24, x25, x26, x27, x28, x29, x30, x31, x32, x33, x34, x35, x36, x37, x38, x39, x40, x41, x42, x43, x44, x45, x46, x47, x48, x49, x50, x51, x52, x53, x54, x55, x56, x57, x58, x59, x60, x61, x62], defers := [] } W := by
  refine wp_region_held_drew (S := SO w b0 b1 b2 A B C) (by kernel_rfl) (hS.keep (Below.refl _ W).drew) (fun h => ?_)
  rw [or_d_size hcode, or_d_false]
  exact or_d_all w _ b0 b1 b2 A B C fa fb heq hlt hfa hfb x0 x1 x2 x10 x11 x12 x13 x14 x15 x16 x17 x18 x19 x20 x21 x22 x23 x24 x25 x26 x27 x28 x29 x30 x31 x32 x33 x34 x35 x36 x37 x38 x39 x40 x41 x42 x43 x44 x45 x46 x47 x48 x49 x50 x51 x52 x53 x54 x55 x56 x57 x58 x59 x60 x61 x62 ops hcode h

theorem less_t (A B : Nat) (w : World) (hA : M.In A) (hB : M.In B) (h : A < B) : Calls Tryd.prog 17 #[wn A, wn B] w fun e w' => e = .returned (.bool true) ∧ Below w.heap.size w w' := by
  have := less_any A B w hA hB
  rw [decide_eq_true h] at this
  exact this
theorem less_f (A B : Nat) (w : World) (hA : M.In A) (hB : M.In B) (h : ¬ A < B) : Calls Tryd.prog 17 #[wn A, wn B] w fun e w' => e = .returned (.bool false) ∧ Below w.heap.size w w' := by
  have := less_any A B w hA hB
  rw [decide_eq_false h] at this
  exact this

theorem less_cons (c d : UInt8) (l r : List UInt8) : Op.bytesLess (c :: l) (d :: r) = (decide (c < d) || (c == d && Op.bytesLess l r)) := by
  rw [Op.bytesLess]

theorem less_dg : ∀ (l r : List UInt8), l.length = r.length → Op.bytesLess l r = decide (M.dg l < M.dg r)
  | [], [], _ => by decide
  | c :: l, d :: r, h => by
    have hl : l.length = r.length := by simpa using h
    have ih := less_dg l r hl
    have e1 : M.dg (c :: l) = c.toNat * 256 ^ l.length + M.dg l := by
      have : M.dg (c :: l) = M.dgA (0 * 256 + c.toNat) l := rfl
      rw [this, M.dgA_eq, Nat.zero_mul, Nat.zero_add]
    have e2 : M.dg (d :: r) = d.toNat * 256 ^ l.length + M.dg r := by
      have : M.dg (d :: r) = M.dgA (0 * 256 + d.toNat) r := rfl
      rw [this, M.dgA_eq, Nat.zero_mul, Nat.zero_add, hl]
    have b1 := M.dg_lt l
    have b2 := M.dg_lt r
    rw [← hl] at b2
    rw [less_cons, ih, e1, e2]
    generalize 256 ^ l.length = p at *
    generalize M.dg l = x at *
    generalize M.dg r = y at *
    rw [Bool.eq_iff_iff]
    simp only [Bool.or_eq_true, Bool.and_eq_true, decide_eq_true_eq, beq_iff_eq, UInt8.lt_iff_toNat_lt]
    rcases Nat.lt_trichotomy c.toNat d.toNat with hc | hc | hc
    · have : (c.toNat + 1) * p ≤ d.toNat * p := Nat.mul_le_mul_right _ hc
      rw [Nat.add_mul] at this
      constructor
      · intro _; omega
      · intro _; exact .inl hc
    · have hcd : c = d := UInt8.toNat.inj hc
      subst hcd
      constructor
      · rintro (h' | h')
        · omega
        · omega
      · intro h'; exact .inr ⟨rfl, by omega⟩
    · have : (d.toNat + 1) * p ≤ c.toNat * p := Nat.mul_le_mul_right _ hc
      rw [Nat.add_mul] at this
      constructor
      · rintro (h' | ⟨h', _⟩)
        · omega
        · subst h'; omega
      · intro h'; omega

theorem f32_less {A B : Nat} (hA : M.In A) (hB : M.In B) : Op.bytesLess (M.f32 A) (M.f32 B) = decide (A < B) := by
  rw [less_dg _ _ (by rw [M.f32_length, M.f32_length]), M.dg_f32 hA, M.dg_f32 hB]

set_option maxRecDepth 100000 in
set_option maxHeartbeats 4000000 in
theorem order_a (A B C : Nat) (fa fb : List UInt8) (w : World) (hA : Hid (M.In A)) (hB : Hid (M.In B)) (h1 : Hid (A < B)) (h2 : Hid (¬ B < A)) (heq : ∀ w : World, (Op.equalIn 10000 24 (wn A) (wn B)).run Tryd.prog w = .ok false w) (hlt : Hid (Op.bytesLess fa fb = true)) (hbc : Hid (∀ w : World, Calls Tryd.prog 17 #[wn B, wn C] w fun e w' => e = .returned (.bool true) ∧ Below w.heap.size w w')) (hac : Hid (∀ w : World, Calls Tryd.prog 17 #[wn A, wn C] w fun e w' => e = .returned (.bool true) ∧ Below w.heap.size w w')) (hfa : Hid (∀ w : World, Calls Tryd.prog 25 #[wn A] w fun e w' => e = .returned (.string ⟨fa.toArray⟩) ∧ Below w.heap.size w w')) (hfb : Hid (∀ w : World, Calls Tryd.prog 25 #[wn B] w fun e w' => e = .returned (.string ⟨fb.toArray⟩) ∧ Below w.heap.size w w')) :
    Calls Tryd.prog 7 #[wn A, wn B, wn C] w fun e w' => e = .returned (.bool true) ∧ Below w.heap.size w w' := by
  have HE := Lib.hid heq
  clear heq
  go_enter Tryd.func7, Tryd.ntmps7
  go_wp2_with fail
  have LW : Below w.heap.size w (((w.alloc (.cells #[.int .u64 (M.pt 0 A), .int .u64 (M.pt 1 A), .int .u64 (M.pt 2 A), .int .u64 (M.pt 3 A)] 24)).alloc (.cells #[.int .u64 (M.pt 0 B), .int .u64 (M.pt 1 B), .int .u64 (M.pt 2 B), .int .u64 (M.pt 3 B)] 24)).alloc (.cells #[.int .u64 (M.pt 0 C), .int .u64 (M.pt 1 C), .int .u64 (M.pt 2 C), .int .u64 (M.pt 3 C)] 24)) := by
    (repeat (first | exact Below.refl _ _ | refine Below.drew ?_ | refine Below.alloc ?_ (by first | omega | (simp; omega) | simp) _ | refine Below.setCell ?_ (by first | omega | (simp; omega) | simp) _))
  have Hpa : W4 (((w.alloc (.cells #[.int .u64 (M.pt 0 A), .int .u64 (M.pt 1 A), .int .u64 (M.pt 2 A), .int .u64 (M.pt 3 A)] 24)).alloc (.cells #[.int .u64 (M.pt 0 B), .int .u64 (M.pt 1 B), .int .u64 (M.pt 2 B), .int .u64 (M.pt 3 B)] 24)).alloc (.cells #[.int .u64 (M.pt 0 C), .int .u64 (M.pt 1 C), .int .u64 (M.pt 2 C), .int .u64 (M.pt 3 C)] 24)) (w.heap.size) (M.pt 0 A) (M.pt 1 A) (M.pt 2 A) (M.pt 3 A) := ⟨by simp [go_sem], by simp [go_sem], by simp [go_sem], by simp [go_sem], by simp <;> omega⟩
  have Hpb : W4 (((w.alloc (.cells #[.int .u64 (M.pt 0 A), .int .u64 (M.pt 1 A), .int .u64 (M.pt 2 A), .int .u64 (M.pt 3 A)] 24)).alloc (.cells #[.int .u64 (M.pt 0 B), .int .u64 (M.pt 1 B), .int .u64 (M.pt 2 B), .int .u64 (M.pt 3 B)] 24)).alloc (.cells #[.int .u64 (M.pt 0 C), .int .u64 (M.pt 1 C), .int .u64 (M.pt 2 C), .int .u64 (M.pt 3 C)] 24)) (w.heap.size + 1) (M.pt 0 B) (M.pt 1 B) (M.pt 2 B) (M.pt 3 B) := ⟨by simp [go_sem], by simp [go_sem], by simp [go_sem], by simp [go_sem], by simp <;> omega⟩
  have Hpc : W4 (((w.alloc (.cells #[.int .u64 (M.pt 0 A), .int .u64 (M.pt 1 A), .int .u64 (M.pt 2 A), .int .u64 (M.pt 3 A)] 24)).alloc (.cells #[.int .u64 (M.pt 0 B), .int .u64 (M.pt 1 B), .int .u64 (M.pt 2 B), .int .u64 (M.pt 3 B)] 24)).alloc (.cells #[.int .u64 (M.pt 0 C), .int .u64 (M.pt 1 C), .int .u64 (M.pt 2 C), .int .u64 (M.pt 3 C)] 24)) (w.heap.size + 1 + 1) (M.pt 0 C) (M.pt 1 C) (M.pt 2 C) (M.pt 3 C) := ⟨by simp [go_sem], by simp [go_sem], by simp [go_sem], by simp [go_sem], by simp <;> omega⟩
  generalize (((w.alloc (.cells #[.int .u64 (M.pt 0 A), .int .u64 (M.pt 1 A), .int .u64 (M.pt 2 A), .int .u64 (M.pt 3 A)] 24)).alloc (.cells #[.int .u64 (M.pt 0 B), .int .u64 (M.pt 1 B), .int .u64 (M.pt 2 B), .int .u64 (M.pt 3 B)] 24)).alloc (.cells #[.int .u64 (M.pt 0 C), .int .u64 (M.pt 1 C), .int .u64 (M.pt 2 C), .int .u64 (M.pt 3 C)] 24)) = W0 at LW Hpa Hpb Hpc ⊢
  obtain ⟨pa0, pa1, pa2, pa3, lpa⟩ := Hpa
  obtain ⟨pb0, pb1, pb2, pb3, lpb⟩ := Hpb
  obtain ⟨pc0, pc1, pc2, pc3, lpc⟩ := Hpc
  refine (works_any _).mono ?_
  rintro e w1 ⟨rfl, hb⟩
  have S : Below W0.heap.size W0 w1 := hb
  have Hpa := W4.below ⟨pa0, pa1, pa2, pa3, lpa⟩ S
  have Hpb := W4.below ⟨pb0, pb1, pb2, pb3, lpb⟩ S
  have Hpc := W4.below ⟨pc0, pc1, pc2, pc3, lpc⟩ S
  replace LW := LW.trans (S.mono LW.size)
  clear S hb pa0 pa1 pa2 pa3 lpa pb0 pb1 pb2 pb3 lpb pc0 pc1 pc2 pc3 lpc
  obtain ⟨pa0, pa1, pa2, pa3, lpa⟩ := Hpa
  obtain ⟨pb0, pb1, pb2, pb3, lpb⟩ := Hpb
  obtain ⟨pc0, pc1, pc2, pc3, lpc⟩ := Hpc
  go_wp2_with fail
  refine (less_t A B _ hA.out hB.out h1.out).mono ?_
  rintro e w2 ⟨rfl, hb⟩
  have S : Below w1.heap.size w1 w2 := hb
  have Hpa := W4.below ⟨pa0, pa1, pa2, pa3, lpa⟩ S
  have Hpb := W4.below ⟨pb0, pb1, pb2, pb3, lpb⟩ S
  have Hpc := W4.below ⟨pc0, pc1, pc2, pc3, lpc⟩ S
  replace LW := LW.trans (S.mono LW.size)
  clear S hb pa0 pa1 pa2 pa3 lpa pb0 pb1 pb2 pb3 lpb pc0 pc1 pc2 pc3 lpc
  obtain ⟨pa0, pa1, pa2, pa3, lpa⟩ := Hpa
  obtain ⟨pb0, pb1, pb2, pb3, lpb⟩ := Hpb
  obtain ⟨pc0, pc1, pc2, pc3, lpc⟩ := Hpc
  go_wp2_with fail
  refine (less_f B A _ hB.out hA.out h2.out).mono ?_
  rintro e w3 ⟨rfl, hb⟩
  have S : Below w2.heap.size w2 w3 := hb
  have Hpa := W4.below ⟨pa0, pa1, pa2, pa3, lpa⟩ S
  have Hpb := W4.below ⟨pb0, pb1, pb2, pb3, lpb⟩ S
  have Hpc := W4.below ⟨pc0, pc1, pc2, pc3, lpc⟩ S
  replace LW := LW.trans (S.mono LW.size)
  clear S hb pa0 pa1 pa2 pa3 lpa pb0 pb1 pb2 pb3 lpb pc0 pc1 pc2 pc3 lpc
  obtain ⟨pa0, pa1, pa2, pa3, lpa⟩ := Hpa
  obtain ⟨pb0, pb1, pb2, pb3, lpb⟩ := Hpb
  obtain ⟨pc0, pc1, pc2, pc3, lpc⟩ := Hpc
  go_wp2_with fail
  have hS : SO w w.heap.size (w.heap.size + 1) (w.heap.size + 1 + 1) A B C w3 := ⟨⟨pa0, pa1, pa2, pa3, lpa⟩, ⟨pb0, pb1, pb2, pb3, lpb⟩, ⟨pc0, pc1, pc2, pc3, lpc⟩, LW⟩
  clear pa0 pa1 pa2 pa3 lpa pb0 pb1 pb2 pb3 lpb pc0 pc1 pc2 pc3 lpc LW
  refine Code.wp_mono ?_ (or_a_wp w _ w.heap.size (w.heap.size + 1) (w.heap.size + 1 + 1) A B C fa fb HE.out hlt hbc hac hfa hfb _ _ _ _ _ _ _ _ _ _ _ _ _ _ _ _ _ _ _ _ _ _ _ _ _ _ _ _ _ _ _ _ _ _ _ _ _ _ _ _ _ _ _ _ _ _ _ _ _ _ _ _ _ _ _ _ _ (by kernel_rfl) hS)
  rintro _ b U ⟨rfl, h0, hd, hU⟩
  clear hS
  go_wp2_with fail
  refine bodyPost_ret (v := .bool true) (by simp [results, Tryd.results7, go_sem, h0]) hd ⟨rfl, hU.low⟩

set_option maxRecDepth 100000 in
set_option maxHeartbeats 4000000 in
theorem order_b (A B C : Nat) (fa fb : List UInt8) (w : World) (hA : Hid (M.In A)) (hB : Hid (M.In B)) (h1 : Hid (A < B)) (h2 : Hid (¬ B < A)) (heq : ∀ w : World, (Op.equalIn 10000 24 (wn A) (wn B)).run Tryd.prog w = .ok false w) (hlt : Hid (Op.bytesLess fa fb = true)) (hbc : Hid (∀ w : World, Calls Tryd.prog 17 #[wn B, wn C] w fun e w' => e = .returned (.bool false) ∧ Below w.heap.size w w')) (hfa : Hid (∀ w : World, Calls Tryd.prog 25 #[wn A] w fun e w' => e = .returned (.string ⟨fa.toArray⟩) ∧ Below w.heap.size w w')) (hfb : Hid (∀ w : World, Calls Tryd.prog 25 #[wn B] w fun e w' => e = .returned (.string ⟨fb.toArray⟩) ∧ Below w.heap.size w w')) :
    Calls Tryd.prog 7 #[wn A, wn B, wn C] w fun e w' => e = .returned (.bool true) ∧ Below w.heap.size w w' := by
  have HE := Lib.hid heq
  clear heq
  go_enter Tryd.func7, Tryd.ntmps7
  go_wp2_with fail
  have LW : Below w.heap.size w (((w.alloc (.cells #[.int .u64 (M.pt 0 A), .int .u64 (M.pt 1 A), .int .u64 (M.pt 2 A), .int .u64 (M.pt 3 A)] 24)).alloc (.cells #[.int .u64 (M.pt 0 B), .int .u64 (M.pt 1 B), .int .u64 (M.pt 2 B), .int .u64 (M.pt 3 B)] 24)).alloc (.cells #[.int .u64 (M.pt 0 C), .int .u64 (M.pt 1 C), .int .u64 (M.pt 2 C), .int .u64 (M.pt 3 C)] 24)) := by
    (repeat (first | exact Below.refl _ _ | refine Below.drew ?_ | refine Below.alloc ?_ (by first | omega | (simp; omega) | simp) _ | refine Below.setCell ?_ (by first | omega | (simp; omega) | simp) _))
  have Hpa : W4 (((w.alloc (.cells #[.int .u64 (M.pt 0 A), .int .u64 (M.pt 1 A), .int .u64 (M.pt 2 A), .int .u64 (M.pt 3 A)] 24)).alloc (.cells #[.int .u64 (M.pt 0 B), .int .u64 (M.pt 1 B), .int .u64 (M.pt 2 B), .int .u64 (M.pt 3 B)] 24)).alloc (.cells #[.int .u64 (M.pt 0 C), .int .u64 (M.pt 1 C), .int .u64 (M.pt 2 C), .int .u64 (M.pt 3 C)] 24)) (w.heap.size) (M.pt 0 A) (M.pt 1 A) (M.pt 2 A) (M.pt 3 A) := ⟨by simp [go_sem], by simp [go_sem], by simp [go_sem], by simp [go_sem], by simp <;> omega⟩
  have Hpb : W4 (((w.alloc (.cells #[.int .u64 (M.pt 0 A), .int .u64 (M.pt 1 A), .int .u64 (M.pt 2 A), .int .u64 (M.pt 3 A)] 24)).alloc (.cells #[.int .u64 (M.pt 0 B), .int .u64 (M.pt 1 B), .int .u64 (M.pt 2 B), .int .u64 (M.pt 3 B)] 24)).alloc (.cells #[.int .u64 (M.pt 0 C), .int .u64 (M.pt 1 C), .int .u64 (M.pt 2 C), .int .u64 (M.pt 3 C)] 24)) (w.heap.size + 1) (M.pt 0 B) (M.pt 1 B) (M.pt 2 B) (M.pt 3 B) := ⟨by simp [go_sem], by simp [go_sem], by simp [go_sem], by simp [go_sem], by simp <;> omega⟩
  have Hpc : W4 (((w.alloc (.cells #[.int .u64 (M.pt 0 A), .int .u64 (M.pt 1 A), .int .u64 (M.pt 2 A), .int .u64 (M.pt 3 A)] 24)).alloc (.cells #[.int .u64 (M.pt 0 B), .int .u64 (M.pt 1 B), .int .u64 (M.pt 2 B), .int .u64 (M.pt 3 B)] 24)).alloc (.cells #[.int .u64 (M.pt 0 C), .int .u64 (M.pt 1 C), .int .u64 (M.pt 2 C), .int .u64 (M.pt 3 C)] 24)) (w.heap.size + 1 + 1) (M.pt 0 C) (M.pt 1 C) (M.pt 2 C) (M.pt 3 C) := ⟨by simp [go_sem], by simp [go_sem], by simp [go_sem], by simp [go_sem], by simp <;> omega⟩
  generalize (((w.alloc (.cells #[.int .u64 (M.pt 0 A), .int .u64 (M.pt 1 A), .int .u64 (M.pt 2 A), .int .u64 (M.pt 3 A)] 24)).alloc (.cells #[.int .u64 (M.pt 0 B), .int .u64 (M.pt 1 B), .int .u64 (M.pt 2 B), .int .u64 (M.pt 3 B)] 24)).alloc (.cells #[.int .u64 (M.pt 0 C), .int .u64 (M.pt 1 C), .int .u64 (M.pt 2 C), .int .u64 (M.pt 3 C)] 24)) = W0 at LW Hpa Hpb Hpc ⊢
  obtain ⟨pa0, pa1, pa2, pa3, lpa⟩ := Hpa
  obtain ⟨pb0, pb1, pb2, pb3, lpb⟩ := Hpb
  obtain ⟨pc0, pc1, pc2, pc3, lpc⟩ := Hpc
  refine (works_any _).mono ?_
  rintro e w1 ⟨rfl, hb⟩
  have S : Below W0.heap.size W0 w1 := hb
  have Hpa := W4.below ⟨pa0, pa1, pa2, pa3, lpa⟩ S
  have Hpb := W4.below ⟨pb0, pb1, pb2, pb3, lpb⟩ S
  have Hpc := W4.below ⟨pc0, pc1, pc2, pc3, lpc⟩ S
  replace LW := LW.trans (S.mono LW.size)
  clear S hb pa0 pa1 pa2 pa3 lpa pb0 pb1 pb2 pb3 lpb pc0 pc1 pc2 pc3 lpc
  obtain ⟨pa0, pa1, pa2, pa3, lpa⟩ := Hpa
  obtain ⟨pb0, pb1, pb2, pb3, lpb⟩ := Hpb
  obtain ⟨pc0, pc1, pc2, pc3, lpc⟩ := Hpc
  go_wp2_with fail
  refine (less_t A B _ hA.out hB.out h1.out).mono ?_
  rintro e w2 ⟨rfl, hb⟩
  have S : Below w1.heap.size w1 w2 := hb
  have Hpa := W4.below ⟨pa0, pa1, pa2, pa3, lpa⟩ S
  have Hpb := W4.below ⟨pb0, pb1, pb2, pb3, lpb⟩ S
  have Hpc := W4.below ⟨pc0, pc1, pc2, pc3, lpc⟩ S
  replace LW := LW.trans (S.mono LW.size)
  clear S hb pa0 pa1 pa2 pa3 lpa pb0 pb1 pb2 pb3 lpb pc0 pc1 pc2 pc3 lpc
  obtain ⟨pa0, pa1, pa2, pa3, lpa⟩ := Hpa
  obtain ⟨pb0, pb1, pb2, pb3, lpb⟩ := Hpb
  obtain ⟨pc0, pc1, pc2, pc3, lpc⟩ := Hpc
  go_wp2_with fail
  refine (less_f B A _ hB.out hA.out h2.out).mono ?_
  rintro e w3 ⟨rfl, hb⟩
  have S : Below w2.heap.size w2 w3 := hb
  have Hpa := W4.below ⟨pa0, pa1, pa2, pa3, lpa⟩ S
  have Hpb := W4.below ⟨pb0, pb1, pb2, pb3, lpb⟩ S
  have Hpc := W4.below ⟨pc0, pc1, pc2, pc3, lpc⟩ S
  replace LW := LW.trans (S.mono LW.size)
  clear S hb pa0 pa1 pa2 pa3 lpa pb0 pb1 pb2 pb3 lpb pc0 pc1 pc2 pc3 lpc
  obtain ⟨pa0, pa1, pa2, pa3, lpa⟩ := Hpa
  obtain ⟨pb0, pb1, pb2, pb3, lpb⟩ := Hpb
  obtain ⟨pc0, pc1, pc2, pc3, lpc⟩ := Hpc
  go_wp2_with fail
  have hS : SO w w.heap.size (w.heap.size + 1) (w.heap.size + 1 + 1) A B C w3 := ⟨⟨pa0, pa1, pa2, pa3, lpa⟩, ⟨pb0, pb1, pb2, pb3, lpb⟩, ⟨pc0, pc1, pc2, pc3, lpc⟩, LW⟩
  clear pa0 pa1 pa2 pa3 lpa pb0 pb1 pb2 pb3 lpb pc0 pc1 pc2 pc3 lpc LW
  refine Code.wp_mono ?_ (or_b_wp w _ w.heap.size (w.heap.size + 1) (w.heap.size + 1 + 1) A B C fa fb HE.out hlt hbc hfa hfb _ _ _ _ _ _ _ _ _ _ _ _ _ _ _ _ _ _ _ _ _ _ _ _ _ _ _ _ _ _ _ _ _ _ _ _ _ _ _ _ _ _ _ _ _ _ _ _ _ _ _ _ _ _ _ _ _ (by kernel_rfl) hS)
  rintro _ b U ⟨rfl, h0, hd, hU⟩
  clear hS
  go_wp2_with fail
  refine bodyPost_ret (v := .bool true) (by simp [results, Tryd.results7, go_sem, h0]) hd ⟨rfl, hU.low⟩

set_option maxRecDepth 100000 in
set_option maxHeartbeats 4000000 in
theorem order_c (A B C : Nat) (fa fb : List UInt8) (w : World) (hA : Hid (M.In A)) (hB : Hid (M.In B)) (h1 : Hid (¬ A < B)) (h2 : Hid (B < A)) (heq : ∀ w : World, (Op.equalIn 10000 24 (wn A) (wn B)).run Tryd.prog w = .ok false w) (hlt : Hid (Op.bytesLess fa fb = false)) (hfa : Hid (∀ w : World, Calls Tryd.prog 25 #[wn A] w fun e w' => e = .returned (.string ⟨fa.toArray⟩) ∧ Below w.heap.size w w')) (hfb : Hid (∀ w : World, Calls Tryd.prog 25 #[wn B] w fun e w' => e = .returned (.string ⟨fb.toArray⟩) ∧ Below w.heap.size w w')) :
    Calls Tryd.prog 7 #[wn A, wn B, wn C] w fun e w' => e = .returned (.bool true) ∧ Below w.heap.size w w' := by
  have HE := Lib.hid heq
  clear heq
  go_enter Tryd.func7, Tryd.ntmps7
  go_wp2_with fail
  have LW : Below w.heap.size w (((w.alloc (.cells #[.int .u64 (M.pt 0 A), .int .u64 (M.pt 1 A), .int .u64 (M.pt 2 A), .int .u64 (M.pt 3 A)] 24)).alloc (.cells #[.int .u64 (M.pt 0 B), .int .u64 (M.pt 1 B), .int .u64 (M.pt 2 B), .int .u64 (M.pt 3 B)] 24)).alloc (.cells #[.int .u64 (M.pt 0 C), .int .u64 (M.pt 1 C), .int .u64 (M.pt 2 C), .int .u64 (M.pt 3 C)] 24)) := by
    (repeat (first | exact Below.refl _ _ | refine Below.drew ?_ | refine Below.alloc ?_ (by first | omega | (simp; omega) | simp) _ | refine Below.setCell ?_ (by first | omega | (simp; omega) | simp) _))
  have Hpa : W4 (((w.alloc (.cells #[.int .u64 (M.pt 0 A), .int .u64 (M.pt 1 A), .int .u64 (M.pt 2 A), .int .u64 (M.pt 3 A)] 24)).alloc (.cells #[.int .u64 (M.pt 0 B), .int .u64 (M.pt 1 B), .int .u64 (M.pt 2 B), .int .u64 (M.pt 3 B)] 24)).alloc (.cells #[.int .u64 (M.pt 0 C), .int .u64 (M.pt 1 C), .int .u64 (M.pt 2 C), .int .u64 (M.pt 3 C)] 24)) (w.heap.size) (M.pt 0 A) (M.pt 1 A) (M.pt 2 A) (M.pt 3 A) := ⟨by simp [go_sem], by simp [go_sem], by simp [go_sem], by simp [go_sem], by simp <;> omega⟩
  have Hpb : W4 (((w.alloc (.cells #[.int .u64 (M.pt 0 A), .int .u64 (M.pt 1 A), .int .u64 (M.pt 2 A), .int .u64 (M.pt 3 A)] 24)).alloc (.cells #[.int .u64 (M.pt 0 B), .int .u64 (M.pt 1 B), .int .u64 (M.pt 2 B), .int .u64 (M.pt 3 B)] 24)).alloc (.cells #[.int .u64 (M.pt 0 C), .int .u64 (M.pt 1 C), .int .u64 (M.pt 2 C), .int .u64 (M.pt 3 C)] 24)) (w.heap.size + 1) (M.pt 0 B) (M.pt 1 B) (M.pt 2 B) (M.pt 3 B) := ⟨by simp [go_sem], by simp [go_sem], by simp [go_sem], by simp [go_sem], by simp <;> omega⟩
  have Hpc : W4 (((w.alloc (.cells #[.int .u64 (M.pt 0 A), .int .u64 (M.pt 1 A), .int .u64 (M.pt 2 A), .int .u64 (M.pt 3 A)] 24)).alloc (.cells #[.int .u64 (M.pt 0 B), .int .u64 (M.pt 1 B), .int .u64 (M.pt 2 B), .int .u64 (M.pt 3 B)] 24)).alloc (.cells #[.int .u64 (M.pt 0 C), .int .u64 (M.pt 1 C), .int .u64 (M.pt 2 C), .int .u64 (M.pt 3 C)] 24)) (w.heap.size + 1 + 1) (M.pt 0 C) (M.pt 1 C) (M.pt 2 C) (M.pt 3 C) := ⟨by simp [go_sem], by simp [go_sem], by simp [go_sem], by simp [go_sem], by simp <;> omega⟩
  generalize (((w.alloc (.cells #[.int .u64 (M.pt 0 A), .int .u64 (M.pt 1 A), .int .u64 (M.pt 2 A), .int .u64 (M.pt 3 A)] 24)).alloc (.cells #[.int .u64 (M.pt 0 B), .int .u64 (M.pt 1 B), .int .u64 (M.pt 2 B), .int .u64 (M.pt 3 B)] 24)).alloc (.cells #[.int .u64 (M.pt 0 C), .int .u64 (M.pt 1 C), .int .u64 (M.pt 2 C), .int .u64 (M.pt 3 C)] 24)) = W0 at LW Hpa Hpb Hpc ⊢
  obtain ⟨pa0, pa1, pa2, pa3, lpa⟩ := Hpa
  obtain ⟨pb0, pb1, pb2, pb3, lpb⟩ := Hpb
  obtain ⟨pc0, pc1, pc2, pc3, lpc⟩ := Hpc
  refine (works_any _).mono ?_
  rintro e w1 ⟨rfl, hb⟩
  have S : Below W0.heap.size W0 w1 := hb
  have Hpa := W4.below ⟨pa0, pa1, pa2, pa3, lpa⟩ S
  have Hpb := W4.below ⟨pb0, pb1, pb2, pb3, lpb⟩ S
  have Hpc := W4.below ⟨pc0, pc1, pc2, pc3, lpc⟩ S
  replace LW := LW.trans (S.mono LW.size)
  clear S hb pa0 pa1 pa2 pa3 lpa pb0 pb1 pb2 pb3 lpb pc0 pc1 pc2 pc3 lpc
  obtain ⟨pa0, pa1, pa2, pa3, lpa⟩ := Hpa
  obtain ⟨pb0, pb1, pb2, pb3, lpb⟩ := Hpb
  obtain ⟨pc0, pc1, pc2, pc3, lpc⟩ := Hpc
  go_wp2_with fail
  refine (less_f A B _ hA.out hB.out h1.out).mono ?_
  rintro e w2 ⟨rfl, hb⟩
  have S : Below w1.heap.size w1 w2 := hb
  have Hpa := W4.below ⟨pa0, pa1, pa2, pa3, lpa⟩ S
  have Hpb := W4.below ⟨pb0, pb1, pb2, pb3, lpb⟩ S
  have Hpc := W4.below ⟨pc0, pc1, pc2, pc3, lpc⟩ S
  replace LW := LW.trans (S.mono LW.size)
  clear S hb pa0 pa1 pa2 pa3 lpa pb0 pb1 pb2 pb3 lpb pc0 pc1 pc2 pc3 lpc
  obtain ⟨pa0, pa1, pa2, pa3, lpa⟩ := Hpa
  obtain ⟨pb0, pb1, pb2, pb3, lpb⟩ := Hpb
  obtain ⟨pc0, pc1, pc2, pc3, lpc⟩ := Hpc
  go_wp2_with fail
  refine (less_t B A _ hB.out hA.out h2.out).mono ?_
  rintro e w3 ⟨rfl, hb⟩
  have S : Below w2.heap.size w2 w3 := hb
  have Hpa := W4.below ⟨pa0, pa1, pa2, pa3, lpa⟩ S
  have Hpb := W4.below ⟨pb0, pb1, pb2, pb3, lpb⟩ S
  have Hpc := W4.below ⟨pc0, pc1, pc2, pc3, lpc⟩ S
  replace LW := LW.trans (S.mono LW.size)
  clear S hb pa0 pa1 pa2 pa3 lpa pb0 pb1 pb2 pb3 lpb pc0 pc1 pc2 pc3 lpc
  obtain ⟨pa0, pa1, pa2, pa3, lpa⟩ := Hpa
  obtain ⟨pb0, pb1, pb2, pb3, lpb⟩ := Hpb
  obtain ⟨pc0, pc1, pc2, pc3, lpc⟩ := Hpc
  go_wp2_with fail
  have hS : SO w w.heap.size (w.heap.size + 1) (w.heap.size + 1 + 1) A B C w3 := ⟨⟨pa0, pa1, pa2, pa3, lpa⟩, ⟨pb0, pb1, pb2, pb3, lpb⟩, ⟨pc0, pc1, pc2, pc3, lpc⟩, LW⟩
  clear pa0 pa1 pa2 pa3 lpa pb0 pb1 pb2 pb3 lpb pc0 pc1 pc2 pc3 lpc LW
  refine Code.wp_mono ?_ (or_c_wp w _ w.heap.size (w.heap.size + 1) (w.heap.size + 1 + 1) A B C fa fb HE.out hlt hfa hfb _ _ _ _ _ _ _ _ _ _ _ _ _ _ _ _ _ _ _ _ _ _ _ _ _ _ _ _ _ _ _ _ _ _ _ _ _ _ _ _ _ _ _ _ _ _ _ _ _ _ _ _ _ _ _ _ _ (by kernel_rfl) hS)
  rintro _ b U ⟨rfl, h0, hd, hU⟩
  clear hS
  go_wp2_with fail
  refine bodyPost_ret (v := .bool true) (by simp [results, Tryd.results7, go_sem, h0]) hd ⟨rfl, hU.low⟩

set_option maxRecDepth 100000 in
set_option maxHeartbeats 4000000 in
theorem order_d (A B C : Nat) (fa fb : List UInt8) (w : World) (hA : Hid (M.In A)) (hB : Hid (M.In B)) (h1 : Hid (¬ A < B)) (h2 : Hid (¬ B < A)) (heq : ∀ w : World, (Op.equalIn 10000 24 (wn A) (wn B)).run Tryd.prog w = .ok true w) (hlt : Hid (Op.bytesLess fa fb = false)) (hfa : Hid (∀ w : World, Calls Tryd.prog 25 #[wn A] w fun e w' => e = .returned (.string ⟨fa.toArray⟩) ∧ Below w.heap.size w w')) (hfb : Hid (∀ w : World, Calls Tryd.prog 25 #[wn B] w fun e w' => e = .returned (.string ⟨fb.toArray⟩) ∧ Below w.heap.size w w')) :
    Calls Tryd.prog 7 #[wn A, wn B, wn C] w fun e w' => e = .returned (.bool true) ∧ Below w.heap.size w w' := by
  have HE := Lib.hid heq
  clear heq
  go_enter Tryd.func7, Tryd.ntmps7
  go_wp2_with fail
  have LW : Below w.heap.size w (((w.alloc (.cells #[.int .u64 (M.pt 0 A), .int .u64 (M.pt 1 A), .int .u64 (M.pt 2 A), .int .u64 (M.pt 3 A)] 24)).alloc (.cells #[.int .u64 (M.pt 0 B), .int .u64 (M.pt 1 B), .int .u64 (M.pt 2 B), .int .u64 (M.pt 3 B)] 24)).alloc (.cells #[.int .u64 (M.pt 0 C), .int .u64 (M.pt 1 C), .int .u64 (M.pt 2 C), .int .u64 (M.pt 3 C)] 24)) := by
    (repeat (first | exact Below.refl _ _ | refine Below.drew ?_ | refine Below.alloc ?_ (by first | omega | (simp; omega) | simp) _ | refine Below.setCell ?_ (by first | omega | (simp; omega) | simp) _))
  have Hpa : W4 (((w.alloc (.cells #[.int .u64 (M.pt 0 A), .int .u64 (M.pt 1 A), .int .u64 (M.pt 2 A), .int .u64 (M.pt 3 A)] 24)).alloc (.cells #[.int .u64 (M.pt 0 B), .int .u64 (M.pt 1 B), .int .u64 (M.pt 2 B), .int .u64 (M.pt 3 B)] 24)).alloc (.cells #[.int .u64 (M.pt 0 C), .int .u64 (M.pt 1 C), .int .u64 (M.pt 2 C), .int .u64 (M.pt 3 C)] 24)) (w.heap.size) (M.pt 0 A) (M.pt 1 A) (M.pt 2 A) (M.pt 3 A) := ⟨by simp [go_sem], by simp [go_sem], by simp [go_sem], by simp [go_sem], by simp <;> omega⟩
  have Hpb : W4 (((w.alloc (.cells #[.int .u64 (M.pt 0 A), .int .u64 (M.pt 1 A), .int .u64 (M.pt 2 A), .int .u64 (M.pt 3 A)] 24)).alloc (.cells #[.int .u64 (M.pt 0 B), .int .u64 (M.pt 1 B), .int .u64 (M.pt 2 B), .int .u64 (M.pt 3 B)] 24)).alloc (.cells #[.int .u64 (M.pt 0 C), .int .u64 (M.pt 1 C), .int .u64 (M.pt 2 C), .int .u64 (M.pt 3 C)] 24)) (w.heap.size + 1) (M.pt 0 B) (M.pt 1 B) (M.pt 2 B) (M.pt 3 B) := ⟨by simp [go_sem], by simp [go_sem], by simp [go_sem], by simp [go_sem], by simp <;> omega⟩
  have Hpc : W4 (((w.alloc (.cells #[.int .u64 (M.pt 0 A), .int .u64 (M.pt 1 A), .int .u64 (M.pt 2 A), .int .u64 (M.pt 3 A)] 24)).alloc (.cells #[.int .u64 (M.pt 0 B), .int .u64 (M.pt 1 B), .int .u64 (M.pt 2 B), .int .u64 (M.pt 3 B)] 24)).alloc (.cells #[.int .u64 (M.pt 0 C), .int .u64 (M.pt 1 C), .int .u64 (M.pt 2 C), .int .u64 (M.pt 3 C)] 24)) (w.heap.size + 1 + 1) (M.pt 0 C) (M.pt 1 C) (M.pt 2 C) (M.pt 3 C) := ⟨by simp [go_sem], by simp [go_sem], by simp [go_sem], by simp [go_sem], by simp <;> omega⟩
  generalize (((w.alloc (.cells #[.int .u64 (M.pt 0 A), .int .u64 (M.pt 1 A), .int .u64 (M.pt 2 A), .int .u64 (M.pt 3 A)] 24)).alloc (.cells #[.int .u64 (M.pt 0 B), .int .u64 (M.pt 1 B), .int .u64 (M.pt 2 B), .int .u64 (M.pt 3 B)] 24)).alloc (.cells #[.int .u64 (M.pt 0 C), .int .u64 (M.pt 1 C), .int .u64 (M.pt 2 C), .int .u64 (M.pt 3 C)] 24)) = W0 at LW Hpa Hpb Hpc ⊢
  obtain ⟨pa0, pa1, pa2, pa3, lpa⟩ := Hpa
  obtain ⟨pb0, pb1, pb2, pb3, lpb⟩ := Hpb
  obtain ⟨pc0, pc1, pc2, pc3, lpc⟩ := Hpc
  refine (works_any _).mono ?_
  rintro e w1 ⟨rfl, hb⟩
  have S : Below W0.heap.size W0 w1 := hb
  have Hpa := W4.below ⟨pa0, pa1, pa2, pa3, lpa⟩ S
  have Hpb := W4.below ⟨pb0, pb1, pb2, pb3, lpb⟩ S
  have Hpc := W4.below ⟨pc0, pc1, pc2, pc3, lpc⟩ S
  replace LW := LW.trans (S.mono LW.size)
  clear S hb pa0 pa1 pa2 pa3 lpa pb0 pb1 pb2 pb3 lpb pc0 pc1 pc2 pc3 lpc
  obtain ⟨pa0, pa1, pa2, pa3, lpa⟩ := Hpa
  obtain ⟨pb0, pb1, pb2, pb3, lpb⟩ := Hpb
  obtain ⟨pc0, pc1, pc2, pc3, lpc⟩ := Hpc
  go_wp2_with fail
  refine (less_f A B _ hA.out hB.out h1.out).mono ?_
  rintro e w2 ⟨rfl, hb⟩
  have S : Below w1.heap.size w1 w2 := hb
  have Hpa := W4.below ⟨pa0, pa1, pa2, pa3, lpa⟩ S
  have Hpb := W4.below ⟨pb0, pb1, pb2, pb3, lpb⟩ S
  have Hpc := W4.below ⟨pc0, pc1, pc2, pc3, lpc⟩ S
  replace LW := LW.trans (S.mono LW.size)
  clear S hb pa0 pa1 pa2 pa3 lpa pb0 pb1 pb2 pb3 lpb pc0 pc1 pc2 pc3 lpc
  obtain ⟨pa0, pa1, pa2, pa3, lpa⟩ := Hpa
  obtain ⟨pb0, pb1, pb2, pb3, lpb⟩ := Hpb
  obtain ⟨pc0, pc1, pc2, pc3, lpc⟩ := Hpc
  go_wp2_with fail
  refine (less_f B A _ hB.out hA.out h2.out).mono ?_
  rintro e w3 ⟨rfl, hb⟩
  have S : Below w2.heap.size w2 w3 := hb
  have Hpa := W4.below ⟨pa0, pa1, pa2, pa3, lpa⟩ S
  have Hpb := W4.below ⟨pb0, pb1, pb2, pb3, lpb⟩ S
  have Hpc := W4.below ⟨pc0, pc1, pc2, pc3, lpc⟩ S
  replace LW := LW.trans (S.mono LW.size)
  clear S hb pa0 pa1 pa2 pa3 lpa pb0 pb1 pb2 pb3 lpb pc0 pc1 pc2 pc3 lpc
  obtain ⟨pa0, pa1, pa2, pa3, lpa⟩ := Hpa
  obtain ⟨pb0, pb1, pb2, pb3, lpb⟩ := Hpb
  obtain ⟨pc0, pc1, pc2, pc3, lpc⟩ := Hpc
  go_wp2_with fail
  have hS : SO w w.heap.size (w.heap.size + 1) (w.heap.size + 1 + 1) A B C w3 := ⟨⟨pa0, pa1, pa2, pa3, lpa⟩, ⟨pb0, pb1, pb2, pb3, lpb⟩, ⟨pc0, pc1, pc2, pc3, lpc⟩, LW⟩
  clear pa0 pa1 pa2 pa3 lpa pb0 pb1 pb2 pb3 lpb pc0 pc1 pc2 pc3 lpc LW
  refine Code.wp_mono ?_ (or_d_wp w _ w.heap.size (w.heap.size + 1) (w.heap.size + 1 + 1) A B C fa fb HE.out hlt hfa hfb _ _ _ _ _ _ _ _ _ _ _ _ _ _ _ _ _ _ _ _ _ _ _ _ _ _ _ _ _ _ _ _ _ _ _ _ _ _ _ _ _ _ _ _ _ _ _ _ _ _ _ _ _ _ _ _ _ (by kernel_rfl) hS)
  rintro _ b U ⟨rfl, h0, hd, hU⟩
  clear hS
  go_wp2_with fail
  refine bodyPost_ret (v := .bool true) (by simp [results, Tryd.results7, go_sem, h0]) hd ⟨rfl, hU.low⟩

theorem order_any (A B C : Nat) (w : World) (hA : M.In A) (hB : M.In B) (hC : M.In C) :
    Calls Tryd.prog 7 #[wn A, wn B, wn C] w fun e w' => e = .returned (.bool true) ∧ Below w.heap.size w w' := by
  have hl := f32_less hA hB
  have hfa := fun w => fixed_any A w hA
  have hfb := fun w => fixed_any B w hB
  by_cases h1 : A < B
  · have h2 : ¬ B < A := by omega
    rw [decide_eq_true h1] at hl
    have he : ∀ w : World, (Op.equalIn 10000 24 (wn A) (wn B)).run Tryd.prog w = .ok false w := fun w => by rw [eqN hA hB, decide_eq_false (by omega)]
    by_cases h3 : B < C
    · exact order_a A B C _ _ w hA hB h1 h2 he hl (fun w => less_t B C w hB hC h3) (fun w => less_t A C w hA hC (by omega)) hfa hfb
    · exact order_b A B C _ _ w hA hB h1 h2 he hl (fun w => less_f B C w hB hC h3) hfa hfb
  · rw [decide_eq_false h1] at hl
    by_cases h2 : B < A
    · have he : ∀ w : World, (Op.equalIn 10000 24 (wn A) (wn B)).run Tryd.prog w = .ok false w := fun w => by rw [eqN hA hB, decide_eq_false (by omega)]
      exact order_c A B C _ _ w hA hB h1 h2 he hl hfa hfb
    · have he : ∀ w : World, (Op.equalIn 10000 24 (wn A) (wn B)).run Tryd.prog w = .ok true w := fun w => by rw [eqN hA hB, decide_eq_true (by omega)]
      exact order_d A B C _ _ w hA hB h1 h2 he hl hfa hfb
end Go.Proofs.YtcnngpmganhjoaaDoor
