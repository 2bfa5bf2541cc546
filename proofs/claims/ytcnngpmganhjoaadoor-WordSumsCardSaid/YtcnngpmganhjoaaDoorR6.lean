/- The reference's regions that draw: two digits, of two words. -/
import Derived.Test.YtcnngpmganhjoaaDoorR4
import Derived.Laws.BitsLemmas
namespace Go.Proofs.YtcnngpmganhjoaaDoor
open Go Go.RowKit

/-- What such a region leaves: the frame, and what every operation keeps. -/
def RF (fr : Array Value) (S : World → Prop) (e : Exit) (b : Act) (U : World) : Prop := e = .normal ∧ b = { tmps := fr, defers := [] } ∧ S U
/-- Two words in memory, and what else is kept by calls. -/
structure S2 (K : World → Prop) (b c : Nat) (a0 a1 a2 a3 b0 b1 b2 b3 : Int) (W : World) : Prop where
  h1 : W4 W b a0 a1 a2 a3
  h2 : W4 W c b0 b1 b2 b3
  rest : K W
  kk : ∀ W W' : World, K W → Below W.heap.size W W' → K W'
theorem S2.keep {K : World → Prop} {b c : Nat} {a0 a1 a2 a3 b0 b1 b2 b3 : Int} {W W' : World} (h : S2 K b c a0 a1 a2 a3 b0 b1 b2 b3 W) (hb : Below W.heap.size W W') : S2 K b c a0 a1 a2 a3 b0 b1 b2 b3 W' :=
  ⟨h.h1.below hb, h.h2.below hb, h.kk _ _ h.rest hb, h.kk⟩

set_option maxRecDepth 100000 in
set_option maxHeartbeats 8000000 in
theorem radd_all (K : World → Prop) (W : World) (b c : Nat) (a0 a1 a2 a3 b0 b1 b2 b3 i x y m : Int) (hx : Hid (∀ w : World, Calls Tryd.prog 29 #[wd a0 a1 a2 a3, .int .i64 i] w fun e w' => e = .returned (.int .i64 x) ∧ Below w.heap.size w w')) (hy : Hid (∀ w : World, Calls Tryd.prog 29 #[wd b0 b1 b2 b3, .int .i64 i] w fun e w' => e = .returned (.int .i64 y) ∧ Below w.heap.size w w')) (hx0 : 0 ≤ x) (hx1 : x < 256) (hy0 : 0 ≤ y) (hy1 : y < 256) (hm0 : 0 ≤ m) (hm1 : m < 2) (x0 x1 x4 x5 x6 x9 x10 x11 x12 x13 x14 x15 x16 x17 x18 x19 x20 x21 x22 x23 x24 x25 x26 x27 x28 x29 x30 x31 x32 x33 x34 : Value) (ops : Array Oper) (hcode : Tryd.f11.body.bind (regAt 6) = some (.region 6 ops true)) (hS : S2 K b c a0 a1 a2 a3 b0 b1 b2 b3 W) :
    wpAnyH Tryd.prog .any ops (RF #[x0, x1, .pointer (some ⟨b, 0, none⟩), .pointer (some ⟨c, 0, none⟩), x4, x5, x6, .int .i64 m, .int .i64 i, .int .i64 (x + y + m), x10, x11, x12, x13, wd a0 a1 a2 a3, .int .i64 i, .int .i64 x, wd b0 b1 b2 b3, .int .i64 i, .int .i64 y, .int .i64 (x + y), .int .i64 m, .int .i64 (x + y + m), x23, x24, x25, x26, x27, x28, x29, x30, x31, x32, x33, x34] (S2 K b c a0 a1 a2 a3 b0 b1 b2 b3)) (S2 K b c a0 a1 a2 a3 b0 b1 b2 b3) 10 #[false, false, false, false, false, false, false, false, false, false] { tmps := #[x0, x1, .pointer (some ⟨b, 0, none⟩), .pointer (some ⟨c, 0, none⟩), x4, x5, x6, .int .i64 m, .int .i64 i, x9, x10, x11, x12, x13, x14, x15, x16, x17, x18, x19, x20, x21, x22, x23, x24, x25, x26, x27, x28, x29, x30, x31, x32, x33, x34], defers := [] } W := by
  simp only [Tryd.f11, Option.bind_some, regAt, Option.some_or, Option.none_or, if_true, if_false, Nat.reduceEqDiff, Option.some.injEq, Code.region.injEq, true_and, and_true] at hcode
  subst hcode
  refine wpAnyH_take (i := 0) (v := ?_) rfl (by kernel_rfl) (by kernel_rfl) (by kernel_rfl) (fun _ _ _ h => nomatch h.1) (Or.inl ⟨by rfl, ?_⟩) hS ?_
  rotate_left
  · intro w hSw
    obtain ⟨⟨p0, p1, p2, p3, lp⟩, ⟨q0, q1, q2, q3, lq⟩, _, _⟩ := hSw
    go_simp
    first | done | with_reducible rfl
  simp only [Act.put, List.getElem_toArray, List.getElem_cons_zero, List.setIfInBounds_toArray, List.set_cons_zero, List.set_cons_succ]
  refine wpAnyH_take (i := 1) (v := ?_) rfl (by kernel_rfl) (by kernel_rfl) (by kernel_rfl) (fun _ _ _ h => nomatch h.1) (Or.inl ⟨by rfl, ?_⟩) hS ?_
  rotate_left
  · intro w hSw
    obtain ⟨⟨p0, p1, p2, p3, lp⟩, ⟨q0, q1, q2, q3, lq⟩, _, _⟩ := hSw
    go_simp
    first | done | with_reducible rfl
  simp only [Act.put, List.getElem_toArray, List.getElem_cons_succ, List.getElem_cons_zero, List.setIfInBounds_toArray, List.set_cons_zero, List.set_cons_succ]
  refine wpAnyH_take (i := 3) (v := ?_) rfl (by kernel_rfl) (by kernel_rfl) (by kernel_rfl) (fun _ _ _ h => nomatch h.1) (Or.inl ⟨by rfl, ?_⟩) hS ?_
  rotate_left
  · intro w hSw
    obtain ⟨⟨p0, p1, p2, p3, lp⟩, ⟨q0, q1, q2, q3, lq⟩, _, _⟩ := hSw
    go_simp
    first | done | with_reducible rfl
  simp only [Act.put, List.getElem_toArray, List.getElem_cons_succ, List.getElem_cons_zero, List.setIfInBounds_toArray, List.set_cons_zero, List.set_cons_succ]
  refine wpAnyH_take (i := 4) (v := ?_) rfl (by kernel_rfl) (by kernel_rfl) (by kernel_rfl) (fun _ _ _ h => nomatch h.1) (Or.inl ⟨by rfl, ?_⟩) hS ?_
  rotate_left
  · intro w hSw
    obtain ⟨⟨p0, p1, p2, p3, lp⟩, ⟨q0, q1, q2, q3, lq⟩, _, _⟩ := hSw
    go_simp
    first | done | with_reducible rfl
  simp only [Act.put, List.getElem_toArray, List.getElem_cons_succ, List.getElem_cons_zero, List.setIfInBounds_toArray, List.set_cons_zero, List.set_cons_succ]
  refine wpAnyH_take (i := 7) (v := ?_) rfl (by kernel_rfl) (by kernel_rfl) (by kernel_rfl) (fun _ _ _ h => nomatch h.1) (Or.inl ⟨by rfl, ?_⟩) hS ?_
  rotate_left
  · intro w hSw
    obtain ⟨⟨p0, p1, p2, p3, lp⟩, ⟨q0, q1, q2, q3, lq⟩, _, _⟩ := hSw
    go_simp
    first | done | with_reducible rfl
  simp only [Act.put, List.getElem_toArray, List.getElem_cons_succ, List.getElem_cons_zero, List.setIfInBounds_toArray, List.set_cons_zero, List.set_cons_succ]
  refine wpAnyH_ready (rs := [2]) (by kernel_rfl) (by simp) ?_
  refine AllReadyH.cons rfl (fun K hK => ?_) AllReadyH.nil
  go_simp
  refine (hx.out _).mono ?_
  rintro e w1 ⟨rfl, hb⟩
  try go_wp2_with fail
  have hT := hS.keep hb
  refine hK.out _ _ hT (fun _ => ?_)
  clear hK K hS hb
  have hS := hT
  clear hT
  simp only [List.setIfInBounds_toArray, List.set_cons_zero, List.set_cons_succ]
  refine wpAnyH_ready (rs := [5]) (by kernel_rfl) (by simp) ?_
  refine AllReadyH.cons rfl (fun K hK => ?_) AllReadyH.nil
  go_simp
  refine (hy.out _).mono ?_
  rintro e w1 ⟨rfl, hb⟩
  try go_wp2_with fail
  have hT := hS.keep hb
  refine hK.out _ _ hT (fun _ => ?_)
  clear hK K hS hb
  have hS := hT
  clear hT
  simp only [List.setIfInBounds_toArray, List.set_cons_zero, List.set_cons_succ]
  refine wpAnyH_take (i := 6) (v := ?_) rfl (by kernel_rfl) (by kernel_rfl) (by kernel_rfl) (fun _ _ _ h => nomatch h.1) (Or.inl ⟨by rfl, ?_⟩) hS ?_
  rotate_left
  · intro w hSw
    obtain ⟨⟨p0, p1, p2, p3, lp⟩, ⟨q0, q1, q2, q3, lq⟩, _, _⟩ := hSw
    go_simp
    first | done | with_reducible rfl
  simp only [Act.put, List.getElem_toArray, List.getElem_cons_succ, List.getElem_cons_zero, List.setIfInBounds_toArray, List.set_cons_zero, List.set_cons_succ]
  refine wpAnyH_take (i := 8) (v := ?_) rfl (by kernel_rfl) (by kernel_rfl) (by kernel_rfl) (fun _ _ _ h => nomatch h.1) (Or.inl ⟨by rfl, ?_⟩) hS ?_
  rotate_left
  · intro w hSw
    obtain ⟨⟨p0, p1, p2, p3, lp⟩, ⟨q0, q1, q2, q3, lq⟩, _, _⟩ := hSw
    go_simp
    first | done | with_reducible rfl
  simp only [Act.put, List.getElem_toArray, List.getElem_cons_succ, List.getElem_cons_zero, List.setIfInBounds_toArray, List.set_cons_zero, List.set_cons_succ]
  refine wpAnyH_take (i := 9) (v := ?_) rfl (by kernel_rfl) (by kernel_rfl) (by kernel_rfl) (fun _ _ _ h => nomatch h.1) (Or.inl ⟨by rfl, ?_⟩) hS ?_
  rotate_left
  · intro w hSw
    obtain ⟨⟨p0, p1, p2, p3, lp⟩, ⟨q0, q1, q2, q3, lq⟩, _, _⟩ := hSw
    go_simp
    first | done | with_reducible rfl
  simp only [Act.put, List.getElem_toArray, List.getElem_cons_succ, List.getElem_cons_zero, List.setIfInBounds_toArray, List.set_cons_zero, List.set_cons_succ]
  refine wpAnyH_done (by kernel_rfl) ?_ _
  have e1 : IntKind.i64.wrap (x + y) = (x + y) := by rw [IntKind.wrap_i64]; omega
  have e2 : IntKind.i64.wrap (x + y + m) = (x + y + m) := by rw [IntKind.wrap_i64]; omega
  rw [e1, e2]
  exact ⟨rfl, rfl, hS⟩

theorem radd_false : Array.replicate 10 false = #[false, false, false, false, false, false, false, false, false, false] := by kernel_rfl
theorem radd_size {ops : Array Oper} (hcode : Tryd.f11.body.bind (regAt 6) = some (.region 6 ops true)) : ops.size = 10 := by
  have h : (Tryd.f11.body.bind (regAt 6)).map (fun c => match c with | .region _ o _ => o.size | _ => 0) = some 10 := by kernel_rfl
  rw [hcode] at h
  exact Option.some.inj h
theorem radd_wp (K : World → Prop) (W : World) (b c : Nat) (a0 a1 a2 a3 b0 b1 b2 b3 i x y m : Int) (hx : Hid (∀ w : World, Calls Tryd.prog 29 #[wd a0 a1 a2 a3, .int .i64 i] w fun e w' => e = .returned (.int .i64 x) ∧ Below w.heap.size w w')) (hy : Hid (∀ w : World, Calls Tryd.prog 29 #[wd b0 b1 b2 b3, .int .i64 i] w fun e w' => e = .returned (.int .i64 y) ∧ Below w.heap.size w w')) (hx0 : 0 ≤ x) (hx1 : x < 256) (hy0 : 0 ≤ y) (hy1 : y < 256) (hm0 : 0 ≤ m) (hm1 : m < 2) (x0 x1 x4 x5 x6 x9 x10 x11 x12 x13 x14 x15 x16 x17 x18 x19 x20 x21 x22 x23 x24 x25 x26 x27 x28 x29 x30 x31 x32 x33 x34 : Value) (ops : Array Oper) (hcode : Tryd.f11.body.bind (regAt 6) = some (.region 6 ops true)) (hS : S2 K b c a0 a1 a2 a3 b0 b1 b2 b3 W) :
    (Code.region 6 ops true).wp Tryd.prog (RF #[x0, x1, .pointer (some ⟨b, 0, none⟩), .pointer (some ⟨c, 0, none⟩), x4, x5, x6, .int .i64 m, .int .i64 i, .int .i64 (x + y + m), x10, x11, x12, x13, wd a0 a1 a2 a3, .int .i64 i, .int .i64 x, wd b0 b1 b2 b3, .int .i64 i, .int .i64 y, .int .i64 (x + y), .int .i64 m, .int .i64 (x + y + m), x23, x24, x25, x26, x27, x28, x29, x30, x31, x32, x33, x34] (S2 K b c a0 a1 a2 a3 b0 b1 b2 b3)) { tmps := #[x0, x1, .pointer (some ⟨b, 0, none⟩), .pointer (some ⟨c, 0, none⟩), x4, x5, x6, .int .i64 m, .int .i64 i, x9, x10, x11, x12, x13, x14, x15, x16, x17, x18, x19, x20, x21, x22, x23, x24, x25, x26, x27, x28, x29, x30, x31, x32, x33, x34], defers := [] } W := by
  refine wp_region_held_drew (S := S2 K b c a0 a1 a2 a3 b0 b1 b2 b3) (by kernel_rfl) (hS.keep (Below.refl _ W).drew) (fun h => ?_)
  rw [radd_size hcode, radd_false]
  exact radd_all K _ b c a0 a1 a2 a3 b0 b1 b2 b3 i x y m hx hy hx0 hx1 hy0 hy1 hm0 hm1 x0 x1 x4 x5 x6 x9 x10 x11 x12 x13 x14 x15 x16 x17 x18 x19 x20 x21 x22 x23 x24 x25 x26 x27 x28 x29 x30 x31 x32 x33 x34 ops hcode h

set_option maxRecDepth 100000 in
set_option maxHeartbeats 8000000 in
theorem rsub_all (K : World → Prop) (W : World) (b c : Nat) (a0 a1 a2 a3 b0 b1 b2 b3 i x y m : Int) (hx : Hid (∀ w : World, Calls Tryd.prog 29 #[wd a0 a1 a2 a3, .int .i64 i] w fun e w' => e = .returned (.int .i64 x) ∧ Below w.heap.size w w')) (hy : Hid (∀ w : World, Calls Tryd.prog 29 #[wd b0 b1 b2 b3, .int .i64 i] w fun e w' => e = .returned (.int .i64 y) ∧ Below w.heap.size w w')) (hx0 : 0 ≤ x) (hx1 : x < 256) (hy0 : 0 ≤ y) (hy1 : y < 256) (hm0 : 0 ≤ m) (hm1 : m < 2) (x0 x1 x4 x5 x6 x9 x10 x11 x12 x13 x14 x15 x16 x17 x18 x19 x20 x21 x22 x23 x24 x25 x26 x27 x28 x29 x30 x31 x32 x33 x34 x35 : Value) (ops : Array Oper) (hcode : Tryd.f13.body.bind (regAt 6) = some (.region 6 ops true)) (hS : S2 K b c a0 a1 a2 a3 b0 b1 b2 b3 W) :
    wpAnyH Tryd.prog .any ops (RF #[x0, x1, .pointer (some ⟨b, 0, none⟩), .pointer (some ⟨c, 0, none⟩), x4, x5, x6, .int .i64 m, .int .i64 i, .int .i64 (x - y - m), x10, x11, x12, x13, wd a0 a1 a2 a3, .int .i64 i, .int .i64 x, wd b0 b1 b2 b3, .int .i64 i, .int .i64 y, .int .i64 (x - y), .int .i64 m, .int .i64 (x - y - m), x23, x24, x25, x26, x27, x28, x29, x30, x31, x32, x33, x34, x35] (S2 K b c a0 a1 a2 a3 b0 b1 b2 b3)) (S2 K b c a0 a1 a2 a3 b0 b1 b2 b3) 10 #[false, false, false, false, false, false, false, false, false, false] { tmps := #[x0, x1, .pointer (some ⟨b, 0, none⟩), .pointer (some ⟨c, 0, none⟩), x4, x5, x6, .int .i64 m, .int .i64 i, x9, x10, x11, x12, x13, x14, x15, x16, x17, x18, x19, x20, x21, x22, x23, x24, x25, x26, x27, x28, x29, x30, x31, x32, x33, x34, x35], defers := [] } W := by
  simp only [Tryd.f13, Option.bind_some, regAt, Option.some_or, Option.none_or, if_true, if_false, Nat.reduceEqDiff, Option.some.injEq, Code.region.injEq, true_and, and_true] at hcode
  subst hcode
  refine wpAnyH_take (i := 0) (v := ?_) rfl (by kernel_rfl) (by kernel_rfl) (by kernel_rfl) (fun _ _ _ h => nomatch h.1) (Or.inl ⟨by rfl, ?_⟩) hS ?_
  rotate_left
  · intro w hSw
    obtain ⟨⟨p0, p1, p2, p3, lp⟩, ⟨q0, q1, q2, q3, lq⟩, _, _⟩ := hSw
    go_simp
    first | done | with_reducible rfl
  simp only [Act.put, List.getElem_toArray, List.getElem_cons_zero, List.setIfInBounds_toArray, List.set_cons_zero, List.set_cons_succ]
  refine wpAnyH_take (i := 1) (v := ?_) rfl (by kernel_rfl) (by kernel_rfl) (by kernel_rfl) (fun _ _ _ h => nomatch h.1) (Or.inl ⟨by rfl, ?_⟩) hS ?_
  rotate_left
  · intro w hSw
    obtain ⟨⟨p0, p1, p2, p3, lp⟩, ⟨q0, q1, q2, q3, lq⟩, _, _⟩ := hSw
    go_simp
    first | done | with_reducible rfl
  simp only [Act.put, List.getElem_toArray, List.getElem_cons_succ, List.getElem_cons_zero, List.setIfInBounds_toArray, List.set_cons_zero, List.set_cons_succ]
  refine wpAnyH_take (i := 3) (v := ?_) rfl (by kernel_rfl) (by kernel_rfl) (by kernel_rfl) (fun _ _ _ h => nomatch h.1) (Or.inl ⟨by rfl, ?_⟩) hS ?_
  rotate_left
  · intro w hSw
    obtain ⟨⟨p0, p1, p2, p3, lp⟩, ⟨q0, q1, q2, q3, lq⟩, _, _⟩ := hSw
    go_simp
    first | done | with_reducible rfl
  simp only [Act.put, List.getElem_toArray, List.getElem_cons_succ, List.getElem_cons_zero, List.setIfInBounds_toArray, List.set_cons_zero, List.set_cons_succ]
  refine wpAnyH_take (i := 4) (v := ?_) rfl (by kernel_rfl) (by kernel_rfl) (by kernel_rfl) (fun _ _ _ h => nomatch h.1) (Or.inl ⟨by rfl, ?_⟩) hS ?_
  rotate_left
  · intro w hSw
    obtain ⟨⟨p0, p1, p2, p3, lp⟩, ⟨q0, q1, q2, q3, lq⟩, _, _⟩ := hSw
    go_simp
    first | done | with_reducible rfl
  simp only [Act.put, List.getElem_toArray, List.getElem_cons_succ, List.getElem_cons_zero, List.setIfInBounds_toArray, List.set_cons_zero, List.set_cons_succ]
  refine wpAnyH_take (i := 7) (v := ?_) rfl (by kernel_rfl) (by kernel_rfl) (by kernel_rfl) (fun _ _ _ h => nomatch h.1) (Or.inl ⟨by rfl, ?_⟩) hS ?_
  rotate_left
  · intro w hSw
    obtain ⟨⟨p0, p1, p2, p3, lp⟩, ⟨q0, q1, q2, q3, lq⟩, _, _⟩ := hSw
    go_simp
    first | done | with_reducible rfl
  simp only [Act.put, List.getElem_toArray, List.getElem_cons_succ, List.getElem_cons_zero, List.setIfInBounds_toArray, List.set_cons_zero, List.set_cons_succ]
  refine wpAnyH_ready (rs := [2]) (by kernel_rfl) (by simp) ?_
  refine AllReadyH.cons rfl (fun K hK => ?_) AllReadyH.nil
  go_simp
  refine (hx.out _).mono ?_
  rintro e w1 ⟨rfl, hb⟩
  try go_wp2_with fail
  have hT := hS.keep hb
  refine hK.out _ _ hT (fun _ => ?_)
  clear hK K hS hb
  have hS := hT
  clear hT
  simp only [List.setIfInBounds_toArray, List.set_cons_zero, List.set_cons_succ]
  refine wpAnyH_ready (rs := [5]) (by kernel_rfl) (by simp) ?_
  refine AllReadyH.cons rfl (fun K hK => ?_) AllReadyH.nil
  go_simp
  refine (hy.out _).mono ?_
  rintro e w1 ⟨rfl, hb⟩
  try go_wp2_with fail
  have hT := hS.keep hb
  refine hK.out _ _ hT (fun _ => ?_)
  clear hK K hS hb
  have hS := hT
  clear hT
  simp only [List.setIfInBounds_toArray, List.set_cons_zero, List.set_cons_succ]
  refine wpAnyH_take (i := 6) (v := ?_) rfl (by kernel_rfl) (by kernel_rfl) (by kernel_rfl) (fun _ _ _ h => nomatch h.1) (Or.inl ⟨by rfl, ?_⟩) hS ?_
  rotate_left
  · intro w hSw
    obtain ⟨⟨p0, p1, p2, p3, lp⟩, ⟨q0, q1, q2, q3, lq⟩, _, _⟩ := hSw
    go_simp
    first | done | with_reducible rfl
  simp only [Act.put, List.getElem_toArray, List.getElem_cons_succ, List.getElem_cons_zero, List.setIfInBounds_toArray, List.set_cons_zero, List.set_cons_succ]
  refine wpAnyH_take (i := 8) (v := ?_) rfl (by kernel_rfl) (by kernel_rfl) (by kernel_rfl) (fun _ _ _ h => nomatch h.1) (Or.inl ⟨by rfl, ?_⟩) hS ?_
  rotate_left
  · intro w hSw
    obtain ⟨⟨p0, p1, p2, p3, lp⟩, ⟨q0, q1, q2, q3, lq⟩, _, _⟩ := hSw
    go_simp
    first | done | with_reducible rfl
  simp only [Act.put, List.getElem_toArray, List.getElem_cons_succ, List.getElem_cons_zero, List.setIfInBounds_toArray, List.set_cons_zero, List.set_cons_succ]
  refine wpAnyH_take (i := 9) (v := ?_) rfl (by kernel_rfl) (by kernel_rfl) (by kernel_rfl) (fun _ _ _ h => nomatch h.1) (Or.inl ⟨by rfl, ?_⟩) hS ?_
  rotate_left
  · intro w hSw
    obtain ⟨⟨p0, p1, p2, p3, lp⟩, ⟨q0, q1, q2, q3, lq⟩, _, _⟩ := hSw
    go_simp
    first | done | with_reducible rfl
  simp only [Act.put, List.getElem_toArray, List.getElem_cons_succ, List.getElem_cons_zero, List.setIfInBounds_toArray, List.set_cons_zero, List.set_cons_succ]
  refine wpAnyH_done (by kernel_rfl) ?_ _
  have e1 : IntKind.i64.wrap (x - y) = (x - y) := by rw [IntKind.wrap_i64]; omega
  have e2 : IntKind.i64.wrap (x - y - m) = (x - y - m) := by rw [IntKind.wrap_i64]; omega
  rw [e1, e2]
  exact ⟨rfl, rfl, hS⟩

theorem rsub_false : Array.replicate 10 false = #[false, false, false, false, false, false, false, false, false, false] := by kernel_rfl
theorem rsub_size {ops : Array Oper} (hcode : Tryd.f13.body.bind (regAt 6) = some (.region 6 ops true)) : ops.size = 10 := by
  have h : (Tryd.f13.body.bind (regAt 6)).map (fun c => match c with | .region _ o _ => o.size | _ => 0) = some 10 := by kernel_rfl
  rw [hcode] at h
  exact Option.some.inj h
theorem rsub_wp (K : World → Prop) (W : World) (b c : Nat) (a0 a1 a2 a3 b0 b1 b2 b3 i x y m : Int) (hx : Hid (∀ w : World, Calls Tryd.prog 29 #[wd a0 a1 a2 a3, .int .i64 i] w fun e w' => e = .returned (.int .i64 x) ∧ Below w.heap.size w w')) (hy : Hid (∀ w : World, Calls Tryd.prog 29 #[wd b0 b1 b2 b3, .int .i64 i] w fun e w' => e = .returned (.int .i64 y) ∧ Below w.heap.size w w')) (hx0 : 0 ≤ x) (hx1 : x < 256) (hy0 : 0 ≤ y) (hy1 : y < 256) (hm0 : 0 ≤ m) (hm1 : m < 2) (x0 x1 x4 x5 x6 x9 x10 x11 x12 x13 x14 x15 x16 x17 x18 x19 x20 x21 x22 x23 x24 x25 x26 x27 x28 x29 x30 x31 x32 x33 x34 x35 : Value) (ops : Array Oper) (hcode : Tryd.f13.body.bind (regAt 6) = some (.region 6 ops true)) (hS : S2 K b c a0 a1 a2 a3 b0 b1 b2 b3 W) :
    (Code.region 6 ops true).wp Tryd.prog (RF #[x0, x1, .pointer (some ⟨b, 0, none⟩), .pointer (some ⟨c, 0, none⟩), x4, x5, x6, .int .i64 m, .int .i64 i, .int .i64 (x - y - m), x10, x11, x12, x13, wd a0 a1 a2 a3, .int .i64 i, .int .i64 x, wd b0 b1 b2 b3, .int .i64 i, .int .i64 y, .int .i64 (x - y), .int .i64 m, .int .i64 (x - y - m), x23, x24, x25, x26, x27, x28, x29, x30, x31, x32, x33, x34, x35] (S2 K b c a0 a1 a2 a3 b0 b1 b2 b3)) { tmps := #[x0, x1, .pointer (some ⟨b, 0, none⟩), .pointer (some ⟨c, 0, none⟩), x4, x5, x6, .int .i64 m, .int .i64 i, x9, x10, x11, x12, x13, x14, x15, x16, x17, x18, x19, x20, x21, x22, x23, x24, x25, x26, x27, x28, x29, x30, x31, x32, x33, x34, x35], defers := [] } W := by
  refine wp_region_held_drew (S := S2 K b c a0 a1 a2 a3 b0 b1 b2 b3) (by kernel_rfl) (hS.keep (Below.refl _ W).drew) (fun h => ?_)
  rw [rsub_size hcode, rsub_false]
  exact rsub_all K _ b c a0 a1 a2 a3 b0 b1 b2 b3 i x y m hx hy hx0 hx1 hy0 hy1 hm0 hm1 x0 x1 x4 x5 x6 x9 x10 x11 x12 x13 x14 x15 x16 x17 x18 x19 x20 x21 x22 x23 x24 x25 x26 x27 x28 x29 x30 x31 x32 x33 x34 x35 ops hcode h

set_option maxRecDepth 100000 in
set_option maxHeartbeats 8000000 in
theorem rlessa_all (K : World → Prop) (W : World) (b c : Nat) (a0 a1 a2 a3 b0 b1 b2 b3 i x y : Int) (hx : Hid (∀ w : World, Calls Tryd.prog 29 #[wd a0 a1 a2 a3, .int .i64 i] w fun e w' => e = .returned (.int .i64 x) ∧ Below w.heap.size w w')) (hy : Hid (∀ w : World, Calls Tryd.prog 29 #[wd b0 b1 b2 b3, .int .i64 i] w fun e w' => e = .returned (.int .i64 y) ∧ Below w.heap.size w w')) (x0 x1 x4 x6 x7 x8 x9 x10 x11 x12 x13 x14 x15 x16 x17 x18 x19 x20 x21 x22 x23 : Value) (ops : Array Oper) (hcode : Tryd.f14.body.bind (regAt 4) = some (.region 4 ops true)) (hS : S2 K b c a0 a1 a2 a3 b0 b1 b2 b3 W) :
    wpAnyH Tryd.prog .any ops (RF #[x0, x1, .pointer (some ⟨b, 0, none⟩), .pointer (some ⟨c, 0, none⟩), x4, .int .i64 i, x6, x7, x8, x9, wd a0 a1 a2 a3, .int .i64 i, .int .i64 x, wd b0 b1 b2 b3, .int .i64 i, .int .i64 y, .bool (x != y), x17, x18, x19, x20, x21, x22, x23] (S2 K b c a0 a1 a2 a3 b0 b1 b2 b3)) (S2 K b c a0 a1 a2 a3 b0 b1 b2 b3) 7 #[false, false, false, false, false, false, false] { tmps := #[x0, x1, .pointer (some ⟨b, 0, none⟩), .pointer (some ⟨c, 0, none⟩), x4, .int .i64 i, x6, x7, x8, x9, x10, x11, x12, x13, x14, x15, x16, x17, x18, x19, x20, x21, x22, x23], defers := [] } W := by
  simp only [Tryd.f14, Option.bind_some, regAt, Option.some_or, Option.none_or, if_true, if_false, Nat.reduceEqDiff, Option.some.injEq, Code.region.injEq, true_and, and_true] at hcode
  subst hcode
  refine wpAnyH_take (i := 0) (v := ?_) rfl (by kernel_rfl) (by kernel_rfl) (by kernel_rfl) (fun _ _ _ h => nomatch h.1) (Or.inl ⟨by rfl, ?_⟩) hS ?_
  rotate_left
  · intro w hSw
    obtain ⟨⟨p0, p1, p2, p3, lp⟩, ⟨q0, q1, q2, q3, lq⟩, _, _⟩ := hSw
    go_simp
    first | done | with_reducible rfl
  simp only [Act.put, List.getElem_toArray, List.getElem_cons_zero, List.setIfInBounds_toArray, List.set_cons_zero, List.set_cons_succ]
  refine wpAnyH_take (i := 1) (v := ?_) rfl (by kernel_rfl) (by kernel_rfl) (by kernel_rfl) (fun _ _ _ h => nomatch h.1) (Or.inl ⟨by rfl, ?_⟩) hS ?_
  rotate_left
  · intro w hSw
    obtain ⟨⟨p0, p1, p2, p3, lp⟩, ⟨q0, q1, q2, q3, lq⟩, _, _⟩ := hSw
    go_simp
    first | done | with_reducible rfl
  simp only [Act.put, List.getElem_toArray, List.getElem_cons_succ, List.getElem_cons_zero, List.setIfInBounds_toArray, List.set_cons_zero, List.set_cons_succ]
  refine wpAnyH_take (i := 3) (v := ?_) rfl (by kernel_rfl) (by kernel_rfl) (by kernel_rfl) (fun _ _ _ h => nomatch h.1) (Or.inl ⟨by rfl, ?_⟩) hS ?_
  rotate_left
  · intro w hSw
    obtain ⟨⟨p0, p1, p2, p3, lp⟩, ⟨q0, q1, q2, q3, lq⟩, _, _⟩ := hSw
    go_simp
    first | done | with_reducible rfl
  simp only [Act.put, List.getElem_toArray, List.getElem_cons_succ, List.getElem_cons_zero, List.setIfInBounds_toArray, List.set_cons_zero, List.set_cons_succ]
  refine wpAnyH_take (i := 4) (v := ?_) rfl (by kernel_rfl) (by kernel_rfl) (by kernel_rfl) (fun _ _ _ h => nomatch h.1) (Or.inl ⟨by rfl, ?_⟩) hS ?_
  rotate_left
  · intro w hSw
    obtain ⟨⟨p0, p1, p2, p3, lp⟩, ⟨q0, q1, q2, q3, lq⟩, _, _⟩ := hSw
    go_simp
    first | done | with_reducible rfl
  simp only [Act.put, List.getElem_toArray, List.getElem_cons_succ, List.getElem_cons_zero, List.setIfInBounds_toArray, List.set_cons_zero, List.set_cons_succ]
  refine wpAnyH_ready (rs := [2]) (by kernel_rfl) (by simp) ?_
  refine AllReadyH.cons rfl (fun K hK => ?_) AllReadyH.nil
  go_simp
  refine (hx.out _).mono ?_
  rintro e w1 ⟨rfl, hb⟩
  try go_wp2_with fail
  have hT := hS.keep hb
  refine hK.out _ _ hT (fun _ => ?_)
  clear hK K hS hb
  have hS := hT
  clear hT
  simp only [List.setIfInBounds_toArray, List.set_cons_zero, List.set_cons_succ]
  refine wpAnyH_ready (rs := [5]) (by kernel_rfl) (by simp) ?_
  refine AllReadyH.cons rfl (fun K hK => ?_) AllReadyH.nil
  go_simp
  refine (hy.out _).mono ?_
  rintro e w1 ⟨rfl, hb⟩
  try go_wp2_with fail
  have hT := hS.keep hb
  refine hK.out _ _ hT (fun _ => ?_)
  clear hK K hS hb
  have hS := hT
  clear hT
  simp only [List.setIfInBounds_toArray, List.set_cons_zero, List.set_cons_succ]
  refine wpAnyH_take (i := 6) (v := ?_) rfl (by kernel_rfl) (by kernel_rfl) (by kernel_rfl) (fun _ _ _ h => nomatch h.1) (Or.inl ⟨by rfl, ?_⟩) hS ?_
  rotate_left
  · intro w hSw
    obtain ⟨⟨p0, p1, p2, p3, lp⟩, ⟨q0, q1, q2, q3, lq⟩, _, _⟩ := hSw
    go_simp
    first | done | with_reducible rfl
  simp only [Act.put, List.getElem_toArray, List.getElem_cons_succ, List.getElem_cons_zero, List.setIfInBounds_toArray, List.set_cons_zero, List.set_cons_succ]
  refine wpAnyH_done (by kernel_rfl) ?_ _
  exact ⟨rfl, rfl, hS⟩

theorem rlessa_false : Array.replicate 7 false = #[false, false, false, false, false, false, false] := by kernel_rfl
theorem rlessa_size {ops : Array Oper} (hcode : Tryd.f14.body.bind (regAt 4) = some (.region 4 ops true)) : ops.size = 7 := by
  have h : (Tryd.f14.body.bind (regAt 4)).map (fun c => match c with | .region _ o _ => o.size | _ => 0) = some 7 := by kernel_rfl
  rw [hcode] at h
  exact Option.some.inj h
theorem rlessa_wp (K : World → Prop) (W : World) (b c : Nat) (a0 a1 a2 a3 b0 b1 b2 b3 i x y : Int) (hx : Hid (∀ w : World, Calls Tryd.prog 29 #[wd a0 a1 a2 a3, .int .i64 i] w fun e w' => e = .returned (.int .i64 x) ∧ Below w.heap.size w w')) (hy : Hid (∀ w : World, Calls Tryd.prog 29 #[wd b0 b1 b2 b3, .int .i64 i] w fun e w' => e = .returned (.int .i64 y) ∧ Below w.heap.size w w')) (x0 x1 x4 x6 x7 x8 x9 x10 x11 x12 x13 x14 x15 x16 x17 x18 x19 x20 x21 x22 x23 : Value) (ops : Array Oper) (hcode : Tryd.f14.body.bind (regAt 4) = some (.region 4 ops true)) (hS : S2 K b c a0 a1 a2 a3 b0 b1 b2 b3 W) :
    (Code.region 4 ops true).wp Tryd.prog (RF #[x0, x1, .pointer (some ⟨b, 0, none⟩), .pointer (some ⟨c, 0, none⟩), x4, .int .i64 i, x6, x7, x8, x9, wd a0 a1 a2 a3, .int .i64 i, .int .i64 x, wd b0 b1 b2 b3, .int .i64 i, .int .i64 y, .bool (x != y), x17, x18, x19, x20, x21, x22, x23] (S2 K b c a0 a1 a2 a3 b0 b1 b2 b3)) { tmps := #[x0, x1, .pointer (some ⟨b, 0, none⟩), .pointer (some ⟨c, 0, none⟩), x4, .int .i64 i, x6, x7, x8, x9, x10, x11, x12, x13, x14, x15, x16, x17, x18, x19, x20, x21, x22, x23], defers := [] } W := by
  refine wp_region_held_drew (S := S2 K b c a0 a1 a2 a3 b0 b1 b2 b3) (by kernel_rfl) (hS.keep (Below.refl _ W).drew) (fun h => ?_)
  rw [rlessa_size hcode, rlessa_false]
  exact rlessa_all K _ b c a0 a1 a2 a3 b0 b1 b2 b3 i x y hx hy x0 x1 x4 x6 x7 x8 x9 x10 x11 x12 x13 x14 x15 x16 x17 x18 x19 x20 x21 x22 x23 ops hcode h

set_option maxRecDepth 100000 in
set_option maxHeartbeats 8000000 in
theorem rlessb_all (K : World → Prop) (W : World) (b c : Nat) (a0 a1 a2 a3 b0 b1 b2 b3 i x y : Int) (hx : Hid (∀ w : World, Calls Tryd.prog 29 #[wd a0 a1 a2 a3, .int .i64 i] w fun e w' => e = .returned (.int .i64 x) ∧ Below w.heap.size w w')) (hy : Hid (∀ w : World, Calls Tryd.prog 29 #[wd b0 b1 b2 b3, .int .i64 i] w fun e w' => e = .returned (.int .i64 y) ∧ Below w.heap.size w w')) (x0 x1 x4 x6 x7 x8 x9 x10 x11 x12 x13 x14 x15 x16 x17 x18 x19 x20 x21 x22 x23 : Value) (ops : Array Oper) (hcode : Tryd.f14.body.bind (regAt 5) = some (.region 5 ops true)) (hS : S2 K b c a0 a1 a2 a3 b0 b1 b2 b3 W) :
    wpAnyH Tryd.prog .any ops (RF #[x0, x1, .pointer (some ⟨b, 0, none⟩), .pointer (some ⟨c, 0, none⟩), .bool (decide (x < y)), .int .i64 i, x6, x7, x8, x9, x10, x11, x12, x13, x14, x15, x16, wd a0 a1 a2 a3, .int .i64 i, .int .i64 x, wd b0 b1 b2 b3, .int .i64 i, .int .i64 y, .bool (decide (x < y))] (S2 K b c a0 a1 a2 a3 b0 b1 b2 b3)) (S2 K b c a0 a1 a2 a3 b0 b1 b2 b3) 8 #[false, false, false, false, false, false, false, false] { tmps := #[x0, x1, .pointer (some ⟨b, 0, none⟩), .pointer (some ⟨c, 0, none⟩), x4, .int .i64 i, x6, x7, x8, x9, x10, x11, x12, x13, x14, x15, x16, x17, x18, x19, x20, x21, x22, x23], defers := [] } W := by
  simp only [Tryd.f14, Option.bind_some, regAt, Option.some_or, Option.none_or, if_true, if_false, Nat.reduceEqDiff, Option.some.injEq, Code.region.injEq, true_and, and_true] at hcode
  subst hcode
  refine wpAnyH_take (i := 0) (v := ?_) rfl (by kernel_rfl) (by kernel_rfl) (by kernel_rfl) (fun _ _ _ h => nomatch h.1) (Or.inl ⟨by rfl, ?_⟩) hS ?_
  rotate_left
  · intro w hSw
    obtain ⟨⟨p0, p1, p2, p3, lp⟩, ⟨q0, q1, q2, q3, lq⟩, _, _⟩ := hSw
    go_simp
    first | done | with_reducible rfl
  simp only [Act.put, List.getElem_toArray, List.getElem_cons_zero, List.setIfInBounds_toArray, List.set_cons_zero, List.set_cons_succ]
  refine wpAnyH_take (i := 1) (v := ?_) rfl (by kernel_rfl) (by kernel_rfl) (by kernel_rfl) (fun _ _ _ h => nomatch h.1) (Or.inl ⟨by rfl, ?_⟩) hS ?_
  rotate_left
  · intro w hSw
    obtain ⟨⟨p0, p1, p2, p3, lp⟩, ⟨q0, q1, q2, q3, lq⟩, _, _⟩ := hSw
    go_simp
    first | done | with_reducible rfl
  simp only [Act.put, List.getElem_toArray, List.getElem_cons_succ, List.getElem_cons_zero, List.setIfInBounds_toArray, List.set_cons_zero, List.set_cons_succ]
  refine wpAnyH_take (i := 3) (v := ?_) rfl (by kernel_rfl) (by kernel_rfl) (by kernel_rfl) (fun _ _ _ h => nomatch h.1) (Or.inl ⟨by rfl, ?_⟩) hS ?_
  rotate_left
  · intro w hSw
    obtain ⟨⟨p0, p1, p2, p3, lp⟩, ⟨q0, q1, q2, q3, lq⟩, _, _⟩ := hSw
    go_simp
    first | done | with_reducible rfl
  simp only [Act.put, List.getElem_toArray, List.getElem_cons_succ, List.getElem_cons_zero, List.setIfInBounds_toArray, List.set_cons_zero, List.set_cons_succ]
  refine wpAnyH_take (i := 4) (v := ?_) rfl (by kernel_rfl) (by kernel_rfl) (by kernel_rfl) (fun _ _ _ h => nomatch h.1) (Or.inl ⟨by rfl, ?_⟩) hS ?_
  rotate_left
  · intro w hSw
    obtain ⟨⟨p0, p1, p2, p3, lp⟩, ⟨q0, q1, q2, q3, lq⟩, _, _⟩ := hSw
    go_simp
    first | done | with_reducible rfl
  simp only [Act.put, List.getElem_toArray, List.getElem_cons_succ, List.getElem_cons_zero, List.setIfInBounds_toArray, List.set_cons_zero, List.set_cons_succ]
  refine wpAnyH_ready (rs := [2]) (by kernel_rfl) (by simp) ?_
  refine AllReadyH.cons rfl (fun K hK => ?_) AllReadyH.nil
  go_simp
  refine (hx.out _).mono ?_
  rintro e w1 ⟨rfl, hb⟩
  try go_wp2_with fail
  have hT := hS.keep hb
  refine hK.out _ _ hT (fun _ => ?_)
  clear hK K hS hb
  have hS := hT
  clear hT
  simp only [List.setIfInBounds_toArray, List.set_cons_zero, List.set_cons_succ]
  refine wpAnyH_ready (rs := [5]) (by kernel_rfl) (by simp) ?_
  refine AllReadyH.cons rfl (fun K hK => ?_) AllReadyH.nil
  go_simp
  refine (hy.out _).mono ?_
  rintro e w1 ⟨rfl, hb⟩
  try go_wp2_with fail
  have hT := hS.keep hb
  refine hK.out _ _ hT (fun _ => ?_)
  clear hK K hS hb
  have hS := hT
  clear hT
  simp only [List.setIfInBounds_toArray, List.set_cons_zero, List.set_cons_succ]
  refine wpAnyH_take (i := 6) (v := ?_) rfl (by kernel_rfl) (by kernel_rfl) (by kernel_rfl) (fun _ _ _ h => nomatch h.1) (Or.inl ⟨by rfl, ?_⟩) hS ?_
  rotate_left
  · intro w hSw
    obtain ⟨⟨p0, p1, p2, p3, lp⟩, ⟨q0, q1, q2, q3, lq⟩, _, _⟩ := hSw
    go_simp
    first | done | with_reducible rfl
  simp only [Act.put, List.getElem_toArray, List.getElem_cons_succ, List.getElem_cons_zero, List.setIfInBounds_toArray, List.set_cons_zero, List.set_cons_succ]
  refine wpAnyH_take (i := 7) (v := ?_) rfl (by kernel_rfl) (by kernel_rfl) (by kernel_rfl) (fun _ _ _ h => nomatch h.1) (Or.inl ⟨by rfl, ?_⟩) hS ?_
  rotate_left
  · intro w hSw
    obtain ⟨⟨p0, p1, p2, p3, lp⟩, ⟨q0, q1, q2, q3, lq⟩, _, _⟩ := hSw
    go_simp
    first | done | with_reducible rfl
  simp only [Act.put, List.getElem_toArray, List.getElem_cons_succ, List.getElem_cons_zero, List.setIfInBounds_toArray, List.set_cons_zero, List.set_cons_succ]
  refine wpAnyH_done (by kernel_rfl) ?_ _
  exact ⟨rfl, rfl, hS⟩

theorem rlessb_false : Array.replicate 8 false = #[false, false, false, false, false, false, false, false] := by kernel_rfl
theorem rlessb_size {ops : Array Oper} (hcode : Tryd.f14.body.bind (regAt 5) = some (.region 5 ops true)) : ops.size = 8 := by
  have h : (Tryd.f14.body.bind (regAt 5)).map (fun c => match c with | .region _ o _ => o.size | _ => 0) = some 8 := by kernel_rfl
  rw [hcode] at h
  exact Option.some.inj h
theorem rlessb_wp (K : World → Prop) (W : World) (b c : Nat) (a0 a1 a2 a3 b0 b1 b2 b3 i x y : Int) (hx : Hid (∀ w : World, Calls Tryd.prog 29 #[wd a0 a1 a2 a3, .int .i64 i] w fun e w' => e = .returned (.int .i64 x) ∧ Below w.heap.size w w')) (hy : Hid (∀ w : World, Calls Tryd.prog 29 #[wd b0 b1 b2 b3, .int .i64 i] w fun e w' => e = .returned (.int .i64 y) ∧ Below w.heap.size w w')) (x0 x1 x4 x6 x7 x8 x9 x10 x11 x12 x13 x14 x15 x16 x17 x18 x19 x20 x21 x22 x23 : Value) (ops : Array Oper) (hcode : Tryd.f14.body.bind (regAt 5) = some (.region 5 ops true)) (hS : S2 K b c a0 a1 a2 a3 b0 b1 b2 b3 W) :
    (Code.region 5 ops true).wp Tryd.prog (RF #[x0, x1, .pointer (some ⟨b, 0, none⟩), .pointer (some ⟨c, 0, none⟩), .bool (decide (x < y)), .int .i64 i, x6, x7, x8, x9, x10, x11, x12, x13, x14, x15, x16, wd a0 a1 a2 a3, .int .i64 i, .int .i64 x, wd b0 b1 b2 b3, .int .i64 i, .int .i64 y, .bool (decide (x < y))] (S2 K b c a0 a1 a2 a3 b0 b1 b2 b3)) { tmps := #[x0, x1, .pointer (some ⟨b, 0, none⟩), .pointer (some ⟨c, 0, none⟩), x4, .int .i64 i, x6, x7, x8, x9, x10, x11, x12, x13, x14, x15, x16, x17, x18, x19, x20, x21, x22, x23], defers := [] } W := by
  refine wp_region_held_drew (S := S2 K b c a0 a1 a2 a3 b0 b1 b2 b3) (by kernel_rfl) (hS.keep (Below.refl _ W).drew) (fun h => ?_)
  rw [rlessb_size hcode, rlessb_false]
  exact rlessb_all K _ b c a0 a1 a2 a3 b0 b1 b2 b3 i x y hx hy x0 x1 x4 x6 x7 x8 x9 x10 x11 x12 x13 x14 x15 x16 x17 x18 x19 x20 x21 x22 x23 ops hcode h
end Go.Proofs.YtcnngpmganhjoaaDoor
