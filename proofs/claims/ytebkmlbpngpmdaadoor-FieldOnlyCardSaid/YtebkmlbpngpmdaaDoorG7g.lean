/- FieldOnly's last test where it is no list of texts, its operations in whatever order Go leaves open. -/
import Derived.Test.YtebkmlbpngpmdaaDoorG6g
namespace Go.Proofs.YtebkmlbpngpmdaaDoor
open Go Go.RowKit

/-- What the calls of this region do, in every world that has grown out of W0. -/
structure KP (W0 : World) (l : Bool) (d : List UInt8) (xs : List M.It) (a : Option Addr) (cap e6 : Nat) (t : List UInt8) : Prop where
  k1 : ∀ W, Below W0.heap.size W0 W → Calls Tryd.prog 12 #[.string ⟨t.toArray⟩] W fun e w' => e = .returned (iv false t (.slice none 0 0)) ∧ Below W0.heap.size W0 w'
  s1 : e6 = 0 → ∀ W, Below W0.heap.size W0 W → Calls Tryd.prog 28 #[iv false t (.slice none 0 0), iv l d (.slice a xs.length cap)] W fun e w' => e = .returned (.bool true) ∧ Below W0.heap.size W0 w'

set_option maxRecDepth 100000 in
set_option maxHeartbeats 8000000 in
theorem fq0 (W0 : World) (l : Bool) (d : List UInt8) (xs : List M.It) (a a10 : Option Addr) (cap c10 e3 e5 e6 h : Nat) (t : List UInt8) (ls : List (List UInt8)) (Q : Act → Prop) (hh : h < W0.heap.size) (c0 : W0.cell? ⟨h, 0, none⟩ = some (.bool l)) (c1 : W0.cell? ⟨h, 1, none⟩ = some (.string ⟨d.toArray⟩)) (c2 : W0.cell? ⟨h, 2, none⟩ = some (.slice a xs.length cap)) (hK : KP W0 l d xs a cap e6 t) (h5 : (((e5 : Nat) : Int) != 0) = true) (heq : ((((e3 : Nat) : Int) == 0) == !l) = true) (x0 x2 x4 x5 x6 x7 x8 x9 x11 x12 x17 x18 x19 x20 x21 x22 x23 x24 x25 x26 x27 x28 x29 x30 x31 x32 x33 x34 x35 x36 x37 x38 x39 x40 x41 x42 x43 x44 x45 x46 x47 x48 x49 x50 x51 x52 x53 x54 x55 x56 x57 x58 x59 x60 x61 x62 x63 x64 x65 x66 x67 x68 x69 x70 x71 x72 x73 x74 x75 x76 x77 x78 x79 x80 x81 x82 x83 x84 x85 x86 x87 x88 x89 x90 x91 x92 x93 x94 x95 x96 x97 x98 x99 x100 x101 x102 x103 x104 x105 x106 x107 x108 x109 x110 x111 x112 x113 x114 x115 x116 x117 x118 x119 x120 x121 x122 x123 x124 x125 x126 x127 x128 x129 x130 : Value) (ops : Array Oper) (hcode : Tryd.f5.body.bind (regAt 15) = some (.region 15 ops true)) (hQ : ∀ y102 y103 y104 y105 y106 y107 y108 y109 y110 y111 y112 y113 y114 y115 y116 y117 y118 y119 y120 y121 y122 y123 y124 y125 y126 y127 y128 y129 y130 : Value, Q { tmps := #[x0, .pointer (some ⟨h, 0, none⟩), .bool true, .bool true, x4, x5, x6, x7, x8, x9, .int .i64 e3, x11, x12, .slice a10 ls.length c10, .int .i64 e5, .string ⟨t.toArray⟩, .int .i64 e6, x17, x18, x19, x20, x21, x22, x23, x24, x25, x26, x27, x28, x29, x30, x31, x32, x33, x34, x35, x36, x37, x38, x39, x40, x41, x42, x43, x44, x45, x46, x47, x48, x49, x50, x51, x52, x53, x54, x55, x56, x57, x58, x59, x60, x61, x62, x63, x64, x65, x66, x67, x68, x69, x70, x71, x72, x73, x74, x75, x76, x77, x78, x79, x80, x81, x82, x83, x84, x85, x86, x87, x88, x89, x90, x91, x92, x93, x94, x95, x96, x97, x98, x99, x100, x101, y102, y103, y104, y105, y106, y107, y108, y109, y110, y111, y112, y113, y114, y115, y116, y117, y118, y119, y120, y121, y122, y123, y124, y125, y126, y127, y128, y129, y130], defers := [] }) :
    wpQuiet Tryd.prog ops (fun W => Below W0.heap.size W0 W) Q (ops.toList.drop 0) { tmps := #[x0, .pointer (some ⟨h, 0, none⟩), x2, .bool true, x4, x5, x6, x7, x8, x9, .int .i64 e3, x11, x12, .slice a10 ls.length c10, .int .i64 e5, .string ⟨t.toArray⟩, .int .i64 e6, x17, x18, x19, x20, x21, x22, x23, x24, x25, x26, x27, x28, x29, x30, x31, x32, x33, x34, x35, x36, x37, x38, x39, x40, x41, x42, x43, x44, x45, x46, x47, x48, x49, x50, x51, x52, x53, x54, x55, x56, x57, x58, x59, x60, x61, x62, x63, x64, x65, x66, x67, x68, x69, x70, x71, x72, x73, x74, x75, x76, x77, x78, x79, x80, x81, x82, x83, x84, x85, x86, x87, x88, x89, x90, x91, x92, x93, x94, x95, x96, x97, x98, x99, x100, x101, x102, x103, x104, x105, x106, x107, x108, x109, x110, x111, x112, x113, x114, x115, x116, x117, x118, x119, x120, x121, x122, x123, x124, x125, x126, x127, x128, x129, x130], defers := [] } := by
  simp only [Tryd.f5, Option.bind_some, regAt, Option.some_or, Option.none_or, if_true, if_false, Nat.reduceEqDiff, Option.some.injEq, Code.region.injEq, true_and, and_true] at hcode
  subst hcode
  simp only [List.drop_zero]
  refine quiet_val (.bool true) (by rfl) (fun W hC => by go_simp) ?_
  simp only [Act.put, List.setIfInBounds_toArray, List.set_cons_zero, List.set_cons_succ]
  refine quiet_val (.bool true) (by rfl) (fun W hC => by go_simp) ?_
  simp only [Act.put, List.setIfInBounds_toArray, List.set_cons_zero, List.set_cons_succ]
  refine quiet_val (.int .i64 e5) (by rfl) (fun W hC => by go_simp) ?_
  simp only [Act.put, List.setIfInBounds_toArray, List.set_cons_zero, List.set_cons_succ]
  refine quiet_val (.bool true) (by rfl) (fun W hC => by go_simp) ?_
  simp only [Act.put, List.setIfInBounds_toArray, List.set_cons_zero, List.set_cons_succ]
  refine quiet_val (.bool true) (by rfl) (fun W hC => by go_simp) ?_
  simp only [Act.put, List.setIfInBounds_toArray, List.set_cons_zero, List.set_cons_succ]
  refine quiet_skip (by rfl) ?_
  simp only [Act.put, List.setIfInBounds_toArray, List.set_cons_zero, List.set_cons_succ]
  refine quiet_skip (by rfl) ?_
  simp only [Act.put, List.setIfInBounds_toArray, List.set_cons_zero, List.set_cons_succ]
  refine quiet_skip (by rfl) ?_
  simp only [Act.put, List.setIfInBounds_toArray, List.set_cons_zero, List.set_cons_succ]
  refine quiet_skip (by rfl) ?_
  simp only [Act.put, List.setIfInBounds_toArray, List.set_cons_zero, List.set_cons_succ]
  refine quiet_val (.bool true) (by rfl) (fun W hC => by go_simp) ?_
  simp only [Act.put, List.setIfInBounds_toArray, List.set_cons_zero, List.set_cons_succ]
  refine quiet_val (.bool true) (by rfl) (fun W hC => by go_simp) ?_
  simp only [Act.put, List.setIfInBounds_toArray, List.set_cons_zero, List.set_cons_succ]
  refine quiet_val (.bool true) (by rfl) (fun W hC => by go_simp) ?_
  simp only [Act.put, List.setIfInBounds_toArray, List.set_cons_zero, List.set_cons_succ]
  refine quiet_val (.int .i64 e6) (by rfl) (fun W hC => by go_simp) ?_
  simp only [Act.put, List.setIfInBounds_toArray, List.set_cons_zero, List.set_cons_succ]
  by_cases he6 : e6 ≠ 0
  · have hx : (((e6 : Nat) : Int) != 0) = true := by simp [he6]
    refine quiet_val (.bool true) (by rfl) (fun W hC => by go_simp) ?_
    simp only [Act.put, List.setIfInBounds_toArray, List.set_cons_zero, List.set_cons_succ]
    refine quiet_val (.bool true) (by rfl) (fun W hC => by go_simp) ?_
    simp only [Act.put, List.setIfInBounds_toArray, List.set_cons_zero, List.set_cons_succ]
    refine quiet_skip (by rfl) ?_
    simp only [Act.put, List.setIfInBounds_toArray, List.set_cons_zero, List.set_cons_succ]
    refine quiet_skip (by rfl) ?_
    simp only [Act.put, List.setIfInBounds_toArray, List.set_cons_zero, List.set_cons_succ]
    refine quiet_skip (by rfl) ?_
    simp only [Act.put, List.setIfInBounds_toArray, List.set_cons_zero, List.set_cons_succ]
    refine quiet_skip (by rfl) ?_
    simp only [Act.put, List.setIfInBounds_toArray, List.set_cons_zero, List.set_cons_succ]
    refine quiet_val (.bool true) (by rfl) (fun W hC => by go_simp) ?_
    simp only [Act.put, List.setIfInBounds_toArray, List.set_cons_zero, List.set_cons_succ]
    refine quiet_val (.bool true) (by rfl) (fun W hC => by go_simp) ?_
    simp only [Act.put, List.setIfInBounds_toArray, List.set_cons_zero, List.set_cons_succ]
    refine quiet_val (.bool true) (by rfl) (fun W hC => by go_simp) ?_
    simp only [Act.put, List.setIfInBounds_toArray, List.set_cons_zero, List.set_cons_succ]
    refine quiet_val (.int .i64 e3) (by rfl) (fun W hC => by go_simp) ?_
    simp only [Act.put, List.setIfInBounds_toArray, List.set_cons_zero, List.set_cons_succ]
    refine quiet_val (.bool (((e3 : Nat) : Int) == 0)) (by rfl) (fun W hC => by go_simp) ?_
    simp only [Act.put, List.setIfInBounds_toArray, List.set_cons_zero, List.set_cons_succ]
    refine quiet_val (.pointer (some ⟨h, 0, none⟩)) (by rfl) (fun W hC => by go_simp) ?_
    simp only [Act.put, List.setIfInBounds_toArray, List.set_cons_zero, List.set_cons_succ]
    refine quiet_val (.bool l) (by rfl) (fun W hC => by have q0 := (hC.cell (p := ⟨h, 0, none⟩) hh).trans c0; have q1 := (hC.cell (p := ⟨h, 1, none⟩) hh).trans c1; have q2 := (hC.cell (p := ⟨h, 2, none⟩) hh).trans c2; go_simp) ?_
    simp only [Act.put, List.setIfInBounds_toArray, List.set_cons_zero, List.set_cons_succ]
    refine quiet_val (.bool (!l)) (by rfl) (fun W hC => by go_simp) ?_
    simp only [Act.put, List.setIfInBounds_toArray, List.set_cons_zero, List.set_cons_succ]
    refine quiet_val (.bool true) (by rfl) (fun W hC => by go_simp) ?_
    simp only [Act.put, List.setIfInBounds_toArray, List.set_cons_zero, List.set_cons_succ]
    refine quiet_val (.bool true) (by rfl) (fun W hC => by go_simp) ?_
    simp only [Act.put, List.setIfInBounds_toArray, List.set_cons_zero, List.set_cons_succ]
    refine quiet_val (.bool true) (by rfl) (fun W hC => by go_simp) ?_
    simp only [Act.put, List.setIfInBounds_toArray, List.set_cons_zero, List.set_cons_succ]
    refine wpQuiet_nil ?_
    exact hQ _ _ _ _ _ _ _ _ _ _ _ _ _ _ _ _ _ _ _ _ _ _ _ _ _ _ _ _ _
  · replace he6 : e6 = 0 := Decidable.not_not.1 he6; have hx : (((e6 : Nat) : Int) != 0) = false := by simp [he6]
    refine quiet_val (.bool false) (by rfl) (fun W hC => by go_simp) ?_
    simp only [Act.put, List.setIfInBounds_toArray, List.set_cons_zero, List.set_cons_succ]
    refine quiet_val (.bool false) (by rfl) (fun W hC => by go_simp) ?_
    simp only [Act.put, List.setIfInBounds_toArray, List.set_cons_zero, List.set_cons_succ]
    refine quiet_val (.string ⟨t.toArray⟩) (by rfl) (fun W hC => by go_simp) ?_
    simp only [Act.put, List.setIfInBounds_toArray, List.set_cons_zero, List.set_cons_succ]
    refine quiet_call (iv false t (.slice none 0 0)) 12 #[.string ⟨t.toArray⟩] (by rfl) (fun W hC => by go_simp) (fun W hC => hK.k1 W hC) ?_
    simp only [Act.put, List.setIfInBounds_toArray, List.set_cons_zero, List.set_cons_succ]
    refine quiet_val (.agg #[.bool l, .string ⟨d.toArray⟩, .slice a xs.length cap]) (by rfl) (fun W hC => by have q0 := (hC.cell (p := ⟨h, 0, none⟩) hh).trans c0; have q1 := (hC.cell (p := ⟨h, 1, none⟩) hh).trans c1; have q2 := (hC.cell (p := ⟨h, 2, none⟩) hh).trans c2; go_simp) ?_
    simp only [Act.put, List.setIfInBounds_toArray, List.set_cons_zero, List.set_cons_succ]
    refine quiet_call (.bool true) 28 #[iv false t (.slice none 0 0), .agg #[.bool l, .string ⟨d.toArray⟩, .slice a xs.length cap]] (by rfl) (fun W hC => by go_simp) (fun W hC => hK.s1 he6 W hC) ?_
    simp only [Act.put, List.setIfInBounds_toArray, List.set_cons_zero, List.set_cons_succ]
    refine quiet_val (.bool true) (by rfl) (fun W hC => by go_simp) ?_
    simp only [Act.put, List.setIfInBounds_toArray, List.set_cons_zero, List.set_cons_succ]
    refine quiet_val (.bool true) (by rfl) (fun W hC => by go_simp) ?_
    simp only [Act.put, List.setIfInBounds_toArray, List.set_cons_zero, List.set_cons_succ]
    refine quiet_val (.bool true) (by rfl) (fun W hC => by go_simp) ?_
    simp only [Act.put, List.setIfInBounds_toArray, List.set_cons_zero, List.set_cons_succ]
    refine quiet_val (.int .i64 e3) (by rfl) (fun W hC => by go_simp) ?_
    simp only [Act.put, List.setIfInBounds_toArray, List.set_cons_zero, List.set_cons_succ]
    refine quiet_val (.bool (((e3 : Nat) : Int) == 0)) (by rfl) (fun W hC => by go_simp) ?_
    simp only [Act.put, List.setIfInBounds_toArray, List.set_cons_zero, List.set_cons_succ]
    refine quiet_val (.pointer (some ⟨h, 0, none⟩)) (by rfl) (fun W hC => by go_simp) ?_
    simp only [Act.put, List.setIfInBounds_toArray, List.set_cons_zero, List.set_cons_succ]
    refine quiet_val (.bool l) (by rfl) (fun W hC => by have q0 := (hC.cell (p := ⟨h, 0, none⟩) hh).trans c0; have q1 := (hC.cell (p := ⟨h, 1, none⟩) hh).trans c1; have q2 := (hC.cell (p := ⟨h, 2, none⟩) hh).trans c2; go_simp) ?_
    simp only [Act.put, List.setIfInBounds_toArray, List.set_cons_zero, List.set_cons_succ]
    refine quiet_val (.bool (!l)) (by rfl) (fun W hC => by go_simp) ?_
    simp only [Act.put, List.setIfInBounds_toArray, List.set_cons_zero, List.set_cons_succ]
    refine quiet_val (.bool true) (by rfl) (fun W hC => by go_simp) ?_
    simp only [Act.put, List.setIfInBounds_toArray, List.set_cons_zero, List.set_cons_succ]
    refine quiet_val (.bool true) (by rfl) (fun W hC => by go_simp) ?_
    simp only [Act.put, List.setIfInBounds_toArray, List.set_cons_zero, List.set_cons_succ]
    refine quiet_val (.bool true) (by rfl) (fun W hC => by go_simp) ?_
    simp only [Act.put, List.setIfInBounds_toArray, List.set_cons_zero, List.set_cons_succ]
    refine wpQuiet_nil ?_
    exact hQ _ _ _ _ _ _ _ _ _ _ _ _ _ _ _ _ _ _ _ _ _ _ _ _ _ _ _ _ _
end Go.Proofs.YtebkmlbpngpmdaaDoor
