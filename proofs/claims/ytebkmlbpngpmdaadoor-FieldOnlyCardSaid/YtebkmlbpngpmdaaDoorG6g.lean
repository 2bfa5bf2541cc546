/- FieldOnly's first test, its operations in whatever order Go leaves open. -/
import Derived.Test.YtebkmlbpngpmdaaDoorG1g
import Derived.Test.YtebkmlbpngpmdaaDoorB3g
import Derived.Test.YtebkmlbpngpmdaaDoorF0g
namespace Go.Proofs.YtebkmlbpngpmdaaDoor
open Go Go.RowKit

section
variable {P : Program} {ops : Array Oper} {C : World → Prop} {Q : Act → Prop} {o : Oper} {rest : List Oper} {a : Act}
/-- An operation that is passed over. -/
theorem quiet_skip (hw : Region.wanted o (yielded ops a.tmps) = false) (h : wpQuiet P ops C Q rest (a.put o.dst undef)) : wpQuiet P ops C Q (o :: rest) a := by
  unfold wpQuiet
  rw [if_neg (by rw [hw]; decide)]
  exact h
end

/-- What the calls of this region do, in every world that has grown out of W0. -/
structure KO (W0 : World) (l : Bool) (d : List UInt8) (xs : List M.It) (a : Option Addr) (cap n e1 N e2 e3 e4 : Nat) (s : List UInt8) (bb : Bool) : Prop where
  k1 : ∀ W, Below W0.heap.size W0 W → Calls Tryd.prog 8 #[.int .u64 n] W fun e w' => e = .returned (iv false (M.ben n) (.slice none 0 0)) ∧ Below W0.heap.size W0 w'
  k2 : ∀ W, Below W0.heap.size W0 W → Calls Tryd.prog 10 #[wn N] W fun e w' => e = .returned (iv false (M.tr (M.f32 N)) (.slice none 0 0)) ∧ Below W0.heap.size W0 w'
  k3 : ∀ W, Below W0.heap.size W0 W → Calls Tryd.prog 12 #[.string ⟨s.toArray⟩] W fun e w' => e = .returned (iv false s (.slice none 0 0)) ∧ Below W0.heap.size W0 w'
  k4 : ∀ W, Below W0.heap.size W0 W → Calls Tryd.prog 14 #[.bool bb] W fun e w' => e = .returned (iv false (if bb then [1] else []) (.slice none 0 0)) ∧ Below W0.heap.size W0 w'
  s1 : e1 = 0 → ∀ W, Below W0.heap.size W0 W → Calls Tryd.prog 28 #[iv false (M.ben n) (.slice none 0 0), iv l d (.slice a xs.length cap)] W fun e w' => e = .returned (.bool true) ∧ Below W0.heap.size W0 w'
  s2 : e2 = 0 → ∀ W, Below W0.heap.size W0 W → Calls Tryd.prog 28 #[iv false (M.tr (M.f32 N)) (.slice none 0 0), iv l d (.slice a xs.length cap)] W fun e w' => e = .returned (.bool true) ∧ Below W0.heap.size W0 w'
  s3 : e3 = 0 → ∀ W, Below W0.heap.size W0 W → Calls Tryd.prog 28 #[iv false s (.slice none 0 0), iv l d (.slice a xs.length cap)] W fun e w' => e = .returned (.bool true) ∧ Below W0.heap.size W0 w'
  s4 : e4 = 0 → ∀ W, Below W0.heap.size W0 W → Calls Tryd.prog 28 #[iv false (if bb then [1] else []) (.slice none 0 0), iv l d (.slice a xs.length cap)] W fun e w' => e = .returned (.bool true) ∧ Below W0.heap.size W0 w'

set_option maxRecDepth 100000 in
set_option maxHeartbeats 8000000 in
theorem fo3 (W0 : World) (l : Bool) (d : List UInt8) (xs : List M.It) (a : Option Addr) (cap n e1 N e2 e3 e4 h g : Nat) (s : List UInt8) (bb : Bool) (Q : Act → Prop) (hh : h < W0.heap.size) (_hg : g < W0.heap.size) (c0 : W0.cell? ⟨h, 0, none⟩ = some (.bool l)) (c1 : W0.cell? ⟨h, 1, none⟩ = some (.string ⟨d.toArray⟩)) (c2 : W0.cell? ⟨h, 2, none⟩ = some (.slice a xs.length cap)) (_d0 : W0.cell? ⟨g, 0, none⟩ = some (.int .u64 (M.pt 0 N))) (_d1 : W0.cell? ⟨g, 1, none⟩ = some (.int .u64 (M.pt 1 N))) (_d2 : W0.cell? ⟨g, 2, none⟩ = some (.int .u64 (M.pt 2 N))) (_d3 : W0.cell? ⟨g, 3, none⟩ = some (.int .u64 (M.pt 3 N))) (hK : KO W0 l d xs a cap n e1 N e2 e3 e4 s bb) (x0 x2 x4 x13 x14 x15 x16 x17 x18 x19 x20 x21 x22 x23 x24 x25 x26 x27 x28 x29 x30 x31 x32 x33 x34 x35 x36 x37 x38 x39 x40 x41 x42 x43 x44 x45 x46 x47 x48 x49 x50 x51 x52 x53 x54 x55 x56 x57 x58 x59 x60 x61 x62 x63 x64 x65 x66 x67 x68 x69 x70 x71 x72 x73 x74 x75 x76 x77 x78 x79 x80 x82 x83 x84 x85 x86 x87 x88 x89 x90 x91 x92 x93 x94 x95 x96 x97 x98 x99 x100 x101 x102 x103 x104 x105 x106 x107 x108 x109 x110 x111 x112 x113 x114 x115 x116 x117 x118 x119 x120 x121 x122 x123 x124 x125 x126 x127 x128 x129 x130 : Value) (ops : Array Oper) (hcode : Tryd.f5.body.bind (regAt 11) = some (.region 11 ops true)) (hQ : ∀ y50 y51 y52 y53 y54 y55 y56 y57 y58 y59 y60 y61 y62 y63 y64 y65 y66 y67 y68 y69 y70 y71 y72 y73 y74 y75 y76 y77 y78 y79 y80 y81 y82 y83 y84 y85 y86 y87 y88 y89 y90 : Value, Q { tmps := #[x0, .pointer (some ⟨h, 0, none⟩), x2, .bool true, x4, .int .u64 n, .int .i64 e1, .pointer (some ⟨g, 0, none⟩), .int .i64 e2, .string ⟨s.toArray⟩, .int .i64 e3, .bool bb, .int .i64 e4, x13, x14, x15, x16, x17, x18, x19, x20, x21, x22, x23, x24, x25, x26, x27, x28, x29, x30, x31, x32, x33, x34, x35, x36, x37, x38, x39, x40, x41, x42, x43, x44, x45, x46, x47, x48, x49, y50, y51, y52, y53, y54, y55, y56, y57, y58, y59, y60, y61, y62, y63, y64, y65, y66, y67, y68, y69, y70, y71, y72, y73, y74, y75, y76, y77, y78, y79, y80, y81, y82, y83, y84, y85, y86, y87, y88, y89, y90, .bool false, x92, x93, x94, x95, x96, x97, x98, x99, x100, x101, x102, x103, x104, x105, x106, x107, x108, x109, x110, x111, x112, x113, x114, x115, x116, x117, x118, x119, x120, x121, x122, x123, x124, x125, x126, x127, x128, x129, x130], defers := [] }) :
    wpQuiet Tryd.prog ops (fun W => Below W0.heap.size W0 W) Q (ops.toList.drop 32) { tmps := #[x0, .pointer (some ⟨h, 0, none⟩), x2, .bool true, x4, .int .u64 n, .int .i64 e1, .pointer (some ⟨g, 0, none⟩), .int .i64 e2, .string ⟨s.toArray⟩, .int .i64 e3, .bool bb, .int .i64 e4, x13, x14, x15, x16, x17, x18, x19, x20, x21, x22, x23, x24, x25, x26, x27, x28, x29, x30, x31, x32, x33, x34, x35, x36, x37, x38, x39, x40, x41, x42, x43, x44, x45, x46, x47, x48, x49, x50, x51, x52, x53, x54, x55, x56, x57, x58, x59, x60, x61, x62, x63, x64, x65, x66, x67, x68, x69, x70, x71, x72, x73, x74, x75, x76, x77, x78, x79, x80, .bool false, x82, x83, x84, x85, x86, x87, x88, x89, x90, x91, x92, x93, x94, x95, x96, x97, x98, x99, x100, x101, x102, x103, x104, x105, x106, x107, x108, x109, x110, x111, x112, x113, x114, x115, x116, x117, x118, x119, x120, x121, x122, x123, x124, x125, x126, x127, x128, x129, x130], defers := [] } := by
  simp only [Tryd.f5, Option.bind_some, regAt, Option.some_or, Option.none_or, if_true, if_false, Nat.reduceEqDiff, Option.some.injEq, Code.region.injEq, true_and, and_true] at hcode
  subst hcode
  simp only [List.drop_succ_cons, List.drop_zero]
  refine quiet_val (.int .i64 e4) (by rfl) (fun W hC => by go_simp) ?_
  simp only [Act.put, List.setIfInBounds_toArray, List.set_cons_zero, List.set_cons_succ]
  by_cases he4 : e4 = 0
  · have hx : (((e4 : Nat) : Int) == 0) = true := by simp [he4]
    refine quiet_val (.bool true) (by rfl) (fun W hC => by go_simp) ?_
    simp only [Act.put, List.setIfInBounds_toArray, List.set_cons_zero, List.set_cons_succ]
    refine quiet_val (.bool true) (by rfl) (fun W hC => by go_simp) ?_
    simp only [Act.put, List.setIfInBounds_toArray, List.set_cons_zero, List.set_cons_succ]
    refine quiet_val (.bool bb) (by rfl) (fun W hC => by go_simp) ?_
    simp only [Act.put, List.setIfInBounds_toArray, List.set_cons_zero, List.set_cons_succ]
    refine quiet_call (iv false (if bb then [1] else []) (.slice none 0 0)) 14 #[.bool bb] (by rfl) (fun W hC => by go_simp) (fun W hC => hK.k4 W hC) ?_
    simp only [Act.put, List.setIfInBounds_toArray, List.set_cons_zero, List.set_cons_succ]
    refine quiet_val (.agg #[.bool l, .string ⟨d.toArray⟩, .slice a xs.length cap]) (by rfl) (fun W hC => by have q0 := (hC.cell (p := ⟨h, 0, none⟩) hh).trans c0; have q1 := (hC.cell (p := ⟨h, 1, none⟩) hh).trans c1; have q2 := (hC.cell (p := ⟨h, 2, none⟩) hh).trans c2; go_simp) ?_
    simp only [Act.put, List.setIfInBounds_toArray, List.set_cons_zero, List.set_cons_succ]
    refine quiet_call (.bool true) 28 #[iv false (if bb then [1] else []) (.slice none 0 0), .agg #[.bool l, .string ⟨d.toArray⟩, .slice a xs.length cap]] (by rfl) (fun W hC => by go_simp) (fun W hC => hK.s4 he4 W hC) ?_
    simp only [Act.put, List.setIfInBounds_toArray, List.set_cons_zero, List.set_cons_succ]
    refine quiet_val (.bool false) (by rfl) (fun W hC => by go_simp) ?_
    simp only [Act.put, List.setIfInBounds_toArray, List.set_cons_zero, List.set_cons_succ]
    refine quiet_val (.bool false) (by rfl) (fun W hC => by go_simp) ?_
    simp only [Act.put, List.setIfInBounds_toArray, List.set_cons_zero, List.set_cons_succ]
    refine quiet_val (.bool false) (by rfl) (fun W hC => by go_simp) ?_
    simp only [Act.put, List.setIfInBounds_toArray, List.set_cons_zero, List.set_cons_succ]
    refine wpQuiet_nil ?_
    exact hQ _ _ _ _ _ _ _ _ _ _ _ _ _ _ _ _ _ _ _ _ _ _ _ _ _ _ _ _ _ _ _ _ _ _ _ _ _ _ _ _ _
  · have hx : (((e4 : Nat) : Int) == 0) = false := by simp [he4]
    refine quiet_val (.bool false) (by rfl) (fun W hC => by go_simp) ?_
    simp only [Act.put, List.setIfInBounds_toArray, List.set_cons_zero, List.set_cons_succ]
    refine quiet_val (.bool false) (by rfl) (fun W hC => by go_simp) ?_
    simp only [Act.put, List.setIfInBounds_toArray, List.set_cons_zero, List.set_cons_succ]
    refine quiet_skip (by rfl) ?_
    simp only [Act.put, List.setIfInBounds_toArray, List.set_cons_zero, List.set_cons_succ]
    refine quiet_skip (by rfl) ?_
    simp only [Act.put, List.setIfInBounds_toArray, List.set_cons_zero, List.set_cons_succ]
    refine quiet_skip (by rfl) ?_
    simp only [Act.put, List.setIfInBounds_toArray, List.set_cons_zero, List.set_cons_succ]
    refine quiet_skip (by rfl) ?_
    simp only [Act.put, List.setIfInBounds_toArray, List.set_cons_zero, List.set_cons_succ]
    refine quiet_skip (by rfl) ?_
    simp only [Act.put, List.setIfInBounds_toArray, List.set_cons_zero, List.set_cons_succ]
    refine quiet_val (.bool false) (by rfl) (fun W hC => by go_simp) ?_
    simp only [Act.put, List.setIfInBounds_toArray, List.set_cons_zero, List.set_cons_succ]
    refine quiet_val (.bool false) (by rfl) (fun W hC => by go_simp) ?_
    simp only [Act.put, List.setIfInBounds_toArray, List.set_cons_zero, List.set_cons_succ]
    refine wpQuiet_nil ?_
    exact hQ _ _ _ _ _ _ _ _ _ _ _ _ _ _ _ _ _ _ _ _ _ _ _ _ _ _ _ _ _ _ _ _ _ _ _ _ _ _ _ _ _

set_option maxRecDepth 100000 in
set_option maxHeartbeats 8000000 in
theorem fo2 (W0 : World) (l : Bool) (d : List UInt8) (xs : List M.It) (a : Option Addr) (cap n e1 N e2 e3 e4 h g : Nat) (s : List UInt8) (bb : Bool) (Q : Act → Prop) (hh : h < W0.heap.size) (hg : g < W0.heap.size) (c0 : W0.cell? ⟨h, 0, none⟩ = some (.bool l)) (c1 : W0.cell? ⟨h, 1, none⟩ = some (.string ⟨d.toArray⟩)) (c2 : W0.cell? ⟨h, 2, none⟩ = some (.slice a xs.length cap)) (d0 : W0.cell? ⟨g, 0, none⟩ = some (.int .u64 (M.pt 0 N))) (d1 : W0.cell? ⟨g, 1, none⟩ = some (.int .u64 (M.pt 1 N))) (d2 : W0.cell? ⟨g, 2, none⟩ = some (.int .u64 (M.pt 2 N))) (d3 : W0.cell? ⟨g, 3, none⟩ = some (.int .u64 (M.pt 3 N))) (hK : KO W0 l d xs a cap n e1 N e2 e3 e4 s bb) (x0 x2 x4 x13 x14 x15 x16 x17 x18 x19 x20 x21 x22 x23 x24 x25 x26 x27 x28 x29 x30 x31 x32 x33 x34 x35 x36 x37 x38 x39 x40 x41 x42 x43 x44 x45 x46 x47 x48 x49 x50 x51 x52 x53 x54 x55 x56 x57 x58 x59 x60 x61 x62 x63 x64 x65 x66 x67 x68 x69 x71 x72 x73 x74 x75 x76 x77 x78 x79 x80 x81 x82 x83 x84 x85 x86 x87 x88 x89 x90 x91 x92 x93 x94 x95 x96 x97 x98 x99 x100 x101 x102 x103 x104 x105 x106 x107 x108 x109 x110 x111 x112 x113 x114 x115 x116 x117 x118 x119 x120 x121 x122 x123 x124 x125 x126 x127 x128 x129 x130 : Value) (ops : Array Oper) (hcode : Tryd.f5.body.bind (regAt 11) = some (.region 11 ops true)) (hQ : ∀ y50 y51 y52 y53 y54 y55 y56 y57 y58 y59 y60 y61 y62 y63 y64 y65 y66 y67 y68 y69 y70 y71 y72 y73 y74 y75 y76 y77 y78 y79 y80 y81 y82 y83 y84 y85 y86 y87 y88 y89 y90 : Value, Q { tmps := #[x0, .pointer (some ⟨h, 0, none⟩), x2, .bool true, x4, .int .u64 n, .int .i64 e1, .pointer (some ⟨g, 0, none⟩), .int .i64 e2, .string ⟨s.toArray⟩, .int .i64 e3, .bool bb, .int .i64 e4, x13, x14, x15, x16, x17, x18, x19, x20, x21, x22, x23, x24, x25, x26, x27, x28, x29, x30, x31, x32, x33, x34, x35, x36, x37, x38, x39, x40, x41, x42, x43, x44, x45, x46, x47, x48, x49, y50, y51, y52, y53, y54, y55, y56, y57, y58, y59, y60, y61, y62, y63, y64, y65, y66, y67, y68, y69, y70, y71, y72, y73, y74, y75, y76, y77, y78, y79, y80, y81, y82, y83, y84, y85, y86, y87, y88, y89, y90, .bool false, x92, x93, x94, x95, x96, x97, x98, x99, x100, x101, x102, x103, x104, x105, x106, x107, x108, x109, x110, x111, x112, x113, x114, x115, x116, x117, x118, x119, x120, x121, x122, x123, x124, x125, x126, x127, x128, x129, x130], defers := [] }) :
    wpQuiet Tryd.prog ops (fun W => Below W0.heap.size W0 W) Q (ops.toList.drop 21) { tmps := #[x0, .pointer (some ⟨h, 0, none⟩), x2, .bool true, x4, .int .u64 n, .int .i64 e1, .pointer (some ⟨g, 0, none⟩), .int .i64 e2, .string ⟨s.toArray⟩, .int .i64 e3, .bool bb, .int .i64 e4, x13, x14, x15, x16, x17, x18, x19, x20, x21, x22, x23, x24, x25, x26, x27, x28, x29, x30, x31, x32, x33, x34, x35, x36, x37, x38, x39, x40, x41, x42, x43, x44, x45, x46, x47, x48, x49, x50, x51, x52, x53, x54, x55, x56, x57, x58, x59, x60, x61, x62, x63, x64, x65, x66, x67, x68, x69, .bool false, x71, x72, x73, x74, x75, x76, x77, x78, x79, x80, x81, x82, x83, x84, x85, x86, x87, x88, x89, x90, x91, x92, x93, x94, x95, x96, x97, x98, x99, x100, x101, x102, x103, x104, x105, x106, x107, x108, x109, x110, x111, x112, x113, x114, x115, x116, x117, x118, x119, x120, x121, x122, x123, x124, x125, x126, x127, x128, x129, x130], defers := [] } := by
  simp only [Tryd.f5, Option.bind_some, regAt, Option.some_or, Option.none_or, if_true, if_false, Nat.reduceEqDiff, Option.some.injEq, Code.region.injEq, true_and, and_true] at hcode
  subst hcode
  simp only [List.drop_succ_cons, List.drop_zero]
  refine quiet_val (.int .i64 e3) (by rfl) (fun W hC => by go_simp) ?_
  simp only [Act.put, List.setIfInBounds_toArray, List.set_cons_zero, List.set_cons_succ]
  by_cases he3 : e3 = 0
  · have hx : (((e3 : Nat) : Int) == 0) = true := by simp [he3]
    refine quiet_val (.bool true) (by rfl) (fun W hC => by go_simp) ?_
    simp only [Act.put, List.setIfInBounds_toArray, List.set_cons_zero, List.set_cons_succ]
    refine quiet_val (.bool true) (by rfl) (fun W hC => by go_simp) ?_
    simp only [Act.put, List.setIfInBounds_toArray, List.set_cons_zero, List.set_cons_succ]
    refine quiet_val (.string ⟨s.toArray⟩) (by rfl) (fun W hC => by go_simp) ?_
    simp only [Act.put, List.setIfInBounds_toArray, List.set_cons_zero, List.set_cons_succ]
    refine quiet_call (iv false s (.slice none 0 0)) 12 #[.string ⟨s.toArray⟩] (by rfl) (fun W hC => by go_simp) (fun W hC => hK.k3 W hC) ?_
    simp only [Act.put, List.setIfInBounds_toArray, List.set_cons_zero, List.set_cons_succ]
    refine quiet_val (.agg #[.bool l, .string ⟨d.toArray⟩, .slice a xs.length cap]) (by rfl) (fun W hC => by have q0 := (hC.cell (p := ⟨h, 0, none⟩) hh).trans c0; have q1 := (hC.cell (p := ⟨h, 1, none⟩) hh).trans c1; have q2 := (hC.cell (p := ⟨h, 2, none⟩) hh).trans c2; go_simp) ?_
    simp only [Act.put, List.setIfInBounds_toArray, List.set_cons_zero, List.set_cons_succ]
    refine quiet_call (.bool true) 28 #[iv false s (.slice none 0 0), .agg #[.bool l, .string ⟨d.toArray⟩, .slice a xs.length cap]] (by rfl) (fun W hC => by go_simp) (fun W hC => hK.s3 he3 W hC) ?_
    simp only [Act.put, List.setIfInBounds_toArray, List.set_cons_zero, List.set_cons_succ]
    refine quiet_val (.bool false) (by rfl) (fun W hC => by go_simp) ?_
    simp only [Act.put, List.setIfInBounds_toArray, List.set_cons_zero, List.set_cons_succ]
    refine quiet_val (.bool false) (by rfl) (fun W hC => by go_simp) ?_
    simp only [Act.put, List.setIfInBounds_toArray, List.set_cons_zero, List.set_cons_succ]
    refine quiet_val (.bool false) (by rfl) (fun W hC => by go_simp) ?_
    simp only [Act.put, List.setIfInBounds_toArray, List.set_cons_zero, List.set_cons_succ]
    refine quiet_val (.bool false) (by rfl) (fun W hC => by go_simp) ?_
    simp only [Act.put, List.setIfInBounds_toArray, List.set_cons_zero, List.set_cons_succ]
    exact fo3 W0 l d xs a cap n e1 N e2 e3 e4 h g s bb Q hh hg c0 c1 c2 d0 d1 d2 d3 hK _ _ _ _ _ _ _ _ _ _ _ _ _ _ _ _ _ _ _ _ _ _ _ _ _ _ _ _ _ _ _ _ _ _ _ _ _ _ _ _ _ _ _ _ _ _ _ _ _ _ _ _ _ _ _ _ _ _ _ _ _ _ _ _ _ _ _ _ _ _ _ _ _ _ _ _ _ _ _ _ _ _ _ _ _ _ _ _ _ _ _ _ _ _ _ _ _ _ _ _ _ _ _ _ _ _ _ _ _ _ _ _ _ _ _ _ _ _ _ _ _ (by kernel_rfl) hQ
  · have hx : (((e3 : Nat) : Int) == 0) = false := by simp [he3]
    refine quiet_val (.bool false) (by rfl) (fun W hC => by go_simp) ?_
    simp only [Act.put, List.setIfInBounds_toArray, List.set_cons_zero, List.set_cons_succ]
    refine quiet_val (.bool false) (by rfl) (fun W hC => by go_simp) ?_
    simp only [Act.put, List.setIfInBounds_toArray, List.set_cons_zero, List.set_cons_succ]
    refine quiet_skip (by rfl) ?_
    simp only [Act.put, List.setIfInBounds_toArray, List.set_cons_zero, List.set_cons_succ]
    refine quiet_skip (by rfl) ?_
    simp only [Act.put, List.setIfInBounds_toArray, List.set_cons_zero, List.set_cons_succ]
    refine quiet_skip (by rfl) ?_
    simp only [Act.put, List.setIfInBounds_toArray, List.set_cons_zero, List.set_cons_succ]
    refine quiet_skip (by rfl) ?_
    simp only [Act.put, List.setIfInBounds_toArray, List.set_cons_zero, List.set_cons_succ]
    refine quiet_skip (by rfl) ?_
    simp only [Act.put, List.setIfInBounds_toArray, List.set_cons_zero, List.set_cons_succ]
    refine quiet_val (.bool false) (by rfl) (fun W hC => by go_simp) ?_
    simp only [Act.put, List.setIfInBounds_toArray, List.set_cons_zero, List.set_cons_succ]
    refine quiet_val (.bool false) (by rfl) (fun W hC => by go_simp) ?_
    simp only [Act.put, List.setIfInBounds_toArray, List.set_cons_zero, List.set_cons_succ]
    refine quiet_val (.bool false) (by rfl) (fun W hC => by go_simp) ?_
    simp only [Act.put, List.setIfInBounds_toArray, List.set_cons_zero, List.set_cons_succ]
    exact fo3 W0 l d xs a cap n e1 N e2 e3 e4 h g s bb Q hh hg c0 c1 c2 d0 d1 d2 d3 hK _ _ _ _ _ _ _ _ _ _ _ _ _ _ _ _ _ _ _ _ _ _ _ _ _ _ _ _ _ _ _ _ _ _ _ _ _ _ _ _ _ _ _ _ _ _ _ _ _ _ _ _ _ _ _ _ _ _ _ _ _ _ _ _ _ _ _ _ _ _ _ _ _ _ _ _ _ _ _ _ _ _ _ _ _ _ _ _ _ _ _ _ _ _ _ _ _ _ _ _ _ _ _ _ _ _ _ _ _ _ _ _ _ _ _ _ _ _ _ _ _ (by kernel_rfl) hQ

set_option maxRecDepth 100000 in
set_option maxHeartbeats 8000000 in
theorem fo1 (W0 : World) (l : Bool) (d : List UInt8) (xs : List M.It) (a : Option Addr) (cap n e1 N e2 e3 e4 h g : Nat) (s : List UInt8) (bb : Bool) (Q : Act → Prop) (hh : h < W0.heap.size) (hg : g < W0.heap.size) (c0 : W0.cell? ⟨h, 0, none⟩ = some (.bool l)) (c1 : W0.cell? ⟨h, 1, none⟩ = some (.string ⟨d.toArray⟩)) (c2 : W0.cell? ⟨h, 2, none⟩ = some (.slice a xs.length cap)) (d0 : W0.cell? ⟨g, 0, none⟩ = some (.int .u64 (M.pt 0 N))) (d1 : W0.cell? ⟨g, 1, none⟩ = some (.int .u64 (M.pt 1 N))) (d2 : W0.cell? ⟨g, 2, none⟩ = some (.int .u64 (M.pt 2 N))) (d3 : W0.cell? ⟨g, 3, none⟩ = some (.int .u64 (M.pt 3 N))) (hK : KO W0 l d xs a cap n e1 N e2 e3 e4 s bb) (x0 x2 x4 x13 x14 x15 x16 x17 x18 x19 x20 x21 x22 x23 x24 x25 x26 x27 x28 x29 x30 x31 x32 x33 x34 x35 x36 x37 x38 x39 x40 x41 x42 x43 x44 x45 x46 x47 x48 x49 x50 x51 x52 x53 x54 x55 x56 x57 x58 x60 x61 x62 x63 x64 x65 x66 x67 x68 x69 x70 x71 x72 x73 x74 x75 x76 x77 x78 x79 x80 x81 x82 x83 x84 x85 x86 x87 x88 x89 x90 x91 x92 x93 x94 x95 x96 x97 x98 x99 x100 x101 x102 x103 x104 x105 x106 x107 x108 x109 x110 x111 x112 x113 x114 x115 x116 x117 x118 x119 x120 x121 x122 x123 x124 x125 x126 x127 x128 x129 x130 : Value) (ops : Array Oper) (hcode : Tryd.f5.body.bind (regAt 11) = some (.region 11 ops true)) (hQ : ∀ y50 y51 y52 y53 y54 y55 y56 y57 y58 y59 y60 y61 y62 y63 y64 y65 y66 y67 y68 y69 y70 y71 y72 y73 y74 y75 y76 y77 y78 y79 y80 y81 y82 y83 y84 y85 y86 y87 y88 y89 y90 : Value, Q { tmps := #[x0, .pointer (some ⟨h, 0, none⟩), x2, .bool true, x4, .int .u64 n, .int .i64 e1, .pointer (some ⟨g, 0, none⟩), .int .i64 e2, .string ⟨s.toArray⟩, .int .i64 e3, .bool bb, .int .i64 e4, x13, x14, x15, x16, x17, x18, x19, x20, x21, x22, x23, x24, x25, x26, x27, x28, x29, x30, x31, x32, x33, x34, x35, x36, x37, x38, x39, x40, x41, x42, x43, x44, x45, x46, x47, x48, x49, y50, y51, y52, y53, y54, y55, y56, y57, y58, y59, y60, y61, y62, y63, y64, y65, y66, y67, y68, y69, y70, y71, y72, y73, y74, y75, y76, y77, y78, y79, y80, y81, y82, y83, y84, y85, y86, y87, y88, y89, y90, .bool false, x92, x93, x94, x95, x96, x97, x98, x99, x100, x101, x102, x103, x104, x105, x106, x107, x108, x109, x110, x111, x112, x113, x114, x115, x116, x117, x118, x119, x120, x121, x122, x123, x124, x125, x126, x127, x128, x129, x130], defers := [] }) :
    wpQuiet Tryd.prog ops (fun W => Below W0.heap.size W0 W) Q (ops.toList.drop 10) { tmps := #[x0, .pointer (some ⟨h, 0, none⟩), x2, .bool true, x4, .int .u64 n, .int .i64 e1, .pointer (some ⟨g, 0, none⟩), .int .i64 e2, .string ⟨s.toArray⟩, .int .i64 e3, .bool bb, .int .i64 e4, x13, x14, x15, x16, x17, x18, x19, x20, x21, x22, x23, x24, x25, x26, x27, x28, x29, x30, x31, x32, x33, x34, x35, x36, x37, x38, x39, x40, x41, x42, x43, x44, x45, x46, x47, x48, x49, x50, x51, x52, x53, x54, x55, x56, x57, x58, .bool false, x60, x61, x62, x63, x64, x65, x66, x67, x68, x69, x70, x71, x72, x73, x74, x75, x76, x77, x78, x79, x80, x81, x82, x83, x84, x85, x86, x87, x88, x89, x90, x91, x92, x93, x94, x95, x96, x97, x98, x99, x100, x101, x102, x103, x104, x105, x106, x107, x108, x109, x110, x111, x112, x113, x114, x115, x116, x117, x118, x119, x120, x121, x122, x123, x124, x125, x126, x127, x128, x129, x130], defers := [] } := by
  simp only [Tryd.f5, Option.bind_some, regAt, Option.some_or, Option.none_or, if_true, if_false, Nat.reduceEqDiff, Option.some.injEq, Code.region.injEq, true_and, and_true] at hcode
  subst hcode
  simp only [List.drop_succ_cons, List.drop_zero]
  refine quiet_val (.int .i64 e2) (by rfl) (fun W hC => by go_simp) ?_
  simp only [Act.put, List.setIfInBounds_toArray, List.set_cons_zero, List.set_cons_succ]
  by_cases he2 : e2 = 0
  · have hx : (((e2 : Nat) : Int) == 0) = true := by simp [he2]
    refine quiet_val (.bool true) (by rfl) (fun W hC => by go_simp) ?_
    simp only [Act.put, List.setIfInBounds_toArray, List.set_cons_zero, List.set_cons_succ]
    refine quiet_val (.bool true) (by rfl) (fun W hC => by go_simp) ?_
    simp only [Act.put, List.setIfInBounds_toArray, List.set_cons_zero, List.set_cons_succ]
    refine quiet_val (.agg #[.int .u64 (M.pt 0 N), .int .u64 (M.pt 1 N), .int .u64 (M.pt 2 N), .int .u64 (M.pt 3 N)]) (by rfl) (fun W hC => by have q0 := (hC.cell (p := ⟨g, 0, none⟩) hg).trans d0; have q1 := (hC.cell (p := ⟨g, 1, none⟩) hg).trans d1; have q2 := (hC.cell (p := ⟨g, 2, none⟩) hg).trans d2; have q3 := (hC.cell (p := ⟨g, 3, none⟩) hg).trans d3; go_simp) ?_
    simp only [Act.put, List.setIfInBounds_toArray, List.set_cons_zero, List.set_cons_succ]
    refine quiet_call (iv false (M.tr (M.f32 N)) (.slice none 0 0)) 10 #[.agg #[.int .u64 (M.pt 0 N), .int .u64 (M.pt 1 N), .int .u64 (M.pt 2 N), .int .u64 (M.pt 3 N)]] (by rfl) (fun W hC => by go_simp) (fun W hC => hK.k2 W hC) ?_
    simp only [Act.put, List.setIfInBounds_toArray, List.set_cons_zero, List.set_cons_succ]
    refine quiet_val (.agg #[.bool l, .string ⟨d.toArray⟩, .slice a xs.length cap]) (by rfl) (fun W hC => by have q0 := (hC.cell (p := ⟨h, 0, none⟩) hh).trans c0; have q1 := (hC.cell (p := ⟨h, 1, none⟩) hh).trans c1; have q2 := (hC.cell (p := ⟨h, 2, none⟩) hh).trans c2; go_simp) ?_
    simp only [Act.put, List.setIfInBounds_toArray, List.set_cons_zero, List.set_cons_succ]
    refine quiet_call (.bool true) 28 #[iv false (M.tr (M.f32 N)) (.slice none 0 0), .agg #[.bool l, .string ⟨d.toArray⟩, .slice a xs.length cap]] (by rfl) (fun W hC => by go_simp) (fun W hC => hK.s2 he2 W hC) ?_
    simp only [Act.put, List.setIfInBounds_toArray, List.set_cons_zero, List.set_cons_succ]
    refine quiet_val (.bool false) (by rfl) (fun W hC => by go_simp) ?_
    simp only [Act.put, List.setIfInBounds_toArray, List.set_cons_zero, List.set_cons_succ]
    refine quiet_val (.bool false) (by rfl) (fun W hC => by go_simp) ?_
    simp only [Act.put, List.setIfInBounds_toArray, List.set_cons_zero, List.set_cons_succ]
    refine quiet_val (.bool false) (by rfl) (fun W hC => by go_simp) ?_
    simp only [Act.put, List.setIfInBounds_toArray, List.set_cons_zero, List.set_cons_succ]
    refine quiet_val (.bool false) (by rfl) (fun W hC => by go_simp) ?_
    simp only [Act.put, List.setIfInBounds_toArray, List.set_cons_zero, List.set_cons_succ]
    exact fo2 W0 l d xs a cap n e1 N e2 e3 e4 h g s bb Q hh hg c0 c1 c2 d0 d1 d2 d3 hK _ _ _ _ _ _ _ _ _ _ _ _ _ _ _ _ _ _ _ _ _ _ _ _ _ _ _ _ _ _ _ _ _ _ _ _ _ _ _ _ _ _ _ _ _ _ _ _ _ _ _ _ _ _ _ _ _ _ _ _ _ _ _ _ _ _ _ _ _ _ _ _ _ _ _ _ _ _ _ _ _ _ _ _ _ _ _ _ _ _ _ _ _ _ _ _ _ _ _ _ _ _ _ _ _ _ _ _ _ _ _ _ _ _ _ _ _ _ _ _ _ (by kernel_rfl) hQ
  · have hx : (((e2 : Nat) : Int) == 0) = false := by simp [he2]
    refine quiet_val (.bool false) (by rfl) (fun W hC => by go_simp) ?_
    simp only [Act.put, List.setIfInBounds_toArray, List.set_cons_zero, List.set_cons_succ]
    refine quiet_val (.bool false) (by rfl) (fun W hC => by go_simp) ?_
    simp only [Act.put, List.setIfInBounds_toArray, List.set_cons_zero, List.set_cons_succ]
    refine quiet_skip (by rfl) ?_
    simp only [Act.put, List.setIfInBounds_toArray, List.set_cons_zero, List.set_cons_succ]
    refine quiet_skip (by rfl) ?_
    simp only [Act.put, List.setIfInBounds_toArray, List.set_cons_zero, List.set_cons_succ]
    refine quiet_skip (by rfl) ?_
    simp only [Act.put, List.setIfInBounds_toArray, List.set_cons_zero, List.set_cons_succ]
    refine quiet_skip (by rfl) ?_
    simp only [Act.put, List.setIfInBounds_toArray, List.set_cons_zero, List.set_cons_succ]
    refine quiet_skip (by rfl) ?_
    simp only [Act.put, List.setIfInBounds_toArray, List.set_cons_zero, List.set_cons_succ]
    refine quiet_val (.bool false) (by rfl) (fun W hC => by go_simp) ?_
    simp only [Act.put, List.setIfInBounds_toArray, List.set_cons_zero, List.set_cons_succ]
    refine quiet_val (.bool false) (by rfl) (fun W hC => by go_simp) ?_
    simp only [Act.put, List.setIfInBounds_toArray, List.set_cons_zero, List.set_cons_succ]
    refine quiet_val (.bool false) (by rfl) (fun W hC => by go_simp) ?_
    simp only [Act.put, List.setIfInBounds_toArray, List.set_cons_zero, List.set_cons_succ]
    exact fo2 W0 l d xs a cap n e1 N e2 e3 e4 h g s bb Q hh hg c0 c1 c2 d0 d1 d2 d3 hK _ _ _ _ _ _ _ _ _ _ _ _ _ _ _ _ _ _ _ _ _ _ _ _ _ _ _ _ _ _ _ _ _ _ _ _ _ _ _ _ _ _ _ _ _ _ _ _ _ _ _ _ _ _ _ _ _ _ _ _ _ _ _ _ _ _ _ _ _ _ _ _ _ _ _ _ _ _ _ _ _ _ _ _ _ _ _ _ _ _ _ _ _ _ _ _ _ _ _ _ _ _ _ _ _ _ _ _ _ _ _ _ _ _ _ _ _ _ _ _ _ (by kernel_rfl) hQ

set_option maxRecDepth 100000 in
set_option maxHeartbeats 8000000 in
theorem fo0 (W0 : World) (l : Bool) (d : List UInt8) (xs : List M.It) (a : Option Addr) (cap n e1 N e2 e3 e4 h g : Nat) (s : List UInt8) (bb : Bool) (Q : Act → Prop) (hh : h < W0.heap.size) (hg : g < W0.heap.size) (c0 : W0.cell? ⟨h, 0, none⟩ = some (.bool l)) (c1 : W0.cell? ⟨h, 1, none⟩ = some (.string ⟨d.toArray⟩)) (c2 : W0.cell? ⟨h, 2, none⟩ = some (.slice a xs.length cap)) (d0 : W0.cell? ⟨g, 0, none⟩ = some (.int .u64 (M.pt 0 N))) (d1 : W0.cell? ⟨g, 1, none⟩ = some (.int .u64 (M.pt 1 N))) (d2 : W0.cell? ⟨g, 2, none⟩ = some (.int .u64 (M.pt 2 N))) (d3 : W0.cell? ⟨g, 3, none⟩ = some (.int .u64 (M.pt 3 N))) (hK : KO W0 l d xs a cap n e1 N e2 e3 e4 s bb) (x0 x2 x4 x13 x14 x15 x16 x17 x18 x19 x20 x21 x22 x23 x24 x25 x26 x27 x28 x29 x30 x31 x32 x33 x34 x35 x36 x37 x38 x39 x40 x41 x42 x43 x44 x45 x46 x47 x48 x49 x50 x51 x52 x53 x54 x55 x56 x57 x58 x59 x60 x61 x62 x63 x64 x65 x66 x67 x68 x69 x70 x71 x72 x73 x74 x75 x76 x77 x78 x79 x80 x81 x82 x83 x84 x85 x86 x87 x88 x89 x90 x91 x92 x93 x94 x95 x96 x97 x98 x99 x100 x101 x102 x103 x104 x105 x106 x107 x108 x109 x110 x111 x112 x113 x114 x115 x116 x117 x118 x119 x120 x121 x122 x123 x124 x125 x126 x127 x128 x129 x130 : Value) (ops : Array Oper) (hcode : Tryd.f5.body.bind (regAt 11) = some (.region 11 ops true)) (hQ : ∀ y50 y51 y52 y53 y54 y55 y56 y57 y58 y59 y60 y61 y62 y63 y64 y65 y66 y67 y68 y69 y70 y71 y72 y73 y74 y75 y76 y77 y78 y79 y80 y81 y82 y83 y84 y85 y86 y87 y88 y89 y90 : Value, Q { tmps := #[x0, .pointer (some ⟨h, 0, none⟩), x2, .bool true, x4, .int .u64 n, .int .i64 e1, .pointer (some ⟨g, 0, none⟩), .int .i64 e2, .string ⟨s.toArray⟩, .int .i64 e3, .bool bb, .int .i64 e4, x13, x14, x15, x16, x17, x18, x19, x20, x21, x22, x23, x24, x25, x26, x27, x28, x29, x30, x31, x32, x33, x34, x35, x36, x37, x38, x39, x40, x41, x42, x43, x44, x45, x46, x47, x48, x49, y50, y51, y52, y53, y54, y55, y56, y57, y58, y59, y60, y61, y62, y63, y64, y65, y66, y67, y68, y69, y70, y71, y72, y73, y74, y75, y76, y77, y78, y79, y80, y81, y82, y83, y84, y85, y86, y87, y88, y89, y90, .bool false, x92, x93, x94, x95, x96, x97, x98, x99, x100, x101, x102, x103, x104, x105, x106, x107, x108, x109, x110, x111, x112, x113, x114, x115, x116, x117, x118, x119, x120, x121, x122, x123, x124, x125, x126, x127, x128, x129, x130], defers := [] }) :
    wpQuiet Tryd.prog ops (fun W => Below W0.heap.size W0 W) Q (ops.toList.drop 0) { tmps := #[x0, .pointer (some ⟨h, 0, none⟩), x2, .bool true, x4, .int .u64 n, .int .i64 e1, .pointer (some ⟨g, 0, none⟩), .int .i64 e2, .string ⟨s.toArray⟩, .int .i64 e3, .bool bb, .int .i64 e4, x13, x14, x15, x16, x17, x18, x19, x20, x21, x22, x23, x24, x25, x26, x27, x28, x29, x30, x31, x32, x33, x34, x35, x36, x37, x38, x39, x40, x41, x42, x43, x44, x45, x46, x47, x48, x49, x50, x51, x52, x53, x54, x55, x56, x57, x58, x59, x60, x61, x62, x63, x64, x65, x66, x67, x68, x69, x70, x71, x72, x73, x74, x75, x76, x77, x78, x79, x80, x81, x82, x83, x84, x85, x86, x87, x88, x89, x90, x91, x92, x93, x94, x95, x96, x97, x98, x99, x100, x101, x102, x103, x104, x105, x106, x107, x108, x109, x110, x111, x112, x113, x114, x115, x116, x117, x118, x119, x120, x121, x122, x123, x124, x125, x126, x127, x128, x129, x130], defers := [] } := by
  simp only [Tryd.f5, Option.bind_some, regAt, Option.some_or, Option.none_or, if_true, if_false, Nat.reduceEqDiff, Option.some.injEq, Code.region.injEq, true_and, and_true] at hcode
  subst hcode
  simp only [List.drop_zero]
  refine quiet_val (.int .i64 e1) (by rfl) (fun W hC => by go_simp) ?_
  simp only [Act.put, List.setIfInBounds_toArray, List.set_cons_zero, List.set_cons_succ]
  by_cases he1 : e1 = 0
  · have hx : (((e1 : Nat) : Int) == 0) = true := by simp [he1]
    refine quiet_val (.bool true) (by rfl) (fun W hC => by go_simp) ?_
    simp only [Act.put, List.setIfInBounds_toArray, List.set_cons_zero, List.set_cons_succ]
    refine quiet_val (.bool true) (by rfl) (fun W hC => by go_simp) ?_
    simp only [Act.put, List.setIfInBounds_toArray, List.set_cons_zero, List.set_cons_succ]
    refine quiet_val (.int .u64 n) (by rfl) (fun W hC => by go_simp) ?_
    simp only [Act.put, List.setIfInBounds_toArray, List.set_cons_zero, List.set_cons_succ]
    refine quiet_call (iv false (M.ben n) (.slice none 0 0)) 8 #[.int .u64 n] (by rfl) (fun W hC => by go_simp) (fun W hC => hK.k1 W hC) ?_
    simp only [Act.put, List.setIfInBounds_toArray, List.set_cons_zero, List.set_cons_succ]
    refine quiet_val (.agg #[.bool l, .string ⟨d.toArray⟩, .slice a xs.length cap]) (by rfl) (fun W hC => by have q0 := (hC.cell (p := ⟨h, 0, none⟩) hh).trans c0; have q1 := (hC.cell (p := ⟨h, 1, none⟩) hh).trans c1; have q2 := (hC.cell (p := ⟨h, 2, none⟩) hh).trans c2; go_simp) ?_
    simp only [Act.put, List.setIfInBounds_toArray, List.set_cons_zero, List.set_cons_succ]
    refine quiet_call (.bool true) 28 #[iv false (M.ben n) (.slice none 0 0), .agg #[.bool l, .string ⟨d.toArray⟩, .slice a xs.length cap]] (by rfl) (fun W hC => by go_simp) (fun W hC => hK.s1 he1 W hC) ?_
    simp only [Act.put, List.setIfInBounds_toArray, List.set_cons_zero, List.set_cons_succ]
    refine quiet_val (.bool false) (by rfl) (fun W hC => by go_simp) ?_
    simp only [Act.put, List.setIfInBounds_toArray, List.set_cons_zero, List.set_cons_succ]
    refine quiet_val (.bool false) (by rfl) (fun W hC => by go_simp) ?_
    simp only [Act.put, List.setIfInBounds_toArray, List.set_cons_zero, List.set_cons_succ]
    refine quiet_val (.bool false) (by rfl) (fun W hC => by go_simp) ?_
    simp only [Act.put, List.setIfInBounds_toArray, List.set_cons_zero, List.set_cons_succ]
    exact fo1 W0 l d xs a cap n e1 N e2 e3 e4 h g s bb Q hh hg c0 c1 c2 d0 d1 d2 d3 hK _ _ _ _ _ _ _ _ _ _ _ _ _ _ _ _ _ _ _ _ _ _ _ _ _ _ _ _ _ _ _ _ _ _ _ _ _ _ _ _ _ _ _ _ _ _ _ _ _ _ _ _ _ _ _ _ _ _ _ _ _ _ _ _ _ _ _ _ _ _ _ _ _ _ _ _ _ _ _ _ _ _ _ _ _ _ _ _ _ _ _ _ _ _ _ _ _ _ _ _ _ _ _ _ _ _ _ _ _ _ _ _ _ _ _ _ _ _ _ _ _ (by kernel_rfl) hQ
  · have hx : (((e1 : Nat) : Int) == 0) = false := by simp [he1]
    refine quiet_val (.bool false) (by rfl) (fun W hC => by go_simp) ?_
    simp only [Act.put, List.setIfInBounds_toArray, List.set_cons_zero, List.set_cons_succ]
    refine quiet_val (.bool false) (by rfl) (fun W hC => by go_simp) ?_
    simp only [Act.put, List.setIfInBounds_toArray, List.set_cons_zero, List.set_cons_succ]
    refine quiet_skip (by rfl) ?_
    simp only [Act.put, List.setIfInBounds_toArray, List.set_cons_zero, List.set_cons_succ]
    refine quiet_skip (by rfl) ?_
    simp only [Act.put, List.setIfInBounds_toArray, List.set_cons_zero, List.set_cons_succ]
    refine quiet_skip (by rfl) ?_
    simp only [Act.put, List.setIfInBounds_toArray, List.set_cons_zero, List.set_cons_succ]
    refine quiet_skip (by rfl) ?_
    simp only [Act.put, List.setIfInBounds_toArray, List.set_cons_zero, List.set_cons_succ]
    refine quiet_skip (by rfl) ?_
    simp only [Act.put, List.setIfInBounds_toArray, List.set_cons_zero, List.set_cons_succ]
    refine quiet_val (.bool false) (by rfl) (fun W hC => by go_simp) ?_
    simp only [Act.put, List.setIfInBounds_toArray, List.set_cons_zero, List.set_cons_succ]
    refine quiet_val (.bool false) (by rfl) (fun W hC => by go_simp) ?_
    simp only [Act.put, List.setIfInBounds_toArray, List.set_cons_zero, List.set_cons_succ]
    exact fo1 W0 l d xs a cap n e1 N e2 e3 e4 h g s bb Q hh hg c0 c1 c2 d0 d1 d2 d3 hK _ _ _ _ _ _ _ _ _ _ _ _ _ _ _ _ _ _ _ _ _ _ _ _ _ _ _ _ _ _ _ _ _ _ _ _ _ _ _ _ _ _ _ _ _ _ _ _ _ _ _ _ _ _ _ _ _ _ _ _ _ _ _ _ _ _ _ _ _ _ _ _ _ _ _ _ _ _ _ _ _ _ _ _ _ _ _ _ _ _ _ _ _ _ _ _ _ _ _ _ _ _ _ _ _ _ _ _ _ _ _ _ _ _ _ _ _ _ _ _ _ (by kernel_rfl) hQ
end Go.Proofs.YtebkmlbpngpmdaaDoor
