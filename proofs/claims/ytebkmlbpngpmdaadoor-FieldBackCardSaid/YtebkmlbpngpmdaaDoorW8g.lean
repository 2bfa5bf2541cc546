/- From the walks of word.Fixed and word.Unfixed to numbers and their bytes. -/
import Derived.Test.YtebkmlbpngpmdaaDoorW5g
import Derived.Test.YtebkmlbpngpmdaaDoorW6g
import Derived.Test.YtebkmlbpngpmdaaDoorMM
import Derived.Laws.Bits64b
namespace Go.Proofs.YtebkmlbpngpmdaaDoor
open Go Go.RowKit

theorem wrap8_nat (n : Nat) : IntKind.u8.wrap (n : Int) = ((n % 256 : Nat) : Int) := by
  show (n : Int) % (2 ^ 8 : Int) = _
  rfl

theorem byte_of (n k : Nat) : UInt8.ofNat (IntKind.u8.wrap ((n : Int) / ((k : Nat) : Int))).toNat = UInt8.ofNat (n / k % 256) := by
  rw [← Int.natCast_ediv, wrap8_nat, Int.toNat_natCast]

theorem be8_bytes {v : Int} (h : 0 ≤ v) : (be8 v).map (fun n => UInt8.ofNat n.toNat) = M.be 8 v.toNat := by
  obtain ⟨n, rfl⟩ := Int.eq_ofNat_of_zero_le h
  rw [Int.toNat_natCast, M.be8_eq]
  simp only [be8, List.map_cons, List.map_nil]
  rw [show (2 : Int) ^ (56 : Int).toNat = ((72057594037927936 : Nat) : Int) from rfl, show (2 : Int) ^ (48 : Int).toNat = ((281474976710656 : Nat) : Int) from rfl, show (2 : Int) ^ (40 : Int).toNat = ((1099511627776 : Nat) : Int) from rfl, show (2 : Int) ^ (32 : Int).toNat = ((4294967296 : Nat) : Int) from rfl, show (2 : Int) ^ (24 : Int).toNat = ((16777216 : Nat) : Int) from rfl, show (2 : Int) ^ (16 : Int).toNat = ((65536 : Nat) : Int) from rfl, show (2 : Int) ^ (8 : Int).toNat = ((256 : Nat) : Int) from rfl, show (2 : Int) ^ (0 : Int).toNat = ((1 : Nat) : Int) from rfl]
  rw [byte_of, byte_of, byte_of, byte_of, byte_of, byte_of, byte_of, byte_of, Nat.div_one]

theorem fixed_any (N : Nat) (w : World) (hN : M.In N) :
    Calls Tryd.prog 61 #[wn N] w fun e w' => e = .returned (.string ⟨(M.f32 N).toArray⟩) ∧ Below w.heap.size w w' := by
  have := callsIn_wide.1 (fixed_in (M.pt 0 N) (M.pt 1 N) (M.pt 2 N) (M.pt 3 N) w)
  have e : strOfNums (be8 (M.pt 3 N) ++ be8 (M.pt 2 N) ++ be8 (M.pt 1 N) ++ be8 (M.pt 0 N)) = ⟨(M.f32 N).toArray⟩ := by
    unfold strOfNums
    rw [List.map_append, List.map_append, List.map_append, be8_bytes (M.pt_nonneg _ _), be8_bytes (M.pt_nonneg _ _), be8_bytes (M.pt_nonneg _ _), be8_bytes (M.pt_nonneg _ _), ← M.f32_parts hN]
  rw [e] at this
  exact this

theorem st8_nat (n : Nat) (c : UInt8) (h : n < 72057594037927936) : st8 n c = ((n * 256 + c.toNat : Nat) : Int) := by
  have hc := c.toNat_lt
  unfold st8
  have e1 : IntKind.u64.wrap ((n : Int) * 256) = ((n * 256 : Nat) : Int) := by rw [IntKind.wrap_u64]; omega
  have e2 : IntKind.u64.wrap (c.toNat : Int) = ((c.toNat : Nat) : Int) := by rw [IntKind.wrap_u64]; omega
  rw [e1, e2, bits_or_u64_nat _ _ (by omega) (by omega)]
  have := Nat.two_pow_add_eq_or_of_lt (i := 8) (b := c.toNat) (by omega) n
  rw [Nat.mul_comm n 256]
  exact congrArg _ this.symm

theorem st8_dg (l : List UInt8) (c : UInt8) (h : l.length ≤ 7) : st8 (M.dg l : Nat) c = ((M.dg (l ++ [c]) : Nat) : Int) := by
  rw [M.dg_snoc]
  refine st8_nat _ _ (Nat.lt_of_lt_of_le (M.dg_lt l) ?_)
  exact Nat.pow_le_pow_right (n := 256) (by omega) h

theorem eight (c0 c1 c2 c3 c4 c5 c6 c7 : UInt8) : st8 (st8 (st8 (st8 (st8 (st8 (st8 (st8 0 c0) c1) c2) c3) c4) c5) c6) c7 = ((M.dg [c0, c1, c2, c3, c4, c5, c6, c7] : Nat) : Int) := by
  have e0 : st8 0 c0 = ((M.dg [c0] : Nat) : Int) := st8_dg [] c0 (by simp)
  rw [e0, st8_dg [c0] c1 (by simp), List.singleton_append, st8_dg [c0, c1] c2 (by simp)]
  simp only [List.cons_append, List.nil_append]
  rw [st8_dg [c0, c1, c2] c3 (by simp)]
  simp only [List.cons_append, List.nil_append]
  rw [st8_dg [c0, c1, c2, c3] c4 (by simp)]
  simp only [List.cons_append, List.nil_append]
  rw [st8_dg [c0, c1, c2, c3, c4] c5 (by simp)]
  simp only [List.cons_append, List.nil_append]
  rw [st8_dg [c0, c1, c2, c3, c4, c5] c6 (by simp)]
  simp only [List.cons_append, List.nil_append]
  rw [st8_dg [c0, c1, c2, c3, c4, c5, c6] c7 (by simp)]
  simp only [List.cons_append, List.nil_append]

theorem list32 (l : List UInt8) (h : l.length = 32) : ∃ x0 x1 x2 x3 x4 x5 x6 x7 x8 x9 x10 x11 x12 x13 x14 x15 x16 x17 x18 x19 x20 x21 x22 x23 x24 x25 x26 x27 x28 x29 x30 x31, l = [x0, x1, x2, x3, x4, x5, x6, x7, x8, x9, x10, x11, x12, x13, x14, x15, x16, x17, x18, x19, x20, x21, x22, x23, x24, x25, x26, x27, x28, x29, x30, x31] :=
  match l, h with
  | [x0, x1, x2, x3, x4, x5, x6, x7, x8, x9, x10, x11, x12, x13, x14, x15, x16, x17, x18, x19, x20, x21, x22, x23, x24, x25, x26, x27, x28, x29, x30, x31], _ => ⟨x0, x1, x2, x3, x4, x5, x6, x7, x8, x9, x10, x11, x12, x13, x14, x15, x16, x17, x18, x19, x20, x21, x22, x23, x24, x25, x26, x27, x28, x29, x30, x31, rfl⟩

theorem parts32 (x0 x1 x2 x3 x4 x5 x6 x7 x8 x9 x10 x11 x12 x13 x14 x15 x16 x17 x18 x19 x20 x21 x22 x23 x24 x25 x26 x27 x28 x29 x30 x31 : UInt8) : M.pt 0 (M.dg [x0, x1, x2, x3, x4, x5, x6, x7, x8, x9, x10, x11, x12, x13, x14, x15, x16, x17, x18, x19, x20, x21, x22, x23, x24, x25, x26, x27, x28, x29, x30, x31]) = ((M.dg [x24, x25, x26, x27, x28, x29, x30, x31] : Nat) : Int) ∧ M.pt 1 (M.dg [x0, x1, x2, x3, x4, x5, x6, x7, x8, x9, x10, x11, x12, x13, x14, x15, x16, x17, x18, x19, x20, x21, x22, x23, x24, x25, x26, x27, x28, x29, x30, x31]) = ((M.dg [x16, x17, x18, x19, x20, x21, x22, x23] : Nat) : Int) ∧ M.pt 2 (M.dg [x0, x1, x2, x3, x4, x5, x6, x7, x8, x9, x10, x11, x12, x13, x14, x15, x16, x17, x18, x19, x20, x21, x22, x23, x24, x25, x26, x27, x28, x29, x30, x31]) = ((M.dg [x8, x9, x10, x11, x12, x13, x14, x15] : Nat) : Int) ∧ M.pt 3 (M.dg [x0, x1, x2, x3, x4, x5, x6, x7, x8, x9, x10, x11, x12, x13, x14, x15, x16, x17, x18, x19, x20, x21, x22, x23, x24, x25, x26, x27, x28, x29, x30, x31]) = ((M.dg [x0, x1, x2, x3, x4, x5, x6, x7] : Nat) : Int) := by
  have e : M.dg [x0, x1, x2, x3, x4, x5, x6, x7, x8, x9, x10, x11, x12, x13, x14, x15, x16, x17, x18, x19, x20, x21, x22, x23, x24, x25, x26, x27, x28, x29, x30, x31] = ((M.dg [x0, x1, x2, x3, x4, x5, x6, x7] * 18446744073709551616 + M.dg [x8, x9, x10, x11, x12, x13, x14, x15]) * 18446744073709551616 + M.dg [x16, x17, x18, x19, x20, x21, x22, x23]) * 18446744073709551616 + M.dg [x24, x25, x26, x27, x28, x29, x30, x31] := by
    rw [← M.dg_app8 (r := [x8, x9, x10, x11, x12, x13, x14, x15]) rfl [x0, x1, x2, x3, x4, x5, x6, x7], ← M.dg_app8 (r := [x16, x17, x18, x19, x20, x21, x22, x23]) rfl, ← M.dg_app8 (r := [x24, x25, x26, x27, x28, x29, x30, x31]) rfl]
    simp only [List.cons_append, List.nil_append]
  have l0 := M.dg_8 (l := [x24, x25, x26, x27, x28, x29, x30, x31]) rfl
  have l1 := M.dg_8 (l := [x16, x17, x18, x19, x20, x21, x22, x23]) rfl
  have l2 := M.dg_8 (l := [x8, x9, x10, x11, x12, x13, x14, x15]) rfl
  have l3 := M.dg_8 (l := [x0, x1, x2, x3, x4, x5, x6, x7]) rfl
  generalize M.dg [x24, x25, x26, x27, x28, x29, x30, x31] = g0 at *
  generalize M.dg [x16, x17, x18, x19, x20, x21, x22, x23] = g1 at *
  generalize M.dg [x8, x9, x10, x11, x12, x13, x14, x15] = g2 at *
  generalize M.dg [x0, x1, x2, x3, x4, x5, x6, x7] = g3 at *
  refine M.parts (by omega) (by omega) (by omega) (by omega) (by omega) (by omega) (by omega) (by omega) ?_
  rw [e]
  omega

theorem unfixed_any (l : List UInt8) (w : World) (h : l.length = 32) :
    Calls Tryd.prog 67 #[.string ⟨l.toArray⟩] w fun e w' => e = .returned (.tuple #[wn (M.dg l), .int .i64 0]) ∧ Below w.heap.size w w' := by
  obtain ⟨x0, x1, x2, x3, x4, x5, x6, x7, x8, x9, x10, x11, x12, x13, x14, x15, x16, x17, x18, x19, x20, x21, x22, x23, x24, x25, x26, x27, x28, x29, x30, x31, rfl⟩ := list32 l h
  obtain ⟨p0, p1, p2, p3⟩ := parts32 x0 x1 x2 x3 x4 x5 x6 x7 x8 x9 x10 x11 x12 x13 x14 x15 x16 x17 x18 x19 x20 x21 x22 x23 x24 x25 x26 x27 x28 x29 x30 x31
  have := unfixed_core ⟨#[x0, x1, x2, x3, x4, x5, x6, x7, x8, x9, x10, x11, x12, x13, x14, x15, x16, x17, x18, x19, x20, x21, x22, x23, x24, x25, x26, x27, x28, x29, x30, x31]⟩ w _ _ _ _ rfl (fun _ _ => rfl) (fun c => rfl) (eight x24 x25 x26 x27 x28 x29 x30 x31) (eight x16 x17 x18 x19 x20 x21 x22 x23) (eight x8 x9 x10 x11 x12 x13 x14 x15) (eight x0 x1 x2 x3 x4 x5 x6 x7)
  rw [← p0, ← p1, ← p2, ← p3] at this
  exact this

theorem unfixed_bad (l : List UInt8) (w : World) (h : ¬ l.length = 32) :
    Calls Tryd.prog 67 #[.string ⟨l.toArray⟩] w fun e w' => e = .returned (.tuple #[wd 0 0 0 0, .int .i64 2]) ∧ Below w.heap.size w w' :=
  unfixed_no _ w (by
    rw [bne_iff_ne]
    intro e
    apply h
    have : (⟨l.toArray⟩ : ByteArray).size = l.length := by simp [ByteArray.size]
    omega)
end Go.Proofs.YtebkmlbpngpmdaaDoor
