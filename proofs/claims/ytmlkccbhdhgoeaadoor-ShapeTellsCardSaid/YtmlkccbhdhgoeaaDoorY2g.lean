/- word.Fixed and word.Bytes, where no more of package word is called. -/
import Derived.Test.YtmlkccbhdhgoeaaDoorW6g
import Derived.Test.YtmlkccbhdhgoeaaDoorMM
import Derived.Test.YtmlkccbhdhgoeaaDoorSh
import Derived.Laws.Bits64b
namespace Go.Proofs.YtmlkccbhdhgoeaaDoor
open Go Go.RowKit Go.Shelf

theorem wrap8_nat (n : Nat) : IntKind.u8.wrap (n : Int) = ((n % 256 : Nat) : Int) := by
  show (n : Int) % (2 ^ 8 : Int) = _
  rfl

theorem byte_of (n k : Nat) : UInt8.ofNat (IntKind.u8.wrap ((n : Int) / ((k : Nat) : Int))).toNat = UInt8.ofNat (n / k % 256) := by
  rw [← Int.natCast_ediv, wrap8_nat, Int.toNat_natCast]

theorem be8_bytes {v : Int} (h : 0 ≤ v) : (be8 v).map (fun n => UInt8.ofNat n.toNat) = M.be 8 v.toNat := by
  obtain ⟨n, rfl⟩ := Int.eq_ofNat_of_zero_le h
  rw [Int.toNat_natCast, M.be8_eq]
  simp only [be8, List.map_cons, List.map_nil]
  rw [show (2 : Int) ^ (56 : Int).toNat = ((72057594037927936 : Nat) : Int) from rfl, show (2 : Int) ^ (48 : Int).toNat = ((281474976710656 : Nat) : Int) from rfl, show (2 : Int) ^ (40 : Int).toNat = ((1099511627776 : Nat) : Int) from rfl, show (2 : Int) ^ (32 : Int).toNat = ((4294967296 : Nat) : Int) from rfl, show (2 : Int) ^ (24 : Int).toNat = ((16777216 : Nat) : Int) from rfl, show (2 : Int) ^ (16 : Int).toNat = ((65536 : Nat) : Int) from rfl, show (2 : Int) ^ (8 : Int).toNat = ((256 : Nat) : Int) from rfl, show (2 : Int) ^ (0 : Int).toNat = ((1 : Nat) : Int) from rfl]
  rw [byte_of, byte_of, byte_of, byte_of, byte_of, byte_of, byte_of, byte_of, Nat.div_one]

theorem fixed_any (N : Nat) (w : World) (hN : M.In N) :
    Calls Tryd.prog 74 #[wn N] w fun e w' => e = .returned (.string ⟨(M.f32 N).toArray⟩) ∧ Below w.heap.size w w' := by
  have := callsIn_wide.1 (fixed_in (M.pt 0 N) (M.pt 1 N) (M.pt 2 N) (M.pt 3 N) w)
  have e : strOfNums (be8 (M.pt 3 N) ++ be8 (M.pt 2 N) ++ be8 (M.pt 1 N) ++ be8 (M.pt 0 N)) = ⟨(M.f32 N).toArray⟩ := by
    unfold strOfNums
    rw [List.map_append, List.map_append, List.map_append, be8_bytes (M.pt_nonneg _ _), be8_bytes (M.pt_nonneg _ _), be8_bytes (M.pt_nonneg _ _), be8_bytes (M.pt_nonneg _ _), ← M.f32_parts hN]
  rw [e] at this
  exact this

theorem trimLeft_any (l : List UInt8) (w : World) :
    Calls Tryd.prog 73 #[.string ⟨l.toArray⟩, .string ⟨#[0]⟩] w fun e w' => e = .returned (.string ⟨(M.tr l).toArray⟩) ∧ w = w' :=
  (Any.strings_TrimLeft_one lays161 ⟨l.toArray⟩ 0 (by decide) w).mono fun _ _ ⟨h1, h2⟩ => ⟨h1, h2.symm⟩

theorem bytes_any (N : Nat) (w : World) (hN : M.In N) :
    Calls Tryd.prog 39 #[wn N] w fun e w' => e = .returned (.string ⟨(M.tr (M.f32 N)).toArray⟩) ∧ Below w.heap.size w w' := by
  go_enter Tryd.func39, Tryd.ntmps39
  go_wp2_with fail
  refine (fixed_any N _ hN).mono ?_
  rintro e w1 ⟨rfl, hb⟩
  go_wp2_with fail
  refine (trimLeft_any (M.f32 N) _).mono ?_
  rintro e w2 ⟨rfl, rfl⟩
  go_wp2_with fail
  go_ret
  refine ⟨rfl, Below.trans ?_ (hb.mono (by first | omega | (simp; omega) | simp))⟩
  (repeat (first | exact Below.refl _ _ | refine Below.drew ?_ | refine Below.alloc ?_ (by first | omega | (simp; omega) | simp) _ | refine Below.setCell ?_ (by first | omega | (simp; omega) | simp) _))

theorem small_in {N : Nat} (h : N < 18446744073709551616) : M.pt 0 N = N ∧ M.pt 1 N = 0 ∧ M.pt 2 N = 0 ∧ M.pt 3 N = 0 :=
  M.parts (by omega) (by omega) (by omega) (by omega) (by omega) (by omega) (by omega) (by omega) (by omega)

theorem wn_small (n : Nat) (h : n < 18446744073709551616) : wn n = wd n 0 0 0 := by
  obtain ⟨h0, h1, h2, h3⟩ := small_in h
  unfold wn
  rw [h0, h1, h2, h3]

theorem in_small (n : Nat) (h : n < 18446744073709551616) : M.In n := by unfold M.In; omega

theorem bytes_small (N : Nat) (w : World) (h : N < 18446744073709551616) :
    Calls Tryd.prog 39 #[wd N 0 0 0] w fun e w' => e = .returned (.string ⟨(M.tr (M.f32 N)).toArray⟩) ∧ Below w.heap.size w w' := by
  have := bytes_any N w (in_small N h)
  rwa [wn_small N h] at this

end Go.Proofs.YtmlkccbhdhgoeaaDoor
