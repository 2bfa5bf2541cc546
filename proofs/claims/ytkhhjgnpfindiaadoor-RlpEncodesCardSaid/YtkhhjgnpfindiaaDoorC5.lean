/- The reference's Head. -/
import Derived.Test.YtkhhjgnpfindiaaDoorB2
import Derived.Test.YtkhhjgnpfindiaaDoorC2
import Derived.Laws.BytesArg
namespace Go.Proofs.YtkhhjgnpfindiaaDoor
open Go Go.RowKit

theorem conv_at (xs : List UInt8) (W : World) (b : Nat) (h : ∀ j, j < xs.length → W.cell? ⟨b, j, none⟩ = some (.int .u8 ((xs.getD j 0).toNat : Int))) : (convert 35 9 (.slice (some ⟨b, 0, none⟩) xs.length xs.length)).run Tryd.prog W = .ok (.string ⟨xs.toArray⟩) W := by
  refine run_convert_bytes_back W 35 9 5 ⟨b, 0, none⟩ xs.length xs Tryd.underlying35 Tryd.underlying5 Tryd.underlying9 ?_
  intro j hj
  have e : xs.getD j 0 = xs[j] := by rw [List.getD_eq_getElem?_getD, List.getElem?_eq_getElem hj, Option.getD_some]
  have := h j hj
  rw [e] at this
  by_cases h0 : j = 0
  · subst h0
    simpa [Addr.add] using this
  · simpa [Addr.add, h0] using this
theorem wrap_u8 {a : Int} {c : UInt8} (h : a = (c.toNat : Nat)) : IntKind.u8.wrap a = ((c.toNat : Nat) : Int) := by
  have hc := c.toNat_lt
  rw [h]
  show ((c.toNat : Nat) : Int) % (2 ^ 8 : Int) = _
  omega
theorem ofNat_at {k : Nat} (h : k < 256) : ((UInt8.ofNat k).toNat : Nat) = k := UInt8.toNat_ofNat_of_lt' h

set_option maxRecDepth 100000 in
set_option maxHeartbeats 4000000 in
theorem rhead (n p : Nat) (w : World) (hn : n < 4611686018427387904) (hp : p ≤ 192) :
    Calls Tryd.prog 22 #[.int .i64 (n : Nat), .int .i64 (p : Nat)] w fun e w' => e = .returned (.string ⟨(M.hdL n p).toArray⟩) ∧ Below w.heap.size w w' := by
  have hconv : ∀ (W : World) (b : Nat) (c : UInt8), W.cell? ⟨b, 0, none⟩ = some (.int .u8 (c.toNat : Int)) → (convert 35 9 (.slice (some ⟨b, 0, none⟩) 1 1)).run Tryd.prog W = .ok (.string ⟨#[c]⟩) W := fun W b c h0 => conv_at [c] W b (fun j hj => by match j, hj with | 0, _ => exact h0)
  have HC := Lib.hid hconv
  clear hconv
  by_cases h56 : n < 56
  · obtain ⟨c, hc⟩ : ∃ c : UInt8, c = UInt8.ofNat (p + n) := ⟨_, rfl⟩
    have e : M.hdL n p = [c] := by unfold M.hdL; rw [if_pos h56, hc]
    have hcn : c.toNat = p + n := by rw [hc]; exact ofNat_at (by omega)
    have hw : IntKind.u8.wrap ((p : Int) + (n : Int)) = ((c.toNat : Nat) : Int) := wrap_u8 (by omega)
    have hcv := fun W b => HC.out W b c
    rw [e]
    clear hc e
    go_enter Tryd.func22, Tryd.ntmps22
    go_wp2_with fail
    go_ret
    refine ⟨rfl, ?_⟩
    (repeat (first | exact Below.refl _ _ | refine Below.drew ?_ | refine Below.alloc ?_ (by first | omega | (simp; omega) | simp) _ | refine Below.setCell ?_ (by first | omega | (simp; omega) | simp) _))
  · have e : M.hdL n p = UInt8.ofNat (p + 55 + (M.ben n).length) :: M.ben n := by unfold M.hdL; rw [if_neg h56]
    have hbl := M.ben_le (n := n) (by omega)
    have hbe := fun w => rnbe_any n w (by omega)
    have hbb : M.tr (M.f32 n) = M.ben n := rfl
    rw [hbb] at hbe
    clear hbb
    generalize M.ben n = bn at *
    obtain ⟨c, hc⟩ : ∃ c : UInt8, c = UInt8.ofNat (p + 55 + bn.length) := ⟨_, rfl⟩
    rw [← hc] at e
    have hcn : c.toNat = p + 55 + bn.length := by rw [hc]; exact ofNat_at (by omega)
    have hw : IntKind.u8.wrap ((p : Int) + 55 + (bn.length : Int)) = ((c.toNat : Nat) : Int) := wrap_u8 (by omega)
    have hcv := fun W b => HC.out W b c
    rw [e]
    clear hc e
    have HB := Lib.hid hbe
    clear hbe
    go_enter Tryd.func22, Tryd.ntmps22
    go_wp2_with fail
    refine (HB.out _).mono ?_
    rintro e w1 ⟨rfl, hb1⟩
    go_wp2_with fail
    go_ret
    exact ⟨congrArg (fun b => Ending.returned (.string b)) (cat_eq [c] bn), hb1.alloc hb1.size _⟩
end Go.Proofs.YtkhhjgnpfindiaaDoor
