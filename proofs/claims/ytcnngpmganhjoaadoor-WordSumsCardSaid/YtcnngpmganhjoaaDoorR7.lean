/- The reference's Less. -/
import Derived.Test.YtcnngpmganhjoaaDoorR6
namespace Go.Proofs.YtcnngpmganhjoaaDoor
open Go Go.RowKit

theorem dg_lt (N k : Nat) : (0 : Int) ≤ ((N / 256 ^ k % 256 : Nat) : Int) ∧ ((N / 256 ^ k % 256 : Nat) : Int) < 256 := by omega

theorem less_same {A B k : Nat} (hk : k < 32) (h : A / 256 ^ (32 - k) = B / 256 ^ (32 - k)) (hd : ((A / 256 ^ (31 - k) % 256 : Nat) : Int) = ((B / 256 ^ (31 - k) % 256 : Nat) : Int)) : A / 256 ^ (32 - (k + 1)) = B / 256 ^ (32 - (k + 1)) := by
  have e : 32 - k = (31 - k) + 1 := by omega
  rw [e, Nat.pow_succ, ← Nat.div_div_eq_div_mul, ← Nat.div_div_eq_div_mul] at h
  rw [show 32 - (k + 1) = 31 - k by omega]
  omega
theorem less_diff {A B k : Nat} (hk : k < 32) (h : A / 256 ^ (32 - k) = B / 256 ^ (32 - k)) (hd : ¬ ((A / 256 ^ (31 - k) % 256 : Nat) : Int) = ((B / 256 ^ (31 - k) % 256 : Nat) : Int)) : (((A / 256 ^ (31 - k) % 256 : Nat) : Int) < ((B / 256 ^ (31 - k) % 256 : Nat) : Int)) ↔ A < B := by
  have e : 32 - k = (31 - k) + 1 := by omega
  rw [e, Nat.pow_succ, ← Nat.div_div_eq_div_mul, ← Nat.div_div_eq_div_mul] at h
  generalize hp : 256 ^ (31 - k) = p at *
  have hp0 : 0 < p := by rw [← hp]; exact Nat.pow_pos (by omega)
  have key : A / p < B / p ↔ A < B := by
    constructor
    · intro hl
      rcases Nat.lt_or_ge A B with h' | h'
      · exact h'
      · have := Nat.div_le_div_right (c := p) h'
        omega
    · intro hl
      have := Nat.div_le_div_right (c := p) (Nat.le_of_lt hl)
      omega
  omega
theorem less_end {A B : Nat} (h : A / 256 ^ (32 - 32) = B / 256 ^ (32 - 32)) : decide (A < B) = false := by
  simp at h
  simp [h]

set_option maxRecDepth 100000 in
set_option maxHeartbeats 4000000 in
theorem rless_any (A B : Nat) (w : World) (hAB : Hid (A / 256 ^ 32 = B / 256 ^ 32)) :
    Calls Tryd.prog 14 #[wn A, wn B] w fun e w' => e = .returned (.bool (decide (A < B))) ∧ Below w.heap.size w w' := by
  go_enter Tryd.func14, Tryd.ntmps14
  go_wp2_with fail
  go_loopw [5] (fun i wr => ∃ k : Nat, k ≤ 32 ∧ i = .int .i64 (31 - (k : Int)) ∧ Hid (A / 256 ^ (32 - k) = B / 256 ^ (32 - k)) ∧ W4 wr w.heap.size (M.pt 0 A) (M.pt 1 A) (M.pt 2 A) (M.pt 3 A) ∧ W4 wr (w.heap.size + 1) (M.pt 0 B) (M.pt 1 B) (M.pt 2 B) (M.pt 3 B) ∧ Below w.heap.size w wr)
    (fun i _ => (intOf i + 1).toNat)
  case atStart =>
    refine ⟨0, by omega, rfl, hAB, W4.below (W4.new _ _ _ _ _ _) ((Below.refl _ _).alloc (Nat.le_refl _) _), ?_, ?_⟩
    · have := W4.new (w.alloc (.cells #[.int .u64 (M.pt 0 A), .int .u64 (M.pt 1 A), .int .u64 (M.pt 2 A), .int .u64 (M.pt 3 A)] 24)) (M.pt 0 B) (M.pt 1 B) (M.pt 2 B) (M.pt 3 B) 24
      rw [World.size_alloc] at this
      exact this
    · (repeat (first | exact Below.refl _ _ | refine Below.drew ?_ | refine Below.alloc ?_ (by first | omega | (simp; omega) | simp) _ | refine Below.setCell ?_ (by first | omega | (simp; omega) | simp) _))
  case round =>
    obtain ⟨k, hk, rfl, hS, H1, H2, LW⟩ := hrel
    by_cases hlt : k < 32
    · have hp : (0 : Int) ≤ 31 - (k : Int) := by omega
      go_wp2_with fail
      have hS2 : S2 (fun W => Below w.heap.size w W) w.heap.size (w.heap.size + 1) (M.pt 0 A) (M.pt 1 A) (M.pt 2 A) (M.pt 3 A) (M.pt 0 B) (M.pt 1 B) (M.pt 2 B) (M.pt 3 B) wr := ⟨H1, H2, LW, fun _ _ h hb => h.trans (hb.mono h.size)⟩
      have hx : Hid (∀ w : World, Calls Tryd.prog 29 #[wn A, .int .i64 (31 - (k : Int))] w fun e w' => e = .returned (.int .i64 ((A / 256 ^ (31 - k) % 256 : Nat) : Int)) ∧ Below w.heap.size w w') := fun w => by
        have := digit_at A (31 - (k : Int)) w (by omega) (by omega)
        rw [show (31 - (k : Int)).toNat = 31 - k by omega] at this
        exact this
      have hy : Hid (∀ w : World, Calls Tryd.prog 29 #[wn B, .int .i64 (31 - (k : Int))] w fun e w' => e = .returned (.int .i64 ((B / 256 ^ (31 - k) % 256 : Nat) : Int)) ∧ Below w.heap.size w w') := fun w => by
        have := digit_at B (31 - (k : Int)) w (by omega) (by omega)
        rw [show (31 - (k : Int)).toNat = 31 - k by omega] at this
        exact this
      clear H1 H2 LW
      have hsame := Lib.hid (less_same hlt hS.out)
      have hdiff := Lib.hid (less_diff hlt hS.out)
      clear hS
      generalize ((A / 256 ^ (31 - k) % 256 : Nat) : Int) = x at hx hsame hdiff
      generalize ((B / 256 ^ (31 - k) % 256 : Nat) : Int) = y at hy hsame hdiff
      refine Code.wp_mono ?_ (rlessa_wp _ _ w.heap.size (w.heap.size + 1) _ _ _ _ _ _ _ _ (31 - (k : Int)) x y hx hy _ _ _ _ _ _ _ _ _ _ _ _ _ _ _ _ _ _ _ _ _ _ (by kernel_rfl) hS2)
      clear hS2
      rintro _ b U ⟨rfl, rfl, hU⟩
      by_cases hd : x = y
      · have hS2 := Lib.hid (hsame.out hd)
        have hne : (x != y) = false := by simp [hd]
        obtain ⟨H1, H2, LW, _⟩ := hU
        clear hx hy hsame hdiff hd
        go_wp2_with fail
        refine ⟨⟨k + 1, by omega, by congr 1; omega, hS2, H1, H2, LW⟩, by simp [intOf]; omega⟩
      · have hne : (x != y) = true := by simp [hd]
        have hl := Lib.hid (hdiff.out hd)
        clear hsame hdiff hd
        go_wp2_with fail
        refine Code.wp_mono ?_ (rlessb_wp _ _ w.heap.size (w.heap.size + 1) _ _ _ _ _ _ _ _ (31 - (k : Int)) x y hx hy _ _ _ _ _ _ _ _ _ _ _ _ _ _ _ _ _ _ _ _ _ _ (by kernel_rfl) hU)
        rintro _ b U' ⟨rfl, rfl, hU'⟩
        clear hx hy hU
        obtain ⟨_, _, LW, _⟩ := hU'
        go_wp2_with fail
        go_ret
        exact ⟨congrArg (fun b => Ending.returned (Value.bool b)) (decide_eq_decide.2 hl.out), LW⟩
    · obtain rfl : k = 32 := by omega
      go_wp2_with fail
      go_ret
      rw [less_end hS.out]
      exact ⟨rfl, LW⟩
end Go.Proofs.YtcnngpmganhjoaaDoor
