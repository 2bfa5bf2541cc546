/- keccak.at, the library's rotation, keccak.eachLane and what its function tells. -/
import Derived.Test.YtdfcfpbofomdcaaDoorQ8
namespace Go.Proofs.YtdfcfpbofomdcaaDoor
open Go Go.RowKit Go.Shelf
attribute [local go_sem] Oper.semAt_some

/-- A lane's place. -/
def px (i : Nat) : Nat := i % 5
def py (i : Nat) : Nat := i / 5
theorem at_any (x y p : Nat) (w : World) (hx : x ≤ 100) (hy : y ≤ 100) (hp : x % 5 + 5 * (y % 5) = p) :
    Calls Tryd.prog 28 #[.int .i64 (x : Int), .int .i64 (y : Int)] w fun e w' => e = .returned (.int .i64 (p : Int)) ∧ w = w' := by
  have e : (x : Int) % 5 + 5 * ((y : Int) % 5) = (p : Int) := by omega
  clear hp
  go_enter Tryd.func28, Tryd.ntmps28
  go_wp2_with fail
  go_ret
  exact ⟨rfl, rfl⟩

theorem mask64 : ∀ k : Fin 64, bits .and .u64 ((k.val : Nat) : Int) 63 = ((k.val : Nat) : Int) := by decide +kernel

set_option maxRecDepth 100000 in
set_option maxHeartbeats 2000000 in
theorem rotl (n k : Nat) (w : World) (hn : n < 18446744073709551616) (hk : k < 64) :
    Calls Tryd.prog 29 #[.int .u64 (n : Int), .int .i64 (k : Int)] w fun e w' => e = .returned (.int .u64 ((M.rotN n k : Nat) : Int)) ∧ w = w' := by
  have HN := Lib.hid hn
  have hm := mask64 ⟨k, hk⟩
  simp only at hm
  clear hn
  go_enter Tryd.func29, Tryd.ntmps29
  go_wp2_with fail
  go_ret
  rw [M.rot_model HN.out hk]
  exact ⟨rfl, rfl⟩

theorem lane_in (n : Nat) (a : List Nat) (w : World) :
    CallsIn Fence.wide n Tryd.prog 27 #[st a] w fun e w' =>
      e = .returned (.func (.func 31) #[] #[.pointer (some ⟨w.heap.size, 0, none⟩)]) ∧ w' = w.alloc (.cells (lv a) 23) := by
  refine callsIn_of_wp Tryd.func27 rfl trivial ?_ rfl
  simp only [Tryd.ntmps27, List.size_toArray, List.length_cons, List.length_nil, Nat.reduceAdd, Nat.reduceSub, Array.replicate_succ, Array.replicate_zero, List.push_toArray, List.append_toArray, List.nil_append, List.cons_append]
  gi_wp2
  go_ret
  exact ⟨rfl, rfl⟩

set_option maxRecDepth 100000 in
set_option maxHeartbeats 4000000 in
theorem lanes_run (n : Nat) (a : List Nat) (ha : a.length = 25) (l b : Nat) (J : List Nat → World → Prop) (hJ : ∀ pre W, J pre W → Rw W b 23 a)
    (hY : ∀ i W, i < 25 → J (List.range i) W → YieldAt Fence.wide n Tryd.prog l #[.agg #[.int .i64 ((px i : Nat) : Int), .int .i64 ((py i : Nat) : Int)], .int .u64 ((M.gl a i : Nat) : Int)] W fun e W' => e = .returned (.bool true) ∧ J (List.range (i + 1)) W')
    (W : World) (h0 : J [] W) :
    CallsIn Fence.wide (n + 1) Tryd.prog 31 #[.func (.yield l) #[] #[], .pointer (some ⟨b, 0, none⟩)] W fun e W' => (∃ v, e = .returned v) ∧ J (List.range 25) W' := by
  have HA := Lib.hid ha
  have HJ := Lib.hid hJ
  have HY := Lib.hid hY
  clear ha hJ hY
  have hro : Fence.wide.round = none := rfl
  refine callsIn_of_wp Tryd.func31 rfl trivial ?_ rfl
  simp only [Tryd.ntmps31, List.size_toArray, List.length_cons, List.length_nil, Nat.reduceAdd, Nat.reduceSub, Array.replicate_succ, Array.replicate_zero, List.push_toArray, List.append_toArray, List.nil_append, List.cons_append]
  gi_wp2
  gi_loopw [5] (fun i wr => ∃ y : Nat, y ≤ 5 ∧ i = .int .i64 (y : Int) ∧ J (List.range (5 * y)) wr) (fun i _ => 5 - (intOf i).toNat)
  case atStart => exact ⟨0, Nat.zero_le _, rfl, h0⟩
  case round =>
    obtain ⟨y, hy, rfl, hJs⟩ := hrel
    by_cases hlt : y < 5
    · have hlt' : (y : Int) < 5 := by omega
      gi_wp2
      gi_loopw [8] (fun i wq => ∃ x : Nat, x ≤ 5 ∧ i = .int .i64 (x : Int) ∧ J (List.range (5 * y + x)) wq) (fun i _ => 5 - (intOf i).toNat)
      case atStart => exact ⟨0, Nat.zero_le _, rfl, hJs⟩
      case round =>
        clear hJs
        obtain ⟨x, hx, rfl, hJs⟩ := hrel
        by_cases hltx : x < 5
        · have hltx' : (x : Int) < 5 := by omega
          have hR := HJ.out _ _ hJs
          have hi : 5 * y + x < 25 := by omega
          have cc := hR.cell (i := 5 * y + x) (by rw [HA.out]; exact hi)
          obtain ⟨fn, tmps, asg, body, hyy, hRR⟩ := HY.out (5 * y + x) wr hi hJs
          rw [show px (5 * y + x) = x by unfold px; omega, show py (5 * y + x) = y by unfold py; omega] at hyy
          have HS : Hid (5 * y + x + 1 = 5 * y + (x + 1)) := rfl
          obtain ⟨p, hp⟩ : ∃ p, p = 5 * y + x := ⟨_, rfl⟩
          have hp' := at_any x y p wr (by omega) (by omega) (by omega)
          rw [← hp] at cc hi hRR hyy HS
          have HP := Lib.hid hp
          have hi' : (p : Int) < 25 := by omega
          clear hp
          gi_wp2_with (refine ⟨trivial, ?_⟩; (with_reducible refine (callsIn_wide.2 hp').mono ?_); rintro e w' ⟨rfl, rfl⟩)
          refine hRR.mono ?_
          rintro e W3 ⟨rfl, hJ3⟩
          clear hRR hyy hp' cc hR hJs
          gi_wp2
          go_roundw
          case rel => exact ⟨x + 1, by omega, by simp <;> omega, by rw [← HS.out]; exact hJ3⟩
          case measure => simp [intOf]; omega
        · obtain rfl : x = 5 := by omega
          gi_wp2
          go_roundw
          case rel => exact ⟨y + 1, by omega, by simp <;> omega, hJs⟩
          case measure => simp [intOf]; omega
    · obtain rfl : y = 5 := by omega
      gi_wp2
      go_end0
      exact ⟨⟨_, rfl⟩, hJs⟩
end Go.Proofs.YtdfcfpbofomdcaaDoor
