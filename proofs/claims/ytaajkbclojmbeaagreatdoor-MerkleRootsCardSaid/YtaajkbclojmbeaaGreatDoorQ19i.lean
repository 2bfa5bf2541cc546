/- The library's Chunk: blocks of 136 bytes. -/
import Derived.Test.YtaajkbclojmbeaaGreatDoorI15
import Derived.IntWalk
namespace Go.Proofs.YtaajkbclojmbeaaGreatDoor
open Go Go.RowKit Go.Shelf
attribute [local go_sem] Oper.semAt_some

theorem chunk_in (n len cap : Nat) (A : Option Addr) (w : World) :
    CallsIn Fence.wide n Tryz.prog 29 #[.slice A len cap, .int .i64 136] w fun e w' =>
      e = .returned (.func (.func 63) #[] #[.pointer (some ⟨w.heap.size, 0, none⟩), .pointer (some ⟨w.heap.size + 1, 0, none⟩)]) ∧ w' = (w.alloc (.cells #[.slice A len cap] 41)).alloc (.cells #[.int .i64 136] 3) := by
  refine callsIn_of_wp Tryz.func29 rfl trivial ?_ rfl
  simp only [Tryz.ntmps29, List.size_toArray, List.length_cons, List.length_nil, Nat.reduceAdd, Nat.reduceSub, Array.replicate_succ, Array.replicate_zero, List.push_toArray, List.append_toArray, List.nil_append, List.cons_append]
  gi_wp2
  go_ret
  exact ⟨rfl, rfl⟩

set_option maxRecDepth 100000 in
set_option maxHeartbeats 4000000 in
theorem chunk_run (n K len cap g : Nat) (hlen : len = 136 * K) (hcap : len ≤ cap) (hmax : cap ≤ maxLen) (l bs bn : Nat) (J : List Nat → World → Prop)
    (hJ : ∀ pre W, J pre W → W.cell? ⟨bs, 0, none⟩ = some (.slice (some ⟨g, 0, none⟩) len cap) ∧ W.cell? ⟨bn, 0, none⟩ = some (.int .i64 136)) (hd : ∀ pre W, J pre W → J pre W.drew)
    (hY : ∀ j W, j < K → J (List.range j) W → YieldAt Fence.wide n Tryz.prog l #[.slice (some ⟨g, 136 * j, none⟩) 136 136] W fun e W' => e = .returned (.bool true) ∧ J (List.range (j + 1)) W')
    (W : World) (h0 : J [] W) :
    CallsIn Fence.wide (n + 1) Tryz.prog 63 #[.func (.yield l) #[] #[], .pointer (some ⟨bs, 0, none⟩), .pointer (some ⟨bn, 0, none⟩)] W fun e W' => (∃ v, e = .returned v) ∧ J (List.range K) W' := by
  unfold maxLen at hmax
  have HL := Lib.hid hlen
  have HJ := Lib.hid hJ
  have HY := Lib.hid hY
  have HD := Lib.hid hd
  clear hlen hJ hY hd
  have hro : Fence.wide.round = none := rfl
  have mixed : Tryz.prog.follows .mixedOrders = true := by kernel_rfl
  refine callsIn_of_wp Tryz.func63 rfl trivial ?_ rfl
  simp only [Tryz.ntmps63, List.size_toArray, List.length_cons, List.length_nil, Nat.reduceAdd, Nat.reduceSub, Array.replicate_succ, Array.replicate_zero, List.push_toArray, List.append_toArray, List.nil_append, List.cons_append]
  gi_wp2
  gi_loopw [4] (fun i wr => ∃ j : Nat, j ≤ K ∧ i = .int .i64 ((136 * j : Nat) : Int) ∧ J (List.range j) wr) (fun i _ => 136 * K - (intOf i).toNat)
  case atStart => exact ⟨0, Nat.zero_le _, rfl, h0⟩
  case round =>
    obtain ⟨j, hj, rfl, hJs⟩ := hrel
    obtain ⟨c1, c2⟩ := HJ.out _ _ hJs
    obtain ⟨i, hi⟩ : ∃ i, i = 136 * j := ⟨_, rfl⟩
    by_cases hlt : j < K
    · have hil : (i : Int) < len := by have := HL.out; omega
      have hil2 : (i : Int) + 136 ≤ len := by have := HL.out; omega
      have hic : ¬ cap = i := by omega
      have hi1 : (i : Int) ≤ (cap : Int) := by omega
      have hi2 : (i : Int) ≤ (len : Int) := by omega
      have hi3 : (len : Int) ≤ (cap : Int) := by omega
      have h136 : (136 : Int) ≤ ((len - i : Nat) : Int) := by omega
      rw [← hi]
      have HI := Lib.hid hi
      clear hi
      gi_wp2
      refine wpIn_wide.2 ?_
      go_still mixed
      have hnm : ¬ (((len - i : Nat) : Int) < 136) := by omega
      have hmn : min (136 : Int) ((len - i : Nat) : Int) = 136 := by omega
      first | simp only [if_neg hnm] | simp only [hmn]
      clear hnm hmn
      change Exit.then _ _ _ _ wr.drew
      obtain ⟨fn, tmps, asg, body, hyy, hRR⟩ := HY.out j wr.drew hlt (HD.out _ _ hJs)
      rw [← HI.out] at hyy
      gi_wp2
      refine hRR.mono ?_
      rintro e W3 ⟨rfl, hJ3⟩
      clear hRR hyy c1 c2 hJs
      obtain ⟨c1, c2⟩ := HJ.out _ _ hJ3
      have hi5 : (i : Int) + 136 ≤ 9223372036854775807 := by omega
      gi_wp2
      go_roundw
      case rel => exact ⟨j + 1, by omega, by have := HI.out; congr 1; omega, hJ3⟩
      case measure => have := HI.out; have := HL.out; simp [intOf]; omega
    · obtain rfl : j = K := by omega
      have hil : (i : Int) = len := by have := HL.out; omega
      rw [← hi]
      obtain rfl : i = len := by omega
      clear hi hil
      gi_wp2
      go_end0
      exact ⟨⟨_, rfl⟩, hJs⟩
end Go.Proofs.YtaajkbclojmbeaaGreatDoor
