/- num.faultAt, and the function by which an error is told. -/
import Derived.Test.YtmcchfgblecgoaaDoorN1
import Derived.Test.YtmcchfgblecgoaaDoorM5
import Derived.Test.YtmcchfgblecgoaaDoorW1
namespace Go.Proofs.YtmcchfgblecgoaaDoor
open Go Go.RowKit Go.Shelf

theorem fault_short (l : List UInt8) (i : Nat) (w : World) (h : l.length ≤ i) :
    Calls Tryd.prog 33 #[.string ⟨l.toArray⟩, .int .i64 i] w fun e w' => e = .returned (.int .i64 3) ∧ w = w' := by
  go_enter Tryd.func33, Tryd.ntmps33
  go_wp2_with fail
  go_ret
  exact ⟨rfl, rfl⟩

set_option maxHeartbeats 1000000 in
theorem fault_in (l : List UInt8) (i : Nat) (c : UInt8) (r : Int) (w : World) (h : i < l.length) (hc : (⟨l.toArray⟩ : ByteArray)[i]'(by simpa [ByteArray.size] using h) = c)
    (hr : (i = 9 → 1 < c.toNat → r = 5) ∧ (¬ (i = 9 ∧ 1 < c.toNat) → 0 < i → c.toNat = 0 → r = 8) ∧ (¬ (i = 9 ∧ 1 < c.toNat) → ¬ (0 < i ∧ c.toNat = 0) → r = 0)) :
    Calls Tryd.prog 33 #[.string ⟨l.toArray⟩, .int .i64 i] w fun e w' => e = .returned (.int .i64 r) ∧ w = w' := by
  have HR := Lib.hid hr
  clear hr
  by_cases h9 : i = 9
  · subst h9
    go_enter Tryd.func33, Tryd.ntmps33
    go_wp2_with fail
    all_goals go_ret
    all_goals refine ⟨congrArg (fun r => Ending.returned (Value.int .i64 r)) (Eq.symm ?_), rfl⟩
    · exact HR.out.1 (by trivial) (by omega)
    · rename_i hz
      replace hz : c.toNat = 0 := by simpa using hz
      exact HR.out.2.1 (by omega) (by omega) hz
    · rename_i hz
      replace hz : ¬ c.toNat = 0 := by simpa using hz
      exact HR.out.2.2 (by omega) (by omega)
  · have hb : ((i : Int) == 9) = false := by simp; omega
    by_cases h0 : 0 < i
    · go_enter Tryd.func33, Tryd.ntmps33
      go_wp2_with fail
      all_goals go_ret
      all_goals refine ⟨congrArg (fun r => Ending.returned (Value.int .i64 r)) (Eq.symm ?_), rfl⟩
      · rename_i hz
        replace hz : c.toNat = 0 := by simpa using hz
        exact HR.out.2.1 (by omega) (by omega) hz
      · rename_i hz
        replace hz : ¬ c.toNat = 0 := by simpa using hz
        exact HR.out.2.2 (by omega) (by omega)
    · go_enter Tryd.func33, Tryd.ntmps33
      go_wp2_with fail
      go_ret
      refine ⟨congrArg (fun r => Ending.returned (Value.int .i64 r)) (Eq.symm ?_), rfl⟩
      exact HR.out.2.2 (by omega) (by omega)

theorem fault_any (l : List UInt8) (i : Nat) (w : World) :
    Calls Tryd.prog 33 #[.string ⟨l.toArray⟩, .int .i64 i] w fun e w' => e = .returned (.int .i64 (M.ft l i : Nat)) ∧ w = w' := by
  by_cases h : i < l.length
  · refine fault_in l i l[i] _ w h rfl ⟨?_, ?_, ?_⟩
    · intro h1 h2
      simp only [M.ft, M.ftc, List.getElem?_eq_getElem h]
      rw [if_pos ⟨h1, h2⟩]
      rfl
    · intro h1 h2 h3
      simp only [M.ft, M.ftc, List.getElem?_eq_getElem h]
      rw [if_neg h1, if_pos ⟨h2, h3⟩]
      rfl
    · intro h1 h2
      simp only [M.ft, M.ftc, List.getElem?_eq_getElem h]
      rw [if_neg h1, if_neg h2]
      rfl
  · have e : M.ft l i = 3 := by simp [M.ft, M.ftc, List.getElem?_eq_none (Nat.not_lt.1 h)]
    rw [e]
    exact fault_short l i w (by omega)

theorem tell_any (n : Nat) (e : Int) (b : Nat) (u : Value) (w : World) (hc : w.cell? ⟨b, 0, none⟩ = some u) (hf : w.frozen? ⟨b, 0, none⟩ = false) :
    CallsIn Fence.wide n Tryd.prog 23 #[.int .i64 e, .pointer (some ⟨b, 0, none⟩)] w fun e' w' => (∃ v, e' = .returned v) ∧ w' = w.setCell ⟨b, 0, none⟩ (.int .i64 e) := by
  refine callsIn_of_wp Tryd.func23 rfl trivial ?_ rfl
  simp only [Tryd.ntmps23, List.size_toArray, List.length_cons, List.length_nil, Nat.reduceAdd, Nat.reduceSub, Array.replicate_succ, Array.replicate_zero, List.push_toArray, List.append_toArray, List.nil_append, List.cons_append]
  gi_wp2
  go_end0
  exact ⟨⟨_, rfl⟩, rfl⟩

theorem undigits_in (n : Nat) (s : ByteArray) (f : Fn) (us vs : Array Value) (w : World) :
    CallsIn Fence.wide n Tryd.prog 24 #[.string s, .func f us vs] w fun e w' =>
      e = .returned (.func (.func 32) #[] #[.pointer (some ⟨w.heap.size, 0, none⟩), .pointer (some ⟨w.heap.size + 1, 0, none⟩)]) ∧ w' = (w.alloc (.cells #[.string s] 9)).alloc (.cells #[.func f us vs] 48) := by
  refine callsIn_of_wp Tryd.func24 rfl trivial ?_ rfl
  simp only [Tryd.ntmps24, List.size_toArray, List.length_cons, List.length_nil, Nat.reduceAdd, Nat.reduceSub, Array.replicate_succ, Array.replicate_zero, List.push_toArray, List.append_toArray, List.nil_append, List.cons_append]
  gi_wp2
  go_ret
  exact ⟨rfl, rfl⟩
end Go.Proofs.YtmcchfgblecgoaaDoor
