/- rlp.faultOf, rlp.giveUp. -/
import Derived.Test.YtebkmlbpngpmdaaDoorC1g
namespace Go.Proofs.YtebkmlbpngpmdaaDoor
open Go Go.RowKit

/-- What is wrong with an item by itself. -/
def fltN (l : Bool) (d : List UInt8) (n dd : Nat) : Nat := if (l = true ∧ d ≠ []) ∨ (l = false ∧ 0 < n) then 2 else if l = true ∧ 12 ≤ dd then 7 else if 512 < n then 5 else 0
theorem formI_flt (l : Bool) (d : List UInt8) (xs : List M.It) (dd : Nat) : M.formI dd (.mk l d xs) = if fltN l d xs.length dd ≠ 0 then fltN l d xs.length dd else M.formIs (dd + 1) xs := by
  rw [M.formI]
  unfold fltN
  have hx : xs ≠ [] ↔ 0 < xs.length := by rw [← List.length_pos_iff]
  cases l with
  | false =>
    cases xs with
    | nil => simp [M.formIs]
    | cons x xs => simp
  | true =>
    by_cases hd : d = []
    · subst hd
      by_cases h12 : 12 ≤ dd
      · simp [h12]
      · by_cases h5 : 512 < xs.length
        · simp [h12, h5]
        · simp [h12, h5]
    · simp [hd]

set_option maxRecDepth 100000 in
set_option maxHeartbeats 4000000 in
theorem fault_any (l : Bool) (d : List UInt8) (n dd cap : Nat) (a : Option Addr) (w : World) (hn : n ≤ 4000) (hd : dd ≤ 4000) :
    Calls Tryd.prog 52 #[iv l d (.slice a n cap), .int .i64 (dd : Nat)] w fun e w' => e = .returned (.int .i64 (fltN l d n dd : Nat)) ∧ Below w.heap.size w w' := by
  have hb0 : Below w.heap.size w (w.alloc (.cells #[.bool l, .string ⟨d.toArray⟩, .slice a n cap] 30)) := by (repeat (first | exact Below.refl _ _ | refine Below.drew ?_ | refine Below.alloc ?_ (by first | omega | (simp; omega) | simp) _ | refine Below.setCell ?_ (by first | omega | (simp; omega) | simp) _))
  cases l with
  | true =>
    by_cases hde : d = []
    · subst hde
      by_cases h12 : 12 ≤ dd
      · have e : fltN true [] n dd = 7 := by simp [fltN, h12]
        rw [e]
        go_enter Tryd.func52, Tryd.ntmps52
        go_wp2_with fail
        go_ret
        exact ⟨rfl, hb0⟩
      · by_cases h512 : 512 < n
        · have e : fltN true [] n dd = 5 := by simp [fltN, h12, h512]
          rw [e]
          go_enter Tryd.func52, Tryd.ntmps52
          go_wp2_with fail
          go_ret
          exact ⟨rfl, hb0⟩
        · have e : fltN true [] n dd = 0 := by simp [fltN, h12, h512]
          rw [e]
          go_enter Tryd.func52, Tryd.ntmps52
          go_wp2_with fail
          go_ret
          exact ⟨rfl, hb0⟩
    · have e : fltN true d n dd = 2 := by simp [fltN, hde]
      rw [e]
      have hdm : (!d.isEmpty) = true := by cases d with | nil => exact absurd rfl hde | cons => rfl
      go_enter Tryd.func52, Tryd.ntmps52
      go_wp2_with fail
      go_ret
      exact ⟨rfl, hb0⟩
  | false =>
    by_cases hx : n = 0
    · subst hx
      have e : fltN false d 0 dd = 0 := by simp [fltN]
      rw [e]
      go_enter Tryd.func52, Tryd.ntmps52
      go_wp2_with fail
      go_ret
      exact ⟨rfl, hb0⟩
    · have hp : 0 < n := by omega
      have e : fltN false d n dd = 2 := by simp [fltN, hp]
      rw [e]
      go_enter Tryd.func52, Tryd.ntmps52
      go_wp2_with fail
      go_ret
      exact ⟨rfl, hb0⟩

/-- What a panic with an error leaves. -/
abbrev pan (q : Nat) : Ending := .panicked [{ v := .iface 39 (.int .i64 (q : Nat)), recovered := false }]
/-- Back, or a panic. -/
def orPan (q : Nat) : Ending := if q = 0 then .returned (.tuple #[]) else pan q

set_option maxRecDepth 100000 in
set_option maxHeartbeats 4000000 in
theorem giveUp_any (q : Nat) (w : World) (hq : q ≤ 100) :
    Calls Tryd.prog 51 #[.int .i64 (q : Nat)] w fun e w' => e = orPan q ∧ w' = w := by
  unfold orPan
  have hpan : ∀ (t : TypeId) (v : Value) (w : World), (Instr.panic (.iface t v)).run Tryd.prog w = .halt (.panic (.iface t v)) w := fun _ _ _ => rfl
  by_cases h : q = 0
  · subst h
    go_enter Tryd.func51, Tryd.ntmps51
    go_wp2_with fail
    go_end0
    exact ⟨rfl, rfl⟩
  · rw [if_neg h]
    have hne : ((q : Int) != 0) = true := by rw [bne_iff_ne]; omega
    go_enter Tryd.func51, Tryd.ntmps51
    go_wp2_with fail
    exact ⟨rfl, rfl, rfl⟩
end Go.Proofs.YtebkmlbpngpmdaaDoor
