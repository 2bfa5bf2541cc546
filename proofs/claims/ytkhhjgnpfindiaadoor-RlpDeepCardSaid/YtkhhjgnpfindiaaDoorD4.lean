/- rlp.Deep and rlp.Size. -/
import Derived.Test.YtkhhjgnpfindiaaDoorD1
import Derived.Test.YtkhhjgnpfindiaaDoorD3
namespace Go.Proofs.YtkhhjgnpfindiaaDoor
open Go Go.RowKit

def deepV : M.It ⊕ List M.It → Nat | .inl x => M.deepI x | .inr xs => M.deepIs xs
def sizeV : M.It ⊕ List M.It → Nat | .inl x => (M.bytesI x).length | .inr xs => (M.bytesIs xs).length
def NumV (f : M.It ⊕ List M.It → Nat) : Nat → Value → World → (M.It ⊕ List M.It) → Prop := fun _ v _ y => v = .int .i64 (f y : Nat)

set_option maxRecDepth 100000 in
set_option maxHeartbeats 4000000 in
theorem deep_folds : Folds 34 35 36 (fun x => M.cntI x ≤ 1000) (fun xs => M.cntIs xs ≤ 1000) (NumV deepV) (NumV deepV) (.int .i64 0) where
  e1 := enters_of Tryd.func34 (by kernel_rfl) rfl
  e2 := enters_of Tryd.func35 (by kernel_rfl) rfl
  e3 := enters_of Tryd.func36 (by kernel_rfl) rfl
  keepA := fun _ _ _ _ _ h _ => h
  monoR := fun _ _ _ _ _ h _ => h
  own := fun _ _ _ _ h k e => by rw [h] at e; cases e
  zero := fun _ _ => rfl
  f1 := fun d ys w _ => by
    go_enter Tryd.func34, Tryd.ntmps34
    go_wp2_with fail
    go_ret
    exact ⟨⟨_, rfl, by simp [NumV, deepV, M.deepI]⟩, Below.refl _ _⟩
  f2 := fun xs x B C v u w hok hv hu hB => by
    unfold NumV at hv hu
    subst hv hu
    have e : M.deepIs (xs ++ [x]) = max (M.deepIs xs) (M.deepI x) := by rw [M.deepIs_append]; simp [M.deepIs]
    unfold NumV deepV
    simp only [e]
    generalize M.deepIs xs = m at *
    generalize M.deepI x = k at *
    clear e
    have e : (max (m : Int) (k : Int)) = ((max m k : Nat) : Int) := by omega
    go_enter Tryd.func35, Tryd.ntmps35
    go_wp2_with fail
    go_ret
    exact ⟨⟨_, rfl, congrArg (Value.int .i64) (by omega)⟩, grown_refl _ _⟩
  f3 := fun d xs B v w hok hv => by
    unfold NumV at hv
    subst hv
    have h1 := M.deepIs_most xs
    rw [M.cntI] at hok
    have h2 : M.deepIs xs ≤ 1000 := by omega
    unfold NumV deepV
    simp only [M.deepI]
    generalize M.deepIs xs = m at *
    go_enter Tryd.func36, Tryd.ntmps36
    go_wp2_with fail
    go_ret
    exact ⟨⟨_, rfl, by simp⟩, Below.refl _ _⟩
  part := fun d xs k x hok h => by
    rw [M.cntI] at hok
    have h1 := M.cntI_part (List.mem_of_getElem? h)
    have h2 := M.cntIs_append (xs.take (k + 1)) (xs.drop (k + 1))
    rw [List.take_append_drop] at h2
    exact ⟨by omega, by omega⟩

set_option maxRecDepth 100000 in
set_option maxHeartbeats 4000000 in
theorem deep_any (l : Bool) (d : List UInt8) (xs : List M.It) (v : Value) (w : World) (hL : Lay w w.heap.size xs v) (hc : M.cntIs xs ≤ 900) :
    Calls Tryd.prog 17 #[iv l d v] w fun e w' => e = .returned (.int .i64 (M.deepI (.mk l d xs) : Nat)) ∧ Below w.heap.size w w' := by
  obtain ⟨a, cap, hv, _, _⟩ := hL.slice
  subst hv
  have hb0 : Below w.heap.size w (w.alloc (.cells #[.bool l, .string ⟨d.toArray⟩, .slice a xs.length cap] 24)) := by (repeat (first | exact Below.refl _ _ | refine Below.drew ?_ | refine Below.alloc ?_ (by first | omega | (simp; omega) | simp) _ | refine Below.setCell ?_ (by first | omega | (simp; omega) | simp) _))
  have hf := fold_any deep_folds l d xs _ _ ((hL.from_ hb0).mono (by simp)) (by omega) (by rw [M.cntI]; omega)
  have HF := Lib.hid hf
  clear hf
  go_enter Tryd.func17, Tryd.ntmps17
  go_wp2_with fail
  refine HF.out.mono ?_
  rintro e w1 ⟨⟨u, rfl, hu⟩, hb1⟩
  rw [show u = _ from hu]
  go_wp2_with fail
  go_ret
  exact ⟨rfl, hb0.trans (hb1.mono (by simp))⟩

set_option maxRecDepth 100000 in
set_option maxHeartbeats 4000000 in
theorem size_folds : Folds 37 38 39 (fun x => (M.bytesI x).length ≤ 4611686018427380000) (fun xs => (M.bytesIs xs).length ≤ 4611686018427380000) (NumV sizeV) (NumV sizeV) (.int .i64 0) where
  e1 := enters_of Tryd.func37 (by kernel_rfl) rfl
  e2 := enters_of Tryd.func38 (by kernel_rfl) rfl
  e3 := enters_of Tryd.func39 (by kernel_rfl) rfl
  keepA := fun _ _ _ _ _ h _ => h
  monoR := fun _ _ _ _ _ h _ => h
  own := fun _ _ _ _ h k e => by rw [h] at e; cases e
  zero := fun _ _ => rfl
  f1 := fun d ys w hok => by
    rw [bytes_hdB, List.length_append] at hok
    have HH := Lib.hid (headOfBytes_any d w (by omega))
    have e : sizeV (.inl (.mk false d ys)) = (hdB d).length + d.length := by unfold sizeV; simp only [bytes_hdB, List.length_append]
    unfold NumV
    simp only [e]
    generalize hdB d = hd at *
    clear e
    go_enter Tryd.func37, Tryd.ntmps37
    go_wp2_with fail
    refine HH.out.mono ?_
    rintro e w1 ⟨⟨u, rfl, hu⟩, hb1⟩
    obtain ⟨a, cap, rfl⟩ := hu.len
    go_wp2_with fail
    go_ret
    exact ⟨⟨_, rfl, by simp⟩, hb1⟩
  f2 := fun xs x B C v u w hok hv hu hB => by
    unfold NumV at hv hu
    subst hv hu
    have e : (M.bytesIs (xs ++ [x])).length = (M.bytesIs xs).length + (M.bytesI x).length := by rw [M.bytesIs_append]; simp [M.bytesIs]
    rw [e] at hok
    unfold NumV sizeV
    simp only [e]
    generalize (M.bytesIs xs).length = m at *
    generalize (M.bytesI x).length = k at *
    clear e
    have hok' : (m : Int) + (k : Int) ≤ 4611686018427380000 := by omega
    go_enter Tryd.func38, Tryd.ntmps38
    go_wp2_with fail
    go_ret
    exact ⟨⟨_, rfl, by simp⟩, grown_refl _ _⟩
  f3 := fun d xs B v w hok hv => by
    unfold NumV at hv
    subst hv
    rw [M.bytesI, List.length_append] at hok
    have HH := Lib.hid (head_any (M.bytesIs xs).length 192 w (by omega) (by omega))
    unfold NumV sizeV
    simp only [M.bytesI, List.length_append]
    generalize M.hdL (M.bytesIs xs).length 192 = hd at *
    generalize (M.bytesIs xs).length = m at *
    have hok' : (hd.length : Int) + (m : Int) ≤ 4611686018427380000 := by omega
    go_enter Tryd.func39, Tryd.ntmps39
    go_wp2_with fail
    refine HH.out.mono ?_
    rintro e w1 ⟨⟨u, rfl, hu⟩, hb1⟩
    obtain ⟨a, cap, rfl⟩ := hu.len
    go_wp2_with fail
    go_ret
    exact ⟨⟨_, rfl, by simp⟩, hb1⟩
  part := fun d xs k x hok h => by
    rw [M.bytesI, List.length_append] at hok
    have h1 := M.part_size xs x (List.mem_of_getElem? h)
    have h2 := M.bytesIs_part xs (k + 1)
    exact ⟨by omega, by omega⟩

set_option maxRecDepth 100000 in
set_option maxHeartbeats 4000000 in
theorem size_any (l : Bool) (d : List UInt8) (xs : List M.It) (v : Value) (w : World) (hL : Lay w w.heap.size xs v) (hc : M.cntIs xs ≤ 1000) (hz : (M.bytesI (.mk l d xs)).length ≤ 4611686018427380000) :
    Calls Tryd.prog 18 #[iv l d v] w fun e w' => e = .returned (.int .i64 ((M.bytesI (.mk l d xs)).length : Nat)) ∧ Below w.heap.size w w' := by
  obtain ⟨a, cap, hv, _, _⟩ := hL.slice
  subst hv
  have hb0 : Below w.heap.size w (w.alloc (.cells #[.bool l, .string ⟨d.toArray⟩, .slice a xs.length cap] 24)) := by (repeat (first | exact Below.refl _ _ | refine Below.drew ?_ | refine Below.alloc ?_ (by first | omega | (simp; omega) | simp) _ | refine Below.setCell ?_ (by first | omega | (simp; omega) | simp) _))
  have hf := fold_any size_folds l d xs _ _ ((hL.from_ hb0).mono (by simp)) hc hz
  have HF := Lib.hid hf
  clear hf
  go_enter Tryd.func18, Tryd.ntmps18
  go_wp2_with fail
  refine HF.out.mono ?_
  rintro e w1 ⟨⟨u, rfl, hu⟩, hb1⟩
  rw [show u = _ from hu]
  go_wp2_with fail
  go_ret
  exact ⟨rfl, hb0.trans (hb1.mono (by simp))⟩
end Go.Proofs.YtkhhjgnpfindiaaDoor
