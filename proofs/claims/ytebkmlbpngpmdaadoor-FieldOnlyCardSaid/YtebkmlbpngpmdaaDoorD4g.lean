/- rlp.Deep and rlp.Size. -/
import Derived.Test.YtebkmlbpngpmdaaDoorD1g
import Derived.Test.YtebkmlbpngpmdaaDoorD3g
namespace Go.Proofs.YtebkmlbpngpmdaaDoor
open Go Go.RowKit

def sizeV : M.It ⊕ List M.It → Nat | .inl x => (M.bytesI x).length | .inr xs => (M.bytesIs xs).length
def NumV (f : M.It ⊕ List M.It → Nat) : Nat → Value → World → (M.It ⊕ List M.It) → Prop := fun _ v _ y => v = .int .i64 (f y : Nat)

set_option maxRecDepth 100000 in
set_option maxHeartbeats 4000000 in
theorem size_folds : Folds 70 72 73 (fun x => (M.bytesI x).length ≤ 4611686018427380000) (fun xs => (M.bytesIs xs).length ≤ 4611686018427380000) (NumV sizeV) (NumV sizeV) (.int .i64 0) where
  e1 := enters_of Tryd.func70 (by kernel_rfl) rfl
  e2 := enters_of Tryd.func72 (by kernel_rfl) rfl
  e3 := enters_of Tryd.func73 (by kernel_rfl) rfl
  keepA := fun _ _ _ _ _ h _ => h
  monoR := fun _ _ _ _ _ h _ => h
  own := fun _ _ _ _ h k e => by rw [h] at e; cases e
  zero := fun _ _ => rfl
  f1 := fun d ys w hok => by
    rw [bytes_hdB, List.length_append] at hok
    have HH := Lib.hid (headOfBytes_any d w (by omega))
    have e : sizeV (.inl (.mk false d ys)) = (hdB d).length + d.length := by unfold sizeV; simp only [bytes_hdB, List.length_append]
    unfold NumV
    simp only [e]
    generalize hdB d = hd at *
    clear e
    go_enter Tryd.func70, Tryd.ntmps70
    go_wp2_with fail
    refine HH.out.mono ?_
    rintro e w1 ⟨⟨u, rfl, hu⟩, hb1⟩
    obtain ⟨a, cap, rfl⟩ := hu.len
    go_wp2_with fail
    go_ret
    exact ⟨⟨_, rfl, by simp⟩, hb1⟩
  f2 := fun xs x B C v u w hok hv hu hB => by
    unfold NumV at hv hu
    subst hv hu
    have e : (M.bytesIs (xs ++ [x])).length = (M.bytesIs xs).length + (M.bytesI x).length := by rw [M.bytesIs_append]; simp [M.bytesIs]
    rw [e] at hok
    unfold NumV sizeV
    simp only [e]
    generalize (M.bytesIs xs).length = m at *
    generalize (M.bytesI x).length = k at *
    clear e
    have hok' : (m : Int) + (k : Int) ≤ 4611686018427380000 := by omega
    go_enter Tryd.func72, Tryd.ntmps72
    go_wp2_with fail
    go_ret
    exact ⟨⟨_, rfl, by simp⟩, grown_refl _ _⟩
  f3 := fun d xs B v w hok hv => by
    unfold NumV at hv
    subst hv
    rw [M.bytesI, List.length_append] at hok
    have HH := Lib.hid (head_any (M.bytesIs xs).length 192 w (by omega) (by omega))
    unfold NumV sizeV
    simp only [M.bytesI, List.length_append]
    generalize M.hdL (M.bytesIs xs).length 192 = hd at *
    generalize (M.bytesIs xs).length = m at *
    have hok' : (hd.length : Int) + (m : Int) ≤ 4611686018427380000 := by omega
    go_enter Tryd.func73, Tryd.ntmps73
    go_wp2_with fail
    refine HH.out.mono ?_
    rintro e w1 ⟨⟨u, rfl, hu⟩, hb1⟩
    obtain ⟨a, cap, rfl⟩ := hu.len
    go_wp2_with fail
    go_ret
    exact ⟨⟨_, rfl, by simp⟩, hb1⟩
  part := fun d xs k x hok h => by
    rw [M.bytesI, List.length_append] at hok
    have h1 := M.part_size xs x (List.mem_of_getElem? h)
    have h2 := M.bytesIs_part xs (k + 1)
    exact ⟨by omega, by omega⟩

set_option maxRecDepth 100000 in
set_option maxHeartbeats 4000000 in
theorem size_any (l : Bool) (d : List UInt8) (xs : List M.It) (v : Value) (w : World) (hL : Lay w w.heap.size xs v) (hc : M.cntIs xs ≤ 4000) (hz : (M.bytesI (.mk l d xs)).length ≤ 4611686018427380000) :
    Calls Tryd.prog 53 #[iv l d v] w fun e w' => e = .returned (.int .i64 ((M.bytesI (.mk l d xs)).length : Nat)) ∧ Below w.heap.size w w' := by
  obtain ⟨a, cap, hv, _, _⟩ := hL.slice
  subst hv
  have hb0 : Below w.heap.size w (w.alloc (.cells #[.bool l, .string ⟨d.toArray⟩, .slice a xs.length cap] 30)) := by (repeat (first | exact Below.refl _ _ | refine Below.drew ?_ | refine Below.alloc ?_ (by first | omega | (simp; omega) | simp) _ | refine Below.setCell ?_ (by first | omega | (simp; omega) | simp) _))
  have hf := fold_any size_folds l d xs _ _ ((hL.from_ hb0).mono (by simp)) hc hz
  have HF := Lib.hid hf
  clear hf
  go_enter Tryd.func53, Tryd.ntmps53
  go_wp2_with fail
  refine HF.out.mono ?_
  rintro e w1 ⟨⟨u, rfl, hu⟩, hb1⟩
  rw [show u = _ from hu]
  go_wp2_with fail
  go_ret
  exact ⟨rfl, hb0.trans (hb1.mono (by simp))⟩
end Go.Proofs.YtebkmlbpngpmdaaDoor
