/- The reference's Bytes. -/
import Derived.Test.YtkhhjgnpfindiaaDoorC5
namespace Go.Proofs.YtkhhjgnpfindiaaDoor
open Go Go.RowKit

theorem rcat {d c : List UInt8} : (Value.string ((⟨d.toArray⟩ : ByteArray) ++ (⟨c.toArray⟩ : ByteArray))) = .string ⟨(d ++ c).toArray⟩ := congrArg Value.string (cat_eq d c)

set_option maxRecDepth 100000 in
set_option maxHeartbeats 4000000 in
theorem rbytes_n (n : Nat) : ∀ (l : Bool) (d : List UInt8) (xs : List M.It) (v : Value) (w : World), SizeOf.sizeOf xs ≤ n → Lay w w.heap.size xs v → M.cntIs xs ≤ 1000 → (M.bytesI (.mk l d xs)).length ≤ 4611686018427380000 →
    Calls Tryd.prog 12 #[iv l d v] w fun e w' => e = .returned (.string ⟨(M.bytesI (.mk l d xs)).toArray⟩) ∧ Below w.heap.size w w' := by
  induction n with
  | zero => intro l d xs v w h; cases xs <;> simp at h
  | succ n ih =>
    intro l d xs v w hs hL hc hsz0
    have hb0 : Below w.heap.size w (w.alloc (.cells #[.bool l, .string ⟨d.toArray⟩, v] 24)) := by (repeat (first | exact Below.refl _ _ | refine Below.drew ?_ | refine Below.alloc ?_ (by first | omega | (simp; omega) | simp) _ | refine Below.setCell ?_ (by first | omega | (simp; omega) | simp) _))
    cases l with
    | false =>
      by_cases h1 : d.length = 1
      · obtain ⟨c, rfl⟩ : ∃ c, d = [c] := by match d, h1 with | [c], _ => exact ⟨c, rfl⟩
        have hx : (⟨#[c]⟩ : ByteArray)[0]'(Nat.one_pos) = c := rfl
        by_cases hc : c.toNat < 128
        · have e : M.bytesI (.mk false [c] xs) = [c] := by rw [M.bytesI]; simp [hc]
          rw [e]
          go_enter Tryd.func12, Tryd.ntmps12
          go_wp2_with fail
          go_ret
          exact ⟨rfl, hb0⟩
        · have e : M.bytesI (.mk false [c] xs) = M.hdL 1 128 ++ [c] := by rw [M.bytesI]; simp [hc]
          have h9 := (M.hdL_9 (n := 1) (p := 128) (by omega)).2
          rw [e]
          have HH : Hid (∀ w, Calls Tryd.prog 22 #[.int .i64 1, .int .i64 128] w fun e w' => e = .returned (.string ⟨(M.hdL 1 128).toArray⟩) ∧ Below w.heap.size w w') := fun w => rhead 1 128 w (by omega) (by omega)
          generalize M.hdL 1 128 = hd at *
          go_enter Tryd.func12, Tryd.ntmps12
          go_wp2_with fail
          refine (HH.out _).mono ?_
          rintro e w1 ⟨rfl, hb1⟩
          go_wp2_with fail
          go_ret
          exact ⟨congrArg Ending.returned rcat, hb0.trans (hb1.mono (by first | omega | (simp; omega) | simp))⟩
      · have e : M.bytesI (.mk false d xs) = M.hdL d.length 128 ++ d := by rw [M.bytesI]; simp [h1]
        rw [e] at hsz0 ⊢
        rw [List.length_append] at hsz0
        have HH : Hid (∀ w, Calls Tryd.prog 22 #[.int .i64 (d.length : Nat), .int .i64 128] w fun e w' => e = .returned (.string ⟨(M.hdL d.length 128).toArray⟩) ∧ Below w.heap.size w w') := fun w => rhead d.length 128 w (by omega) (by omega)
        generalize M.hdL d.length 128 = hd at *
        have hsz1 : (hd.length : Int) + (d.length : Int) ≤ 4611686018427380000 := by omega
        clear e hsz0
        go_enter Tryd.func12, Tryd.ntmps12
        go_wp2_with fail
        refine (HH.out _).mono ?_
        rintro e w1 ⟨rfl, hb1⟩
        go_wp2_with fail
        go_ret
        exact ⟨congrArg Ending.returned rcat, hb0.trans (hb1.mono (by first | omega | (simp; omega) | simp))⟩
    | true =>
      have hlc := M.length_cnt xs
      have hB := Box.new w true d v 24
      rw [M.bytesI] at hsz0
      rw [List.length_append] at hsz0
      have HH : Hid (∀ w, Calls Tryd.prog 22 #[.int .i64 ((M.bytesIs xs).length : Nat), .int .i64 192] w fun e w' => e = .returned (.string ⟨(M.hdL (M.bytesIs xs).length 192).toArray⟩) ∧ Below w.heap.size w w') := fun w => rhead _ 192 w (by omega) (by omega)
      go_enter Tryd.func12, Tryd.ntmps12
      go_wp2_with fail
      generalize hw0 : w.alloc (.cells #[.bool true, .string ⟨d.toArray⟩, v] 24) = w0 at *
      have hz : w0.heap.size = w.heap.size + 1 := by rw [← hw0]; simp
      clear hw0
      go_loopw [3, 4] (fun s i wr => ∃ k : Nat, k ≤ xs.length ∧ i = .int .i64 k ∧ s = .string ⟨(M.bytesIs (xs.take k)).toArray⟩ ∧ Below w0.heap.size w0 wr) (fun _ i _ => xs.length - (intOf i).toNat)
      case atStart => exact ⟨0, by omega, rfl, rfl, Below.refl _ _⟩
      case round =>
        obtain ⟨k, hk, rfl, rfl, hW⟩ := hrel
        have hbx := hB.from_ hW (by omega)
        have hLr := (hL.from_ hb0).from_ (hW.mono (by omega))
        have hsz := hW.size
        by_cases hlt : k < xs.length
        · obtain ⟨b, o, cp, l', d', ys, u, hve, hbn, hxk, e0, e1, e2, hLu⟩ := hLr.at_ hlt
          subst hve
          have hc2 := hbx.c2
          have hk2 : k < 1000 := by omega
          have hnx := M.bytesIs_next hxk
          have hpt := M.bytesIs_part xs (k + 1)
          rw [hnx, List.length_append] at hpt
          have hcx := M.cntI_part (List.mem_of_getElem? hxk)
          rw [M.cntI] at hcx
          have hsx := size_get hxk
          rw [M.It.mk.sizeOf_spec] at hsx
          have IH := Lib.hid (ih l' d' ys u wr (by omega) (hLu.mono (by omega)) (by omega) (by omega))
          generalize M.bytesIs (xs.take k) = q at *
          generalize M.bytesI (M.It.mk l' d' ys) = q2 at *
          have hsz1 : (q.length : Int) + (q2.length : Int) ≤ 4611686018427380000 := by omega
          have HN := Lib.hid hnx
          clear hnx ih hpt
          go_wp2_with fail
          refine IH.out.mono ?_
          rintro e w1 ⟨rfl, hb1⟩
          have hw1 : Below w0.heap.size w0 w1 := hW.trans (hb1.mono hsz)
          go_wp2_with fail
          go_roundw
          case rel => exact ⟨k + 1, by omega, by simp, by rw [HN.out]; exact rcat, hw1⟩
          case measure => simp [intOf]; omega
        · obtain rfl : k = xs.length := by omega
          rw [List.take_length] at *
          obtain ⟨a, cap, hv, hcap, hmax⟩ := hLr.slice
          subst hv
          have hc2 := hbx.c2
          have hk2 : xs.length ≤ 1000 := by omega
          have E := Lib.hid (show M.bytesI (.mk true d xs) = M.hdL (M.bytesIs xs).length 192 ++ M.bytesIs xs by rw [M.bytesI])
          generalize M.bytesIs xs = q at *
          generalize M.hdL q.length 192 = hd at *
          have hsz1 : (hd.length : Int) + (q.length : Int) ≤ 4611686018427380000 := by omega
          clear ih
          go_wp2_with fail
          refine (HH.out _).mono ?_
          rintro e w1 ⟨rfl, hb1⟩
          go_wp2_with fail
          go_ret
          exact ⟨by rw [E.out]; exact congrArg Ending.returned rcat, hb0.trans ((hW.mono (by omega)).trans (hb1.mono (by omega)))⟩
end Go.Proofs.YtkhhjgnpfindiaaDoor
