/- What the calls of package unrlp must do; the example of layer 5. -/
import Derived.Test.YtcjhgnepehnjjaaDoorM15
import Derived.Test.YtcjhgnepehnjjaaDoorC0
namespace Go.Proofs.YtcjhgnepehnjjaaDoor
open Go Go.RowKit

/-- Decode. -/
def DecOk : Prop := ∀ (s : List UInt8) (W : World), s.length ≤ 200000 → Calls Tryd.prog 9 #[.string ⟨s.toArray⟩] W fun e w' =>
  (∃ l d xs a cap, e = .returned (.tuple #[iv l d (.slice a xs.length cap), .int .i64 ((M.decodeL s).2 : Nat)]) ∧ (M.decodeL s).1 = .mk l d xs ∧ Lay w' w'.heap.size xs (.slice a xs.length cap)) ∧ Below W.heap.size W w'
/-- A head at any place. -/
def headZ (s : List UInt8) (k : Int) : M.Hd := if k < 0 then M.hdErr 1 else M.headL s k.toNat
def HeadOk : Prop := ∀ (s : List UInt8) (k : Int) (W : World), s.length ≤ 200000 → Calls Tryd.prog 13 #[.string ⟨s.toArray⟩, .int .i64 k] W fun e w' =>
  e = .returned (.tuple #[.int .i64 ((headZ s k).off : Nat), .int .i64 ((headZ s k).n : Nat), .bool (headZ s k).list, .int .i64 ((headZ s k).e : Nat)]) ∧ Below W.heap.size W w'
def NextOk : Prop := ∀ (s : List UInt8) (k : Int) (W : World), s.length ≤ 200000 → Calls Tryd.prog 10 #[.string ⟨s.toArray⟩, .int .i64 k] W fun e w' =>
  e = .returned (.tuple #[.int .i64 (((headZ s k).off + (headZ s k).n : Nat) : Int), .int .i64 ((headZ s k).e : Nat)]) ∧ Below W.heap.size W w'

/-- The document's example. -/
abbrev exU : M.It := .mk true [] [.mk false [1] [], .mk true [] []]
theorem ex_dec1 : (M.decodeL [129, 5]).2 = 8 := by decide +kernel
theorem ex_dec2 : (M.decodeL [194, 1]).2 = 3 := by decide +kernel
theorem ex_dec3 : M.decodeL [194, 1, 192] = (exU, 0) := by
  have h : M.bytesI exU = [194, 1, 192] := by decide +kernel
  rw [← h]
  exact M.dec_back (by decide +kernel)
theorem ex_dec4 : (M.decodeL [1, 2]).2 = 4 := by decide +kernel
theorem ex_head : (headZ [120, 194, 1, 192] 1).off = 2 ∧ (headZ [120, 194, 1, 192] 1).n = 2 ∧ (headZ [120, 194, 1, 192] 1).list = true ∧ (headZ [120, 194, 1, 192] 1).e = 0 := by decide +kernel
theorem ex_next : (headZ [130, 97, 98] 0).off + (headZ [130, 97, 98] 0).n = 3 ∧ (headZ [130, 97, 98] 0).e = 0 := by decide +kernel

set_option maxRecDepth 100000 in
set_option maxHeartbeats 4000000 in
theorem uworks (HD : Hid DecOk) (HH : Hid HeadOk) (HN : Hid NextOk) (w : World) : Calls Tryd.prog 6 #[] w fun e w' => e = .returned (.bool true) ∧ Below w.heap.size w w' := by
  have k1 : Hid (∀ W, Calls Tryd.prog 9 #[.string ⟨#[129, 5]⟩] W fun e w' => (∃ l d n a cap, e = .returned (.tuple #[iv l d (.slice a n cap), .int .i64 8])) ∧ Below W.heap.size W w') := fun W =>
    (HD.out [129, 5] W (by decide)).mono fun e w' ⟨⟨l, d, xs, a, cap, h, _, _⟩, hb⟩ => ⟨⟨l, d, xs.length, a, cap, by rw [ex_dec1] at h; exact h⟩, hb⟩
  have k2 : Hid (∀ W, Calls Tryd.prog 9 #[.string ⟨#[194, 1]⟩] W fun e w' => (∃ l d n a cap, e = .returned (.tuple #[iv l d (.slice a n cap), .int .i64 3])) ∧ Below W.heap.size W w') := fun W =>
    (HD.out [194, 1] W (by decide)).mono fun e w' ⟨⟨l, d, xs, a, cap, h, _, _⟩, hb⟩ => ⟨⟨l, d, xs.length, a, cap, by rw [ex_dec2] at h; exact h⟩, hb⟩
  have k3 : Hid (∀ W, Calls Tryd.prog 9 #[.string ⟨#[194, 1, 192]⟩] W fun e w' => (∃ l d a cap, e = .returned (.tuple #[iv l d (.slice a 2 cap), .int .i64 0])) ∧ Below W.heap.size W w') := fun W =>
    (HD.out [194, 1, 192] W (by decide)).mono fun e w' ⟨⟨l, d, xs, a, cap, h, hx, _⟩, hb⟩ => by
      rw [ex_dec3] at h hx
      obtain ⟨rfl, rfl, rfl⟩ := M.It.mk.inj hx
      exact ⟨⟨_, _, a, cap, h⟩, hb⟩
  have k4 : Hid (∀ W, Calls Tryd.prog 9 #[.string ⟨#[1, 2]⟩] W fun e w' => (∃ l d n a cap, e = .returned (.tuple #[iv l d (.slice a n cap), .int .i64 4])) ∧ Below W.heap.size W w') := fun W =>
    (HD.out [1, 2] W (by decide)).mono fun e w' ⟨⟨l, d, xs, a, cap, h, _, _⟩, hb⟩ => ⟨⟨l, d, xs.length, a, cap, by rw [ex_dec4] at h; exact h⟩, hb⟩
  have k5 : Hid (∀ W, Calls Tryd.prog 13 #[.string ⟨#[120, 194, 1, 192]⟩, .int .i64 1] W fun e w' => e = .returned (.tuple #[.int .i64 2, .int .i64 2, .bool true, .int .i64 0]) ∧ Below W.heap.size W w') := fun W => by
    have := HH.out [120, 194, 1, 192] 1 W (by decide)
    obtain ⟨e1, e2, e3, e4⟩ := ex_head
    rwa [e1, e2, e3, e4] at this
  have k6 : Hid (∀ W, Calls Tryd.prog 10 #[.string ⟨#[130, 97, 98]⟩, .int .i64 0] W fun e w' => e = .returned (.tuple #[.int .i64 3, .int .i64 0]) ∧ Below W.heap.size W w') := fun W => by
    have := HN.out [130, 97, 98] 0 W (by decide)
    obtain ⟨e1, e2⟩ := ex_next
    rwa [e1, e2] at this
  go_enter Tryd.func6, Tryd.ntmps6
  go_wp2_with fail
  refine (k1.out _).mono ?_
  rintro e w1 ⟨⟨l1, d1, n1, a1, p1, rfl⟩, hb1⟩
  go_wp2_with fail
  refine (k2.out _).mono ?_
  rintro e w2 ⟨⟨l2, d2, n2, a2, p2, rfl⟩, hb2⟩
  go_wp2_with fail
  refine (k3.out _).mono ?_
  rintro e w3 ⟨⟨l3, d3, a3, p3, rfl⟩, hb3⟩
  go_wp2_with fail
  refine (k4.out _).mono ?_
  rintro e w4 ⟨⟨l4, d4, n4, a4, p4, rfl⟩, hb4⟩
  go_wp2_with fail
  refine (k5.out _).mono ?_
  rintro e w5 ⟨rfl, hb5⟩
  go_wp2_with fail
  refine (k6.out _).mono ?_
  rintro e w6 ⟨rfl, hb6⟩
  have z4 := hb4.size
  have z5 := hb5.size
  simp at z4 z5
  have hc : w6.cell? ⟨w3.heap.size, 2, none⟩ = some (.slice a3 2 p3) := by
    rw [hb6.cell (by simp; omega), hb5.cell (by simp; omega)]
    rw [((Below.refl w4.heap.size w4).alloc (Nat.le_refl _) _).cell (by simp; omega)]
    rw [hb4.cell (by simp)]
    simp [go_sem]
  have B1 : Below w.heap.size w (w1.alloc (.cells #[.bool l1, .string ⟨d1.toArray⟩, .slice a1 n1 p1] 24)) := hb1.alloc hb1.size _
  have B2 := B1.trans (hb2.mono B1.size)
  replace B2 := B2.alloc B2.size (.cells #[.bool l2, .string ⟨d2.toArray⟩, .slice a2 n2 p2] 24)
  have B3 := B2.trans (hb3.mono B2.size)
  replace B3 := B3.alloc B3.size (.cells #[.bool l3, .string ⟨d3.toArray⟩, .slice a3 2 p3] 24)
  have B4 := B3.trans (hb4.mono B3.size)
  replace B4 := B4.alloc B4.size (.cells #[.bool l4, .string ⟨d4.toArray⟩, .slice a4 n4 p4] 24)
  have B5 := B4.trans (hb5.mono B4.size)
  have B6 := Lib.hid (B5.trans (hb6.mono B5.size))
  clear B1 B2 B3 B4 B5
  go_wp2_with fail
  go_ret
  exact ⟨rfl, B6.out⟩
end Go.Proofs.YtcjhgnepehnjjaaDoor
