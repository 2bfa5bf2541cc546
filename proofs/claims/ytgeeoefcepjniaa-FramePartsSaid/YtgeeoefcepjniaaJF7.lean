/- frame: Next, frames. -/
import Derived.Test.YtgeeoefcepjniaaJF6
import Derived.Test.YtgeeoefcepjniaaJF1
import Derived.Test.YtgeeoefcepjniaaJ7
namespace Go.Proofs.Ytgeeoefcepjniaa
open Go Go.RowKit
attribute [local go_sem] Oper.semAt_some

/-- The place behind the frame at a place. -/
def M.nxN (k : Nat) (t : List UInt8) : Nat := if M.leadE t = 0 then k + (23 + M.lenF t) else 0

set_option maxRecDepth 100000 in
set_option maxHeartbeats 8000000 in
theorem fnext_any (s : List UInt8) (k : Nat) (w : World) (hs : s.length ≤ 400000) (hk : k ≤ s.length) :
    Calls Try.prog 18 #[.string ⟨s.toArray⟩, .int .i64 (k : Nat)] w fun e w' => e = .returned (.tuple #[frv (M.ldF (s.drop k)), .int .i64 (M.nxN k (s.drop k) : Nat), .int .i64 (M.leadE (s.drop k) : Nat)]) ∧ Below w.heap.size w w' := by
  have hsl := slice_hi s k hk
  have H := Lib.hid (fun W => fleading_any (s.drop k) W (by rw [List.length_drop]; omega))
  have hk0 : ¬ ((k : Nat) : Int) < 0 := by omega
  have hk1 : ¬ (s.length : Int) < (k : Nat) := by omega
  have hle : M.leadE (s.drop k) = 0 → 23 + M.lenF (s.drop k) ≤ s.length := fun h => by
    have := (M.lead_only h).2.2.1
    rw [List.length_drop] at this
    omega
  unfold M.nxN
  unfold M.ldF M.ldN at *
  generalize s.drop k = t at *
  obtain ⟨w0, hw0⟩ : ∃ w0, w.alloc (.cells #[.string ⟨#[]⟩, .int .i64 0, .string ⟨#[]⟩, .bool false] 24) = w0 := ⟨_, rfl⟩
  have hR0 : Rz w w0 := by rw [← hw0]; exact ⟨(Below.refl _ _).alloc (Nat.le_refl _) _, _, _, _, _, heap_alloc_new w _⟩
  have HW := Lib.hid hw0
  have HRZ := Lib.hid hR0
  clear hw0 hR0
  by_cases hq : M.leadE t = 0
  · rw [if_pos hq] at H ⊢
    rw [if_pos hq] at H ⊢
    rw [hq] at H ⊢
    have hl := hle hq
    generalize M.isF t = f at *
    generalize M.lenF t = n at *
    have h1 : IntKind.i64.wrap ((k : Int) + (23 + (n : Int))) = (k : Int) + (23 + (n : Int)) := by rw [IntKind.wrap_i64]; omega
    have h2 : wrap64 ((k : Int) + (23 + (n : Int))) = (k : Int) + (23 + (n : Int)) := by unfold wrap64; omega
    clear hle hq
    go_enter Try.func18, Try.ntmps18
    go_wp2_with (rw [HW.out])
    refine (H.out _).mono ?_
    rintro e wr ⟨rfl, hbr⟩
    have hRz : Rz w wr := HRZ.out.below hbr
    obtain ⟨hbl, o0, o1, o2, o3, hrow⟩ := id hRz
    have hw2 : Below wr.heap.size wr (wr.alloc (.cells #[.string ⟨f.id.toArray⟩, .int .i64 f.num, .string ⟨f.data.toArray⟩, .bool f.last] 24)) := (Below.refl _ _).alloc (Nat.le_refl _) _
    have hx := FrBox.new wr f 24
    have hR2 := hRz.below hw2
    obtain ⟨w2, hw2e⟩ : ∃ w2, wr.alloc (.cells #[.string ⟨f.id.toArray⟩, .int .i64 f.num, .string ⟨f.data.toArray⟩, .bool f.last] 24) = w2 := ⟨_, rfl⟩
    rw [hw2e] at hx hR2
    have HW2 := Lib.hid hw2e
    clear hw2 hw2e hrow o0 o1 o2 o3
    obtain ⟨_, o0, o1, o2, o3, hrow⟩ := id hR2
    obtain ⟨⟨v0, e0⟩, ⟨v1, e1⟩, ⟨v2, e2⟩, ⟨v3, e3⟩, f0⟩ := cells_of4 hrow
    have g0 := f0 0
    have g1 := f0 1
    have g2 := f0 2
    have g3 := f0 3
    obtain ⟨x0, x1, x2, x3⟩ := hx
    go_wp2_with (rw [HW2.out])
    rw [set_fourF hrow]
    exact fr_row rfl _ w.heap.size _ #[.string ⟨f.id.toArray⟩, .int .i64 f.num, .string ⟨f.data.toArray⟩, .bool f.last] rfl (setRow_heap _ _ _ _ _ (0, 0) hrow) _ _ _ rfl rfl rfl ⟨by simp, (hR2.row _ _ _ _).1⟩
  · rw [if_neg hq] at H ⊢
    rw [if_neg hq] at H ⊢
    generalize M.leadE t = q at *
    have hq' : ¬ ((q : Nat) : Int) = 0 := by omega
    have hnv : frv M.noF = .agg #[.string ⟨#[]⟩, .int .i64 0, .string ⟨#[]⟩, .bool false] := rfl
    rw [hnv] at H ⊢
    clear hle hq
    go_enter Try.func18, Try.ntmps18
    go_wp2_with (rw [HW.out])
    refine (H.out _).mono ?_
    rintro e wr ⟨rfl, hbr⟩
    have hRz : Rz w wr := HRZ.out.below hbr
    obtain ⟨_, o0, o1, o2, o3, hrow⟩ := id hRz
    obtain ⟨⟨v0, e0⟩, ⟨v1, e1⟩, ⟨v2, e2⟩, ⟨v3, e3⟩, f0⟩ := cells_of4 hrow
    have g0 := f0 0
    have g1 := f0 1
    have g2 := f0 2
    have g3 := f0 3
    have hlt : w.heap.size < wr.heap.size := (Array.getElem?_eq_some_iff.1 hrow).1
    have HRW := Lib.hid hrow
    clear hrow
    go_wp2_with fail
    rw [set_fourF HRW.out]
    have hR3 := hRz.row (.string ⟨#[]⟩) (.int .i64 0) (.string ⟨#[]⟩) (.bool false)
    have hR4 := hR3.below ((Below.refl _ _).alloc (Nat.le_refl _) (.cells #[.string ⟨#[]⟩, .int .i64 0, .string ⟨#[]⟩, .bool false] 24))
    exact fr_row rfl _ w.heap.size _ #[.string ⟨#[]⟩, .int .i64 0, .string ⟨#[]⟩, .bool false] rfl ((Below.heap_alloc _ _ _ (by simpa using hlt)).trans (setRow_heap _ _ _ _ _ (0, 0) HRW.out)) _ _ _ rfl rfl rfl ⟨rfl, hR4.1⟩
end Go.Proofs.Ytgeeoefcepjniaa
