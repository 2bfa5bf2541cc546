/- The reference's of: numbers; of all kinds. The reference's In: the type of an item. The reference's fits, Fits. -/
import Derived.Test.YtgloapcfmlijlaaGreatDoorK03
import Derived.Test.YtgloapcfmlijlaaGreatDoorK01
import Derived.Laws.Rows
import Derived.Test.YtgloapcfmlijlaaGreatDoorK02
namespace Go.Proofs.YtgloapcfmlijlaaGreatDoor
open Go Go.RowKit

end Go.Proofs.YtgloapcfmlijlaaGreatDoor
namespace Go.Proofs.YtgloapcfmlijlaaGreatDoor
open Go Go.RowKit

theorem Tryz.typeSize : (Tryz.prog.info? 24).map (·.size) = some 3 := by kernel_rfl
/-- The result is a type in the newest block. -/
theorem ty_new {fn : Func} {s : Tmp} (hres : fn.results = #[.cell s 24]) (w W : World) (tmps : Array Value) (k m : Int) (v : Value) (R : Ending → World → Prop) (hp : tmps.getD s undef = .pointer (some ⟨W.heap.size, 0, none⟩)) (hb : Below w.heap.size w W)
    (h : ∀ Z, Below w.heap.size w Z → R (.returned (tv k m v)) Z) :
    bodyPost Tryz.prog fn R .ret { tmps := tmps, defers := [] } (W.alloc (.cells #[.int .i64 k, .int .i64 m, v] 24)) := by
  have := results_cell_row (P := Tryz.prog) hres tmps (W.alloc (.cells #[.int .i64 k, .int .i64 m, v] 24)) W.heap.size 24 #[.int .i64 k, .int .i64 m, v] (0, 0) _ hp (heap_alloc_new W _) Tryz.underlying24 rfl Tryz.typeSize
  exact bodyPost_ret this rfl (h _ (hb.alloc hb.size _))

set_option maxRecDepth 100000 in
set_option maxHeartbeats 4000000 in
theorem tin_any (k n : Int) (t c b o : Nat) (N : Nat) (ub uv : Value) (p : Int) (i j : Nat) (k' m' : Int) (au : Option Addr) (ul cu : Nat) (w : World) (hj : j < t) (hb : b < w.heap.size) (_ht : t ≤ 4000)
    (hi : (k = 7 ∧ i = j) ∨ (k ≠ 7 ∧ k = 8 ∧ p = j) ∨ (k ≠ 7 ∧ k ≠ 8 ∧ j = 0))
    (e0 : w.cell? ⟨b, o + j * 3, none⟩ = some (.int .i64 k')) (e1 : w.cell? ⟨b, o + j * 3 + 1, none⟩ = some (.int .i64 m')) (e2 : w.cell? ⟨b, o + j * 3 + 2, none⟩ = some (.slice au ul cu)) :
    Calls Tryz.prog 161 #[tv k n (.slice (some ⟨b, o, none⟩) t c), vv N ub uv p, .int .i64 i] w fun e w' => e = .returned (tv k' m' (.slice au ul cu)) ∧ Below w.heap.size w w' := by
  have hb0 : ∀ o o', Below w.heap.size w ((w.alloc o).alloc o') := fun o o' => ((Below.refl _ w).alloc (Nat.le_refl _) o).alloc (by simp) o'
  have hb3 : ∀ o1 o2 o3, Below w.heap.size w (((w.alloc o1).alloc o2).alloc o3) := fun o1 o2 o3 => (hb0 o1 o2).alloc (by simp; omega) o3
  have g0 := fun o1 o2 o3 => ((hb3 o1 o2 o3).cell (p := ⟨b, o + j * 3, none⟩) hb).trans e0
  have g1 := fun o1 o2 o3 => ((hb3 o1 o2 o3).cell (p := ⟨b, o + j * 3 + 1, none⟩) hb).trans e1
  have g2 := fun o1 o2 o3 => ((hb3 o1 o2 o3).cell (p := ⟨b, o + j * 3 + 2, none⟩) hb).trans e2
  clear e0 e1 e2 hb3
  rcases hi with ⟨h7, rfl⟩ | ⟨h7, h8, rfl⟩ | ⟨h7, h8, rfl⟩
  · subst h7
    go_enter Tryz.func161, Tryz.ntmps161
    go_wp2_with fail
    refine ty_new rfl w _ _ k' m' (.slice au ul cu) _ ?_ (hb0 _ _) (fun Z hZ => ⟨rfl, hZ⟩)
    simp
  · subst h8
    go_enter Tryz.func161, Tryz.ntmps161
    go_wp2_with fail
    refine ty_new rfl w _ _ k' m' (.slice au ul cu) _ ?_ (hb0 _ _) (fun Z hZ => ⟨rfl, hZ⟩)
    simp
  · have b7 : (k == 7) = false := by simpa using h7
    have b8 : (k == 8) = false := by simpa using h8
    simp only [Nat.zero_mul, Nat.add_zero] at g0 g1 g2
    go_enter Tryz.func161, Tryz.ntmps161
    go_wp2_with fail
    refine ty_new rfl w _ _ k' m' (.slice au ul cu) _ ?_ (hb0 _ _) (fun Z hZ => ⟨rfl, hZ⟩)
    simp
end Go.Proofs.YtgloapcfmlijlaaGreatDoor
namespace Go.Proofs.YtgloapcfmlijlaaGreatDoor
open Go Go.RowKit

theorem Vl.long {w : World} {n N : Nat} {bs : List Bool} {us : List M.Va} {ab : Option Addr} {cb : Nat} {au : Option Addr} {cu : Nat} (h : Vl w n N bs us ab cb au cu) : us.length ≤ 9223372036854775807 ∧ bs.length ≤ 9223372036854775807 := by
  obtain ⟨_, _, e, h1, h2⟩ := h.v.slice
  obtain ⟨_, _, e', h3, h4⟩ := h.b.slice
  cases e
  cases e'
  simp only [maxLen] at h2 h4
  omega

theorem M.in_at {k n : Int} {ts : List M.Ty} {N : Nat} {bs : List Bool} {us : List M.Va} {p : Int} {d j : Nat} (hof : M.ofV k n ts.length (.mk N bs us p) = true) (hc : M.chkT d (.mk k n ts) = 0) (hj : j < us.length) :
    ∃ (i : Nat) (k' m' : Int) (ts' : List M.Ty), i < ts.length ∧ ts[i]? = some (M.Ty.mk k' m' ts') ∧ M.inT k ts p j = .mk k' m' ts' ∧ ((k = 7 ∧ j = i) ∨ (k ≠ 7 ∧ k = 8 ∧ p = i) ∨ (k ≠ 7 ∧ k ≠ 8 ∧ i = 0)) := by
  obtain ⟨h1, h2, _, _⟩ := M.chkT_ok.1 hc
  have key : ∀ i : Nat, i < ts.length → M.inT k ts p j = ts[i]?.getD default → ((k = 7 ∧ j = i) ∨ (k ≠ 7 ∧ k = 8 ∧ p = i) ∨ (k ≠ 7 ∧ k ≠ 8 ∧ i = 0)) →
      ∃ (i : Nat) (k' m' : Int) (ts' : List M.Ty), i < ts.length ∧ ts[i]? = some (M.Ty.mk k' m' ts') ∧ M.inT k ts p j = .mk k' m' ts' ∧ ((k = 7 ∧ j = i) ∨ (k ≠ 7 ∧ k = 8 ∧ p = i) ∨ (k ≠ 7 ∧ k ≠ 8 ∧ i = 0)) := fun i hi e hor => by
    rw [List.getElem?_eq_getElem hi, Option.getD_some] at e
    obtain ⟨k', m', ts', hx⟩ : ∃ k' m' ts', ts[i] = M.Ty.mk k' m' ts' := by
      obtain ⟨a, b, c⟩ := ts[i]
      exact ⟨a, b, c, rfl⟩
    exact ⟨i, k', m', ts', hi, by rw [List.getElem?_eq_getElem hi, hx], by rw [e, hx], hor⟩
  unfold M.ofV at hof
  unfold M.formT at h2
  by_cases h7 : k = 7
  · subst h7
    simp at hof h2
    exact key j (by omega) (by unfold M.inT; rw [if_pos rfl]) (.inl ⟨rfl, rfl⟩)
  by_cases h8 : k = 8
  · subst h8
    simp at hof h2
    exact key p.toNat (by omega) (by unfold M.inT; rw [if_neg (by omega), if_pos rfl]) (.inr (.inl ⟨by omega, rfl, by omega⟩))
  have hlen : 0 < ts.length := by
    by_cases e1 : k = 1
    · subst e1; simp at hof; simp [hof] at hj
    by_cases e2 : k = 2
    · subst e2; simp at hof; simp [hof] at hj
    by_cases e3 : k = 3
    · subst e3; simp at h2; omega
    by_cases e4 : k = 4
    · subst e4; simp at h2; omega
    by_cases e5 : k = 5
    · subst e5; simp at hof; simp [hof] at hj
    by_cases e6 : k = 6
    · subst e6; simp at hof; simp [hof] at hj
    omega
  exact key 0 hlen (by unfold M.inT; rw [if_neg h7, if_neg h8]) (.inr (.inr ⟨h7, h8, rfl⟩))

end Go.Proofs.YtgloapcfmlijlaaGreatDoor
