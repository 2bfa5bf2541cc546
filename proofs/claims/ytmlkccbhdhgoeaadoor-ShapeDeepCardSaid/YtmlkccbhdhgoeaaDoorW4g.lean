/- The contract of word.Less: whether the one number is below the other one. -/
import Derived.Test.YtmlkccbhdhgoeaaDoorW3g
import Derived.Lib.Hide
namespace Go.Proofs.YtmlkccbhdhgoeaaDoor
open Go Go.RowKit Go.Shelf
attribute [local go_sem] Oper.semAt_some

set_option maxRecDepth 100000 in
set_option maxHeartbeats 2000000 in
theorem less_in (a0 a1 a2 a3 b0 b1 b2 b3 : Int) (r : Bool) (w : World)
    (hsame : a3 = b3 → a2 = b2 → a1 = b1 → a0 = b0 → r = false)
    (hdiff : ∀ (p : List (Fin 4)) (y : Fin 4), (p ++ [y] = [3] ∨ p ++ [y] = [3, 2] ∨ p ++ [y] = [3, 2, 1] ∨ p ++ [y] = [3, 2, 1, 0]) → (∀ z ∈ p, at4 a0 a1 a2 a3 z = at4 b0 b1 b2 b3 z) → at4 a0 a1 a2 a3 y ≠ at4 b0 b1 b2 b3 y → decide (at4 a0 a1 a2 a3 y < at4 b0 b1 b2 b3 y) = r) :
    CallsIn Fence.wide 4 Tryd.prog 44 #[wd a0 a1 a2 a3, wd b0 b1 b2 b3] w fun e W' => e = .returned (.bool r) ∧ Below w.heap.size w W' := by
  have hro : Fence.wide.round = none := rfl
  refine callsIn_of_wp_marks Tryd.func44 rfl trivial ?_ hro
  simp only [Tryd.ntmps44, List.size_toArray, List.length_cons, List.length_nil, Nat.reduceAdd, Nat.reduceSub, Array.replicate_succ, Array.replicate_zero, List.push_toArray, List.append_toArray, List.nil_append, List.cons_append]
  have HS := Lib.hid hsame
  have HD := Lib.hid hdiff
  clear hsame hdiff
  gi_wp2_with (refine ⟨trivial, ?_⟩; gi_at_call 75; refine (top_in _ _ trivial rfl _ _ _ _ _).mono ?_; rintro e w' ⟨rfl, rfl⟩)
  generalize hW0 : ((((w.alloc (Obj.cells #[.int .u64 a0, .int .u64 a1, .int .u64 a2, .int .u64 a3] 27)).alloc (Obj.cells #[.int .u64 b0, .int .u64 b1, .int .u64 b2, .int .u64 b3] 27)).alloc (Obj.cells #[.bool false] 4)).alloc (Obj.cells #[.int .u64 a0, .int .u64 a1, .int .u64 a2, .int .u64 a3] 27)) = W0
  have hB0 : Below w.heap.size w W0 := by rw [← hW0]; (repeat (first | exact Below.refl _ _ | refine Below.drew ?_ | refine Below.alloc ?_ (by first | omega | (simp; omega) | simp) _ | refine Below.setCell ?_ (by first | omega | (simp; omega) | simp) _))
  have hsz : W0.heap.size = w.heap.size + 4 := by rw [← hW0]; simp
  have k0 : W0.cell? ⟨w.heap.size + 1 + 1 + 1, 0, none⟩ = some (.int .u64 a0) := by rw [← hW0]; simp [go_sem]
  have k1 : W0.cell? ⟨w.heap.size + 1 + 1 + 1, 1, none⟩ = some (.int .u64 a1) := by rw [← hW0]; simp [go_sem]
  have k2 : W0.cell? ⟨w.heap.size + 1 + 1 + 1, 2, none⟩ = some (.int .u64 a2) := by rw [← hW0]; simp [go_sem]
  have k3 : W0.cell? ⟨w.heap.size + 1 + 1 + 1, 3, none⟩ = some (.int .u64 a3) := by rw [← hW0]; simp [go_sem]
  have e0 : W0.cell? ⟨w.heap.size + 1, 0, none⟩ = some (.int .u64 b0) := by rw [← hW0]; simp [go_sem]
  have e1 : W0.cell? ⟨w.heap.size + 1, 1, none⟩ = some (.int .u64 b1) := by rw [← hW0]; simp [go_sem]
  have e2 : W0.cell? ⟨w.heap.size + 1, 2, none⟩ = some (.int .u64 b2) := by rw [← hW0]; simp [go_sem]
  have e3 : W0.cell? ⟨w.heap.size + 1, 3, none⟩ = some (.int .u64 b3) := by rw [← hW0]; simp [go_sem]
  have g0 : W0.cell? ⟨w.heap.size + 1 + 1, 0, none⟩ = some (.bool false) := by rw [← hW0]; simp [go_sem]
  have g1 : W0.frozen? ⟨w.heap.size + 1 + 1, 0, none⟩ = false := by rw [← hW0]; simp [go_sem]
  clear hW0
  refine wpIn_rangeFunc_ownF hro (by omega) (gf := 84) (lb := #[.pointer (some ⟨w.heap.size + 1 + 1 + 1, 0, none⟩)]) rfl trivial (enters_of Tryd.func84 (by kernel_rfl) rfl)
    (top_stops Fence.wide 3 trivial rfl (by omega) (w.heap.size + 1 + 1 + 1) a0 a1 a2 a3 W0 (by omega) k0 k1 k2 k3) keepsB_t (keepsB_b (by omega)) (Below.refl _ _) (fun _ => rfl)
    (fun pre W => ((∀ z ∈ pre, at4 a0 a1 a2 a3 z = at4 b0 b1 b2 b3 z) ∧ W.cell? ⟨w.heap.size + 1, 0, none⟩ = some (.int .u64 b0) ∧ W.cell? ⟨w.heap.size + 1, 1, none⟩ = some (.int .u64 b1) ∧ W.cell? ⟨w.heap.size + 1, 2, none⟩ = some (.int .u64 b2) ∧ W.cell? ⟨w.heap.size + 1, 3, none⟩ = some (.int .u64 b3) ∧ W.cell? ⟨w.heap.size + 1 + 1, 0, none⟩ = some (.bool false) ∧ W.frozen? ⟨w.heap.size + 1 + 1, 0, none⟩ = false) ∧ Below w.heap.size w W)
    (fun c pre W => (c = .ret ∧ (∃ p y, pre = p ++ [y] ∧ (∀ z ∈ p, at4 a0 a1 a2 a3 z = at4 b0 b1 b2 b3 z) ∧ at4 a0 a1 a2 a3 y ≠ at4 b0 b1 b2 b3 y ∧ W.cell? ⟨w.heap.size + 1 + 1, 0, none⟩ = some (.bool (decide (at4 a0 a1 a2 a3 y < at4 b0 b1 b2 b3 y))))) ∧ Below w.heap.size w W)
    (OwnFrom.and (Own.from (fun s A B row hs hg hr => ⟨hs.1, cell_kept hs.2.1 hg hr, cell_kept hs.2.2.1 hg hr, cell_kept hs.2.2.2.1 hg hr, cell_kept hs.2.2.2.2.1 hg hr, cell_kept hs.2.2.2.2.2.1 hg hr, (frozen_kept hs.2.2.2.2.2.1 hg hr).trans hs.2.2.2.2.2.2⟩) _) (ownFrom_below (Nat.le_refl _) (by omega)))
    (fun c => OwnFrom.and (Own.from (fun s A B row hs hg hr => by
      obtain ⟨h1, p, y, h2, h3, h4, h5⟩ := hs
      exact ⟨h1, p, y, h2, h3, h4, cell_kept h5 hg hr⟩) _) (ownFrom_below (Nat.le_refl _) (by omega)))
    ⟨⟨by simp, e0, e1, e2, e3, g0, g1⟩, hB0⟩
    (fun x => { tmps := #[wd a0 a1 a2 a3, wd b0 b1 b2 b3, .pointer (some ⟨w.heap.size, 0, none⟩), .pointer (some ⟨w.heap.size + 1, 0, none⟩), .pointer (some ⟨w.heap.size + 1 + 1, 0, none⟩), .int .i64 (x.val : Int), .int .u64 (at4 a0 a1 a2 a3 x), wd a0 a1 a2 a3, .func (.func 84) #[] #[.pointer (some ⟨w.heap.size + 1 + 1 + 1, 0, none⟩)], .int .i64 (x.val : Int), .int .u64 (at4 a0 a1 a2 a3 x), undef, undef, undef, undef, undef, undef, undef, undef, undef, undef], defers := [] }) ?assign ?body ?done ?stop
  case assign =>
    intro l x W K hK
    gi_wp2
    exact hK
  case body =>
    rintro l pre x W ⟨⟨hp, hb0, hb1, hb2, hb3, hc, hf⟩, hB⟩ _
    have HP := Lib.hid hp
    clear hp e0 e1 e2 e3 k0 k1 k2 k3 g0 g1 hB0 hsz
    match x with
    | 0 =>
      gi_wp2
      · have hx : (at4 a0 a1 a2 a3 0 != b0) = true := by assumption
        exact ⟨KeepsOthers.setCell _ _ _, ⟨rfl, pre, 0, rfl, HP.out, bne_iff_ne.1 hx, World.cell?_setCell_same' _ _ _ (by rw [hc]; rfl)⟩, hB.setCell (p := ⟨w.heap.size + 1 + 1, 0, none⟩) (by simp; omega) _⟩
      · have hx : (at4 a0 a1 a2 a3 0 != b0) = false := by assumption
        exact ⟨KeepsOthers.refl _, fun _ => rfl, ⟨fun z hz => (List.mem_append.1 hz).elim (HP.out z) (fun e => by simp at e; subst e; exact bne_eq_false_iff_eq.1 hx), hb0, hb1, hb2, hb3, hc, hf⟩, hB⟩
    | 1 =>
      gi_wp2
      · have hx : (at4 a0 a1 a2 a3 1 != b1) = true := by assumption
        exact ⟨KeepsOthers.setCell _ _ _, ⟨rfl, pre, 1, rfl, HP.out, bne_iff_ne.1 hx, World.cell?_setCell_same' _ _ _ (by rw [hc]; rfl)⟩, hB.setCell (p := ⟨w.heap.size + 1 + 1, 0, none⟩) (by simp; omega) _⟩
      · have hx : (at4 a0 a1 a2 a3 1 != b1) = false := by assumption
        exact ⟨KeepsOthers.refl _, fun _ => rfl, ⟨fun z hz => (List.mem_append.1 hz).elim (HP.out z) (fun e => by simp at e; subst e; exact bne_eq_false_iff_eq.1 hx), hb0, hb1, hb2, hb3, hc, hf⟩, hB⟩
    | 2 =>
      gi_wp2
      · have hx : (at4 a0 a1 a2 a3 2 != b2) = true := by assumption
        exact ⟨KeepsOthers.setCell _ _ _, ⟨rfl, pre, 2, rfl, HP.out, bne_iff_ne.1 hx, World.cell?_setCell_same' _ _ _ (by rw [hc]; rfl)⟩, hB.setCell (p := ⟨w.heap.size + 1 + 1, 0, none⟩) (by simp; omega) _⟩
      · have hx : (at4 a0 a1 a2 a3 2 != b2) = false := by assumption
        exact ⟨KeepsOthers.refl _, fun _ => rfl, ⟨fun z hz => (List.mem_append.1 hz).elim (HP.out z) (fun e => by simp at e; subst e; exact bne_eq_false_iff_eq.1 hx), hb0, hb1, hb2, hb3, hc, hf⟩, hB⟩
    | 3 =>
      have hv : ((3 : Fin 4) : Nat) = 3 := rfl
      gi_wp2
      · have hx : (at4 a0 a1 a2 a3 3 != b3) = true := by assumption
        exact ⟨KeepsOthers.setCell _ _ _, ⟨rfl, pre, 3, rfl, HP.out, bne_iff_ne.1 hx, World.cell?_setCell_same' _ _ _ (by rw [hc]; rfl)⟩, hB.setCell (p := ⟨w.heap.size + 1 + 1, 0, none⟩) (by simp; omega) _⟩
      · have hx : (at4 a0 a1 a2 a3 3 != b3) = false := by assumption
        exact ⟨KeepsOthers.refl _, fun _ => rfl, ⟨fun z hz => (List.mem_append.1 hz).elim (HP.out z) (fun e => by simp at e; subst e; exact bne_eq_false_iff_eq.1 hx), hb0, hb1, hb2, hb3, hc, hf⟩, hB⟩
  case done =>
    rintro D ys W hD rfl ⟨⟨hall, _, _, _, _, hcr, hfr⟩, hB⟩ hK
    have hr : r = false := HS.out (hall 3 (by simp)) (hall 2 (by simp)) (hall 1 (by simp)) (hall 0 (by simp))
    have HR := Lib.hid hr
    clear hr hall
    gi_wp2
    have hK' := (KeepsOthers.setCell W ⟨w.heap.size + 1 + 1, 0, none⟩ (.bool false)).same D _ hK rfl
    refine ⟨by simp, .inl ⟨_, _, rfl, run_takeDeferred hK', ?_⟩⟩
    have hc5 := cell_kept (World.cell?_setCell_same' W ⟨w.heap.size + 1 + 1, 0, none⟩ (.bool false) (by rw [hcr]; rfl)) (grownBy_putObj' _ D (.deferred none)) (fun r e => by cases e; exact ⟨_, hK', rfl⟩)
    refine ⟨.bool false, ?_, by rw [HR.out], (hB.setCell (p := ⟨w.heap.size + 1 + 1, 0, none⟩) (by simp; omega) _).trans (belowK_b (w := w) (Nat.le_refl _) _ D _ _ (by omega) hK' rfl rfl)⟩
    simp [results, Tryd.f44, go_sem, hc5]
  case stop =>
    rintro D c pre W hD hpre ⟨⟨rfl, p, y, rfl, hin, hne, hcr⟩, hB⟩ hK
    have hr := HD.out p y hpre hin hne
    rw [hr] at hcr
    clear hr hin hne hpre
    gi_wp2
    refine ⟨by simp, .inl ⟨_, _, rfl, run_takeDeferred hK, ?_⟩⟩
    have hc5 := cell_kept hcr (grownBy_putObj' _ D (.deferred none)) (fun r e => by cases e; exact ⟨_, hK, rfl⟩)
    refine ⟨.bool r, ?_, rfl, hB.trans (belowK_b (w := w) (Nat.le_refl _) W D _ _ (by omega) hK rfl rfl)⟩
    simp [results, Tryd.f44, go_sem, hc5]

theorem less_any (A B : Nat) (w : World) (hA : M.In A) (hB : M.In B) :
    Calls Tryd.prog 44 #[wn A, wn B] w fun e w' => e = .returned (.bool (decide (A < B))) ∧ Below w.heap.size w w' := by
  have eA := M.whole hA
  have eB := M.whole hB
  have l0 := M.pt_nonneg 0 A
  have l1 := M.pt_nonneg 1 A
  have l2 := M.pt_nonneg 2 A
  have u0 := M.pt_lt 0 A
  have u1 := M.pt_lt 1 A
  have u2 := M.pt_lt 2 A
  have m0 := M.pt_nonneg 0 B
  have m1 := M.pt_nonneg 1 B
  have m2 := M.pt_nonneg 2 B
  have v0 := M.pt_lt 0 B
  have v1 := M.pt_lt 1 B
  have v2 := M.pt_lt 2 B
  refine callsIn_wide.1 (less_in _ _ _ _ _ _ _ _ _ w ?_ ?_)
  · intro h3 h2 h1 h0
    rw [decide_eq_false_iff_not]
    omega
  · intro p y hp hz hy
    have hs : ∀ (x : Fin 4) (q : List (Fin 4)), p ++ [y] = q ++ [x] → p = q ∧ y = x := fun x q h => by simpa using h
    rw [decide_eq_decide]
    rcases hp with h | h | h | h
    · obtain ⟨rfl, rfl⟩ := hs 3 [] h
      replace hy : M.pt 3 A ≠ M.pt 3 B := hy
      show M.pt 3 A < M.pt 3 B ↔ A < B
      omega
    · obtain ⟨rfl, rfl⟩ := hs 2 [3] h
      replace hy : M.pt 2 A ≠ M.pt 2 B := hy
      have z3 : M.pt 3 A = M.pt 3 B := hz 3 (by simp)
      show M.pt 2 A < M.pt 2 B ↔ A < B
      omega
    · obtain ⟨rfl, rfl⟩ := hs 1 [3, 2] h
      replace hy : M.pt 1 A ≠ M.pt 1 B := hy
      have z3 : M.pt 3 A = M.pt 3 B := hz 3 (by simp)
      have z2 : M.pt 2 A = M.pt 2 B := hz 2 (by simp)
      show M.pt 1 A < M.pt 1 B ↔ A < B
      omega
    · obtain ⟨rfl, rfl⟩ := hs 0 [3, 2, 1] h
      replace hy : M.pt 0 A ≠ M.pt 0 B := hy
      have z3 : M.pt 3 A = M.pt 3 B := hz 3 (by simp)
      have z2 : M.pt 2 A = M.pt 2 B := hz 2 (by simp)
      have z1 : M.pt 1 A = M.pt 1 B := hz 1 (by simp)
      show M.pt 0 A < M.pt 0 B ↔ A < B
      omega
end Go.Proofs.YtmlkccbhdhgoeaaDoor
