/- unrlp: a list's items, read one behind the other. -/
import Derived.Test.YtcjhgnepehnjjaaDoorJ6
import Derived.Shelf.Abstract
namespace Go.Proofs.YtcjhgnepehnjjaaDoor
open Go Go.RowKit Go.Shelf
attribute [local go_sem] Oper.semAt_some

def ListC (n : Nat) : Prop := ∀ (s : List UInt8) (k D rb : Nat) (w : World), s.length ≤ 65536 → k ≤ s.length → 2 * (s.length - k) + 2 ≤ n → D < 12 → Boxed w rb 51 (.int .i64 D) →
  Calls Tryd.prog 39 #[.pointer (some ⟨rb, 0, none⟩), .string ⟨s.toArray⟩, .int .i64 k] w fun e w' =>
    ∃ a cap, e = .returned (.tuple #[.slice a (M.itemsT n (s.drop k) (D + 1) 0).1.length cap, .int .i64 ((M.itemsT n (s.drop k) (D + 1) 0).2 : Nat)]) ∧
      Fresh w.heap.size w' (M.itemsT n (s.drop k) (D + 1) 0).1 (.slice a (M.itemsT n (s.drop k) (D + 1) 0).1.length cap) ∧ Below w.heap.size w w'

/-- The deferred call: one list less. -/
theorem less_d (bR rb : Nat) (D : Nat) (w : World) (hD : D < 12) (hc : w.cell? ⟨bR, 0, none⟩ = some (.pointer (some ⟨rb, 0, none⟩))) (hr : w.cell? ⟨rb, 0, none⟩ = some (.int .i64 ((D + 1 : Nat) : Int))) (hz : w.frozen? ⟨rb, 0, none⟩ = false) (n : Nat) :
    CallsDIn Fence.wide n Tryd.prog 45 #[.pointer (some ⟨bR, 0, none⟩)] .returning w fun e u' w' => (∃ v, e = .returned v) ∧ u' = .returning ∧ w' = w.setCell ⟨rb, 0, none⟩ (.int .i64 (D : Nat)) := by
  have hw : wrap64 (((D + 1 : Nat) : Int) - 1) = ((D : Nat) : Int) := by unfold wrap64; omega
  have hro : Fence.wide.round = none := rfl
  have H : CallsDIn Fence.wide n Tryd.prog 45 #[.pointer (some ⟨bR, 0, none⟩)] .returning w fun e u' w' => u' = .returning ∧ ((∃ v, e = .returned v) ∧ w' = w.setCell ⟨rb, 0, none⟩ (.int .i64 (D : Nat))) := by
    refine callsDIn_of_wp (R := fun e w' => (∃ v, e = .returned v) ∧ w' = w.setCell ⟨rb, 0, none⟩ (.int .i64 (D : Nat))) Tryd.func45 rfl trivial ?_ rfl
    simp only [Tryd.ntmps45, List.size_toArray, List.length_cons, List.length_nil, Nat.reduceAdd, Nat.reduceSub, Array.replicate_succ, Array.replicate_zero, List.push_toArray, List.append_toArray, List.nil_append, List.cons_append]
    gi_wp2
    go_end0
    exact ⟨⟨_, rfl⟩, rfl⟩
  exact H.mono fun e u' w' ⟨h1, h2, h3⟩ => ⟨h2, h1, h3⟩

/-- Whatever lay there lies as it lay, but for some boxes. -/
structure Fr (w3 : World) (E : Nat → Prop) (W : World) : Prop where
  os : W.os = w3.os
  tape : W.tape = w3.tape
  output : W.output = w3.output
  size : w3.heap.size ≤ W.heap.size
  block : ∀ b, b < w3.heap.size → ¬ E b → W.heap[b]? = w3.heap[b]?
theorem Fr.grown {w3 W W' : World} {E : Nat → Prop} (h : Fr w3 E W) {row : Option Nat} (hg : W.grownBy W' row) (hr : ∀ r, row = some r → w3.heap.size ≤ r) : Fr w3 E W' :=
  ⟨hg.os.trans h.os, hg.tape.trans h.tape, hg.output.trans h.output, Nat.le_trans h.size hg.size, fun b hb hne => (hg.block b (Nat.lt_of_lt_of_le hb h.size) (fun e => by have := hr b e.symm; omega)).trans (h.block b hb hne)⟩
theorem Fr.set {w3 W : World} {E : Nat → Prop} (h : Fr w3 E W) (a : Addr) (u : Value) (ha : E a.block) : Fr w3 E (W.setCell a u) :=
  ⟨h.os, h.tape, h.output, by simpa [World.setCell] using h.size, fun b hb hne => (Below.heap_setCell _ _ _ _ (fun e => hne (by rw [e]; exact ha))).trans (h.block b hb hne)⟩
theorem Fr.wider {w3 W : World} {E E' : Nat → Prop} (h : Fr w3 E W) (hE : ∀ b, E b → E' b) : Fr w3 E' W := ⟨h.os, h.tape, h.output, h.size, fun b hb hne => h.block b hb (fun e => hne (hE b e))⟩
theorem ItRow.cells {B : Nat} {w : World} {L : List (M.It × Value)} {v : Value} (h : ItRow B w L v) {k : Nat} (hk : v.ownBlock = some k) : ∃ o : Obj, w.heap[k]? = some o ∧ o.isCells = true := by
  rcases h.own.2 with ⟨h0, _⟩ | ⟨g, cap, cur, hv, hB, hg, _⟩
  · rw [h0] at hk; cases hk
  · rw [hv] at hk; cases hk; exact ⟨_, hg, rfl⟩
/-- Between two rounds: the row of what has come. -/
def LI (w3 : World) (bl : Nat) (pre : List El) (W : World) : Prop := ∃ v, Boxed W bl 22 v ∧ ItRow w3.heap.size W (pre.map (·.1)) v ∧ Fr w3 (fun b => b = bl) W
theorem boxed_kept {W W' : World} {b : Nat} {t : TypeId} {v : Value} (h : Boxed W b t v) {row : Option Nat} (hg : W.grownBy W' row) (hr : ∀ r, row = some r → ∃ o : Obj, W.heap[r]? = some o ∧ o.isCells = false) : Boxed W' b t v :=
  (hg.block b h.lt (fun e => by
    obtain ⟨o, ho, hc⟩ := hr b e.symm
    rw [show W.heap[b]? = _ from h] at ho
    cases ho
    cases hc)).trans h
theorem LI_own {w3 : World} {bl : Nat} : OwnFrom w3.heap.size (LI w3 bl) := fun _pre _W _W' _row ⟨v, hv, hr, hf⟩ hg hrow =>
  ⟨v, boxed_kept hv hg (fun r e => (hrow r e).2), hr.kept hg (fun r e => (hrow r e).2), hf.grown hg (fun r e => (hrow r e).1)⟩

/-- A round has left: the results lie in their boxes. -/
def LX (w3 : World) (bn be bl : Nat) (x : El) (W : World) : Prop := Boxed W bn 22 (.slice none 0 0) ∧ Boxed W be 27 (.int .i64 (x.2 : Nat)) ∧ Fr w3 (fun b => b = bl ∨ b = be ∨ b = bn) W
theorem LX_own {w3 : World} {bn be bl : Nat} : OwnFrom w3.heap.size (LX w3 bn be bl) := fun _x _W _W' _row ⟨h1, h2, hf⟩ hg hrow =>
  ⟨boxed_kept h1 hg (fun r e => (hrow r e).2), boxed_kept h2 hg (fun r e => (hrow r e).2), hf.grown hg (fun r e => (hrow r e).1)⟩
/-- The loop's variables are assigned to. -/
def LAx (w3 : World) (bl : Nat) (A1 : Nat → Value → Nat → Act) (pre : List El) (x : El) (a' : Act) (B : World) : Prop :=
  ∃ (v : Value) (bx : Nat) (l : Bool) (d : List UInt8) (ys : List M.It) (u : Value), x.1 = (.mk l d ys, u) ∧ pre.length ≤ 512 ∧ a' = A1 bx (iv l d u) x.2 ∧ Boxed B bl 22 v ∧ ItRow w3.heap.size B (pre.map (·.1)) v ∧ Fr w3 (fun b => b = bl) B ∧ Box B bx l d u ∧ w3.heap.size ≤ bx ∧ bx < B.heap.size ∧ some bx ≠ v.ownBlock ∧ u.oneCell' = true ∧
    LayS B (fun b => w3.heap.size ≤ b ∧ b < B.heap.size ∧ some b ≠ v.ownBlock) ys u
theorem LAx_own {w3 : World} {bl : Nat} {A1 : Nat → Value → Nat → Act} (pre : List El) (x : El) (a' : Act) : OwnFrom w3.heap.size fun (_ : Unit) B => LAx w3 bl A1 pre x a' B := by
  rintro _ W W' row ⟨v, bx, l, d, ys, u, hx, hp, ha, hv, hr, hf, hb, h1, h2, h3, h4, hk⟩ hg hrow
  have hr' : ∀ r, row = some r → ∃ o : Obj, W.heap[r]? = some o ∧ o.isCells = false := fun r e => (hrow r e).2
  exact ⟨v, bx, l, d, ys, u, hx, hp, ha, boxed_kept hv hg hr', hr.kept hg hr', hf.grown hg (fun r e => (hrow r e).1), ⟨cell_kept hb.c0 hg hr', cell_kept hb.c1 hg hr', cell_kept hb.c2 hg hr'⟩, h1, Nat.lt_of_lt_of_le h2 hg.size, h3, h4,
    (hk.kept hg hr').wider fun b ⟨k1, k2, k3⟩ => ⟨k1, Nat.lt_of_lt_of_le k2 hg.size, k3⟩⟩

theorem results_cells {fn : Func} {p q : Tmp} {ty tz : TypeId} (h : fn.results = #[.cell p ty, .cell q tz]) (tmps : Array Value) (P : Program) (w : World) (a b : Addr) (u v : Value) (hp : tmps.getD p undef = .pointer (some a)) (hq : tmps.getD q undef = .pointer (some b))
    (hu : (loadVar ty a).run P w = .ok u w) (hv : (loadVar tz b).run P w = .ok v w) : (results fn tmps).run P w = .ok (.tuple #[u, v]) w := by
  have hp' : tmps[p]?.getD undef = .pointer (some a) := by simpa using hp
  have hq' : tmps[q]?.getD undef = .pointer (some b) := by simpa using hq
  simp [results, h, hp', hq', Sem.run_bind, Result.andThen, asAddr, hu, hv]

set_option maxRecDepth 100000 in
set_option maxHeartbeats 8000000 in
/-- The function's end: the rounds' deferred calls, of which there are none; then its own one. -/
theorem leave_list (w w3 X : World) (rb Dd D : Nat) (u : Value) (q : Nat) (tmps : Array Value) (a : Option Addr) (n cap : Nat) (hu : u = .slice a n cap) (hz3 : w3.heap.size = w.heap.size + 7) (hlt : rb < w.heap.size) (hD : D < 12) (hDd : w3.heap.size ≤ Dd) (hK : X.heap[Dd]? = some (.deferred (some [])))
    (hXn : Boxed X (w.heap.size + 1) 22 u) (hXe : Boxed X (w.heap.size + 2) 27 (.int .i64 (q : Nat))) (hXf : Fr w3 (fun b => b = w.heap.size + 3 ∨ b = w.heap.size + 2 ∨ b = w.heap.size + 1) X)
    (hP3 : Boxed w3 w.heap.size 49 (.pointer (some ⟨rb, 0, none⟩))) (hR3 : Boxed w3 rb 51 (.int .i64 ((D + 1 : Nat) : Int))) (hR : Boxed w rb 51 (.int .i64 D))
    (hback : w3.os = w.os ∧ w3.tape = w.tape ∧ w3.output = w.output ∧ ∀ b, b < w.heap.size → b ≠ rb → w3.heap[b]? = w.heap[b]?)
    (h6 : tmps.getD 6 undef = .pointer (some ⟨w.heap.size + 1, 0, none⟩)) (h7 : tmps.getD 7 undef = .pointer (some ⟨w.heap.size + 2, 0, none⟩)) (R : Ending → World → Prop)
    (hend : ∀ Z : World, Below w.heap.size w Z → X.heap.size = Z.heap.size → (∀ S xs v, LayS X S xs v → (∀ b, S b → b ≠ rb) → LayS Z S xs v) → R (.returned (.tuple #[u, .int .i64 (q : Nat)])) Z) :
    LeavesInM Fence.wide 3 Tryd.prog Tryd.f39 tmps R [{ target := .collected Dd, args := #[] }, { target := .fn (.func 45) #[.pointer (some ⟨w.heap.size, 0, none⟩)], args := #[] }] .returning X := by
  have hDlt : Dd < X.heap.size := (Array.getElem?_eq_some_iff.1 hK).1
  have hsz := hXf.size
  refine ⟨by simp, .inl ⟨_, _, rfl, run_takeDeferred hK, ?_⟩⟩
  obtain ⟨Y, hY⟩ : ∃ Y, Y = X.putObj Dd (.deferred none) := ⟨_, rfl⟩
  have hYo : ∀ b, b ≠ Dd → Y.heap[b]? = X.heap[b]? := fun b hb => by rw [hY]; exact World.putObj_heap_other hb
  have hYz : Y.heap.size = X.heap.size := by rw [hY]; simp [World.putObj]
  have hP : Boxed Y w.heap.size 49 (.pointer (some ⟨rb, 0, none⟩)) := ((hYo _ (by omega)).trans (hXf.block _ (by omega) (by omega))).trans hP3
  have hRY : Boxed Y rb 51 (.int .i64 ((D + 1 : Nat) : Int)) := ((hYo _ (by omega)).trans (hXf.block _ (by omega) (by omega))).trans hR3
  have ho : Y.os = X.os ∧ Y.tape = X.tape ∧ Y.output = X.output := by rw [hY]; exact ⟨rfl, rfl, rfl⟩
  have hYl : ∀ S xs v, LayS X S xs v → LayS Y S xs v := fun S xs v h => h.kept (row := some Dd) (by rw [hY]; exact grownBy_putObj' _ _ _) (fun r e => by cases e; exact ⟨_, hK, rfl⟩)
  show LeavesInM _ _ _ _ _ _ _ _ (X.putObj Dd (.deferred none))
  rw [← hY]
  clear hY
  refine ⟨by simp, .inr ⟨fun h => (by cases h), _, _, 45, #[.pointer (some ⟨w.heap.size, 0, none⟩)], rfl, ?_, fun _ _ => trivial, ?_⟩⟩
  · have eg := enters_of Tryd.func45 (by kernel_rfl) rfl
    simp [invoke, go_sem]
  · refine (less_d w.heap.size rb D Y hD hP.cell hRY.cell hRY.frozen _).mono ?_
    rintro e u' Z ⟨⟨v, rfl⟩, rfl, hZ⟩
    have hZo : ∀ b, b ≠ rb → Z.heap[b]? = Y.heap[b]? := fun b hb => by rw [hZ]; exact Below.heap_setCell _ _ _ _ (by simpa using hb)
    have hZn : Boxed Z (w.heap.size + 1) 22 u := ((hZo _ (by omega)).trans (hYo _ (by omega))).trans hXn
    have hZe : Boxed Z (w.heap.size + 2) 27 (.int .i64 (q : Nat)) := ((hZo _ (by omega)).trans (hYo _ (by omega))).trans hXe
    have hZr : Boxed Z rb 51 (.int .i64 (D : Nat)) := by rw [hZ]; exact hRY.set _
    have hZz : Z.heap.size = X.heap.size := by rw [← hYz, hZ]; simp [World.setCell]
    have hZB : Below w.heap.size w Z := by
      obtain ⟨b1, b2, b3, b4⟩ := hback
      have hzo : Z.os = Y.os ∧ Z.tape = Y.tape ∧ Z.output = Y.output := by rw [hZ]; exact ⟨rfl, rfl, rfl⟩
      refine ⟨hzo.1.trans (ho.1.trans (hXf.os.trans b1)), hzo.2.1.trans (ho.2.1.trans (hXf.tape.trans b2)), hzo.2.2.trans (ho.2.2.trans (hXf.output.trans b3)), by omega, fun b hb => ?_⟩
      by_cases hbr : b = rb
      · subst hbr
        exact (show _ = _ from hZr).trans (show _ = _ from hR).symm
      · exact (hZo b hbr).trans ((hYo b (by omega)).trans ((hXf.block b (by omega) (by omega)).trans (b4 b hb hbr)))
    have hZl : ∀ S xs v, LayS X S xs v → (∀ b, S b → b ≠ rb) → LayS Z S xs v := fun S xs v h hS => (hYl S xs v h).keep fun b hb => ⟨hb, hZo b (hS b hb)⟩
    clear hZ
    have hcn := hZn.cell
    have hce := hZe.cell
    show LeavesInM _ _ _ _ _ _ [] _ _
    refine ⟨_, results_cells rfl _ _ _ ⟨w.heap.size + 1, 0, none⟩ ⟨w.heap.size + 2, 0, none⟩ u (.int .i64 (q : Nat)) h6 h7 ?_ ?_, hend _ hZB hZz.symm hZl⟩
    · subst hu
      go_simp
    · go_simp

set_option maxRecDepth 100000 in
set_option maxHeartbeats 8000000 in
theorem list_c (n : Nat) (hread : ∀ j, j < n → ItemC j) : ListC n := by
  intro s k D rb w hs hk hn hD hR
  have hro : Fence.wide.round = none := rfl
  have hcr := hR.cell
  have hfr := hR.frozen
  have hlt := hR.lt
  have hw : wrap64 (((D : Nat) : Int) + 1) = ((D + 1 : Nat) : Int) := by unfold wrap64; omega
  have hmf : ∀ (fn : Fn) (first cap : Array Value) (w : World), (Instr.makeFunc fn first cap).run Tryd.prog w = .ok (.func fn first cap) w := fun _ _ _ _ => rfl
  obtain ⟨w0, hw0⟩ : ∃ w0, ((w.alloc (.cells #[.pointer (some ⟨rb, 0, none⟩)] 49)).alloc (.cells #[.slice none 0 0] 22)).alloc (.cells #[.int .i64 0] 27) = w0 := ⟨_, rfl⟩
  have hb0 : Below w.heap.size w w0 := by rw [← hw0]; (repeat (first | exact Below.refl _ _ | refine Below.drew ?_ | refine Below.alloc ?_ (by first | omega | (simp; omega) | simp) _ | refine Below.setCell ?_ (by first | omega | (simp; omega) | simp) _))
  have hz0 : w0.heap.size = w.heap.size + 3 := by rw [← hw0]; simp
  have hR0 : Boxed w0 rb 51 (.int .i64 D) := (hb0.block rb hlt).trans hR
  have hP0 : Boxed w0 w.heap.size 49 (.pointer (some ⟨rb, 0, none⟩)) := by rw [← hw0]; exact ((Boxed.new w _ _).alloc _).alloc _
  have hN0 : Boxed w0 (w.heap.size + 1) 22 (.slice none 0 0) := by
    rw [← hw0]
    have := Boxed.new (w.alloc (.cells #[.pointer (some ⟨rb, 0, none⟩)] 49)) 22 (.slice none 0 0)
    rw [World.size_alloc] at this
    exact this.alloc _
  have hE0 : Boxed w0 (w.heap.size + 2) 27 (.int .i64 0) := by
    rw [← hw0]
    have := Boxed.new ((w.alloc (.cells #[.pointer (some ⟨rb, 0, none⟩)] 49)).alloc (.cells #[.slice none 0 0] 22)) 27 (.int .i64 0)
    rw [World.size_alloc, World.size_alloc] at this
    exact this
  obtain ⟨w1, hw1⟩ : ∃ w1, w0.setCell ⟨rb, 0, none⟩ (.int .i64 ((D + 1 : Nat) : Int)) = w1 := ⟨_, rfl⟩
  have hz1 : w1.heap.size = w0.heap.size := by rw [← hw1]; simp [World.setCell]
  have hbk1 : ∀ b, b ≠ rb → w1.heap[b]? = w0.heap[b]? := fun b hb => by rw [← hw1]; exact Below.heap_setCell _ _ _ _ (by simpa using hb)
  have hR1 : Boxed w1 rb 51 (.int .i64 ((D + 1 : Nat) : Int)) := by rw [← hw1]; exact hR0.set _
  have hP1 : Boxed w1 w.heap.size 49 (.pointer (some ⟨rb, 0, none⟩)) := (hbk1 _ (by omega)).trans hP0
  have hN1 : Boxed w1 (w.heap.size + 1) 22 (.slice none 0 0) := (hbk1 _ (by omega)).trans hN0
  have hE1 : Boxed w1 (w.heap.size + 2) 27 (.int .i64 0) := (hbk1 _ (by omega)).trans hE0
  have c0 := hR0.cell
  have f0 := hR0.frozen
  have p0 := hP0.cell
  have p1 := hP1.cell
  have hnow : ∀ W : World, W.setCell ⟨rb, 0, none⟩ (.int .i64 ((D : Int) + 1)) = W.setCell ⟨rb, 0, none⟩ (.int .i64 ((D + 1 : Nat) : Int)) := fun W => rfl
  refine (callsIn_wide (n := 3)).1 ?_
  refine callsIn_of_wp_marks Tryd.func39 rfl trivial ?_ rfl
  simp only [Tryd.ntmps39, List.size_toArray, List.length_cons, List.length_nil, Nat.reduceAdd, Nat.reduceSub, Array.replicate_succ, Array.replicate_zero, List.push_toArray, List.append_toArray, List.nil_append, List.cons_append]
  gi_wp2
  rw [hw1]
  refine ⟨trivial, (items_in _ s k _ rfl _).mono ?_⟩
  rintro e w3 ⟨rfl, hw3⟩
  have hz2 : (w1.alloc (.cells #[.slice none 0 0] 22)).heap.size = w.heap.size + 4 := by rw [World.size_alloc]; omega
  rw [hz2]
  have hb3 : Below w1.heap.size w1 w3 := by rw [hw3]; exact ((((Below.refl _ w1).alloc (Nat.le_refl _) _).alloc (by simp) _).alloc (by simp; omega) _).alloc (by simp; omega) _
  have hz3 : w3.heap.size = w.heap.size + 7 := by rw [hw3]; simp; omega
  have hR3 : Boxed w3 rb 51 (.int .i64 ((D + 1 : Nat) : Int)) := (hb3.block rb (by omega)).trans hR1
  have hP3 : Boxed w3 w.heap.size 49 (.pointer (some ⟨rb, 0, none⟩)) := (hb3.block _ (by omega)).trans hP1
  have hN3 : Boxed w3 (w.heap.size + 1) 22 (.slice none 0 0) := (hb3.block _ (by omega)).trans hN1
  have hE3 : Boxed w3 (w.heap.size + 2) 27 (.int .i64 0) := (hb3.block _ (by omega)).trans hE1
  have hL3 : Boxed w3 (w.heap.size + 3) 22 (.slice none 0 0) := by
    rw [hw3]
    have := Boxed.new w1 22 (.slice none 0 0)
    rw [show w1.heap.size = w.heap.size + 3 by omega] at this
    exact ((this.alloc _).alloc _).alloc _
  have hS3 : Boxed w3 (w.heap.size + 4) 9 (.string ⟨s.toArray⟩) := by
    rw [hw3]
    have := Boxed.new (w1.alloc (.cells #[.slice none 0 0] 22)) 9 (.string ⟨s.toArray⟩)
    rw [hz2] at this
    exact (this.alloc _).alloc _
  have hA3 : Boxed w3 (w.heap.size + 5) 3 (.int .i64 k) := by
    rw [hw3]
    have := Boxed.new ((w1.alloc (.cells #[.slice none 0 0] 22)).alloc (.cells #[.string ⟨s.toArray⟩] 9)) 3 (.int .i64 k)
    rw [World.size_alloc, hz2] at this
    exact this.alloc _
  have hF3 : Boxed w3 (w.heap.size + 6) 52 (.func (.func 22) #[.pointer (some ⟨rb, 0, none⟩)] #[]) := by
    rw [hw3]
    have := Boxed.new (((w1.alloc (.cells #[.slice none 0 0] 22)).alloc (.cells #[.string ⟨s.toArray⟩] 9)).alloc (.cells #[.int .i64 k] 3)) 52 (.func (.func 22) #[.pointer (some ⟨rb, 0, none⟩)] #[])
    rw [World.size_alloc, World.size_alloc, hz2] at this
    exact this
  clear hw3
  have hback : w3.os = w.os ∧ w3.tape = w.tape ∧ w3.output = w.output ∧ ∀ b, b < w.heap.size → b ≠ rb → w3.heap[b]? = w.heap[b]? := by
    have h1 : w1.os = w0.os ∧ w1.tape = w0.tape ∧ w1.output = w0.output := by rw [← hw1]; exact ⟨rfl, rfl, rfl⟩
    exact ⟨hb3.os.trans (h1.1.trans hb0.os), hb3.tape.trans (h1.2.1.trans hb0.tape), hb3.output.trans (h1.2.2.trans hb0.output), fun b h2 h3 => (hb3.block b (by omega)).trans ((hbk1 b h3).trans (hb0.block b h2))⟩
  gi_wp2
  obtain ⟨A1, hA1⟩ : ∃ A1 : Nat → Value → Nat → Act, A1 = fun bx y e => { tmps := #[.pointer (some ⟨rb, 0, none⟩), .string ⟨s.toArray⟩, .int .i64 k, .pointer (some ⟨w.heap.size, 0, none⟩), undef, undef, .pointer (some ⟨w.heap.size + 1, 0, none⟩), .pointer (some ⟨w.heap.size + 1 + 1, 0, none⟩), .pointer (some ⟨w.heap.size + 3, 0, none⟩), .pointer (some ⟨bx, 0, none⟩), .int .i64 (e : Nat),
    .pointer (some ⟨rb, 0, none⟩), .pointer (some ⟨rb, 0, none⟩), .pointer (some ⟨rb, 0, none⟩), .int .i64 D, .int .i64 ((D : Int) + 1), .pointer (some ⟨rb, 0, none⟩), .pointer (some ⟨rb, 0, none⟩), .func (.func 45) #[] #[.pointer (some ⟨w.heap.size, 0, none⟩)], .string ⟨s.toArray⟩, .int .i64 k, .pointer (some ⟨rb, 0, none⟩), .func (.func 22) #[.pointer (some ⟨rb, 0, none⟩)] #[],
    .func (.func 50) #[] #[.pointer (some ⟨w.heap.size + 4 + 1, 0, none⟩), .pointer (some ⟨w.heap.size + 4, 0, none⟩), .pointer (some ⟨w.heap.size + 4 + 2, 0, none⟩)], y, .int .i64 (e : Nat), undef, undef, undef, undef, undef, undef, undef, undef, undef, undef], defers := [] } := ⟨_, rfl⟩
  refine range_lv (gf := 50) (lb := #[.pointer (some ⟨w.heap.size + 5, 0, none⟩), .pointer (some ⟨w.heap.size + 4, 0, none⟩), .pointer (some ⟨w.heap.size + 6, 0, none⟩)]) (by omega) rfl (enters_of Tryd.func50 (by kernel_rfl) rfl)
    (encs := encE) (fun x => by obtain ⟨⟨⟨l, d, ys⟩, u⟩, e⟩ := x; rfl) (LI w3 (w.heap.size + 3)) (LI_own) (LX w3 (w.heap.size + 1) (w.heap.size + 2) (w.heap.size + 3)) (LX_own)
    (fun b => b < w.heap.size + 7 ∧ b ≠ w.heap.size + 3) (fun b hb => by omega) (fun xs => M.itemsT n (s.drop k) (D + 1) 0 = (xs.map (·.1.1), 0)) (fun x => x.2 ≠ 0 ∧ M.itemsT n (s.drop k) (D + 1) 0 = ([], x.2)) (fun x => x.2 = 0)
    (fun pre x A B => pre.length ≤ 512 ∧ Fresh A.heap.size B (kids x.1.1) x.1.2) ?seq ?zero (LAx w3 (w.heap.size + 3) A1) LAx_own ?assign ?body ?done ?stop
  case seq =>
    intro l J Jx W hzW hTW hJ hY h0
    have tb : ∀ {b t v}, b < w.heap.size + 7 → b ≠ w.heap.size + 3 → Boxed w3 b t v → Boxed W b t v := fun h1 h2 h => (hTW _ ⟨h1, h2⟩).trans h
    exact seq_in n (3 - 1) l hread s k (D + 1) rb (w.heap.size + 5) (w.heap.size + 4) (w.heap.size + 6) hs hk hn (by omega) J Jx (fun b => b < w.heap.size + 7 ∧ b ≠ w.heap.size + 3) (by omega) (by omega) (by omega) (by omega) W
      ⟨tb (by omega) (by omega) hA3, tb (by omega) (by omega) hS3, tb (by omega) (by omega) hF3, tb (by omega) (by omega) hR3⟩ hJ hY h0
  case zero => exact ⟨_, hL3, ItRow.nil _ _, ⟨rfl, rfl, rfl, Nat.le_refl _, fun _ _ _ => rfl⟩⟩
  case assign =>
    rintro l pre ⟨⟨⟨l', d, ys⟩, u⟩, er⟩ A B K ⟨v, hv, hrow, hf⟩ hg ⟨hp, hfresh⟩ hK
    replace hfresh : Fresh A.heap.size B ys u := hfresh
    replace hp : pre.length ≤ 512 := hp
    obtain ⟨ua, uc, hue⟩ := hfresh.slice
    subst hue
    dsimp only [encE, iv]
    have hAB : Below A.heap.size A B := ⟨hg.os, hg.tape, hg.output, hg.size, fun k hk => hg.block k hk (by simp)⟩
    have hAB1 : Below A.heap.size A (B.alloc (.cells #[.bool l', .string ⟨d.toArray⟩, .slice ua ys.length uc] 24)) := hAB.alloc hg.size _
    have hsA := hf.size
    have hAz := hg.size
    have hone : (.slice ua ys.length uc : Value).oneCell' = true := rfl
    have hAX : LAx w3 (w.heap.size + 3) A1 pre ((M.It.mk l' d ys, .slice ua ys.length uc), er) (A1 B.heap.size (iv l' d (.slice ua ys.length uc)) er) (B.alloc (.cells #[.bool l', .string ⟨d.toArray⟩, .slice ua ys.length uc] 24)) :=
      ⟨v, B.heap.size, l', d, ys, .slice ua ys.length uc, rfl, hp, rfl, (hAB1.block _ hv.lt).trans hv, hrow.from_ hAB1, hf.grown (row := none) ⟨hAB1.os, hAB1.tape, hAB1.output, hAB1.size, fun k hk _ => hAB1.block k hk⟩ (fun r e => by cases e),
        Box.new B l' d (.slice ua ys.length uc) _, by omega, by simp, fun e => by have := (World.ownsRow.lt hrow.own _ e.symm).2; omega, rfl, hrow.other hsA (hfresh.from_ ((Below.refl _ B).alloc (Nat.le_refl _) _))⟩
    rw [hA1] at hAX
    gi_wp2
    refine hK _ _ ((KeepsOthers.alloc B _).from _) (fun b hb => Below.heap_alloc _ _ _ (by omega)) ?_
    rw [hA1]
    exact hAX
  case body =>
    rintro l pre ⟨⟨⟨l0, d0, ys0⟩, u0⟩, er⟩ a' B ⟨v, bx, l', d, ys, u, hx, hp, rfl, hv, hrow, hf, hb, hb1, hb2, hb3, hu, hk'⟩
    cases hx
    rw [hA1]
    dsimp only [iv]
    have hbn : Boxed B (w.heap.size + 1) 22 (.slice none 0 0) := (hf.block _ (by omega) (by omega)).trans hN3
    have hbe : Boxed B (w.heap.size + 2) 27 (.int .i64 0) := (hf.block _ (by omega) (by omega)).trans hE3
    have hsz := hf.size
    by_cases he : er = 0
    · subst he
      have HR := Lib.hid (list_reg l 1 (w.heap.size + 3) bx w3.heap.size (pre.map (·.1)) v l0 d0 ys0 u0 B)
      gi_wp2
      refine wpIn_mono' (HR.out _ _ _ _ _ _ _ _ _ _ _ _ _ _ _ _ _ _ _ _ _ _ _ _ _ _ _ _ _ _ _ _ _ _ _ (by kernel_rfl) hv hb hrow (by omega) hf.size hb2 hb3 (by omega) (by simp; omega) hu hk') ?_
      rintro b U ⟨v', hbox, hrow', ho, ht, hou, hsz', hbl⟩
      gi_wp2
      have hbl' : ∀ c, c < B.heap.size → c ≠ w.heap.size + 3 → (w3.heap.size ≤ c → ∃ o, B.heap[c]? = some o ∧ o.isCells = false) → U.heap[c]? = B.heap[c]? := fun c h1 h2 h3 => hbl c h1 h2 fun e => by
        have h4 := (World.ownsRow.lt hrow.own c e.symm).1
        obtain ⟨o, ho, hc⟩ := h3 h4
        obtain ⟨o', ho', hc'⟩ := hrow.cells e.symm
        rw [ho] at ho'
        cases ho'
        rw [hc] at hc'
        cases hc'
      exact ⟨rfl, ⟨hsz', fun c o h1 h2 h3 => (hbl' c (Array.getElem?_eq_some_iff.1 h2).1 (by omega) (fun _ => ⟨o, h2, h3⟩)).trans h2⟩, fun c hc => hbl' c (by omega) hc.2 (fun h => by omega),
        v', hbox, by simpa using hrow', ⟨ho.trans hf.os, ht.trans hf.tape, hou.trans hf.output, by omega, fun c h1 h2 => (hbl' c (by omega) h2 (fun h => by omega)).trans (hf.block c h1 h2)⟩⟩
    · have he' : (((er : Nat) : Int) != 0) = true := by simp; omega
      have cn := hbn.cell
      have fn := hbn.frozen
      have ce := hbe.cell
      have fe := hbe.frozen
      gi_wp2
      refine ⟨fun h => he h, ((KeepsOthers.setCell _ _ _).trans (KeepsOthers.setCell _ _ _)).from _, (hbn.set _).other (by omega) _, (hbe.other (by omega) _).set _, ((hf.wider fun b h => .inl h).set _ _ (.inr (.inr rfl))).set _ _ (.inr (.inl rfl))⟩
  case done =>
    rintro Dd xs W hDd hxs ⟨v, hv, hrow, hf⟩ hK
    have hsz := hf.size
    have hbn : Boxed W (w.heap.size + 1) 22 (.slice none 0 0) := (hf.block _ (by omega) (by omega)).trans hN3
    have hbe : Boxed W (w.heap.size + 2) 27 (.int .i64 0) := (hf.block _ (by omega) (by omega)).trans hE3
    have hbp : Boxed W w.heap.size 49 (.pointer (some ⟨rb, 0, none⟩)) := (hf.block _ (by omega) (by omega)).trans hP3
    have hbr : Boxed W rb 51 (.int .i64 ((D + 1 : Nat) : Int)) := (hf.block _ (by omega) (by omega)).trans hR3
    obtain ⟨va, vc, hve⟩ := hrow.slice
    subst hve
    have cv := hv.cell
    have cn := hbn.cell
    have fn := hbn.frozen
    have ce := hbe.cell
    have fe := hbe.frozen
    have hbe1 : Boxed (W.setCell ⟨w.heap.size + 1, 0, none⟩ (.slice va xs.length vc)) (w.heap.size + 2) 27 (.int .i64 0) := hbe.other (by omega) _
    obtain ⟨X, hX⟩ : ∃ X, X = (W.setCell ⟨w.heap.size + 1, 0, none⟩ (.slice va xs.length vc)).setCell ⟨w.heap.size + 1 + 1, 0, none⟩ (.int .i64 0) := ⟨_, rfl⟩
    have hXo : ∀ b, b ≠ w.heap.size + 1 → b ≠ w.heap.size + 2 → X.heap[b]? = W.heap[b]? := fun b h1 h2 => by
      rw [hX]
      exact (Below.heap_setCell _ _ _ _ (by simpa using h2)).trans (Below.heap_setCell _ _ _ _ (by simpa using h1))
    have hXz : X.heap.size = W.heap.size := by rw [hX]; simp [World.setCell]
    have hXn : Boxed X (w.heap.size + 1) 22 (.slice va xs.length vc) := by rw [hX]; exact (hbn.set _).other (by omega) _
    have hXe : Boxed X (w.heap.size + 2) 27 (.int .i64 0) := by rw [hX]; exact hbe1.set _
    have hXf : Fr w3 (fun b => b = w.heap.size + 3 ∨ b = w.heap.size + 2 ∨ b = w.heap.size + 1) X := by rw [hX]; exact ((hf.wider fun b h => .inl h).set _ _ (.inr (.inr rfl))).set _ _ (.inr (.inl rfl))
    have hXr : LayS X (fun b => w3.heap.size ≤ b ∧ b < W.heap.size) (xs.map (·.1.1)) (.slice va xs.length vc) := by
      have h1 := hrow.fresh
      simp only [List.map_map, List.length_map] at h1
      exact h1.keep fun b ⟨h2, h3⟩ => ⟨⟨h2, h3⟩, hXo b (by omega) (by omega)⟩
    have hKX : X.heap[Dd]? = some (.deferred (some [])) := (hXo Dd (by omega) (by omega)).trans hK
    have hDlt : Dd < X.heap.size := (Array.getElem?_eq_some_iff.1 hKX).1
    have hres : (xs.map (·.1.1)).length = xs.length := List.length_map _
    gi_wp2
    rw [← hX]
    refine leave_list w w3 X rb Dd D (.slice va xs.length vc) 0 _ va xs.length vc rfl hz3 hlt hD hDd hKX hXn hXe hXf hP3 hR3 hR hback rfl rfl _ ?_
    intro Z hB hz hl
    refine ⟨va, vc, rfl, ?_, hB⟩
    have h2 := hl _ _ _ hXr (fun b hb => by omega)
    exact h2.wider fun b hb => by omega
  case stop =>
    rintro Dd x W hDd ⟨hx0, hxi⟩ ⟨hXn, hXe, hXf⟩ hK
    gi_wp2
    refine leave_list w w3 W rb Dd D (.slice none 0 0) x.2 _ none 0 0 rfl hz3 hlt hD hDd hK hXn hXe hXf hP3 hR3 hR hback rfl rfl _ ?_
    intro Z hB hz hl
    exact ⟨none, 0, rfl, Fresh.nil _ _ _, hB⟩
end Go.Proofs.YtcjhgnepehnjjaaDoor
