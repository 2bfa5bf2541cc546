/- What '==' says of two states; regions whose operations read, or call what makes memory of its own. -/
import Derived.Test.YtdfcfpbofomdcaaDoorQ1
import Derived.Laws.StructEq
import Derived.Laws.Cover2
import Derived.Deep.Quiet
import Derived.Deep.QuietTactic
namespace Go.Proofs.YtdfcfpbofomdcaaDoor
open Go Go.RowKit

theorem forIn_all {P : Program} {w : World} (f : Nat → Option Bool × Unit → Sem (ForInStep (Option Bool × Unit))) (p : Nat → Bool) :
    ∀ (l : List Nat), (∀ i ∈ l, (f i (none, ())).run P w = .ok (if p i then .yield (none, ()) else .done (some false, ())) w) → (forIn l ((none, ()) : Option Bool × Unit) f).run P w = .ok (if l.all p then (none, ()) else (some false, ())) w
  | [], _ => by simp [Sem.run_pure]
  | i :: l, h => by
    have h0 := h i (by simp)
    have ih := forIn_all f p l (fun j hj => h j (by simp [hj]))
    simp only [List.forIn_cons, Sem.run_bind, h0, Result.andThen_ok, List.all_cons]
    by_cases hp : p i = true
    · simp only [hp, if_true, Bool.true_and]
      exact ih
    · have hp' : p i = false := by simpa using hp
      simp [hp', Sem.run_pure]

theorem eq_lanes {a b : List Nat} (ha : a.length = 25) (hb : b.length = 25) (w : World) : (Op.equalIn 10000 23 (st a) (st b)).run Tryd.prog w = .ok (decide (a = b)) w := by
  have u3 := Tryd.underlying22
  have a3 := Tryd.isAgg22
  have z3 := Tryd.sizeOf22
  rw [show (10000 : Nat) = 9999 + 1 from rfl, Op.equalIn]
  simp only [Sem.run_bind, run_underlying Tryd.array25, Result.andThen_ok]
  simp only [Std.Legacy.Range.forIn_eq_forIn_range', Std.Legacy.Range.size, Nat.sub_zero, Nat.add_sub_cancel, Nat.div_one]
  go_simp
  rw [forIn_all _ (fun i => decide (M.gl a i = M.gl b i)) (List.range' 0 25) ?_]
  · simp only [Result.andThen_ok]
    by_cases h : a = b
    · subst h
      simp [Sem.run_pure]
    · rw [decide_eq_false h]
      have hn : (List.range' 0 25).all (fun i => decide (M.gl a i = M.gl b i)) = false := by
        rw [Bool.eq_false_iff]
        intro h'
        refine h (M.lanes_ext ha hb fun i hi => ?_)
        have := List.all_eq_true.1 h' i (by rw [List.mem_range'_1]; omega)
        simpa using this
      rw [hn]
      simp [Sem.run_pure]
  · intro i hi
    have hi' : i < 25 := by rw [List.mem_range'_1] at hi; omega
    have ga := lv_get (a := a) (i := i) (by omega)
    have gb := lv_get (a := b) (i := i) (by omega)
    have e : ∀ x y : Int, (Op.equalIn 9999 22 (.int .u64 x) (.int .u64 y)).run Tryd.prog w = .ok (x == y) w := by
      intro x y
      rw [show (9999 : Nat) = 9998 + 1 from rfl, Op.equalIn]
      simp [Sem.run_bind, run_underlying u3, Sem.run_pure]
    go_simp
    by_cases h : M.gl a i = M.gl b i
    · simp [h]
    · have h2 : ¬ ((M.gl a i : Nat) : Int) = ((M.gl b i : Nat) : Int) := by omega
      simp [h, h2]

section
variable {P : Program} {ops : Array Oper} {C : World → Prop} {Q : Act → Prop} {o : Oper} {rest : List Oper} {a : Act}
/-- An operation that yields the same value in every world of the class. -/
theorem quiet_val (v : Value) (hw : Region.wanted o (yielded ops a.tmps) = true) (h1 : ∀ w, C w → (execOp a.eval o).run P w = .ok (.value v) w) (h : wpQuiet P ops C Q rest (a.put o.dst v)) : wpQuiet P ops C Q (o :: rest) a := by
  unfold wpQuiet
  rw [if_pos hw]
  refine ⟨v, fun w hc => ?_, h⟩
  unfold Oper.quietAt
  rw [h1 w hc]
  exact ⟨rfl, rfl⟩
/-- A call that hands back the same value in every world of the class, and leaves a world of the class. -/
theorem quiet_call (v : Value) (f : FuncId) (args : Array Value) (hw : Region.wanted o (yielded ops a.tmps) = true) (h1 : ∀ w, C w → (execOp a.eval o).run P w = .ok (.enter f args) w) (h2 : ∀ w, C w → Calls P f args w fun e w' => e = .returned v ∧ C w') (h : wpQuiet P ops C Q rest (a.put o.dst v)) : wpQuiet P ops C Q (o :: rest) a := by
  unfold wpQuiet
  rw [if_pos hw]
  refine ⟨v, fun w hc => ?_, h⟩
  unfold Oper.quietAt
  rw [h1 w hc]
  exact ⟨rfl, h2 w hc⟩
theorem region_quiet {id : Nat} {Q : Exit → Act → World → Prop} {a : Act} {w : World} {l : List Oper} (hm : P.follows .mixedOrders = true) (hB : Region.lexB .any l.toArray = true) (hC : C w.drew)
    (h : wpQuiet P l.toArray C (fun a' => ∀ w', C w' → Q .normal a' w') l a) : (Code.region id l.toArray true).wp P Q a w :=
  wp_region_quiet hm hB hC (by simpa using h)
theorem exec_load_st {ρ : Operand → Value} {o : Oper} {w : World} (ty : TypeId) (x : Operand) (ho : o.op = .load ty x) (g : Nat) (hx : ρ x = .pointer (some ⟨g, 0, none⟩)) (t : TypeId) (c : List Nat) (n : Nat) (e : TypeId) (hr : Rw w g t c)
    (hu : P.underlying ty = some (.array n e)) (hi : (P.info? ty).map (·.size) = some n) (hc : c.length = n) : (execOp ρ o).run P w = .ok (.value (st c)) w := by
  unfold execOp
  simp only [ho, hx, Instr.loadAt, Instr.sureAddr, Sem.run_bind, Sem.run_pure, Result.andThen_ok, run_loadVar_row w g t ty (lv c) (0, 0) _ hr hu rfl (by rw [lv_size, hc]; exact hi)]
end
end Go.Proofs.YtdfcfpbofomdcaaDoor
