/- Rows of numbers as blocks of memory: an array by value, loaded and stored whole. -/
import Derived.Test.YtdfcfpbofomdcaaDoorProg
import Derived.Test.YtdfcfpbofomdcaaDoorM8
import Derived.WalkKit
import Derived.Below
import Derived.Laws.Externs
import Derived.Laws.ResultCell
import Derived.Deep.QuietTactic
import Derived.BigQuiet
import Derived.RegionTactic
import Derived.BigRegion
import Derived.LoopTactic
import Derived.LoopN
import Derived.Lib.Hide
import Derived.Deep.WholeRow
import Derived.Laws.Bits64
import Derived.Laws.Bits64b
import Derived.Laws.CopyOwn
import Derived.IntWalk
import Derived.RangeFuncNested
import Derived.TacticsInMore
import Derived.OwnWalkIn
namespace Go.Proofs.YtdfcfpbofomdcaaDoor
open Go Go.RowKit

/-- Numbers as the cells of an array. -/
def lv (a : List Nat) : Array Value := (a.map fun (n : Nat) => Value.int .u64 (n : Int)).toArray
theorem lv_size (a : List Nat) : (lv a).size = a.length := by simp [lv]
theorem lv_get {a : List Nat} {i : Nat} (h : i < a.length) : (lv a)[i]? = some (.int .u64 ((M.gl a i : Nat) : Int)) := by
  simp [lv, M.gl, h]
theorem lv_set (a : List Nat) (i m : Nat) : (lv a).setIfInBounds i (.int .u64 (m : Int)) = lv (a.set i m) := by
  simp [lv, List.map_set]
theorem lv_one (a : List Nat) : (lv a).all (·.oneCell') = true := by
  rw [Array.all_eq_true_iff_forall_mem]
  intro x hx
  simp only [lv, List.mem_toArray, List.mem_map] at hx
  obtain ⟨n, _, rfl⟩ := hx
  rfl
theorem lv_inj {a b : List Nat} (h : lv a = lv b) : a = b := by
  unfold lv at h
  have := List.map_inj_right (f := fun n : Nat => Value.int .u64 (n : Int)) (fun x y e => by injection e with _ e; omega) |>.1 (List.toArray_inj h)
  exact this
/-- Zeros. -/
def z25 : List Nat := List.replicate 25 0
def z5 : List Nat := List.replicate 5 0
theorem z25_length : z25.length = 25 := rfl
theorem z5_length : z5.length = 5 := rfl
theorem lv_zero : #[Value.int .u64 0, Value.int .u64 0, Value.int .u64 0, Value.int .u64 0, Value.int .u64 0, Value.int .u64 0, Value.int .u64 0, Value.int .u64 0, Value.int .u64 0, Value.int .u64 0, Value.int .u64 0, Value.int .u64 0, Value.int .u64 0, Value.int .u64 0, Value.int .u64 0, Value.int .u64 0, Value.int .u64 0, Value.int .u64 0, Value.int .u64 0, Value.int .u64 0, Value.int .u64 0, Value.int .u64 0, Value.int .u64 0, Value.int .u64 0, Value.int .u64 0] = lv z25 := rfl
theorem lv_zero5 : #[Value.int .u64 0, Value.int .u64 0, Value.int .u64 0, Value.int .u64 0, Value.int .u64 0] = lv z5 := rfl
/-- A state as a value. -/
abbrev st (a : List Nat) : Value := .agg (lv a)

/-- A block that is just these numbers. -/
def Rw (W : World) (b : Nat) (t : TypeId) (a : List Nat) : Prop := W.heap[b]? = some (.cells (lv a) t (0, 0))
section
variable {W W' : World} {b : Nat} {t : TypeId} {a : List Nat}
theorem Rw.lt (h : Rw W b t a) : b < W.heap.size := (Array.getElem?_eq_some_iff.1 h).1
theorem Rw.cell (h : Rw W b t a) {i : Nat} (hi : i < a.length) : W.cell? ⟨b, i, none⟩ = some (.int .u64 ((M.gl a i : Nat) : Int)) := (cell_of_row W b i _ t (0, 0) h).trans (lv_get hi)
theorem Rw.frozen (h : Rw W b t a) (i : Nat) : W.frozen? ⟨b, i, none⟩ = false := frozen_of_row W b i _ t h
theorem Rw.new (W : World) (t : TypeId) (a : List Nat) : Rw (W.alloc (.cells (lv a) t)) W.heap.size t a := heap_alloc_new W _
theorem Rw.at_ (W : World) (t : TypeId) (a : List Nat) {k : Nat} (h : W.heap.size = k) : Rw (W.alloc (.cells (lv a) t)) k t a := h ▸ Rw.new W t a
theorem Rw.alloc (h : Rw W b t a) (o : Obj) : Rw (W.alloc o) b t a := (Below.heap_alloc W o b h.lt).trans h
theorem Rw.drew (h : Rw W b t a) : Rw W.drew b t a := h
theorem Rw.set_ (h : Rw W b t a) (i m : Nat) : Rw (W.setCell ⟨b, i, none⟩ (.int .u64 (m : Int))) b t (a.set i m) := by
  have := heap_setCell_same W b i _ t (.int .u64 (m : Int)) h
  rw [lv_set] at this
  exact this
theorem Rw.far (h : Rw W b t a) {p : Addr} (hp : b ≠ p.block) (u : Value) : Rw (W.setCell p u) b t a := (Below.heap_setCell W p u b hp).trans h
theorem Rw.below {B : Nat} (h : Rw W b t a) (hb : Below B W W') (hl : b < B) : Rw W' b t a := (hb.block b hl).trans h
theorem Rw.keep (h : Rw W b t a) (hb : Below W.heap.size W W') : Rw W' b t a := h.below hb h.lt
theorem Rw.row (h : Rw W b t a) (c : List Nat) : Rw (W.setRow b (lv c)) b t c := setRow_heap W b _ _ t (0, 0) h
theorem Rw.rowFar (h : Rw W b t a) {g : Nat} (hp : b ≠ g) (c : Array Value) : Rw (W.setRow g c) b t a := (setRow_other W g b c hp).trans h
theorem Rw.grown {row : Option Nat} (h : Rw W b t a) (hb : W.grownBy W' row) (hg : some b ≠ row) : Rw W' b t a := (hb.block b h.lt hg).trans h
end

section
variable {P : Program}
theorem wp_load_st {o : Oper} {a : Act} {w : World} {K : Act → World → Prop} {Q : Exit → Act → World → Prop} (ty : TypeId) (x : Operand) (ho : o.op = .load ty x) (g : Nat) (hx : a.eval x = .pointer (some ⟨g, 0, none⟩)) (t : TypeId) (c : List Nat) (n : Nat) (e : TypeId) (hr : Rw w g t c)
    (hu : P.underlying ty = some (.array n e)) (hi : (P.info? ty).map (·.size) = some n) (hc : c.length = n) (h : K (a.put o.dst (st c)) w) : o.wp P a w K Q :=
  wp_load_row ty x ho g hx t (lv c) (0, 0) _ hr hu rfl (by rw [lv_size, hc]; exact hi) h
theorem wpList_load_st {ops : Array Oper} {rest : List Oper} {o : Oper} {a : Act} {w : World} {Q : Exit → Act → World → Prop} (hgd : o.guard = none) (ty : TypeId) (x : Operand) (ho : o.op = .load ty x) (g : Nat) (hx : a.eval x = .pointer (some ⟨g, 0, none⟩)) (t : TypeId) (c : List Nat) (n : Nat) (e : TypeId) (hr : Rw w g t c)
    (hu : P.underlying ty = some (.array n e)) (hi : (P.info? ty).map (·.size) = some n) (hc : c.length = n) (h : wpList P ops Q rest (a.put o.dst (st c)) w) : wpList P ops Q (o :: rest) a w :=
  wpList_load_row hgd ty x ho g hx t (lv c) (0, 0) _ hr hu rfl (by rw [lv_size, hc]; exact hi) h
theorem wpList_store_st {ops : Array Oper} {rest : List Oper} {o : Oper} {a : Act} {w : World} {Q : Exit → Act → World → Prop} (hgd : o.guard = none) (ty : TypeId) (x y : Operand) (ho : o.op = .store ty x y) (g : Nat) (c : List Nat) (hx : a.eval x = .pointer (some ⟨g, 0, none⟩)) (hy : a.eval y = st c) (t : TypeId) (d : List Nat) (n : Nat) (hr : Rw w g t d)
    (hi : (P.info? ty).map (·.size) = some n) (hc : c.length = n) (hd : d.length = n) (h : wpList P ops Q rest (a.put o.dst undef) (w.setRow g (lv c))) : wpList P ops Q (o :: rest) a w :=
  wpList_store_row hgd ty x y ho g (lv c) hx hy t (lv d) hr (by rw [lv_size, hc]; exact hi) (by rw [lv_size, lv_size, hc, hd]) (lv_one c) h
theorem wpListIn_load_st {F : Fence} {m : Nat} {ops : Array Oper} {rest : List Oper} {o : Oper} {a : Act} {w : World} {Q : Exit → Act → World → Prop} (hgd : o.guard = none) (ty : TypeId) (x : Operand) (ho : o.op = .load ty x) (g : Nat) (hx : a.eval x = .pointer (some ⟨g, 0, none⟩)) (t : TypeId) (c : List Nat) (n : Nat) (e : TypeId) (hr : Rw w g t c)
    (hu : P.underlying ty = some (.array n e)) (hi : (P.info? ty).map (·.size) = some n) (hc : c.length = n) (h : wpListIn F m P ops Q rest (a.put o.dst (st c)) w) : wpListIn F m P ops Q (o :: rest) a w := by
  refine wpListIn_plain hgd fun K hK => ?_
  unfold Oper.wpIn
  rw [Oper.semAt_plain F _ _ (by intro c; rw [ho]; exact fun h => nomatch h)]
  refine ⟨by intro f hf; simp [Oper.about, ho] at hf, ?_⟩
  unfold execOp
  simp only [ho, hx, Instr.loadAt, Instr.sureAddr, Sem.run_bind, Sem.run_pure, Result.andThen_ok, run_loadVar_row w g t ty (lv c) (0, 0) _ hr hu rfl (by rw [lv_size, hc]; exact hi)]
  exact hK _ _ h
theorem wpListIn_store_st {F : Fence} {m : Nat} {ops : Array Oper} {rest : List Oper} {o : Oper} {a : Act} {w : World} {Q : Exit → Act → World → Prop} (hgd : o.guard = none) (ty : TypeId) (x y : Operand) (ho : o.op = .store ty x y) (g : Nat) (c : List Nat) (hx : a.eval x = .pointer (some ⟨g, 0, none⟩)) (hy : a.eval y = st c) (t : TypeId) (d : List Nat) (n : Nat) (hr : Rw w g t d)
    (hi : (P.info? ty).map (·.size) = some n) (hc : c.length = n) (hd : d.length = n) (h : wpListIn F m P ops Q rest (a.put o.dst undef) (w.setRow g (lv c))) : wpListIn F m P ops Q (o :: rest) a w := by
  refine wpListIn_plain hgd fun K hK => ?_
  unfold Oper.wpIn
  rw [Oper.semAt_plain F _ _ (by intro c; rw [ho]; exact fun h => nomatch h)]
  refine ⟨by intro f hf; simp [Oper.about, ho] at hf, ?_⟩
  unfold execOp
  simp only [ho, hx, hy, Instr.storeAt, Instr.sureAddr, Sem.run_bind, Sem.run_pure, Result.andThen_ok, run_storeVar_row w g t ty (lv d) (lv c) hr (by rw [lv_size, hc]; exact hi) (by rw [lv_size, lv_size, hc, hd]) (lv_one c)]
  exact hK _ _ h
end

theorem bcell {W w1 : World} (hb : Below W.heap.size W w1) : (∀ b o, b < W.heap.size → w1.cell? ⟨b, o, none⟩ = W.cell? ⟨b, o, none⟩) ∧ (∀ b o, b < W.heap.size → w1.frozen? ⟨b, o, none⟩ = W.frozen? ⟨b, o, none⟩) :=
  ⟨fun b o h => hb.cell (p := ⟨b, o, none⟩) h, fun b o h => hb.frozen (p := ⟨b, o, none⟩) h⟩
theorem Tryd.size25 : (Tryd.prog.info? 23).map (·.size) = some 25 := by kernel_rfl
theorem Tryd.size5 : (Tryd.prog.info? 45).map (·.size) = some 5 := by kernel_rfl
theorem Tryd.array25 : Tryd.prog.underlying 23 = some (.array 25 22) := by kernel_rfl
/-- The result of a function that lies in a cell. -/
theorem res_row {fn : Func} {p : Tmp} (h : fn.results = #[.cell p 23]) (tmps : Array Value) (w : World) (g : Nat) (t : TypeId) (c : List Nat) (hp : tmps.getD p undef = .pointer (some ⟨g, 0, none⟩)) (hg : Rw w g t c) (hc : c.length = 25) :
    (results fn tmps).run Tryd.prog w = .ok (st c) w :=
  results_cell_row h tmps w g t (lv c) (0, 0) _ hp hg Tryd.array25 rfl (by rw [lv_size, hc]; exact Tryd.size25)
theorem gl_set {a : List Nat} {i m : Nat} (j : Nat) (hi : i < a.length) : M.gl (a.set i m) j = if j = i then m else M.gl a j := by
  unfold M.gl
  rw [List.getD_eq_getElem?_getD, List.getElem?_set]
  by_cases h : i = j
  · subst h; simp [hi]
  · have : ¬ j = i := fun e => h e.symm
    simp [h, this, List.getD_eq_getElem?_getD]
end Go.Proofs.YtdfcfpbofomdcaaDoor
