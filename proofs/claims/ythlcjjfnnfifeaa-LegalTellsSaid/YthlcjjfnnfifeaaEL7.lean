/- The reference's legal: tx, span, Range, Legal, Versions, Latest. -/
import Derived.Test.YthlcjjfnnfifeaaEL6
import Derived.Laws.Tables
namespace Go.Proofs.Ythlcjjfnnfifeaa
open Go Go.RowKit

/-- The reference's span: from, to, is. -/
def M.spF (k v : Int) : Int := if k = 1 then (if v = 4 then 5 else 0) else if k = 2 then v else if k = 3 then wrap64 (3 * v) else if k = 4 then wrap64 (2 * v) else if k = 5 then wrap64 (5 * v) else 0
def M.spT (k v : Int) : Int := if k = 1 then 5 else if k = 2 then (if v = 2 then 5 else v) else if k = 3 then 5 else if k = 4 then 5 else if k = 5 then wrap64 (4 + v) else 0
def M.spI (k v : Int) : Bool := if k = 1 then (decide (v = 4) || decide (v = 0) || decide (v = 1) || decide (v = 2) || decide (v = 126)) else if k = 2 then (decide (v = 2) || decide (v = 0) || decide (v = 1)) else if k = 3 then (decide (v = 0) || decide (v = 1)) else if k = 4 then (decide (v = 0) || decide (v = 2)) else if k = 5 then (decide (v = 0) || decide (v = 1)) else false
def sp13 (k v : Int) : Value := .agg #[.int .i64 (M.spF k v), .int .i64 (M.spT k v), .bool (M.spI k v)]
theorem Try.spanSize : (Try.prog.info? 42).map (·.size) = some 3 := by kernel_rfl
theorem set_three13 {w : World} {g : Nat} {o0 o1 o2 : Value} {t : TypeId} (h : w.heap[g]? = some (.cells #[o0, o1, o2] t (0, 0))) (a b c : Value) :
    ((w.setCell ⟨g, 0, none⟩ a).setCell ⟨g, 1, none⟩ b).setCell ⟨g, 2, none⟩ c = w.setRow g #[a, b, c] := by
  have e1 := setCell_eq_setRow w g 0 #[o0, o1, o2] t (0, 0) a h
  have h1 := setRow_heap w g #[o0, o1, o2] (#[o0, o1, o2].setIfInBounds 0 a) t (0, 0) h
  have e2 := setCell_eq_setRow (w.setRow g (#[o0, o1, o2].setIfInBounds 0 a)) g 1 _ t (0, 0) b h1
  have h2 := setRow_heap _ g _ ((#[o0, o1, o2].setIfInBounds 0 a).setIfInBounds 1 b) t (0, 0) h1
  have e3 := setCell_eq_setRow _ g 2 _ t (0, 0) c h2
  rw [e1, e2, e3, setRow_setRow, setRow_setRow]
  rfl
theorem sp_new {fn : Func} {p : Tmp} (hres : fn.results = #[.cell p 42]) (w : World) (tmps : Array Value) (a b : Int) (i : Bool) (R : Ending → World → Prop) (hp : tmps.getD p undef = .pointer (some ⟨w.heap.size, 0, none⟩))
    (h : ∀ Z, Below w.heap.size w Z → R (.returned (.agg #[.int .i64 a, .int .i64 b, .bool i])) Z) :
    bodyPost Try.prog fn R .ret { tmps := tmps, defers := [] } (w.alloc (.cells #[.int .i64 a, .int .i64 b, .bool i] 42)) := by
  have := results_cell_row (P := Try.prog) hres tmps (w.alloc (.cells #[.int .i64 a, .int .i64 b, .bool i] 42)) w.heap.size 42 #[.int .i64 a, .int .i64 b, .bool i] (0, 0) _ hp (heap_alloc_new w _) Try.underlying42 rfl Try.spanSize
  exact bodyPost_ret this rfl (h _ ((Below.refl _ w).alloc (Nat.le_refl _) _))

theorem sp_post {fn : Func} {p : Tmp} (hres : fn.results = #[.cell p 42]) (w w1 : World) (tmps : Array Value) (a b : Int) (i : Bool) (g : Nat) (hg : w.heap.size ≤ g) (hB : Below w.heap.size w w1) (o0 o1 o2 : Value)
    (hrow : w1.heap[g]? = some (.cells #[o0, o1, o2] 42 (0, 0))) (R : Ending → World → Prop) (hp : tmps.getD p undef = .pointer (some ⟨g, 0, none⟩))
    (h : ∀ Z, Below w.heap.size w Z → R (.returned (.agg #[.int .i64 a, .int .i64 b, .bool i])) Z) :
    bodyPost Try.prog fn R .ret { tmps := tmps, defers := [] } (((w1.setCell ⟨g, 0, none⟩ (.int .i64 a)).setCell ⟨g, 1, none⟩ (.int .i64 b)).setCell ⟨g, 2, none⟩ (.bool i)) := by
  rw [set_three13 hrow]
  have := results_cell_row (P := Try.prog) hres tmps (w1.setRow g #[.int .i64 a, .int .i64 b, .bool i]) g 42 #[.int .i64 a, .int .i64 b, .bool i] (0, 0) _ hp (setRow_heap _ _ _ _ _ (0, 0) hrow) Try.underlying42 rfl Try.spanSize
  exact bodyPost_ret this rfl (h _ (hB.trans ⟨rfl, rfl, rfl, by simp, fun j hj => setRow_other _ _ _ _ (by omega)⟩))

set_option maxRecDepth 100000 in
set_option maxHeartbeats 4000000 in
theorem rtx13_any (v : Int) (w : World) : Calls Try.prog 22 #[.int .i64 v] w fun e w' => e = .returned (sp13 1 v) ∧ Below w.heap.size w w' := by
  unfold sp13 M.spF M.spT M.spI
  simp only [if_pos]
  by_cases h4 : v = 4
  · subst h4
    go_enter Try.func22, Try.ntmps22
    go_wp2_with fail
    all_goals exact sp_new rfl w _ _ _ _ _ rfl (fun Z hb => ⟨by simp, hb⟩)
  by_cases h0 : v = 0
  · subst h0
    go_enter Try.func22, Try.ntmps22
    go_wp2_with fail
    all_goals first | omega | exact sp_new rfl w _ _ _ _ _ rfl (fun Z hb => ⟨by simp, hb⟩)
  by_cases h1 : v = 1
  · subst h1
    go_enter Try.func22, Try.ntmps22
    go_wp2_with fail
    all_goals first | omega | exact sp_new rfl w _ _ _ _ _ rfl (fun Z hb => ⟨by simp, hb⟩)
  by_cases h2 : v = 2
  · subst h2
    go_enter Try.func22, Try.ntmps22
    go_wp2_with fail
    all_goals first | omega | exact sp_new rfl w _ _ _ _ _ rfl (fun Z hb => ⟨by simp, hb⟩)
  · have q4 : (v == 4) = false := by simp [h4]
    have q0 : (v == 0) = false := by simp [h0]
    have q1 : (v == 1) = false := by simp [h1]
    have q2 : (v == 2) = false := by simp [h2]
    rw [if_neg h4]
    rw [show (decide (v = 4) || decide (v = 0) || decide (v = 1) || decide (v = 2) || decide (v = 126)) = (v == 126) by simp [h4, h0, h1, h2]; rfl]
    obtain ⟨b, hb⟩ : ∃ b, (v == 126) = b := ⟨_, rfl⟩
    rw [hb]
    clear h4 h0 h1 h2
    go_enter Try.func22, Try.ntmps22
    go_wp2_with fail
    all_goals first | omega | exact sp_new rfl w _ _ _ _ _ rfl (fun Z hb => ⟨by simp, hb⟩)
set_option maxRecDepth 100000 in
set_option maxHeartbeats 4000000 in
theorem rspan_2 (v : Int) (w : World) : Calls Try.prog 18 #[.int .i64 2, .int .i64 v] w fun e w' => e = .returned (sp13 2 v) ∧ Below w.heap.size w w' := by
  unfold sp13 M.spF M.spT M.spI
  simp only [show ((2 : Int) = 1) = False by simp, show ((2 : Int) = 3) = False by simp, show ((2 : Int) = 4) = False by simp, show ((2 : Int) = 5) = False by simp, if_true, if_false]
  by_cases h2 : v = 2
  · subst h2
    go_enter Try.func18, Try.ntmps18
    go_wp2_with fail
    all_goals first | omega | exact sp_new rfl w _ _ _ _ _ rfl (fun Z hb => ⟨by first | rfl | (simp; done) | (simp; decide +kernel), hb⟩)
  by_cases h0 : v = 0
  · subst h0
    go_enter Try.func18, Try.ntmps18
    go_wp2_with fail
    all_goals first | omega | exact sp_new rfl w _ _ _ _ _ rfl (fun Z hb => ⟨by first | rfl | (simp; done) | (simp; decide +kernel), hb⟩)
  by_cases h1 : v = 1
  · subst h1
    go_enter Try.func18, Try.ntmps18
    go_wp2_with fail
    all_goals first | omega | exact sp_new rfl w _ _ _ _ _ rfl (fun Z hb => ⟨by first | rfl | (simp; done) | (simp; decide +kernel), hb⟩)
  have q2 : (v == 2) = false := by simp [h2]
  have q0 : (v == 0) = false := by simp [h0]
  have q1 : (v == 1) = false := by simp [h1]
  rw [if_neg h2]
  simp only [show decide (v = 2) = false from decide_eq_false h2, show decide (v = 0) = false from decide_eq_false h0, show decide (v = 1) = false from decide_eq_false h1, Bool.or_false]
  clear h2 h0 h1
  go_enter Try.func18, Try.ntmps18
  go_wp2_with fail
  all_goals first | omega | exact sp_new rfl w _ _ _ _ _ rfl (fun Z hb => ⟨by first | rfl | (simp; done) | (simp; decide +kernel), hb⟩)
set_option maxRecDepth 100000 in
set_option maxHeartbeats 4000000 in
theorem rspan_3 (v : Int) (w : World) : Calls Try.prog 18 #[.int .i64 3, .int .i64 v] w fun e w' => e = .returned (sp13 3 v) ∧ Below w.heap.size w w' := by
  unfold sp13 M.spF M.spT M.spI
  simp only [show ((3 : Int) = 1) = False by simp, show ((3 : Int) = 2) = False by simp, show ((3 : Int) = 4) = False by simp, show ((3 : Int) = 5) = False by simp, if_true, if_false]
  by_cases h0 : v = 0
  · subst h0
    go_enter Try.func18, Try.ntmps18
    go_wp2_with fail
    all_goals first | omega | exact sp_new rfl w _ _ _ _ _ rfl (fun Z hb => ⟨by first | rfl | (simp; done) | (simp; decide +kernel), hb⟩)
  by_cases h1 : v = 1
  · subst h1
    go_enter Try.func18, Try.ntmps18
    go_wp2_with fail
    all_goals first | omega | exact sp_new rfl w _ _ _ _ _ rfl (fun Z hb => ⟨by first | rfl | (simp; done) | (simp; decide +kernel), hb⟩)
  have q0 : (v == 0) = false := by simp [h0]
  have q1 : (v == 1) = false := by simp [h1]
  simp only [show decide (v = 0) = false from decide_eq_false h0, show decide (v = 1) = false from decide_eq_false h1, Bool.or_false]
  clear h0 h1
  go_enter Try.func18, Try.ntmps18
  go_wp2_with fail
  all_goals first | omega | exact sp_new rfl w _ _ _ _ _ rfl (fun Z hb => ⟨by first | rfl | (simp; done) | (simp; decide +kernel), hb⟩)
set_option maxRecDepth 100000 in
set_option maxHeartbeats 4000000 in
theorem rspan_4 (v : Int) (w : World) : Calls Try.prog 18 #[.int .i64 4, .int .i64 v] w fun e w' => e = .returned (sp13 4 v) ∧ Below w.heap.size w w' := by
  unfold sp13 M.spF M.spT M.spI
  simp only [show ((4 : Int) = 1) = False by simp, show ((4 : Int) = 2) = False by simp, show ((4 : Int) = 3) = False by simp, show ((4 : Int) = 5) = False by simp, if_true, if_false]
  by_cases h0 : v = 0
  · subst h0
    go_enter Try.func18, Try.ntmps18
    go_wp2_with fail
    all_goals first | omega | exact sp_new rfl w _ _ _ _ _ rfl (fun Z hb => ⟨by first | rfl | (simp; done) | (simp; decide +kernel), hb⟩)
  by_cases h2 : v = 2
  · subst h2
    go_enter Try.func18, Try.ntmps18
    go_wp2_with fail
    all_goals first | omega | exact sp_new rfl w _ _ _ _ _ rfl (fun Z hb => ⟨by first | rfl | (simp; done) | (simp; decide +kernel), hb⟩)
  have q0 : (v == 0) = false := by simp [h0]
  have q2 : (v == 2) = false := by simp [h2]
  simp only [show decide (v = 0) = false from decide_eq_false h0, show decide (v = 2) = false from decide_eq_false h2, Bool.or_false]
  clear h0 h2
  go_enter Try.func18, Try.ntmps18
  go_wp2_with fail
  all_goals first | omega | exact sp_new rfl w _ _ _ _ _ rfl (fun Z hb => ⟨by first | rfl | (simp; done) | (simp; decide +kernel), hb⟩)
set_option maxRecDepth 100000 in
set_option maxHeartbeats 4000000 in
theorem rspan_5 (v : Int) (w : World) : Calls Try.prog 18 #[.int .i64 5, .int .i64 v] w fun e w' => e = .returned (sp13 5 v) ∧ Below w.heap.size w w' := by
  unfold sp13 M.spF M.spT M.spI
  simp only [show ((5 : Int) = 1) = False by simp, show ((5 : Int) = 2) = False by simp, show ((5 : Int) = 3) = False by simp, show ((5 : Int) = 4) = False by simp, if_true, if_false]
  by_cases h0 : v = 0
  · subst h0
    go_enter Try.func18, Try.ntmps18
    go_wp2_with fail
    all_goals first | omega | exact sp_new rfl w _ _ _ _ _ rfl (fun Z hb => ⟨by first | rfl | (simp; done) | (simp; decide +kernel), hb⟩)
  by_cases h1 : v = 1
  · subst h1
    go_enter Try.func18, Try.ntmps18
    go_wp2_with fail
    all_goals first | omega | exact sp_new rfl w _ _ _ _ _ rfl (fun Z hb => ⟨by first | rfl | (simp; done) | (simp; decide +kernel), hb⟩)
  have q0 : (v == 0) = false := by simp [h0]
  have q1 : (v == 1) = false := by simp [h1]
  simp only [show decide (v = 0) = false from decide_eq_false h0, show decide (v = 1) = false from decide_eq_false h1, Bool.or_false]
  clear h0 h1
  go_enter Try.func18, Try.ntmps18
  go_wp2_with fail
  all_goals first | omega | exact sp_new rfl w _ _ _ _ _ rfl (fun Z hb => ⟨by first | rfl | (simp; done) | (simp; decide +kernel), hb⟩)
set_option maxRecDepth 100000 in
set_option maxHeartbeats 4000000 in
theorem rspan_1 (v : Int) (w : World) : Calls Try.prog 18 #[.int .i64 1, .int .i64 v] w fun e w' => e = .returned (sp13 1 v) ∧ Below w.heap.size w w' := by
  have HT := Lib.hid (rtx13_any v)
  unfold sp13 at *
  generalize M.spF 1 v = a at *
  generalize M.spT 1 v = b at *
  generalize M.spI 1 v = i at *
  go_enter Try.func18, Try.ntmps18
  go_wp2_with fail
  refine (HT.out _).mono ?_
  rintro e w1 ⟨rfl, hb⟩
  have h1 : w1.heap[w.heap.size]? = some (.cells #[.int .i64 0, .int .i64 0, .bool false] 42 (0, 0)) := (hb.block _ (by simp)).trans (heap_alloc_new w _)
  have i0 : w1.cell? ⟨w.heap.size, 0, none⟩ = some (.int .i64 0) := by simp [World.cell?, h1]
  have i1 : w1.cell? ⟨w.heap.size, 1, none⟩ = some (.int .i64 0) := by simp [World.cell?, h1]
  have i2 : w1.cell? ⟨w.heap.size, 2, none⟩ = some (.bool false) := by simp [World.cell?, h1]
  have f0 : w1.frozen? ⟨w.heap.size, 0, none⟩ = false := by simp [World.frozen?, h1]
  have f1 : w1.frozen? ⟨w.heap.size, 1, none⟩ = false := by simp [World.frozen?, h1]
  have f2 : w1.frozen? ⟨w.heap.size, 2, none⟩ = false := by simp [World.frozen?, h1]
  have H1 := Lib.hid h1
  have HB := Lib.hid hb
  clear h1 hb
  go_wp2_with fail
  exact sp_post rfl w w1 _ a b i w.heap.size (Nat.le_refl _) (((Below.refl _ w).alloc (Nat.le_refl _) _).trans (HB.out.mono (by simp))) _ _ _ H1.out _ rfl (fun Z hZ => ⟨rfl, hZ⟩)
set_option maxRecDepth 100000 in
set_option maxHeartbeats 4000000 in
theorem rspan_0 (k v : Int) (h1 : k ≠ 1) (h2 : k ≠ 2) (h3 : k ≠ 3) (h4 : k ≠ 4) (h5 : k ≠ 5) (w : World) : Calls Try.prog 18 #[.int .i64 k, .int .i64 v] w fun e w' => e = .returned (sp13 k v) ∧ Below w.heap.size w w' := by
  unfold sp13 M.spF M.spT M.spI
  simp only [if_neg h1, if_neg h2, if_neg h3, if_neg h4, if_neg h5]
  have q1 : (k == 1) = false := by simp [h1]
  have q2 : (k == 2) = false := by simp [h2]
  have q3 : (k == 3) = false := by simp [h3]
  have q4 : (k == 4) = false := by simp [h4]
  have q5 : (k == 5) = false := by simp [h5]
  clear h1 h2 h3 h4 h5
  go_enter Try.func18, Try.ntmps18
  go_wp2_with fail
  exact sp_new rfl w _ _ _ _ _ rfl (fun Z hb => ⟨rfl, hb⟩)
theorem rspan_any (k v : Int) (w : World) : Calls Try.prog 18 #[.int .i64 k, .int .i64 v] w fun e w' => e = .returned (sp13 k v) ∧ Below w.heap.size w w' := by
  by_cases h1 : k = 1
  · subst h1; exact rspan_1 v w
  by_cases h2 : k = 2
  · subst h2; exact rspan_2 v w
  by_cases h3 : k = 3
  · subst h3; exact rspan_3 v w
  by_cases h4 : k = 4
  · subst h4; exact rspan_4 v w
  by_cases h5 : k = 5
  · subst h5; exact rspan_5 v w
  exact rspan_0 k v h1 h2 h3 h4 h5 w
theorem M.span_no {k v : Int} (h : ∀ p ∈ M.legT, ¬ (p.1 = k ∧ p.2.1 = v)) : M.span k v = none := by
  unfold M.span
  rw [Option.map_eq_none_iff, List.find?_eq_none]
  intro p hp
  have := h p hp
  simpa using this
theorem M.span_sp (k v : Int) : M.span k v = if M.spI k v = true then some (M.spF k v, M.spT k v) else none := by
  by_cases h1 : k = 1
  · subst h1
    by_cases a : v = 4
    · subst a; decide +kernel
    by_cases b : v = 0
    · subst b; decide +kernel
    by_cases c : v = 1
    · subst c; decide +kernel
    by_cases d : v = 2
    · subst d; decide +kernel
    by_cases e : v = 126
    · subst e; decide +kernel
    rw [M.span_no (fun p hp => by simp only [M.legT, List.mem_cons, List.not_mem_nil, or_false] at hp; rcases hp with rfl | rfl | rfl | rfl | rfl | rfl | rfl | rfl | rfl | rfl | rfl | rfl | rfl | rfl <;> simp <;> omega)]
    simp [M.spI, a, b, c, d, e]
  by_cases h2 : k = 2
  · subst h2
    by_cases a : v = 0
    · subst a; decide +kernel
    by_cases b : v = 1
    · subst b; decide +kernel
    by_cases c : v = 2
    · subst c; decide +kernel
    rw [M.span_no (fun p hp => by simp only [M.legT, List.mem_cons, List.not_mem_nil, or_false] at hp; rcases hp with rfl | rfl | rfl | rfl | rfl | rfl | rfl | rfl | rfl | rfl | rfl | rfl | rfl | rfl <;> simp <;> omega)]
    simp [M.spI, a, b, c]
  by_cases h3 : k = 3
  · subst h3
    by_cases a : v = 0
    · subst a; decide +kernel
    by_cases b : v = 1
    · subst b; decide +kernel
    rw [M.span_no (fun p hp => by simp only [M.legT, List.mem_cons, List.not_mem_nil, or_false] at hp; rcases hp with rfl | rfl | rfl | rfl | rfl | rfl | rfl | rfl | rfl | rfl | rfl | rfl | rfl | rfl <;> simp <;> omega)]
    simp [M.spI, a, b]
  by_cases h4 : k = 4
  · subst h4
    by_cases a : v = 0
    · subst a; decide +kernel
    by_cases b : v = 2
    · subst b; decide +kernel
    rw [M.span_no (fun p hp => by simp only [M.legT, List.mem_cons, List.not_mem_nil, or_false] at hp; rcases hp with rfl | rfl | rfl | rfl | rfl | rfl | rfl | rfl | rfl | rfl | rfl | rfl | rfl | rfl <;> simp <;> omega)]
    simp [M.spI, a, b]
  by_cases h5 : k = 5
  · subst h5
    by_cases a : v = 0
    · subst a; decide +kernel
    by_cases b : v = 1
    · subst b; decide +kernel
    rw [M.span_no (fun p hp => by simp only [M.legT, List.mem_cons, List.not_mem_nil, or_false] at hp; rcases hp with rfl | rfl | rfl | rfl | rfl | rfl | rfl | rfl | rfl | rfl | rfl | rfl | rfl | rfl <;> simp <;> omega)]
    simp [M.spI, a, b]
  rw [M.span_no (fun p hp => by simp only [M.legT, List.mem_cons, List.not_mem_nil, or_false] at hp; rcases hp with rfl | rfl | rfl | rfl | rfl | rfl | rfl | rfl | rfl | rfl | rfl | rfl | rfl | rfl <;> simp <;> omega)]
  simp [M.spI, h1, h2, h3, h4, h5]
end Go.Proofs.Ythlcjjfnnfifeaa
