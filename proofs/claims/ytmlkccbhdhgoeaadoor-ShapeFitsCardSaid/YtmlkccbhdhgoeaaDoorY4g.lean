/- The landed package shape: what is left of a value, the type of an item, sizes. -/
import Derived.Test.YtmlkccbhdhgoeaaDoorY1g
import Derived.Test.YtmlkccbhdhgoeaaDoorWEg
namespace Go.Proofs.YtmlkccbhdhgoeaaDoor
open Go Go.RowKit

theorem Vl.longs {w : World} {n N : Nat} {bs : List Bool} {us : List M.Va} {ab : Option Addr} {cb : Nat} {au : Option Addr} {cu : Nat} (h : Vl w n N bs us ab cb au cu) : bs.length ≤ 9223372036854775807 ∧ us.length ≤ 9223372036854775807 := by
  obtain ⟨_, _, e, h1, h2⟩ := h.b.slice
  cases e
  obtain ⟨_, _, e, h3, h4⟩ := h.v.slice
  cases e
  simp only [maxLen] at h2 h4
  exact ⟨by omega, by omega⟩

/-- Is all of it zero, or empty? -/
theorem empty_any (N : Nat) (hN : M.In N) (lb lu : Nat) (_hlb : lb ≤ 9223372036854775807) (_hlu : lu ≤ 9223372036854775807) (ab : Option Addr) (cb : Nat) (au : Option Addr) (cu : Nat) (p : Int) (w : World) :
    Calls Tryd.prog 69 #[vv N (.slice ab lb cb) (.slice au lu cu) p] w fun e w' => e = .returned (.bool (N == 0 && lb == 0 && lu == 0 && p == 0)) ∧ Below w.heap.size w w' := by
  have hb0 : Below w.heap.size w (w.alloc (.cells #[.int .u64 (M.pt 0 N), .int .u64 (M.pt 1 N), .int .u64 (M.pt 2 N), .int .u64 (M.pt 3 N), .slice ab lb cb, .slice au lu cu, .int .i64 p] 31)) := by (repeat (first | exact Below.refl _ _ | refine Below.drew ?_ | refine Below.alloc ?_ (by first | omega | (simp; omega) | simp) _ | refine Below.setCell ?_ (by first | omega | (simp; omega) | simp) _))
  have he : ∀ W, (Op.equalIn 10000 27 (wn N) (wd 0 0 0 0)).run Tryd.prog W = .ok (decide (N = 0)) W := fun W => by
    have := eqN hN (show M.In 0 by unfold M.In; omega) W
    rwa [show (wn 0 : Value) = wd 0 0 0 0 by unfold wn; rw [show M.pt 0 0 = 0 by decide +kernel, show M.pt 1 0 = 0 by decide +kernel, show M.pt 2 0 = 0 by decide +kernel, show M.pt 3 0 = 0 by decide +kernel]] at this
  by_cases h1 : N = 0
  · have hh : decide (N = 0) = true := decide_eq_true h1
    rw [hh] at he
    have h1' := Lib.hid h1
    clear h1 hh
    by_cases h2 : lb = 0
    · have g2 : ((lb : Int) == 0) = true := by simp; omega
      have h2' := Lib.hid h2
      clear h2
      by_cases h3 : lu = 0
      · have g3 : ((lu : Int) == 0) = true := by simp; omega
        have h3' := Lib.hid h3
        clear h3
        go_enter Tryd.func69, Tryd.ntmps69
        go_wp2_with fail
        go_ret
        exact ⟨by rw [h1'.out, h2'.out, h3'.out]; simp, hb0⟩
      · have g3 : ((lu : Int) == 0) = false := by simp; omega
        have h3' := Lib.hid h3
        clear h3
        go_enter Tryd.func69, Tryd.ntmps69
        go_wp2_with fail
        go_ret
        exact ⟨by rw [show (lu == 0) = false by have := h3'.out; simp; omega]; simp, hb0⟩
    · have g2 : ((lb : Int) == 0) = false := by simp; omega
      have h2' := Lib.hid h2
      clear h2
      go_enter Tryd.func69, Tryd.ntmps69
      go_wp2_with fail
      go_ret
      exact ⟨by rw [show (lb == 0) = false by have := h2'.out; simp; omega]; simp, hb0⟩
  · have hh : decide (N = 0) = false := decide_eq_false h1
    rw [hh] at he
    have h1' := Lib.hid h1
    clear h1 hh
    go_enter Tryd.func69, Tryd.ntmps69
    go_wp2_with fail
    go_ret
    exact ⟨by rw [show (N == 0) = false by have := h1'.out; simp; omega]; simp, hb0⟩

/-- What a function that takes a kind's parts off must do. -/
def RestC (k : Int) (g : FuncId) : Prop := ∀ (N lb lu : Nat) (p : Int) (ab : Option Addr) (cb : Nat) (au : Option Addr) (cu : Nat) (w : World), M.In N → lb ≤ 9223372036854775807 → lu ≤ 9223372036854775807 →
  Calls Tryd.prog g #[vv N (.slice ab lb cb) (.slice au lu cu) p] w fun e w' => ∃ (N' lb' lu' : Nat) (p' : Int) (ab' : Option Addr) (cb' : Nat) (au' : Option Addr) (cu' : Nat), e = .returned (vv N' (.slice ab' lb' cb') (.slice au' lu' cu') p') ∧
    (N' = (if k = 1 ∨ k = 2 then 0 else N) ∧ lb' = (if k = 5 ∨ k = 6 then 0 else lb) ∧ lu' = (if k = 3 ∨ k = 4 ∨ k = 7 ∨ k = 8 then 0 else lu) ∧ p' = (if k = 8 then 0 else p)) ∧ Below w.heap.size w w'

theorem two_boxes' (w : World) (o o' : Obj) : Below w.heap.size w ((w.alloc o).alloc o') := ((Below.refl _ w).alloc (Nat.le_refl _) o).alloc (by simp) o'
theorem Tryd.valSize : (Tryd.prog.info? 31).map (·.size) = some 7 := by kernel_rfl
/-- The result is a value in the newest block. -/
theorem va_new {fn : Func} {s : Tmp} (hres : fn.results = #[.cell s 31]) (w W : World) (tmps : Array Value) (c0 c1 c2 c3 c4 c5 c6 : Value) (R : Ending → World → Prop) (hp : tmps.getD s undef = .pointer (some ⟨W.heap.size, 0, none⟩)) (hb : Below w.heap.size w W)
    (h : ∀ Z, Below w.heap.size w Z → R (.returned (.agg #[c0, c1, c2, c3, c4, c5, c6])) Z) :
    bodyPost Tryd.prog fn R .ret { tmps := tmps, defers := [] } (W.alloc (.cells #[c0, c1, c2, c3, c4, c5, c6] 31)) := by
  have := results_cell_row (P := Tryd.prog) hres tmps (W.alloc (.cells #[c0, c1, c2, c3, c4, c5, c6] 31)) W.heap.size 31 #[c0, c1, c2, c3, c4, c5, c6] (0, 0) _ hp (heap_alloc_new W _) Tryd.underlying31 rfl Tryd.valSize
  exact bodyPost_ret this rfl (h _ (hb.alloc hb.size _))
theorem Tryd.typeSize' : (Tryd.prog.info? 24).map (·.size) = some 3 := by kernel_rfl
/-- The result is a type in the newest block. -/
theorem ty_new' {fn : Func} {s : Tmp} (hres : fn.results = #[.cell s 24]) (w W : World) (tmps : Array Value) (c0 c1 c2 : Value) (R : Ending → World → Prop) (hp : tmps.getD s undef = .pointer (some ⟨W.heap.size, 0, none⟩)) (hb : Below w.heap.size w W)
    (h : ∀ Z, Below w.heap.size w Z → R (.returned (.agg #[c0, c1, c2])) Z) :
    bodyPost Tryd.prog fn R .ret { tmps := tmps, defers := [] } (W.alloc (.cells #[c0, c1, c2] 24)) := by
  have := results_cell_row (P := Tryd.prog) hres tmps (W.alloc (.cells #[c0, c1, c2] 24)) W.heap.size 24 #[c0, c1, c2] (0, 0) _ hp (heap_alloc_new W _) Tryd.underlying24 rfl Tryd.typeSize'
  exact bodyPost_ret this rfl (h _ (hb.alloc hb.size _))
theorem vv_zero (u v : Value) (p : Int) : vv 0 u v p = .agg #[.int .u64 0, .int .u64 0, .int .u64 0, .int .u64 0, u, v, .int .i64 p] := by
  show Value.agg _ = _
  rw [show M.pt 0 0 = 0 by decide +kernel, show M.pt 1 0 = 0 by decide +kernel, show M.pt 2 0 = 0 by decide +kernel, show M.pt 3 0 = 0 by decide +kernel]

theorem nonum_any (N lb lu : Nat) (p : Int) (ab : Option Addr) (cb : Nat) (au : Option Addr) (cu : Nat) (w : World) :
    Calls Tryd.prog 40 #[vv N (.slice ab lb cb) (.slice au lu cu) p] w fun e w' => e = .returned (.agg #[.int .u64 0, .int .u64 0, .int .u64 0, .int .u64 0, .slice ab lb cb, .slice au lu cu, .int .i64 p]) ∧ Below w.heap.size w w' := by
  go_enter Tryd.func40, Tryd.ntmps40
  go_wp2_with fail
  refine va_new rfl w _ _ _ _ _ _ _ _ _ _ ?_ ((Below.refl _ w).alloc (Nat.le_refl _) _) (fun Z hZ => ⟨rfl, hZ⟩)
  simp
theorem nobits_any (N lb lu : Nat) (p : Int) (ab : Option Addr) (cb : Nat) (au : Option Addr) (cu : Nat) (w : World) :
    Calls Tryd.prog 57 #[vv N (.slice ab lb cb) (.slice au lu cu) p] w fun e w' => e = .returned (.agg #[.int .u64 (M.pt 0 N), .int .u64 (M.pt 1 N), .int .u64 (M.pt 2 N), .int .u64 (M.pt 3 N), .slice none 0 0, .slice au lu cu, .int .i64 p]) ∧ Below w.heap.size w w' := by
  go_enter Tryd.func57, Tryd.ntmps57
  go_wp2_with fail
  refine va_new rfl w _ _ _ _ _ _ _ _ _ _ ?_ ((Below.refl _ w).alloc (Nat.le_refl _) _) (fun Z hZ => ⟨rfl, hZ⟩)
  simp
theorem noitems_any (N lb lu : Nat) (p : Int) (ab : Option Addr) (cb : Nat) (au : Option Addr) (cu : Nat) (w : World) :
    Calls Tryd.prog 50 #[vv N (.slice ab lb cb) (.slice au lu cu) p] w fun e w' => e = .returned (.agg #[.int .u64 (M.pt 0 N), .int .u64 (M.pt 1 N), .int .u64 (M.pt 2 N), .int .u64 (M.pt 3 N), .slice ab lb cb, .slice none 0 0, .int .i64 p]) ∧ Below w.heap.size w w' := by
  go_enter Tryd.func50, Tryd.ntmps50
  go_wp2_with fail
  refine va_new rfl w _ _ _ _ _ _ _ _ _ _ ?_ ((Below.refl _ w).alloc (Nat.le_refl _) _) (fun Z hZ => ⟨rfl, hZ⟩)
  simp
set_option maxRecDepth 100000 in
theorem nopick_any (N lb lu : Nat) (p : Int) (ab : Option Addr) (cb : Nat) (au : Option Addr) (cu : Nat) (w : World) :
    Calls Tryd.prog 64 #[vv N (.slice ab lb cb) (.slice au lu cu) p] w fun e w' => e = .returned (.agg #[.int .u64 (M.pt 0 N), .int .u64 (M.pt 1 N), .int .u64 (M.pt 2 N), .int .u64 (M.pt 3 N), .slice ab lb cb, .slice none 0 0, .int .i64 0]) ∧ Below w.heap.size w w' := by
  have HI := Lib.hid (fun W => noitems_any N lb lu 0 ab cb au cu W)
  go_enter Tryd.func64, Tryd.ntmps64
  go_wp2_with fail
  refine (HI.out _).mono ?_
  rintro e w1 ⟨rfl, hb1⟩
  have c0 : w1.cell? ⟨w.heap.size + 1, 0, none⟩ = some (.int .u64 0) := (hb1.cell (p := ⟨w.heap.size + 1, 0, none⟩) (by simp)).trans (by simp [go_sem])
  have z0 : w1.frozen? ⟨w.heap.size + 1, 0, none⟩ = false := (hb1.frozen (p := ⟨w.heap.size + 1, 0, none⟩) (by simp)).trans (by simp [go_sem])
  have c1 : w1.cell? ⟨w.heap.size + 1, 1, none⟩ = some (.int .u64 0) := (hb1.cell (p := ⟨w.heap.size + 1, 1, none⟩) (by simp)).trans (by simp [go_sem])
  have z1 : w1.frozen? ⟨w.heap.size + 1, 1, none⟩ = false := (hb1.frozen (p := ⟨w.heap.size + 1, 1, none⟩) (by simp)).trans (by simp [go_sem])
  have c2 : w1.cell? ⟨w.heap.size + 1, 2, none⟩ = some (.int .u64 0) := (hb1.cell (p := ⟨w.heap.size + 1, 2, none⟩) (by simp)).trans (by simp [go_sem])
  have z2 : w1.frozen? ⟨w.heap.size + 1, 2, none⟩ = false := (hb1.frozen (p := ⟨w.heap.size + 1, 2, none⟩) (by simp)).trans (by simp [go_sem])
  have c3 : w1.cell? ⟨w.heap.size + 1, 3, none⟩ = some (.int .u64 0) := (hb1.cell (p := ⟨w.heap.size + 1, 3, none⟩) (by simp)).trans (by simp [go_sem])
  have z3 : w1.frozen? ⟨w.heap.size + 1, 3, none⟩ = false := (hb1.frozen (p := ⟨w.heap.size + 1, 3, none⟩) (by simp)).trans (by simp [go_sem])
  have c4 : w1.cell? ⟨w.heap.size + 1, 4, none⟩ = some (.slice none 0 0) := (hb1.cell (p := ⟨w.heap.size + 1, 4, none⟩) (by simp)).trans (by simp [go_sem])
  have z4 : w1.frozen? ⟨w.heap.size + 1, 4, none⟩ = false := (hb1.frozen (p := ⟨w.heap.size + 1, 4, none⟩) (by simp)).trans (by simp [go_sem])
  have c5 : w1.cell? ⟨w.heap.size + 1, 5, none⟩ = some (.slice none 0 0) := (hb1.cell (p := ⟨w.heap.size + 1, 5, none⟩) (by simp)).trans (by simp [go_sem])
  have z5 : w1.frozen? ⟨w.heap.size + 1, 5, none⟩ = false := (hb1.frozen (p := ⟨w.heap.size + 1, 5, none⟩) (by simp)).trans (by simp [go_sem])
  have c6 : w1.cell? ⟨w.heap.size + 1, 6, none⟩ = some (.int .i64 0) := (hb1.cell (p := ⟨w.heap.size + 1, 6, none⟩) (by simp)).trans (by simp [go_sem])
  have z6 : w1.frozen? ⟨w.heap.size + 1, 6, none⟩ = false := (hb1.frozen (p := ⟨w.heap.size + 1, 6, none⟩) (by simp)).trans (by simp [go_sem])
  have hz := hb1.size
  simp only [World.size_alloc] at hz
  replace hb1 := (two_boxes' w _ _).trans (hb1.mono (by simp; omega))
  have HZ := Lib.hid hz
  clear hz
  go_wp2_with fail
  refine bodyPost_ret (v := .agg #[.int .u64 (M.pt 0 N), .int .u64 (M.pt 1 N), .int .u64 (M.pt 2 N), .int .u64 (M.pt 3 N), .slice ab lb cb, .slice none 0 0, .int .i64 0]) ?_ rfl ⟨rfl, ?_⟩
  · simp [results, Tryd.results64, go_sem, c0, c1, c2, c3, c4, c5, c6]
  · have hs : ∀ (W : World) (i : Nat) (u : Value), Below w.heap.size w W → Below w.heap.size w (W.setCell ⟨w.heap.size + 1, i, none⟩ u) := fun W i u h => h.setCell (p := ⟨w.heap.size + 1, i, none⟩) (by simp) u
    exact hs _ _ _ (hs _ _ _ (hs _ _ _ (hs _ _ _ (hs _ _ _ (hs _ _ _ (hs _ _ _ hb1))))))
theorem rest_1 : RestC 1 40 := fun N lb lu p ab cb au cu w _ _ _ => (nonum_any N lb lu p ab cb au cu w).mono fun _ _ ⟨h1, h2⟩ => ⟨0, lb, lu, p, ab, cb, au, cu, h1.trans (by rw [vv_zero]), ⟨by simp, by simp, by simp, by simp⟩, h2⟩
theorem rest_2 : RestC 2 40 := fun N lb lu p ab cb au cu w _ _ _ => (nonum_any N lb lu p ab cb au cu w).mono fun _ _ ⟨h1, h2⟩ => ⟨0, lb, lu, p, ab, cb, au, cu, h1.trans (by rw [vv_zero]), ⟨by simp, by simp, by simp, by simp⟩, h2⟩
theorem rest_3 : RestC 3 50 := fun N lb lu p ab cb au cu w _ _ _ => (noitems_any N lb lu p ab cb au cu w).mono fun _ _ ⟨h1, h2⟩ => ⟨N, lb, 0, p, ab, cb, none, 0, h1.trans (rfl), ⟨by simp, by simp, by simp, by simp⟩, h2⟩
theorem rest_4 : RestC 4 50 := fun N lb lu p ab cb au cu w _ _ _ => (noitems_any N lb lu p ab cb au cu w).mono fun _ _ ⟨h1, h2⟩ => ⟨N, lb, 0, p, ab, cb, none, 0, h1.trans (rfl), ⟨by simp, by simp, by simp, by simp⟩, h2⟩
theorem rest_5 : RestC 5 57 := fun N lb lu p ab cb au cu w _ _ _ => (nobits_any N lb lu p ab cb au cu w).mono fun _ _ ⟨h1, h2⟩ => ⟨N, 0, lu, p, none, 0, au, cu, h1.trans (rfl), ⟨by simp, by simp, by simp, by simp⟩, h2⟩
theorem rest_6 : RestC 6 57 := fun N lb lu p ab cb au cu w _ _ _ => (nobits_any N lb lu p ab cb au cu w).mono fun _ _ ⟨h1, h2⟩ => ⟨N, 0, lu, p, none, 0, au, cu, h1.trans (rfl), ⟨by simp, by simp, by simp, by simp⟩, h2⟩
theorem rest_7 : RestC 7 50 := fun N lb lu p ab cb au cu w _ _ _ => (noitems_any N lb lu p ab cb au cu w).mono fun _ _ ⟨h1, h2⟩ => ⟨N, lb, 0, p, ab, cb, none, 0, h1.trans (rfl), ⟨by simp, by simp, by simp, by simp⟩, h2⟩
theorem rest_8 : RestC 8 64 := fun N lb lu p ab cb au cu w _ _ _ => (nopick_any N lb lu p ab cb au cu w).mono fun _ _ ⟨h1, h2⟩ => ⟨N, lb, 0, 0, ab, cb, none, 0, h1.trans (rfl), ⟨by simp, by simp, by simp, by simp⟩, h2⟩
/-- How many bytes beside those of its items, and how many items of each type. -/
def M.ownI (k n : Int) : Int := if k = 1 then n else if k = 2 then 1 else if k = 5 then (n + 7) / 8 else 0
def M.eachI (k n : Int) : Int := if k = 3 then n else if k = 7 then 1 else 0
def SizeC (k : Int) (g : FuncId) : Prop := ∀ (n : Int) (v : Value) (w : World), 0 ≤ n → n ≤ 512 →
  Calls Tryd.prog g #[tv k n v] w fun e w' => e = .returned (.tuple #[.int .i64 (M.ownI k n), .int .i64 (M.eachI k n)]) ∧ Below w.heap.size w w'
theorem size_1 : SizeC 1 36 := by
  intro n v w h0 h1
  have hb0 : Below w.heap.size w (w.alloc (.cells #[.int .i64 1, .int .i64 n, v] 24)) := by (repeat (first | exact Below.refl _ _ | refine Below.drew ?_ | refine Below.alloc ?_ (by first | omega | (simp; omega) | simp) _ | refine Below.setCell ?_ (by first | omega | (simp; omega) | simp) _))
  go_enter Tryd.func36, Tryd.ntmps36
  go_wp2_with fail
  go_ret2
  exact ⟨by simp [M.ownI, M.eachI], hb0⟩
theorem size_2 : SizeC 2 42 := by
  intro n v w h0 h1
  have hb0 : Below w.heap.size w (w.alloc (.cells #[.int .i64 2, .int .i64 n, v] 24)) := by (repeat (first | exact Below.refl _ _ | refine Below.drew ?_ | refine Below.alloc ?_ (by first | omega | (simp; omega) | simp) _ | refine Below.setCell ?_ (by first | omega | (simp; omega) | simp) _))
  go_enter Tryd.func42, Tryd.ntmps42
  go_wp2_with fail
  go_ret2
  exact ⟨by simp [M.ownI, M.eachI], hb0⟩
theorem size_3 : SizeC 3 47 := by
  intro n v w h0 h1
  have hb0 : Below w.heap.size w (w.alloc (.cells #[.int .i64 3, .int .i64 n, v] 24)) := by (repeat (first | exact Below.refl _ _ | refine Below.drew ?_ | refine Below.alloc ?_ (by first | omega | (simp; omega) | simp) _ | refine Below.setCell ?_ (by first | omega | (simp; omega) | simp) _))
  go_enter Tryd.func47, Tryd.ntmps47
  go_wp2_with fail
  go_quiet (fail)
  go_wp2_with fail
  go_ret2
  exact ⟨by simp [M.ownI, M.eachI], ⟨hb0.os, hb0.tape, hb0.output, hb0.size, hb0.block⟩⟩
theorem size_5 : SizeC 5 54 := by
  intro n v w h0 h1
  have hb0 : Below w.heap.size w (w.alloc (.cells #[.int .i64 5, .int .i64 n, v] 24)) := by (repeat (first | exact Below.refl _ _ | refine Below.drew ?_ | refine Below.alloc ?_ (by first | omega | (simp; omega) | simp) _ | refine Below.setCell ?_ (by first | omega | (simp; omega) | simp) _))
  have h7 : wrap64 (n + 7) = n + 7 := by unfold wrap64; omega
  have h8 : wrap64 ((n + 7).tdiv 8) = (n + 7) / 8 := by rw [Int.tdiv_eq_ediv_of_nonneg (by omega)]; unfold wrap64; omega
  go_enter Tryd.func54, Tryd.ntmps54
  go_wp2_with fail
  go_ret2
  exact ⟨by simp [M.ownI, M.eachI], hb0⟩
theorem size_7 : SizeC 7 60 := by
  intro n v w h0 h1
  have hb0 : Below w.heap.size w (w.alloc (.cells #[.int .i64 7, .int .i64 n, v] 24)) := by (repeat (first | exact Below.refl _ _ | refine Below.drew ?_ | refine Below.alloc ?_ (by first | omega | (simp; omega) | simp) _ | refine Below.setCell ?_ (by first | omega | (simp; omega) | simp) _))
  go_enter Tryd.func60, Tryd.ntmps60
  go_wp2_with fail
  go_ret2
  exact ⟨by simp [M.ownI, M.eachI], hb0⟩
/-- What a function that tells the type of an item must do. -/
def OfC (k : Int) (g : FuncId) : Prop := ∀ (n : Int) (t c b o : Nat) (p : Int) (i j : Nat) (k' m' : Int) (au : Option Addr) (ul cu : Nat) (w : World), j < t → b < w.heap.size → t ≤ 1000 →
  ((k = 7 ∧ i = j) ∨ (k ≠ 7 ∧ k = 8 ∧ p = j) ∨ (k ≠ 7 ∧ k ≠ 8 ∧ j = 0)) →
  w.cell? ⟨b, o + j * 3, none⟩ = some (.int .i64 k') → w.cell? ⟨b, o + j * 3 + 1, none⟩ = some (.int .i64 m') → w.cell? ⟨b, o + j * 3 + 2, none⟩ = some (.slice au ul cu) →
  Calls Tryd.prog g #[tv k n (.slice (some ⟨b, o, none⟩) t c), .int .i64 p, .int .i64 i] w fun e w' => e = .returned (tv k' m' (.slice au ul cu)) ∧ Below w.heap.size w w'
set_option maxRecDepth 100000 in
set_option maxHeartbeats 4000000 in
theorem of_3 : OfC 3 51 := by
  intro n t c b o p i j k' m' au ul cu w hj hbn ht hi e0 e1 e2
  obtain rfl : j = 0 := by omega
  have hb0 : ∀ o o', Below w.heap.size w ((w.alloc o).alloc o') := fun o o' => ((Below.refl _ w).alloc (Nat.le_refl _) o).alloc (by simp) o'
  have g0 := fun o1 o2 => ((hb0 o1 o2).cell (p := ⟨b, o + 0 * 3, none⟩) hbn).trans e0
  have g1 := fun o1 o2 => ((hb0 o1 o2).cell (p := ⟨b, o + 0 * 3 + 1, none⟩) hbn).trans e1
  have g2 := fun o1 o2 => ((hb0 o1 o2).cell (p := ⟨b, o + 0 * 3 + 2, none⟩) hbn).trans e2
  simp only [Nat.zero_mul, Nat.add_zero] at g0 g1 g2
  clear e0 e1 e2 hi
  go_enter Tryd.func51, Tryd.ntmps51
  go_wp2_with fail
  refine ty_new' rfl w _ _ _ _ _ _ ?_ ((Below.refl _ w).alloc (Nat.le_refl _) _) (fun Z hZ => ⟨rfl, hZ⟩)
  simp
set_option maxRecDepth 100000 in
set_option maxHeartbeats 4000000 in
theorem of_4 : OfC 4 51 := by
  intro n t c b o p i j k' m' au ul cu w hj hbn ht hi e0 e1 e2
  obtain rfl : j = 0 := by omega
  have hb0 : ∀ o o', Below w.heap.size w ((w.alloc o).alloc o') := fun o o' => ((Below.refl _ w).alloc (Nat.le_refl _) o).alloc (by simp) o'
  have g0 := fun o1 o2 => ((hb0 o1 o2).cell (p := ⟨b, o + 0 * 3, none⟩) hbn).trans e0
  have g1 := fun o1 o2 => ((hb0 o1 o2).cell (p := ⟨b, o + 0 * 3 + 1, none⟩) hbn).trans e1
  have g2 := fun o1 o2 => ((hb0 o1 o2).cell (p := ⟨b, o + 0 * 3 + 2, none⟩) hbn).trans e2
  simp only [Nat.zero_mul, Nat.add_zero] at g0 g1 g2
  clear e0 e1 e2 hi
  go_enter Tryd.func51, Tryd.ntmps51
  go_wp2_with fail
  refine ty_new' rfl w _ _ _ _ _ _ ?_ ((Below.refl _ w).alloc (Nat.le_refl _) _) (fun Z hZ => ⟨rfl, hZ⟩)
  simp
set_option maxRecDepth 100000 in
set_option maxHeartbeats 4000000 in
theorem of_7 : OfC 7 62 := by
  intro n t c b o p i j k' m' au ul cu w hj hbn ht hi e0 e1 e2
  obtain rfl : i = j := by omega
  have hb0 : ∀ o o', Below w.heap.size w ((w.alloc o).alloc o') := fun o o' => ((Below.refl _ w).alloc (Nat.le_refl _) o).alloc (by simp) o'
  have g0 := fun o1 o2 => ((hb0 o1 o2).cell (p := ⟨b, o + i * 3, none⟩) hbn).trans e0
  have g1 := fun o1 o2 => ((hb0 o1 o2).cell (p := ⟨b, o + i * 3 + 1, none⟩) hbn).trans e1
  have g2 := fun o1 o2 => ((hb0 o1 o2).cell (p := ⟨b, o + i * 3 + 2, none⟩) hbn).trans e2
  clear e0 e1 e2 hi
  go_enter Tryd.func62, Tryd.ntmps62
  go_wp2_with fail
  refine ty_new' rfl w _ _ _ _ _ _ ?_ ((Below.refl _ w).alloc (Nat.le_refl _) _) (fun Z hZ => ⟨rfl, hZ⟩)
  simp
set_option maxRecDepth 100000 in
set_option maxHeartbeats 4000000 in
theorem of_8 : OfC 8 65 := by
  intro n t c b o p i j k' m' au ul cu w hj hbn ht hi e0 e1 e2
  obtain rfl : p = j := by omega
  have hb0 : ∀ o o', Below w.heap.size w ((w.alloc o).alloc o') := fun o o' => ((Below.refl _ w).alloc (Nat.le_refl _) o).alloc (by simp) o'
  have g0 := fun o1 o2 => ((hb0 o1 o2).cell (p := ⟨b, o + j * 3, none⟩) hbn).trans e0
  have g1 := fun o1 o2 => ((hb0 o1 o2).cell (p := ⟨b, o + j * 3 + 1, none⟩) hbn).trans e1
  have g2 := fun o1 o2 => ((hb0 o1 o2).cell (p := ⟨b, o + j * 3 + 2, none⟩) hbn).trans e2
  clear e0 e1 e2 hi
  go_enter Tryd.func65, Tryd.ntmps65
  go_wp2_with fail
  refine ty_new' rfl w _ _ _ _ _ _ ?_ ((Below.refl _ w).alloc (Nat.le_refl _) _) (fun Z hZ => ⟨rfl, hZ⟩)
  simp
end Go.Proofs.YtmlkccbhdhgoeaaDoor
