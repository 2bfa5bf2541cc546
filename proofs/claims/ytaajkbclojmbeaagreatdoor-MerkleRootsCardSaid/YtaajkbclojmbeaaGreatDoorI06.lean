/- The reference's of: numbers; of all kinds. The reference's In: the type of an item. The reference's fits, Fits. -/
import Derived.Test.YtaajkbclojmbeaaGreatDoorI05
import Derived.Test.YtaajkbclojmbeaaGreatDoorI03
import Derived.Laws.Rows
import Derived.Test.YtaajkbclojmbeaaGreatDoorI04
namespace Go.Proofs.YtaajkbclojmbeaaGreatDoor
open Go Go.RowKit

set_option maxRecDepth 100000 in
set_option maxHeartbeats 8000000 in
theorem tof_1 (n : Int) (m : Nat) (at_ : Option Addr) (ct : Nat) (N : Nat) (hN : M.In N) (bs : List Bool) (us : List M.Va) (p : Int) (ab : Option Addr) (cb : Nat) (a : Option Addr) (cap : Nat) (w : World) :
    Calls Tryz.prog 115 #[tv 1 n (.slice at_ m ct), vv N (.slice ab bs.length cb) (.slice a us.length cap) p] w fun e w' => e = .returned (.bool (M.ofV 1 n m (.mk N bs us p))) ∧ Below w.heap.size w w' := by
  obtain ⟨w0, hw0⟩ : ∃ w0, (w.alloc (.cells #[.int .i64 1, .int .i64 n, .slice at_ m ct] 32)).alloc (.cells #[.int .u64 (M.pt 0 N), .int .u64 (M.pt 1 N), .int .u64 (M.pt 2 N), .int .u64 (M.pt 3 N), .slice ab bs.length cb, .slice a us.length cap, .int .i64 p] 38) = w0 := ⟨_, rfl⟩
  have hb0 : Below w.heap.size w w0 := by rw [← hw0]; (repeat (first | exact Below.refl _ _ | refine Below.drew ?_ | refine Below.alloc ?_ (by first | omega | (simp; omega) | simp) _ | refine Below.setCell ?_ (by first | omega | (simp; omega) | simp) _))
  have hz0 : w0.heap.size = w.heap.size + 2 := by rw [← hw0]; simp
  have hT : BoxT w0 w.heap.size 1 n (.slice at_ m ct) := by
    rw [← hw0]
    exact (BoxT.new w 1 n (.slice at_ m ct) 32).from_ ((Below.refl _ _).alloc (Nat.le_refl _) _) (by simp)
  have hV : Cells7 w0 (w.heap.size + 1) 0 N (.slice ab bs.length cb) (.slice a us.length cap) p := by
    rw [← hw0]
    have := Cells7.new (w.alloc (.cells #[.int .i64 1, .int .i64 n, .slice at_ m ct] 32)) N (.slice ab bs.length cb) (.slice a us.length cap) p 38
    rwa [show (w.alloc (.cells #[.int .i64 1, .int .i64 n, .slice at_ m ct] 32)).heap.size = w.heap.size + 1 by simp] at this
  have t0 := hT.c0
  have HO := Lib.hid (fun W => ronly_num N hN bs.length us.length p ab cb a cap W)
  have HB := Lib.hid (fun W => rbytes_core N W)
  generalize hq : (bs.length == 0 && us.length == 0 && p == 0) = q at HO
  cases q with
  | false =>
    have E : Hid (M.ofV 1 n m (.mk N bs us p) = false) := by show _ = _; simp_all [M.ofV]
    have HQ := Lib.hid hq
    clear hq
    go_enter Tryz.func115, Tryz.ntmps115
    go_wp2_with fail
    have mixed : Tryz.prog.follows .mixedOrders = true := by kernel_rfl
    refine region_quiet (C := fun W => Below (w.heap.size + 2) w0 W) mixed (by kernel_rfl) (Below.drew (Below.refl _ _)) ?_
    refine quiet_val (vv N (.slice ab bs.length cb) (.slice a us.length cap) p) (by rfl) (fun W hC => by have hv := (hV.from_ hC (by omega)); have c0 := hv.c0; have c1 := hv.c1; have c2 := hv.c2; have c3 := hv.c3; have c4 := hv.c4; have c5 := hv.c5; have c6 := hv.c6; simp only [Nat.zero_add] at c1 c2 c3 c4 c5 c6; go_simp) ?_
    simp only [Act.put, List.setIfInBounds_toArray, List.set_cons_zero, List.set_cons_succ]
    refine quiet_call (.bool false) 146 #[vv N (.slice ab bs.length cb) (.slice a us.length cap) p, .bool true, .bool false, .bool false, .bool false] (by rfl) (fun W hC => by go_simp) (fun W hC => (HO.out W).mono fun _ _ h => ⟨h.1, hC.trans (h.2.mono (by have := hC.size; omega))⟩) ?_
    simp only [Act.put, List.setIfInBounds_toArray, List.set_cons_zero, List.set_cons_succ]
    refine quiet_val (.bool false) (by rfl) (fun W hC => by go_simp) ?_
    simp only [Act.put, List.setIfInBounds_toArray, List.set_cons_zero, List.set_cons_succ]
    refine quiet_skip (by rfl) ?_
    simp only [Act.put, List.setIfInBounds_toArray, List.set_cons_zero, List.set_cons_succ]
    refine quiet_skip (by rfl) ?_
    simp only [Act.put, List.setIfInBounds_toArray, List.set_cons_zero, List.set_cons_succ]
    refine quiet_skip (by rfl) ?_
    simp only [Act.put, List.setIfInBounds_toArray, List.set_cons_zero, List.set_cons_succ]
    refine quiet_skip (by rfl) ?_
    simp only [Act.put, List.setIfInBounds_toArray, List.set_cons_zero, List.set_cons_succ]
    refine quiet_skip (by rfl) ?_
    simp only [Act.put, List.setIfInBounds_toArray, List.set_cons_zero, List.set_cons_succ]
    refine quiet_skip (by rfl) ?_
    simp only [Act.put, List.setIfInBounds_toArray, List.set_cons_zero, List.set_cons_succ]
    refine quiet_skip (by rfl) ?_
    simp only [Act.put, List.setIfInBounds_toArray, List.set_cons_zero, List.set_cons_succ]
    refine quiet_val (.bool false) (by rfl) (fun W hC => by go_simp) ?_
    simp only [Act.put, List.setIfInBounds_toArray, List.set_cons_zero, List.set_cons_succ]
    refine quiet_val (.bool false) (by rfl) (fun W hC => by go_simp) ?_
    simp only [Act.put, List.setIfInBounds_toArray, List.set_cons_zero, List.set_cons_succ]
    refine wpQuiet_nil ?_
    intro w1 hb1
    go_wp2_with fail
    go_ret
    rw [E.out]
    exact ⟨rfl, hb0.trans (hb1.mono (by omega))⟩
  | true =>
    have E : Hid (M.ofV 1 n m (.mk N bs us p) = decide (((M.tr (M.f32 N)).length : Int) ≤ n)) := by show _ = _; simp_all [M.ofV]
    have HQ := Lib.hid hq
    clear hq
    go_enter Tryz.func115, Tryz.ntmps115
    go_wp2_with fail
    have mixed : Tryz.prog.follows .mixedOrders = true := by kernel_rfl
    refine region_quiet (C := fun W => Below (w.heap.size + 2) w0 W) mixed (by kernel_rfl) (Below.drew (Below.refl _ _)) ?_
    refine quiet_val (vv N (.slice ab bs.length cb) (.slice a us.length cap) p) (by rfl) (fun W hC => by have hv := (hV.from_ hC (by omega)); have c0 := hv.c0; have c1 := hv.c1; have c2 := hv.c2; have c3 := hv.c3; have c4 := hv.c4; have c5 := hv.c5; have c6 := hv.c6; simp only [Nat.zero_add] at c1 c2 c3 c4 c5 c6; go_simp) ?_
    simp only [Act.put, List.setIfInBounds_toArray, List.set_cons_zero, List.set_cons_succ]
    refine quiet_call (.bool true) 146 #[vv N (.slice ab bs.length cb) (.slice a us.length cap) p, .bool true, .bool false, .bool false, .bool false] (by rfl) (fun W hC => by go_simp) (fun W hC => (HO.out W).mono fun _ _ h => ⟨h.1, hC.trans (h.2.mono (by have := hC.size; omega))⟩) ?_
    simp only [Act.put, List.setIfInBounds_toArray, List.set_cons_zero, List.set_cons_succ]
    refine quiet_val (.bool true) (by rfl) (fun W hC => by go_simp) ?_
    simp only [Act.put, List.setIfInBounds_toArray, List.set_cons_zero, List.set_cons_succ]
    refine quiet_val (.pointer (some ⟨w.heap.size + 1, 0, none⟩)) (by rfl) (fun W hC => by go_simp) ?_
    simp only [Act.put, List.setIfInBounds_toArray, List.set_cons_zero, List.set_cons_succ]
    refine quiet_val (wn N) (by rfl) (fun W hC => by have hv := (hV.from_ hC (by omega)); have c0 := hv.c0; have c1 := hv.c1; have c2 := hv.c2; have c3 := hv.c3; simp only [Nat.zero_add] at c1 c2 c3; go_simp) ?_
    simp only [Act.put, List.setIfInBounds_toArray, List.set_cons_zero, List.set_cons_succ]
    refine quiet_call (.string ⟨(M.tr (M.f32 N)).toArray⟩) 147 #[wn N] (by rfl) (fun W hC => by go_simp) (fun W hC => (HB.out W).mono fun _ _ h => ⟨h.1, hC.trans (h.2.mono (by have := hC.size; omega))⟩) ?_
    simp only [Act.put, List.setIfInBounds_toArray, List.set_cons_zero, List.set_cons_succ]
    refine quiet_val (.int .i64 ((M.tr (M.f32 N)).length : Nat)) (by rfl) (fun W hC => by go_simp) ?_
    simp only [Act.put, List.setIfInBounds_toArray, List.set_cons_zero, List.set_cons_succ]
    refine quiet_val (.pointer (some ⟨w.heap.size, 1, none⟩)) (by rfl) (fun W hC => by go_simp) ?_
    simp only [Act.put, List.setIfInBounds_toArray, List.set_cons_zero, List.set_cons_succ]
    refine quiet_val (.int .i64 n) (by rfl) (fun W hC => by have t1 := (hT.from_ hC (by omega)).c1; go_simp) ?_
    simp only [Act.put, List.setIfInBounds_toArray, List.set_cons_zero, List.set_cons_succ]
    refine quiet_val (.bool (decide (((M.tr (M.f32 N)).length : Int) ≤ n))) (by rfl) (fun W hC => by go_simp) ?_
    simp only [Act.put, List.setIfInBounds_toArray, List.set_cons_zero, List.set_cons_succ]
    refine quiet_val (.bool (decide (((M.tr (M.f32 N)).length : Int) ≤ n))) (by rfl) (fun W hC => by go_simp) ?_
    simp only [Act.put, List.setIfInBounds_toArray, List.set_cons_zero, List.set_cons_succ]
    refine quiet_val (.bool (decide (((M.tr (M.f32 N)).length : Int) ≤ n))) (by rfl) (fun W hC => by go_simp) ?_
    simp only [Act.put, List.setIfInBounds_toArray, List.set_cons_zero, List.set_cons_succ]
    refine wpQuiet_nil ?_
    intro w1 hb1
    go_wp2_with fail
    go_ret
    rw [E.out]
    exact ⟨rfl, hb0.trans (hb1.mono (by omega))⟩

theorem tof_any (k n : Int) (m : Nat) (at_ : Option Addr) (ct : Nat) (N : Nat) (hN : M.In N) (bs : List Bool) (us : List M.Va) (p : Int) (ab : Option Addr) (cb : Nat) (a : Option Addr) (cap : Nat) (w : World) :
    Calls Tryz.prog 115 #[tv k n (.slice at_ m ct), vv N (.slice ab bs.length cb) (.slice a us.length cap) p] w fun e w' => e = .returned (.bool (M.ofV k n m (.mk N bs us p))) ∧ Below w.heap.size w w' := by
  by_cases h1 : k = 1
  · subst h1; exact tof_1 n m at_ ct N hN bs us p ab cb a cap w
  by_cases h2 : k = 2
  · subst h2; exact tof_2 n m at_ ct N hN bs us p ab cb a cap w
  by_cases h3 : k = 3
  · subst h3; exact tof_3 n m at_ ct N hN bs us p ab cb a cap w
  by_cases h4 : k = 4
  · subst h4; exact tof_4 n m at_ ct N hN bs us p ab cb a cap w
  by_cases h5 : k = 5
  · subst h5; exact tof_5 n m at_ ct N hN bs us p ab cb a cap w
  by_cases h6 : k = 6
  · subst h6; exact tof_6 n m at_ ct N hN bs us p ab cb a cap w
  by_cases h7 : k = 7
  · subst h7; exact tof_7 n m at_ ct N hN bs us p ab cb a cap w
  exact tof_8 k n m at_ ct N hN bs us p ab cb a cap w h1 h2 h3 h4 h5 h6 h7
end Go.Proofs.YtaajkbclojmbeaaGreatDoor
namespace Go.Proofs.YtaajkbclojmbeaaGreatDoor
open Go Go.RowKit

theorem Tryz.typeSize : (Tryz.prog.info? 32).map (·.size) = some 3 := by kernel_rfl
/-- The result is a type in the newest block. -/
theorem ty_new {fn : Func} {s : Tmp} (hres : fn.results = #[.cell s 32]) (w W : World) (tmps : Array Value) (k m : Int) (v : Value) (R : Ending → World → Prop) (hp : tmps.getD s undef = .pointer (some ⟨W.heap.size, 0, none⟩)) (hb : Below w.heap.size w W)
    (h : ∀ Z, Below w.heap.size w Z → R (.returned (tv k m v)) Z) :
    bodyPost Tryz.prog fn R .ret { tmps := tmps, defers := [] } (W.alloc (.cells #[.int .i64 k, .int .i64 m, v] 32)) := by
  have := results_cell_row (P := Tryz.prog) hres tmps (W.alloc (.cells #[.int .i64 k, .int .i64 m, v] 32)) W.heap.size 32 #[.int .i64 k, .int .i64 m, v] (0, 0) _ hp (heap_alloc_new W _) Tryz.underlying32 rfl Tryz.typeSize
  exact bodyPost_ret this rfl (h _ (hb.alloc hb.size _))

set_option maxRecDepth 100000 in
set_option maxHeartbeats 4000000 in
theorem tin_any (k n : Int) (t c b o : Nat) (N : Nat) (ub uv : Value) (p : Int) (i j : Nat) (k' m' : Int) (au : Option Addr) (ul cu : Nat) (w : World) (hj : j < t) (hb : b < w.heap.size) (_ht : t ≤ 4000)
    (hi : (k = 7 ∧ i = j) ∨ (k ≠ 7 ∧ k = 8 ∧ p = j) ∨ (k ≠ 7 ∧ k ≠ 8 ∧ j = 0))
    (e0 : w.cell? ⟨b, o + j * 3, none⟩ = some (.int .i64 k')) (e1 : w.cell? ⟨b, o + j * 3 + 1, none⟩ = some (.int .i64 m')) (e2 : w.cell? ⟨b, o + j * 3 + 2, none⟩ = some (.slice au ul cu)) :
    Calls Tryz.prog 116 #[tv k n (.slice (some ⟨b, o, none⟩) t c), vv N ub uv p, .int .i64 i] w fun e w' => e = .returned (tv k' m' (.slice au ul cu)) ∧ Below w.heap.size w w' := by
  have hb0 : ∀ o o', Below w.heap.size w ((w.alloc o).alloc o') := fun o o' => ((Below.refl _ w).alloc (Nat.le_refl _) o).alloc (by simp) o'
  have hb3 : ∀ o1 o2 o3, Below w.heap.size w (((w.alloc o1).alloc o2).alloc o3) := fun o1 o2 o3 => (hb0 o1 o2).alloc (by simp; omega) o3
  have g0 := fun o1 o2 o3 => ((hb3 o1 o2 o3).cell (p := ⟨b, o + j * 3, none⟩) hb).trans e0
  have g1 := fun o1 o2 o3 => ((hb3 o1 o2 o3).cell (p := ⟨b, o + j * 3 + 1, none⟩) hb).trans e1
  have g2 := fun o1 o2 o3 => ((hb3 o1 o2 o3).cell (p := ⟨b, o + j * 3 + 2, none⟩) hb).trans e2
  clear e0 e1 e2 hb3
  rcases hi with ⟨h7, rfl⟩ | ⟨h7, h8, rfl⟩ | ⟨h7, h8, rfl⟩
  · subst h7
    go_enter Tryz.func116, Tryz.ntmps116
    go_wp2_with fail
    refine ty_new rfl w _ _ k' m' (.slice au ul cu) _ ?_ (hb0 _ _) (fun Z hZ => ⟨rfl, hZ⟩)
    simp
  · subst h8
    go_enter Tryz.func116, Tryz.ntmps116
    go_wp2_with fail
    refine ty_new rfl w _ _ k' m' (.slice au ul cu) _ ?_ (hb0 _ _) (fun Z hZ => ⟨rfl, hZ⟩)
    simp
  · have b7 : (k == 7) = false := by simpa using h7
    have b8 : (k == 8) = false := by simpa using h8
    simp only [Nat.zero_mul, Nat.add_zero] at g0 g1 g2
    go_enter Tryz.func116, Tryz.ntmps116
    go_wp2_with fail
    refine ty_new rfl w _ _ k' m' (.slice au ul cu) _ ?_ (hb0 _ _) (fun Z hZ => ⟨rfl, hZ⟩)
    simp
end Go.Proofs.YtaajkbclojmbeaaGreatDoor
namespace Go.Proofs.YtaajkbclojmbeaaGreatDoor
open Go Go.RowKit

theorem Vl.long {w : World} {n N : Nat} {bs : List Bool} {us : List M.Va} {ab : Option Addr} {cb : Nat} {au : Option Addr} {cu : Nat} (h : Vl w n N bs us ab cb au cu) : us.length ≤ 9223372036854775807 ∧ bs.length ≤ 9223372036854775807 := by
  obtain ⟨_, _, e, h1, h2⟩ := h.v.slice
  obtain ⟨_, _, e', h3, h4⟩ := h.b.slice
  cases e
  cases e'
  simp only [maxLen] at h2 h4
  omega

theorem M.in_at {k n : Int} {ts : List M.Ty} {N : Nat} {bs : List Bool} {us : List M.Va} {p : Int} {d j : Nat} (hof : M.ofV k n ts.length (.mk N bs us p) = true) (hc : M.chkT d (.mk k n ts) = 0) (hj : j < us.length) :
    ∃ (i : Nat) (k' m' : Int) (ts' : List M.Ty), i < ts.length ∧ ts[i]? = some (M.Ty.mk k' m' ts') ∧ M.inT k ts p j = .mk k' m' ts' ∧ ((k = 7 ∧ j = i) ∨ (k ≠ 7 ∧ k = 8 ∧ p = i) ∨ (k ≠ 7 ∧ k ≠ 8 ∧ i = 0)) := by
  obtain ⟨h1, h2, _, _⟩ := M.chkT_ok.1 hc
  have key : ∀ i : Nat, i < ts.length → M.inT k ts p j = ts[i]?.getD default → ((k = 7 ∧ j = i) ∨ (k ≠ 7 ∧ k = 8 ∧ p = i) ∨ (k ≠ 7 ∧ k ≠ 8 ∧ i = 0)) →
      ∃ (i : Nat) (k' m' : Int) (ts' : List M.Ty), i < ts.length ∧ ts[i]? = some (M.Ty.mk k' m' ts') ∧ M.inT k ts p j = .mk k' m' ts' ∧ ((k = 7 ∧ j = i) ∨ (k ≠ 7 ∧ k = 8 ∧ p = i) ∨ (k ≠ 7 ∧ k ≠ 8 ∧ i = 0)) := fun i hi e hor => by
    rw [List.getElem?_eq_getElem hi, Option.getD_some] at e
    obtain ⟨k', m', ts', hx⟩ : ∃ k' m' ts', ts[i] = M.Ty.mk k' m' ts' := by
      obtain ⟨a, b, c⟩ := ts[i]
      exact ⟨a, b, c, rfl⟩
    exact ⟨i, k', m', ts', hi, by rw [List.getElem?_eq_getElem hi, hx], by rw [e, hx], hor⟩
  unfold M.ofV at hof
  unfold M.formT at h2
  by_cases h7 : k = 7
  · subst h7
    simp at hof h2
    exact key j (by omega) (by unfold M.inT; rw [if_pos rfl]) (.inl ⟨rfl, rfl⟩)
  by_cases h8 : k = 8
  · subst h8
    simp at hof h2
    exact key p.toNat (by omega) (by unfold M.inT; rw [if_neg (by omega), if_pos rfl]) (.inr (.inl ⟨by omega, rfl, by omega⟩))
  have hlen : 0 < ts.length := by
    by_cases e1 : k = 1
    · subst e1; simp at hof; simp [hof] at hj
    by_cases e2 : k = 2
    · subst e2; simp at hof; simp [hof] at hj
    by_cases e3 : k = 3
    · subst e3; simp at h2; omega
    by_cases e4 : k = 4
    · subst e4; simp at h2; omega
    by_cases e5 : k = 5
    · subst e5; simp at hof; simp [hof] at hj
    by_cases e6 : k = 6
    · subst e6; simp at hof; simp [hof] at hj
    omega
  exact key 0 hlen (by unfold M.inT; rw [if_neg h7, if_neg h8]) (.inr (.inr ⟨h7, h8, rfl⟩))

set_option maxRecDepth 100000 in
set_option maxHeartbeats 16000000 in
theorem tfits_n (z : Nat) : ∀ (k n : Int) (ts : List M.Ty) (at_ : Option Addr) (ct : Nat) (d : Nat) (N : Nat) (bs : List Bool) (us : List M.Va) (p : Int) (ab : Option Addr) (cb : Nat) (a : Option Addr) (cap : Nat) (w : World), SizeOf.sizeOf us ≤ z → LayT w w.heap.size ts (.slice at_ ts.length ct) → Vl w w.heap.size N bs us ab cb a cap → M.chkT d (.mk k n ts) = 0 →
    Calls Tryz.prog 59 #[tv k n (.slice at_ ts.length ct), vv N (.slice ab bs.length cb) (.slice a us.length cap) p] w fun e w' => e = .returned (.int .i64 (M.fitV (.mk k n ts) (.mk N bs us p) : Nat)) ∧ Below w.heap.size w w' := by
  induction z with
  | zero => intro k n ts at_ ct d N bs us p ab cb a cap w h; cases us <;> simp at h
  | succ z ih =>
    intro k n ts at_ ct d N bs us p ab cb a cap w hs hT hV hck
    rw [M.fitV_eq]
    have hlu := hV.long.1
    by_cases hlong : (k = 4 ∧ n < us.length) ∨ (k = 6 ∧ n < bs.length)
    · rw [if_pos hlong]
      have hb0 : ∀ o o', Below w.heap.size w ((w.alloc o).alloc o') := fun o o' => ((Below.refl _ w).alloc (Nat.le_refl _) o).alloc (by simp) o'
      rcases hlong with ⟨hk, hl⟩ | ⟨hk, hl⟩
      · subst hk
        go_enter Tryz.func59, Tryz.ntmps59
        go_wp2_with fail
        go_ret
        exact ⟨rfl, hb0 _ _⟩
      · subst hk
        go_enter Tryz.func59, Tryz.ntmps59
        go_wp2_with fail
        go_ret
        exact ⟨rfl, hb0 _ _⟩
    · rw [if_neg hlong]
      obtain ⟨w0, hw0⟩ : ∃ w0, (w.alloc (.cells #[.int .i64 k, .int .i64 n, .slice at_ ts.length ct] 32)).alloc (.cells #[.int .u64 (M.pt 0 N), .int .u64 (M.pt 1 N), .int .u64 (M.pt 2 N), .int .u64 (M.pt 3 N), .slice ab bs.length cb, .slice a us.length cap, .int .i64 p] 38) = w0 := ⟨_, rfl⟩
      have hb0 : Below w.heap.size w w0 := by rw [← hw0]; (repeat (first | exact Below.refl _ _ | refine Below.drew ?_ | refine Below.alloc ?_ (by first | omega | (simp; omega) | simp) _ | refine Below.setCell ?_ (by first | omega | (simp; omega) | simp) _))
      have hz0 : w0.heap.size = w.heap.size + 2 := by rw [← hw0]; simp
      have hbT : BoxT w0 w.heap.size k n (.slice at_ ts.length ct) := by
        rw [← hw0]
        exact (BoxT.new w k n (.slice at_ ts.length ct) 32).from_ ((Below.refl _ _).alloc (Nat.le_refl _) _) (by simp)
      have hbV : Cells7 w0 (w.heap.size + 1) 0 N (.slice ab bs.length cb) (.slice a us.length cap) p := by
        rw [← hw0]
        have := Cells7.new (w.alloc (.cells #[.int .i64 k, .int .i64 n, .slice at_ ts.length ct] 32)) N (.slice ab bs.length cb) (.slice a us.length cap) p 38
        rwa [show (w.alloc (.cells #[.int .i64 k, .int .i64 n, .slice at_ ts.length ct] 32)).heap.size = w.heap.size + 1 by simp] at this
      have HO := Lib.hid (fun W => tof_any k n ts.length at_ ct N hV.hN bs us p ab cb a cap W)
      have t0 := hbT.c0
      have t1 := hbT.c1
      have t2 := hbT.c2
      have v0 := hbV.c0
      have v1 := hbV.c1
      have v2 := hbV.c2
      have v3 := hbV.c3
      have v4 := hbV.c4
      have v5 := hbV.c5
      have v6 := hbV.c6
      simp only [Nat.zero_add] at v1 v2 v3 v4 v5 v6
      generalize hof : M.ofV k n ts.length (.mk N bs us p) = q at *
      have HOF := Lib.hid hof
      clear hof
      have hcase : ((k == 4) = true ∧ (k == 6) = false ∧ ¬ n < (us.length : Int)) ∨ ((k == 4) = false ∧ (k == 6) = true ∧ ¬ n < (bs.length : Int)) ∨ ((k == 4) = false ∧ (k == 6) = false ∧ True) := by
        by_cases e4 : k = 4
        · exact .inl ⟨by simpa using e4, by simp; omega, fun h => hlong (.inl ⟨e4, h⟩)⟩
        · by_cases e6 : k = 6
          · exact .inr (.inl ⟨by simpa using e4, by simpa using e6, fun h => hlong (.inr ⟨e6, h⟩)⟩)
          · exact .inr (.inr ⟨by simpa using e4, by simpa using e6, trivial⟩)
      clear hlong
      cases q with
      | false =>
        rw [if_pos rfl]
        rcases hcase with ⟨b4, b6, hl⟩ | ⟨b4, b6, hl⟩ | ⟨b4, b6, hl⟩ <;>
        (go_enter Tryz.func59, Tryz.ntmps59
         go_wp2_with fail
         refine (HO.out _).mono ?_
         rintro e w1 ⟨rfl, hb1⟩
         go_wp2_with fail
         go_ret
         exact ⟨rfl, hb0.trans (hb1.mono (by omega))⟩)
      | true =>
        rw [if_neg (by simp)]
        rcases hcase with ⟨b4, b6, hl⟩ | ⟨b4, b6, hl⟩ | ⟨b4, b6, hl⟩ <;>
        (go_enter Tryz.func59, Tryz.ntmps59
         go_wp2_with fail
         refine (HO.out _).mono ?_
         rintro e w1 ⟨rfl, hb1⟩
         replace hbT := hbT.from_ hb1 (by omega)
         replace hbV := hbV.from_ hb1 (by omega)
         have hb01 : Below w.heap.size w w1 := hb0.trans (hb1.mono (by omega))
         have hsz1 : w.heap.size + 2 ≤ w1.heap.size := by have := hb1.size; omega
         clear hb1 hb0 hw0 t0 t1 t2 v0 v1 v2 v3 v4 v5 v6 HO
         go_wp2_with fail
         go_loopw [6] (fun i wr => ∃ j : Nat, j ≤ us.length ∧ i = .int .i64 j ∧ M.fitVs k ts p 0 (us.take j) = 0 ∧ Below w1.heap.size w1 wr) (fun i _ => us.length - (intOf i).toNat)
         case atStart => exact ⟨0, by omega, rfl, by simp [M.fitVs], Below.refl _ _⟩
         case round =>
          obtain ⟨j, hj, rfl, hq, hW⟩ := hrel
          have hbW : Below w.heap.size w wr := hb01.trans (hW.mono (by omega))
          have hsz := hW.size
          replace hbT := hbT.from_ hW (by omega)
          replace hbV := hbV.from_ hW (by omega)
          have c5 := hbV.c5
          simp only [Nat.zero_add] at c5
          by_cases hlt : j < us.length
          · obtain ⟨bv, ov, N', bs', us', p', ab', cb', av', cv', rfl, hbv0, hxk, hE, hV'⟩ := (hV.from_ hbW).v.at_ hlt
            obtain ⟨i, k', m', ts', hi, hti, hin, hor⟩ := M.in_at HOF.out hck hlt
            obtain ⟨bt, ot, k2, m2, ts2, at', ct', rfl, hbt0, hti2, e0, e1, e2, hT'⟩ := (hT.from_ hbW).at_ hi
            obtain ⟨rfl, rfl, rfl⟩ : k' = k2 ∧ m' = m2 ∧ ts' = ts2 := by rw [hti] at hti2; simpa using hti2
            have hbs : w.heap.size < wr.heap.size := by omega
            have hj9 : (j : Int) < 9223372036854775807 := by omega
            have hbs2 : w.heap.size + 1 < wr.heap.size := by omega
            have hbv : bv < wr.heap.size := by omega
            have hbt : bt < wr.heap.size := by omega
            have hts : ts.length ≤ 4000 := by
              obtain ⟨_, h2, _, _⟩ := M.chkT_ok.1 hck
              unfold M.formT at h2
              split at h2
              · simp at h2; simp [h2]
              · split at h2
                · simp at h2; simp [h2]
                · split at h2
                  · simp at h2; omega
                  · split at h2
                    · simp at h2; simp [h2]
                    · split at h2
                      · simp at h2; omega
                      · simp at h2; omega
            have hsx := size_va hxk
            rw [M.Va.mk.sizeOf_spec] at hsx
            have HI := Lib.hid (fun W (h : Below wr.heap.size wr W) => tin_any k n ts.length ct bt ot N (.slice ab bs.length cb) (.slice (some ⟨bv, ov, none⟩) us.length cap) p j i k' m' at' ts'.length ct' W hi (Nat.lt_of_lt_of_le hbt h.size) hts hor ((h.cell (p := ⟨bt, ot + i * 3, none⟩) hbt).trans e0) ((h.cell (p := ⟨bt, ot + i * 3 + 1, none⟩) hbt).trans e1) ((h.cell (p := ⟨bt, ot + i * 3 + 2, none⟩) hbt).trans e2))
            have IH := Lib.hid (fun W (h : Below wr.heap.size wr W) => ih k' m' ts' at' ct' (d + 1) N' bs' us' p' ab' cb' av' cv' W (by omega) ((hT'.from_ (h.mono hbW.size)).mono (Nat.le_trans hbW.size h.size)) ((hV'.from_ (h.mono hbW.size)).mono (Nat.le_trans hbW.size h.size)) (M.chkTs_ok.1 (M.chkT_ok.1 hck).2.2.2 _ (List.mem_of_getElem? hti)))
            have HN := Lib.hid (M.fitVs_next (k := k) (ins := ts) (pick := p) hxk hq)
            have HFF := Lib.hid (M.fitVs_first (k := k) (ins := ts) (pick := p) hxk hq)
            rw [hin] at HN HFF
            generalize M.fitV (.mk k' m' ts') (.mk N' bs' us' p') = r at *
            clear ih hq hsx hti hti2 hin hor e0 e1 e2 hT' hV' hV hT hck hxk hts
            go_wp2_with fail
            have mixed : Tryz.prog.follows .mixedOrders = true := by kernel_rfl
            refine region_quiet (C := fun W => Below wr.heap.size wr W) mixed (by kernel_rfl) (Below.drew (Below.refl _ _)) ?_
            refine quiet_val (tv k n (.slice (some ⟨bt, ot, none⟩) ts.length ct)) (by rfl) (fun W hC => by have z := hbT.from_ hC hbs; have c0 := z.c0; have c1 := z.c1; have c2 := z.c2; go_simp) ?_
            simp only [Act.put, List.setIfInBounds_toArray, List.set_cons_zero, List.set_cons_succ]
            refine quiet_val (vv N (.slice ab bs.length cb) (.slice (some ⟨bv, ov, none⟩) us.length cap) p) (by rfl) (fun W hC => by have z := hbV.from_ hC hbs2; have c0 := z.c0; have c1 := z.c1; have c2 := z.c2; have c3 := z.c3; have c4 := z.c4; have c5 := z.c5; have c6 := z.c6; simp only [Nat.zero_add] at c1 c2 c3 c4 c5 c6; go_simp) ?_
            simp only [Act.put, List.setIfInBounds_toArray, List.set_cons_zero, List.set_cons_succ]
            refine quiet_val (.int .i64 j) (by rfl) (fun W hC => by go_simp) ?_
            simp only [Act.put, List.setIfInBounds_toArray, List.set_cons_zero, List.set_cons_succ]
            refine quiet_call (tv k' m' (.slice at' ts'.length ct')) 116 #[tv k n (.slice (some ⟨bt, ot, none⟩) ts.length ct), vv N (.slice ab bs.length cb) (.slice (some ⟨bv, ov, none⟩) us.length cap) p, .int .i64 j] (by rfl) (fun W hC => by go_simp) (fun W hC => (HI.out W hC).mono fun _ _ h => ⟨h.1, hC.trans (h.2.mono hC.size)⟩) ?_
            simp only [Act.put, List.setIfInBounds_toArray, List.set_cons_zero, List.set_cons_succ]
            refine quiet_val (.pointer (some ⟨w.heap.size + 1, 5, none⟩)) (by rfl) (fun W hC => by go_simp) ?_
            simp only [Act.put, List.setIfInBounds_toArray, List.set_cons_zero, List.set_cons_succ]
            refine quiet_val (.slice (some ⟨bv, ov, none⟩) us.length cap) (by rfl) (fun W hC => by have z := hbV.from_ hC hbs2; have c5 := z.c5; simp only [Nat.zero_add] at c5; go_simp) ?_
            simp only [Act.put, List.setIfInBounds_toArray, List.set_cons_zero, List.set_cons_succ]
            refine quiet_val (.int .i64 j) (by rfl) (fun W hC => by go_simp) ?_
            simp only [Act.put, List.setIfInBounds_toArray, List.set_cons_zero, List.set_cons_succ]
            refine quiet_val (.pointer (some ⟨bv, ov + j * 7, none⟩)) (by rfl) (fun W hC => by go_simp) ?_
            simp only [Act.put, List.setIfInBounds_toArray, List.set_cons_zero, List.set_cons_succ]
            refine quiet_val (vv N' (.slice ab' bs'.length cb') (.slice av' us'.length cv') p') (by rfl) (fun W hC => by have z := hE.from_ hC hbv; have c0 := z.c0; have c1 := z.c1; have c2 := z.c2; have c3 := z.c3; have c4 := z.c4; have c5 := z.c5; have c6 := z.c6; go_simp) ?_
            simp only [Act.put, List.setIfInBounds_toArray, List.set_cons_zero, List.set_cons_succ]
            refine quiet_call (.int .i64 (r : Nat)) 59 #[tv k' m' (.slice at' ts'.length ct'), vv N' (.slice ab' bs'.length cb') (.slice av' us'.length cv') p'] (by rfl) (fun W hC => by go_simp) (fun W hC => (IH.out W hC).mono fun _ _ h => ⟨h.1, hC.trans (h.2.mono hC.size)⟩) ?_
            simp only [Act.put, List.setIfInBounds_toArray, List.set_cons_zero, List.set_cons_succ]
            refine quiet_val (.int .i64 (r : Nat)) (by rfl) (fun W hC => by go_simp) ?_
            simp only [Act.put, List.setIfInBounds_toArray, List.set_cons_zero, List.set_cons_succ]
            refine wpQuiet_nil ?_
            intro w2 hb2
            clear HI IH hE hbT hbV
            by_cases hr : r = 0
            · subst hr
              go_wp2_with fail
              go_roundw
              case rel => exact ⟨j + 1, by omega, by simp, HN.out, hW.trans (hb2.mono hsz)⟩
              case measure => simp [intOf]; omega
            · have hr' : ¬ ((r : Nat) : Int) = 0 := by omega
              have HG := Lib.hid (HFF.out hr)
              clear hr HFF HN hj9
              go_wp2_with fail
              go_ret
              rw [HG.out]
              exact ⟨rfl, hbW.trans (hb2.mono hbW.size)⟩
          · obtain rfl : j = us.length := by omega
            rw [List.take_length] at hq
            have HQ := Lib.hid hq
            clear hq
            go_wp2_with fail
            go_ret
            rw [HQ.out]
            exact ⟨rfl, hbW⟩)
end Go.Proofs.YtaajkbclojmbeaaGreatDoor
