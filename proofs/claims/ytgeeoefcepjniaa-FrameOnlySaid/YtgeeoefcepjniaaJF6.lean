/- frame: leading. -/
import Derived.Test.YtgeeoefcepjniaaJF2
import Derived.Test.YtgeeoefcepjniaaF0
import Derived.Test.YtgeeoefcepjniaaJ3
import Derived.OrdersHeld
import Derived.Deep.RegionHeld
import Derived.Laws.Tables
namespace Go.Proofs.Ytgeeoefcepjniaa
open Go Go.RowKit
attribute [local go_sem] Oper.semAt_some

theorem Try.frameSize : (Try.prog.info? 24).map (·.size) = some 4 := by kernel_rfl
theorem results_ctt {fn : Func} {p q r : Tmp} {ty : TypeId} (h : fn.results = #[.cell p ty, .tmp q, .tmp r]) (tmps : Array Value) (P : Program) (w : World) (a : Addr) (u x y : Value) (hp : tmps.getD p undef = .pointer (some a)) (hq : tmps.getD q undef = x) (hr : tmps.getD r undef = y)
    (hu : (loadVar ty a).run P w = .ok u w) : (results fn tmps).run P w = .ok (.tuple #[u, x, y]) w := by
  have hp' : tmps[p]?.getD undef = .pointer (some a) := by simpa using hp
  have hq' : tmps[q]?.getD undef = x := by simpa using hq
  have hr' : tmps[r]?.getD undef = y := by simpa using hr
  simp [results, h, hp', hq', hr', Result.andThen, asAddr, hu]
theorem fr_load (W : World) (g : Nat) (cs : Array Value) (hz : cs.size = 4) (h : W.heap[g]? = some (.cells cs 24 (0, 0))) : (loadVar 24 ⟨g, 0, none⟩).run Try.prog W = .ok (.agg cs) W :=
  run_loadVar_row W g 24 24 cs (0, 0) _ h Try.underlying24 rfl (by rw [Try.frameSize, hz])
/-- A result that is a frame of one's own block, and two more. -/
theorem fr_new {fn : Func} {p q r : Tmp} (hres : fn.results = #[.cell p 24, .tmp q, .tmp r]) (w : World) (tmps : Array Value) (cs : Array Value) (hz : cs.size = 4) (R : Ending → World → Prop) (x y : Value) (hp : tmps.getD p undef = .pointer (some ⟨w.heap.size, 0, none⟩)) (hq : tmps.getD q undef = x) (hr : tmps.getD r undef = y)
    (h : ∀ Z, Below w.heap.size w Z → R (.returned (.tuple #[.agg cs, x, y])) Z) :
    bodyPost Try.prog fn R .ret { tmps := tmps, defers := [] } (w.alloc (.cells cs 24)) :=
  bodyPost_ret (results_ctt hres tmps Try.prog _ _ _ x y hp hq hr (fr_load _ _ cs hz (heap_alloc_new w _))) rfl (h _ ((Below.refl _ w).alloc (Nat.le_refl _) _))
theorem fr_row {fn : Func} {p q r : Tmp} (hres : fn.results = #[.cell p 24, .tmp q, .tmp r]) (W : World) (g : Nat) (tmps : Array Value) (cs : Array Value) (hz : cs.size = 4) (hrow : W.heap[g]? = some (.cells cs 24 (0, 0))) (R : Ending → World → Prop) (x y : Value) (hp : tmps.getD p undef = .pointer (some ⟨g, 0, none⟩)) (hq : tmps.getD q undef = x) (hr : tmps.getD r undef = y)
    (h : R (.returned (.tuple #[.agg cs, x, y])) W) :
    bodyPost Try.prog fn R .ret { tmps := tmps, defers := [] } W :=
  bodyPost_ret (results_ctt hres tmps Try.prog _ _ _ x y hp hq hr (fr_load _ _ cs hz hrow)) rfl h
theorem set_fourF {w : World} {g : Nat} {o0 o1 o2 o3 : Value} {t : TypeId} (h : w.heap[g]? = some (.cells #[o0, o1, o2, o3] t (0, 0))) (a b c d : Value) :
    (((w.setCell ⟨g, 0, none⟩ a).setCell ⟨g, 1, none⟩ b).setCell ⟨g, 2, none⟩ c).setCell ⟨g, 3, none⟩ d = w.setRow g #[a, b, c, d] := by
  have step : ∀ (W : World) (cur : Array Value) (j : Nat) (v : Value), W.heap[g]? = some (.cells cur t (0, 0)) → W.setCell ⟨g, j, none⟩ v = W.setRow g (cur.setIfInBounds j v) ∧ (W.setRow g (cur.setIfInBounds j v)).heap[g]? = some (.cells (cur.setIfInBounds j v) t (0, 0)) := fun W cur j v hW => ⟨setCell_eq_setRow W g j cur t (0, 0) v hW, setRow_heap W g cur _ t (0, 0) hW⟩
  obtain ⟨e0, h0⟩ := step _ _ 0 a h
  obtain ⟨e1, h1⟩ := step _ _ 1 b h0
  obtain ⟨e2, h2⟩ := step _ _ 2 c h1
  obtain ⟨e3, h3⟩ := step _ _ 3 d h2
  rw [e0, e1, e2, e3, setRow_setRow, setRow_setRow, setRow_setRow]
  rfl
theorem cells_of4 {w : World} {g : Nat} {o0 o1 o2 o3 : Value} {t : TypeId} (h : w.heap[g]? = some (.cells #[o0, o1, o2, o3] t (0, 0))) : (∃ v, w.cell? ⟨g, 0, none⟩ = some v) ∧ (∃ v, w.cell? ⟨g, 1, none⟩ = some v) ∧ (∃ v, w.cell? ⟨g, 2, none⟩ = some v) ∧ (∃ v, w.cell? ⟨g, 3, none⟩ = some v) ∧ ∀ j, w.frozen? ⟨g, j, none⟩ = false := by
  refine ⟨?_, ?_, ?_, ?_, ?_⟩ <;> simp [World.cell?, World.frozen?, h]
/-- The result's block is there. -/
def Rz (w Y : World) : Prop := Below w.heap.size w Y ∧ ∃ o0 o1 o2 o3, Y.heap[w.heap.size]? = some (.cells #[o0, o1, o2, o3] 24 (0, 0))
theorem Rz.drew {w Y : World} (h : Rz w Y) : Rz w Y.drew := ⟨h.1.drew, h.2⟩
theorem Rz.drewN {w Y : World} (h : Rz w Y) (n : Nat) : Rz w (Y.drewN n) := ⟨⟨h.1.os, h.1.tape, h.1.output, h.1.size, h.1.block⟩, h.2⟩
theorem Rz.below {w Y Z : World} (h : Rz w Y) (hb : Below Y.heap.size Y Z) : Rz w Z := by
  obtain ⟨h1, o0, o1, o2, o3, h2⟩ := h
  exact ⟨h1.trans (hb.mono h1.size), o0, o1, o2, o3, (hb.block _ (Array.getElem?_eq_some_iff.1 h2).1).trans h2⟩
theorem Rz.row {w Y : World} (h : Rz w Y) (a b c d : Value) : Rz w (Y.setRow w.heap.size #[a, b, c, d]) := by
  obtain ⟨h1, o0, o1, o2, o3, h2⟩ := h
  exact ⟨h1.trans ⟨rfl, rfl, rfl, by simp, fun j hj => setRow_other _ _ _ _ (by omega)⟩, a, b, c, d, setRow_heap _ _ _ _ _ (0, 0) h2⟩

/-- What leads bytes: the frame, how many bytes, and what is wrong. -/
def M.ldF (t : List UInt8) : M.Fr := if M.leadE t = 0 then M.isF t else M.noF
def M.ldN (t : List UInt8) : Nat := if M.leadE t = 0 then 23 + M.lenF t else 0

theorem slice_lo (l : List UInt8) (b : Nat) (hbl : b ≤ l.length) (w : World) :
    (Instr.slice 9 (.string ⟨l.toArray⟩) none (some (.int .i64 b)) none).run Try.prog w = .ok (.string ⟨(l.take b).toArray⟩) w := by
  have hs : (⟨l.toArray⟩ : ByteArray).size = l.length := rfl
  have h2 : ((b : Nat) : Int) ≤ ((⟨l.toArray⟩ : ByteArray).size : Nat) := by rw [hs]; omega
  simp [Instr.slice, run_underlying Try.underlying9, Instr.sliceBounds, run_sliceBound, h2, cutS]
theorem slice_hi (l : List UInt8) (b : Nat) (hbl : b ≤ l.length) (w : World) :
    (Instr.slice 9 (.string ⟨l.toArray⟩) (some (.int .i64 b)) none none).run Try.prog w = .ok (.string ⟨(l.drop b).toArray⟩) w := by
  have hs : (⟨l.toArray⟩ : ByteArray).size = l.length := rfl
  have h2 : ((b : Nat) : Int) ≤ (l.length : Nat) := by omega
  have e : (⟨l.toArray⟩ : ByteArray).extract b l.length = ⟨(l.drop b).toArray⟩ := by rw [cutS]; simp
  simp [Instr.slice, run_underlying Try.underlying9, Instr.sliceBounds, run_sliceBound, h2, e, hs]

theorem not_cast {a b : Nat} (h : ¬ a < 23 + b) : ¬ (a : Int) < 22 + (b : Int) + 1 := by omega
theorem endF_get {t : List UInt8} {n : Nat} (hn : M.lenF t = n) (h : 23 + n ≤ t.length) : ∃ c, t[22 + n]? = some c ∧ M.endF t = c.toNat := by
  have hl : 22 + n < t.length := by clear hn; omega
  refine ⟨t[22 + n]'hl, List.getElem?_eq_getElem hl, ?_⟩
  unfold M.endF
  rw [hn, List.headD_eq_head?_getD, List.head?_drop, List.getElem?_eq_getElem hl]
  rfl

set_option maxRecDepth 100000 in
set_option maxHeartbeats 8000000 in
theorem fleading_any (t : List UInt8) (w : World) (ht : t.length ≤ 400000) :
    Calls Try.prog 25 #[.string ⟨t.toArray⟩] w fun e w' => e = .returned (.tuple #[frv (M.ldF t), .int .i64 (M.ldN t : Nat), .int .i64 (M.leadE t : Nat)]) ∧ Below w.heap.size w w' := by
  have mixed : Try.prog.follows .mixedOrders = true := by kernel_rfl
  obtain ⟨n, hn⟩ : ∃ n, M.lenF t = n := ⟨_, rfl⟩
  obtain ⟨q, hq⟩ : ∃ q, M.leadE t = q := ⟨_, rfl⟩
  have hnv : frv M.noF = .agg #[.string ⟨#[]⟩, .int .i64 0, .string ⟨#[]⟩, .bool false] := rfl
  have hE := hq
  unfold M.leadE at hE
  rw [hn] at hE
  unfold M.ldF M.ldN
  rw [hq]
  by_cases h1 : t.length < 22
  · rw [if_pos h1] at hE
    subst hE
    rw [if_neg (by decide), if_neg (by decide), hnv]
    have h1' : (t.length : Int) < 22 := by omega
    clear hq hn hnv
    go_enter Try.func25, Try.ntmps25
    go_wp2_with fail
    exact fr_new rfl w _ #[.string ⟨#[]⟩, .int .i64 0, .string ⟨#[]⟩, .bool false] rfl _ _ _ rfl rfl rfl (fun Z hZ => ⟨rfl, hZ⟩)
  rw [if_neg h1] at hE
  have h1' : ¬ (t.length : Int) < 22 := by omega
  obtain ⟨w0, hw0⟩ : ∃ w0, w.alloc (.cells #[.string ⟨#[]⟩, .int .i64 0, .string ⟨#[]⟩, .bool false] 24) = w0 := ⟨_, rfl⟩
  have hR0 : Rz w w0 := by rw [← hw0]; exact ⟨(Below.refl _ _).alloc (Nat.le_refl _) _, _, _, _, _, heap_alloc_new w _⟩
  have s1 := slice_lo t 16 (by omega)
  have s2 : ∀ W : World, (Instr.slice 9 (.string ⟨t.toArray⟩) (some (.int .i64 16)) (some (.int .i64 22)) none).run Try.prog W = .ok (.string ⟨((t.drop 16).take 6).toArray⟩) W := fun W => by
    have := slice_str t 16 22 (by omega) (by omega) W
    rw [cutS, List.drop_take] at this
    exact this
  have hx16 : (⟨t.toArray⟩ : ByteArray).extract 0 16 = ⟨(t.take 16).toArray⟩ := by rw [cutS, List.drop_zero]
  have l6 : ((t.drop 16).take 6).length = 6 := by rw [List.length_take, List.length_drop]; omega
  have s3 : ∀ W : World, (Instr.slice 9 (.string ⟨((t.drop 16).take 6).toArray⟩) (some (.int .i64 2)) none none).run Try.prog W = .ok (.string ⟨((t.drop 18).take 4).toArray⟩) W := fun W => by
    have := slice_hi ((t.drop 16).take 6) 2 (by omega) W
    rw [List.drop_take, List.drop_drop] at this
    exact this
  have s4 : ∀ W : World, (Instr.slice 9 (.string ⟨((t.drop 16).take 6).toArray⟩) none (some (.int .i64 2)) none).run Try.prog W = .ok (.string ⟨((t.drop 16).take 2).toArray⟩) W := fun W => by
    have := slice_lo ((t.drop 16).take 6) 2 (by omega) W
    rw [List.take_take] at this
    exact this
  have l4 : ((t.drop 18).take 4).length ≤ 4 := by rw [List.length_take]; omega
  have l2 : ((t.drop 16).take 2).length ≤ 4 := by rw [List.length_take]; omega
  have HR1 := Lib.hid (fun W => fread_any _ W l4)
  have hnn : M.dg ((t.drop 18).take 4) = n := hn
  rw [hnn] at HR1
  have hn4 : n < 4294967296 := by
    have := M.dg_lt ((t.drop 18).take 4)
    rw [hnn] at this
    have h4 : ((t.drop 18).take 4).length = 4 := by rw [List.length_take, List.length_drop]; omega
    rw [h4] at this
    omega
  by_cases h2 : 4096 < n
  · rw [if_pos h2] at hE
    subst hE
    rw [if_neg (by decide), if_neg (by decide), hnv]
    have h2' : (4096 : Int) < (n : Nat) := by omega
    clear hq hn hnv hnn
    have HW := Lib.hid hw0
    have HRZ := Lib.hid hR0
    clear hw0 hR0
    go_enter Try.func25, Try.ntmps25
    go_wp2_with fail
    go_quiet (fail)
    rw [HW.out]
    go_wp2_with fail
    refine (HR1.out _).mono ?_
    rintro e wr ⟨rfl, hbr⟩
    have hRz : Rz w wr := (HRZ.out.drewN _).below hbr
    obtain ⟨hbl, o0, o1, o2, o3, hrow⟩ := id hRz
    have q0 := cells_of4 hrow
    obtain ⟨⟨v0, e0⟩, ⟨v1, e1⟩, ⟨v2, e2⟩, ⟨v3, e3⟩, f0⟩ := q0
    have g0 := f0 0
    have g1 := f0 1
    have g2 := f0 2
    have g3 := f0 3
    go_wp2_with fail
    rw [set_fourF hrow]
    exact fr_row rfl _ w.heap.size _ #[.string ⟨#[]⟩, .int .i64 0, .string ⟨#[]⟩, .bool false] rfl (setRow_heap _ _ _ _ _ (0, 0) hrow) _ _ _ rfl rfl rfl ⟨rfl, (hRz.row _ _ _ _).1⟩
  rw [if_neg h2] at hE
  have h2' : ¬ (4096 : Int) < (n : Nat) := by omega
  have hn64 : wrap64 (n : Int) = (n : Int) := by unfold wrap64; omega
  clear hn4
  by_cases h3 : t.length < 23 + n
  · rw [if_pos h3] at hE
    subst hE
    rw [if_neg (by decide), if_neg (by decide), hnv]
    have h3' : (t.length : Int) < 22 + (n : Int) + 1 := by omega
    clear hq hn hnv hnn
    have HW := Lib.hid hw0
    have HRZ := Lib.hid hR0
    clear hw0 hR0
    go_enter Try.func25, Try.ntmps25
    go_wp2_with fail
    go_quiet (fail)
    rw [HW.out]
    go_wp2_with fail
    refine (HR1.out _).mono ?_
    rintro e wr ⟨rfl, hbr⟩
    have hRz : Rz w wr := (HRZ.out.drewN _).below hbr
    obtain ⟨hbl, o0, o1, o2, o3, hrow⟩ := id hRz
    have q0 := cells_of4 hrow
    obtain ⟨⟨v0, e0⟩, ⟨v1, e1⟩, ⟨v2, e2⟩, ⟨v3, e3⟩, f0⟩ := q0
    have g0 := f0 0
    have g1 := f0 1
    have g2 := f0 2
    have g3 := f0 3
    go_wp2_with fail
    rw [set_fourF hrow]
    exact fr_row rfl _ w.heap.size _ #[.string ⟨#[]⟩, .int .i64 0, .string ⟨#[]⟩, .bool false] rfl (setRow_heap _ _ _ _ _ (0, 0) hrow) _ _ _ rfl rfl rfl ⟨rfl, (hRz.row _ _ _ _).1⟩
  rw [if_neg h3] at hE
  have h3' : ¬ (t.length : Int) < 22 + (n : Int) + 1 := not_cast h3
  obtain ⟨c, hc, hend⟩ := endF_get hn (Nat.le_of_not_lt h3)
  rw [hend] at hE
  have hix : ∀ hk : ((22 : Int) + (n : Int)).toNat < (⟨t.toArray⟩ : ByteArray).size, (⟨t.toArray⟩ : ByteArray)[((22 : Int) + (n : Int)).toNat]'hk = c := idx_at (by rw [show ((22 : Int) + (n : Int)).toNat = 22 + n by omega]; exact hc)
  have hc8 := c.toNat_lt
  have hlt : (22 : Int) + (n : Int) < (t.length : Nat) := by omega
  by_cases h4 : 1 < c.toNat
  · rw [if_pos h4] at hE
    subst hE
    rw [if_neg (by decide), if_neg (by decide), hnv]
    have h4' : (1 : Int) < (c.toNat : Nat) := by omega
    clear hq hn hnv hnn hend
    have HW := Lib.hid hw0
    have HRZ := Lib.hid hR0
    clear hw0 hR0
    go_enter Try.func25, Try.ntmps25
    go_wp2_with fail
    go_quiet (fail)
    rw [HW.out]
    go_wp2_with fail
    refine (HR1.out _).mono ?_
    rintro e wr ⟨rfl, hbr⟩
    have hRz : Rz w wr := (HRZ.out.drewN _).below hbr
    obtain ⟨hbl, o0, o1, o2, o3, hrow⟩ := id hRz
    have q0 := cells_of4 hrow
    obtain ⟨⟨v0, e0⟩, ⟨v1, e1⟩, ⟨v2, e2⟩, ⟨v3, e3⟩, f0⟩ := q0
    have g0 := f0 0
    have g1 := f0 1
    have g2 := f0 2
    have g3 := f0 3
    go_wp2_with fail
    rw [set_fourF hrow]
    exact fr_row rfl _ w.heap.size _ #[.string ⟨#[]⟩, .int .i64 0, .string ⟨#[]⟩, .bool false] rfl (setRow_heap _ _ _ _ _ (0, 0) hrow) _ _ _ rfl rfl rfl ⟨rfl, (hRz.row _ _ _ _).1⟩
  rw [if_neg h4] at hE
  subst hE
  have h4' : ¬ (1 : Int) < (c.toNat : Nat) := by omega
  obtain ⟨m, hm⟩ : ∃ m, M.dg ((t.drop 16).take 2) = m := ⟨_, rfl⟩
  have hfv : frv (M.isF t) = .agg #[.string ⟨(t.take 16).toArray⟩, .int .i64 (m : Nat), .string ⟨((t.drop 22).take n).toArray⟩, .bool (decide (c.toNat = 1))] := by
    unfold frv M.isF
    rw [hn, hm, hend]
  rw [if_pos rfl, if_pos rfl, hn, hfv]
  have HR2 := Lib.hid (fun W => fread_any _ W l2)
  rw [hm] at HR2
  have hm2 : m < 65536 := by
    have := M.dg_lt ((t.drop 16).take 2)
    rw [hm] at this
    have h4 : ((t.drop 16).take 2).length = 2 := by rw [List.length_take, List.length_drop]; omega
    rw [h4] at this
    omega
  have s5 : ∀ W : World, (Instr.slice 9 (.string ⟨t.toArray⟩) (some (.int .i64 22)) (some (.int .i64 (22 + (n : Int)))) none).run Try.prog W = .ok (.string ⟨((t.drop 22).take n).toArray⟩) W := fun W => by
    have := slice_str t 22 (22 + n) (by omega) (by omega) W
    rw [cutS, List.drop_take, show 22 + n - 22 = n by omega] at this
    exact this
  have HC1 := Lib.hid (fun W => clone_any (t.take 16) W (by rw [List.length_take]; omega))
  have HC2 := Lib.hid (fun W => clone_any ((t.drop 22).take n) W (by rw [List.length_take]; omega))
  have hdec : (((c.toNat : Nat) : Int) == 1) = decide (c.toNat = 1) := by
    by_cases h : c.toNat = 1
    · simp [h]
    · have : ¬ ((c.toNat : Nat) : Int) = 1 := by omega
      simp [h, this]
  have hm65 : IntKind.i64.wrap (m : Int) = (m : Int) := by rw [IntKind.wrap_i64]; omega
  have h23w : IntKind.i64.wrap (23 + (n : Int)) = 23 + (n : Int) := by rw [IntKind.wrap_i64]; omega
  have hm64 : wrap64 (m : Int) = (m : Int) := by unfold wrap64; omega
  have h23 : (22 : Int) + (n : Int) + 1 = 23 + (n : Int) := by omega
  clear hq hn hnv hnn hend hm hfv
  have HW := Lib.hid hw0
  have HRZ := Lib.hid hR0
  clear hw0 hR0
  go_enter Try.func25, Try.ntmps25
  go_wp2_with fail
  go_quiet (fail)
  rw [HW.out]
  go_wp2_with fail
  refine (HR1.out _).mono ?_
  rintro e wr ⟨rfl, hbr⟩
  have hRz : Rz w wr := (HRZ.out.drewN _).below hbr
  obtain ⟨hbl, o0, o1, o2, o3, hrow⟩ := id hRz
  have q0 := cells_of4 hrow
  obtain ⟨⟨v0, e0⟩, ⟨v1, e1⟩, ⟨v2, e2⟩, ⟨v3, e3⟩, f0⟩ := q0
  have g0 := f0 0
  have g1 := f0 1
  have g2 := f0 2
  have g3 := f0 3
  clear hbl hrow e0 e1 e2 e3 f0 g0 g1 g2 g3
  go_wp2_with fail
  refine wp_region_held (S := Rz w) mixed ?_
  have hS0 : Rz w wr.drew := hRz.drew
  rw [show Array.replicate (Array.size _) false = #[false, false, false, false, false, false, false, false, false, false, false, false, false, false, false, false, false, false, false, false] from rfl, show Array.size (α := Oper) _ = 20 from rfl]
  refine wpAnyH_take (i := 0) (v := .string ⟨(t.take 16).toArray⟩) rfl (by kernel_rfl) (by kernel_rfl) (by kernel_rfl) (fun _ _ _ h => h) (Or.inl ⟨by rfl, ?_⟩) hS0 ?_
  · intro Y hY
    skip
    go_simp
  simp only [Act.put, List.getElem_toArray, List.getElem_cons_zero, List.setIfInBounds_toArray, List.set_cons_zero, List.set_cons_succ]
  refine wpAnyH_take (i := 2) (v := .string ⟨((t.drop 16).take 6).toArray⟩) rfl (by kernel_rfl) (by kernel_rfl) (by kernel_rfl) (fun _ _ _ h => h) (Or.inl ⟨by rfl, ?_⟩) hS0 ?_
  · intro Y hY
    skip
    go_simp
  simp only [Act.put, List.getElem_toArray, List.getElem_cons_succ, List.getElem_cons_zero, List.setIfInBounds_toArray, List.set_cons_zero, List.set_cons_succ]
  refine wpAnyH_take (i := 3) (v := .string ⟨((t.drop 16).take 2).toArray⟩) rfl (by kernel_rfl) (by kernel_rfl) (by kernel_rfl) (fun _ _ _ h => h) (Or.inl ⟨by rfl, ?_⟩) hS0 ?_
  · intro Y hY
    skip
    go_simp
  simp only [Act.put, List.getElem_toArray, List.getElem_cons_succ, List.getElem_cons_zero, List.setIfInBounds_toArray, List.set_cons_zero, List.set_cons_succ]
  refine wpAnyH_take (i := 6) (v := .string ⟨t.toArray⟩) rfl (by kernel_rfl) (by kernel_rfl) (by kernel_rfl) (fun _ _ _ h => h) (Or.inl ⟨by rfl, ?_⟩) hS0 ?_
  · intro Y hY
    skip
    go_simp
  simp only [Act.put, List.getElem_toArray, List.getElem_cons_succ, List.getElem_cons_zero, List.setIfInBounds_toArray, List.set_cons_zero, List.set_cons_succ]
  refine wpAnyH_take (i := 7) (v := .int .i64 (22 + (n : Int))) rfl (by kernel_rfl) (by kernel_rfl) (by kernel_rfl) (fun _ _ _ h => h) (Or.inl ⟨by rfl, ?_⟩) hS0 ?_
  · intro Y hY
    skip
    go_simp
  simp only [Act.put, List.getElem_toArray, List.getElem_cons_succ, List.getElem_cons_zero, List.setIfInBounds_toArray, List.set_cons_zero, List.set_cons_succ]
  refine wpAnyH_take (i := 8) (v := .string ⟨((t.drop 22).take n).toArray⟩) rfl (by kernel_rfl) (by kernel_rfl) (by kernel_rfl) (fun _ _ _ h => h) (Or.inl ⟨by rfl, ?_⟩) hS0 ?_
  · intro Y hY
    skip
    go_simp
  simp only [Act.put, List.getElem_toArray, List.getElem_cons_succ, List.getElem_cons_zero, List.setIfInBounds_toArray, List.set_cons_zero, List.set_cons_succ]
  refine wpAnyH_take (i := 10) (v := .string ⟨t.toArray⟩) rfl (by kernel_rfl) (by kernel_rfl) (by kernel_rfl) (fun _ _ _ h => h) (Or.inl ⟨by rfl, ?_⟩) hS0 ?_
  · intro Y hY
    skip
    go_simp
  simp only [Act.put, List.getElem_toArray, List.getElem_cons_succ, List.getElem_cons_zero, List.setIfInBounds_toArray, List.set_cons_zero, List.set_cons_succ]
  refine wpAnyH_take (i := 11) (v := .int .i64 (22 + (n : Int))) rfl (by kernel_rfl) (by kernel_rfl) (by kernel_rfl) (fun _ _ _ h => h) (Or.inl ⟨by rfl, ?_⟩) hS0 ?_
  · intro Y hY
    skip
    go_simp
  simp only [Act.put, List.getElem_toArray, List.getElem_cons_succ, List.getElem_cons_zero, List.setIfInBounds_toArray, List.set_cons_zero, List.set_cons_succ]
  refine wpAnyH_take (i := 12) (v := .int .u8 (c.toNat : Nat)) rfl (by kernel_rfl) (by kernel_rfl) (by kernel_rfl) (fun _ _ _ h => h) (Or.inl ⟨by rfl, ?_⟩) hS0 ?_
  · intro Y hY
    skip
    go_simp
    try (intro hneg; exact absurd hneg (by omega))
  simp only [Act.put, List.getElem_toArray, List.getElem_cons_succ, List.getElem_cons_zero, List.setIfInBounds_toArray, List.set_cons_zero, List.set_cons_succ]
  refine wpAnyH_take (i := 13) (v := .bool (decide (c.toNat = 1))) rfl (by kernel_rfl) (by kernel_rfl) (by kernel_rfl) (fun _ _ _ h => h) (Or.inl ⟨by rfl, ?_⟩) hS0 ?_
  · intro Y hY
    skip
    go_simp
    try simp only [hdec]
  simp only [Act.put, List.getElem_toArray, List.getElem_cons_succ, List.getElem_cons_zero, List.setIfInBounds_toArray, List.set_cons_zero, List.set_cons_succ]
  refine wpAnyH_take (i := 15) (v := .int .i64 (22 + (n : Int))) rfl (by kernel_rfl) (by kernel_rfl) (by kernel_rfl) (fun _ _ _ h => h) (Or.inl ⟨by rfl, ?_⟩) hS0 ?_
  · intro Y hY
    skip
    go_simp
  simp only [Act.put, List.getElem_toArray, List.getElem_cons_succ, List.getElem_cons_zero, List.setIfInBounds_toArray, List.set_cons_zero, List.set_cons_succ]
  refine wpAnyH_take (i := 16) (v := .int .i64 (23 + (n : Int))) rfl (by kernel_rfl) (by kernel_rfl) (by kernel_rfl) (fun _ _ _ h => h) (Or.inl ⟨by rfl, ?_⟩) hS0 ?_
  · intro Y hY
    skip
    go_simp
    try rw [h23]
  simp only [Act.put, List.getElem_toArray, List.getElem_cons_succ, List.getElem_cons_zero, List.setIfInBounds_toArray, List.set_cons_zero, List.set_cons_succ]
  refine wpAnyH_ready (rs := [1]) (by kernel_rfl) (by simp) ?_
  refine AllReadyH.cons rfl (fun K hK => ?_) AllReadyH.nil
  go_simp
  refine (HC1.out _).mono ?_
  rintro e w2 ⟨rfl, hb2⟩
  have hS2 : Rz w w2 := hS0.below hb2
  try go_wp2_with fail
  refine hK.out _ _ hS2 (fun _ => ?_)
  clear hK K
  simp only [List.setIfInBounds_toArray, List.set_cons_zero, List.set_cons_succ]
  refine wpAnyH_ready (rs := [4]) (by kernel_rfl) (by simp) ?_
  refine AllReadyH.cons rfl (fun K hK => ?_) AllReadyH.nil
  go_simp
  refine (HR2.out _).mono ?_
  rintro e w3 ⟨rfl, hb3⟩
  have hS3 : Rz w w3 := hS2.below hb3
  try go_wp2_with fail
  refine hK.out _ _ hS3 (fun _ => ?_)
  clear hK K
  simp only [List.setIfInBounds_toArray, List.set_cons_zero, List.set_cons_succ]
  refine wpAnyH_take (i := 5) (v := .int .i64 (m : Nat)) rfl (by kernel_rfl) (by kernel_rfl) (by kernel_rfl) (fun _ _ _ h => h) (Or.inl ⟨by rfl, ?_⟩) hS3 ?_
  · intro Y hY
    skip
    go_simp
    try rw [hm64]
  simp only [Act.put, List.getElem_toArray, List.getElem_cons_succ, List.getElem_cons_zero, List.setIfInBounds_toArray, List.set_cons_zero, List.set_cons_succ]
  refine wpAnyH_ready (rs := [9]) (by kernel_rfl) (by simp) ?_
  refine AllReadyH.cons rfl (fun K hK => ?_) AllReadyH.nil
  go_simp
  refine (HC2.out _).mono ?_
  rintro e w4 ⟨rfl, hb4⟩
  have hS4 : Rz w w4 := hS3.below hb4
  try go_wp2_with fail
  refine hK.out _ _ hS4 (fun _ => ?_)
  clear hK K
  simp only [List.setIfInBounds_toArray, List.set_cons_zero, List.set_cons_succ]
  refine wpAnyH_take (i := 14) (v := .agg #[.string ⟨(t.take 16).toArray⟩, .int .i64 (m : Nat), .string ⟨((t.drop 22).take n).toArray⟩, .bool (decide (c.toNat = 1))]) rfl (by kernel_rfl) (by kernel_rfl) (by kernel_rfl) (fun _ _ _ h => h) (Or.inl ⟨by rfl, ?_⟩) hS4 ?_
  · intro Y hY
    skip
    go_simp
  simp only [Act.put, List.getElem_toArray, List.getElem_cons_succ, List.getElem_cons_zero, List.setIfInBounds_toArray, List.set_cons_zero, List.set_cons_succ]
  refine wpAnyH_ready (rs := [17]) (by kernel_rfl) (by simp) ?_
  refine AllReadyH.cons rfl (fun K hK => ?_) AllReadyH.nil
  obtain ⟨hbl, o0, o1, o2, o3, hrow⟩ := id hS4
  have q0 := cells_of4 hrow
  obtain ⟨⟨v0, e0⟩, ⟨v1, e1⟩, ⟨v2, e2⟩, ⟨v3, e3⟩, f0⟩ := q0
  have g0 := f0 0
  have g1 := f0 1
  have g2 := f0 2
  have g3 := f0 3
  go_simp
  rw [set_fourF hrow]
  have hS5 := hS4.row (.string ⟨(t.take 16).toArray⟩) (.int .i64 (m : Nat)) (.string ⟨((t.drop 22).take n).toArray⟩) (.bool (decide (c.toNat = 1)))
  refine hK.out _ _ hS5 (fun _ => ?_)
  clear hK K
  simp only [List.setIfInBounds_toArray, List.set_cons_zero, List.set_cons_succ]
  refine wpAnyH_take (i := 18) (v := .int .i64 (23 + (n : Int))) rfl (by kernel_rfl) (by kernel_rfl) (by kernel_rfl) (fun _ _ _ h => h) (Or.inl ⟨by rfl, ?_⟩) hS5 ?_
  · intro Y hY
    skip
    go_simp
  simp only [Act.put, List.getElem_toArray, List.getElem_cons_succ, List.getElem_cons_zero, List.setIfInBounds_toArray, List.set_cons_zero, List.set_cons_succ]
  refine wpAnyH_take (i := 19) (v := .int .i64 0) rfl (by kernel_rfl) (by kernel_rfl) (by kernel_rfl) (fun _ _ _ h => h) (Or.inl ⟨by rfl, ?_⟩) hS5 ?_
  · intro Y hY
    skip
    go_simp
  simp only [Act.put, List.getElem_toArray, List.getElem_cons_succ, List.getElem_cons_zero, List.setIfInBounds_toArray, List.set_cons_zero, List.set_cons_succ]
  refine wpAnyH_done (by kernel_rfl) ?_ _
  go_wp2_with fail
  exact fr_row rfl _ w.heap.size _ #[.string ⟨(t.take 16).toArray⟩, .int .i64 (m : Nat), .string ⟨((t.drop 22).take n).toArray⟩, .bool (decide (c.toNat = 1))] rfl (setRow_heap _ _ _ _ _ (0, 0) hrow) _ _ _ rfl rfl rfl ⟨by simp, hS5.1⟩
end Go.Proofs.Ytgeeoefcepjniaa
