/- A region whose last operation writes what others read: a condition on the world that holds up to it. The reference of layer 11: of. Plain: faults of a row of items, one handed on, and the first one. Plain: a log, as the package reads it and as the reference does. Plain: a receipt's parts, as the package reads them and as the reference does. Plain: a receipt out of bytes, by the reference's steps. The reference of layer 11: of, 5 parts. The reference of layer 11: of, 4 parts. The reference of layer 11: Decode. The reference of layer 11: Decode, with a kind. -/
import Derived.OrdersHeld
import Derived.Deep.RegionHeld
import Derived.Test.YtebjhbeaknokkaaGreatDoorProg
import Derived.Test.YtebjhbeaknokkaaGreatDoorH16
import Derived.Test.YtebjhbeaknokkaaGreatDoorH14
import Derived.Test.YtebjhbeaknokkaaGreatDoorH15
open List renaming getElem_toArray → zqA, getElem_cons_succ → zqB, getElem_cons_zero → zqC, setIfInBounds_toArray → zqD, set_cons_zero → zqE, set_cons_succ → zqF
namespace Go.Proofs.YtebjhbeaknokkaaGreatDoor
open Go

section
variable {P : Program} {ops : Array Oper} {Q : Exit → Act → World → Prop} {md : Region.Mode} {S : World → Prop}
def wpAnyF (P : Program) (md : Region.Mode) (ops : Array Oper) (Q : Exit → Act → World → Prop) (S : World → Prop) (f : Nat) : Nat → Array Bool → Act → World → Prop
  | 0, listed, a, w => Region.ready md ops listed = [] ∧ Q .normal a w
  | n + 1, listed, a, w => (Region.ready md ops listed = [] → Q .normal a w) ∧
    ∀ i ∈ Region.ready md ops listed, wpOp P ops Q i (fun a' w' => (i ≠ f → S w') ∧ wpAnyF P md ops Q S f n (listed.setIfInBounds i true) a' w') a w
theorem wpAny_of_F {f : Nat} : ∀ (n : Nat) (listed : Array Bool) (a : Act) (w : World), wpAnyF P md ops Q S f n listed a w → wpAny P md ops Q n listed a w
  | 0, _, _, _, h => h
  | n + 1, _, _, _, h => ⟨h.1, fun i hi => wpOp_mono (fun a' w' h' => wpAny_of_F n _ a' w' h'.2) (h.2 i hi)⟩
def waitsOn (md : Region.Mode) (ops : Array Oper) (f i : Nat) : Bool := f != i && match ops[f]? with | some o => o.after.any (fun e => Region.binds md e && e.on == i) | none => false
theorem waitsOn_ready {f i : Nat} {listed : Array Bool} (h : waitsOn md ops f i = true) (hi : i ∈ Region.ready md ops listed) : f ∉ Region.ready md ops listed := by
  intro hf
  obtain ⟨_, o, ho, hall⟩ := mem_ready.1 hf
  unfold waitsOn at h
  rw [Bool.and_eq_true, ho] at h
  obtain ⟨j, hj, h3⟩ : ∃ (j : Nat), ∃ h, Region.binds md (o.after[j]'h) = true ∧ (o.after[j]'h).on = i := by simpa using h.2
  have h4 := hall _ (Array.getElem_mem hj) h3.1
  rw [h3.2] at h4
  have h5 := (mem_ready.1 hi).1
  rcases Nat.lt_or_ge i listed.size with h' | h'
  · simp [h'] at h4 h5; rw [h4] at h5; cases h5
  · simp [Array.getElem?_eq_none h'] at h4
theorem wpAnyF_first {f i : Nat} {oi : Oper} {v : Value} (hi : ops[i]? = some oi) (hsel : ∀ (j : Nat) (o : Oper) cs b, ops[j]? = some o → o.op ≠ .select cs b) (hw : waitsOn md ops f i = true)
    (hQ : ∀ c a w, Q (.panic c) (a.put oi.dst v) w → Q (.panic c) a w) : ∀ (n : Nat) (listed : Array Bool) (a : Act) (w : World),
      (∀ j oj, ops[j]? = some oj → j ≠ i → listed.getD j true = false → (∀ e ∈ oj.after, Region.binds md e = true → e.on ≠ i) → oi.apart ops oj = true) →
      i ∈ Region.ready md ops listed → YieldsIf P ops S oi v a → S w →
      wpAnyF P md ops Q S f n (listed.setIfInBounds i true) (a.put oi.dst v) w → wpAnyF P md ops Q S f (n + 1) listed a w := by
  intro n
  induction n with
  | zero =>
    intro listed a w _ hr hy hS H
    refine ⟨fun h => (by rw [h] at hr; cases hr), fun j hj => ?_⟩
    by_cases hji : j = i
    · subst hji
      exact hy.wpOp hi hS ⟨fun _ => hS, H⟩
    · have h1 := ready_mono hj hji
      rw [H.1] at h1
      cases h1
  | succ n ih =>
    intro listed a w hfree hr hy hS H
    refine ⟨fun h => (by rw [h] at hr; cases hr), fun j hj => ?_⟩
    by_cases hji : j = i
    · subst hji
      exact hy.wpOp hi hS ⟨fun _ => hS, H⟩
    · have hjf : j ≠ f := fun e => waitsOn_ready hw hr (e ▸ hj)
      have h1 := H.2 j (ready_mono hj hji)
      obtain ⟨hun, oj, hoj, hall⟩ := mem_ready.1 hj
      have hnot : ∀ e ∈ oj.after, Region.binds md e = true → e.on ≠ i := fun e he hb heq => by
        have g1 := hall e he hb
        rw [heq] at g1
        have g0 := (mem_ready.1 hr).1
        rcases Nat.lt_or_ge i listed.size with h' | h'
        · simp [h'] at g0 g1; rw [g0] at g1; cases g1
        · simp [Array.getElem?_eq_none h'] at g1
      have h2 := wpOp_putIf hoj (hfree j oj hoj hji hun hnot) (fun cs b => hsel i oi cs b hi) (fun cs b => hsel j oj cs b hoj) hQ hy h1
      refine wpOp_mono (fun a' w' h3 => ⟨fun _ => h3.2.1 hjf, ih (listed.setIfInBounds j true) a' w' ?_ (ready_mono hr (Ne.symm hji)) h3.1 (h3.2.1 hjf) ?_⟩) h2
      · intro k ok hk hki hu hno
        refine hfree k ok hk hki ?_ hno
        by_cases hjk : j = k
        · subst hjk; exact hun
        · rwa [getD_set_ne true hjk] at hu
      · rw [Array.setIfInBounds_comm _ _ hji]
        exact h3.2.2
theorem wpAnyF_take {f i : Nat} {oi : Oper} {v : Value} {n : Nat} {listed : Array Bool} {a : Act} {w : World} (hi : ops[i]? = some oi) (hs : Region.noSelect ops = true) (hw : waitsOn md ops f i = true)
    (hf : Region.free md ops listed i = true) (hr : (Region.ready md ops listed).contains i = true) (hQ : ∀ c a w, Q (.panic c) (a.put oi.dst v) w → Q (.panic c) a w) (hy : YieldsIf P ops S oi v a) (hS : S w)
    (h : wpAnyF P md ops Q S f n (listed.setIfInBounds i true) (a.put oi.dst v) w) : wpAnyF P md ops Q S f (n + 1) listed a w :=
  wpAnyF_first hi (Region.noSelect_spec hs) hw hQ n listed a w (Region.free_spec hi hf) (by simpa using hr) hy hS h
theorem wpAnyF_one {f i n : Nat} {listed : Array Bool} {a : Act} {w : World} {o : Oper} (hr : Region.ready md ops listed = [i]) (ho : ops[i]? = some o) (hif : (i == f) = false)
    (h : ∀ K' : Act → World → Prop, Shut (∀ a w, S w → (S w → wpAnyF P md ops Q S f n (listed.setIfInBounds i true) a w) → K' a w) → if Region.wanted o (yielded ops a.tmps) = true then Oper.wp P o a w K' Q else K' (a.put o.dst undef) w) :
    wpAnyF P md ops Q S f (n + 1) listed a w := by
  refine ⟨fun h0 => (by rw [hr] at h0; cases h0), fun j hj => ?_⟩
  rw [hr, List.mem_singleton] at hj
  subst hj
  exact wpOp_step ho (fun K' hK => h K' (fun a w hS hW => hK a w ⟨fun _ => hS, hW hS⟩))
theorem wpAnyF_last {f n : Nat} {listed : Array Bool} {a : Act} {w : World} {o : Oper} (hr : Region.ready md ops listed = [f]) (ho : ops[f]? = some o)
    (h : ∀ K' : Act → World → Prop, Shut (∀ a w, wpAnyF P md ops Q S f n (listed.setIfInBounds f true) a w → K' a w) → if Region.wanted o (yielded ops a.tmps) = true then Oper.wp P o a w K' Q else K' (a.put o.dst undef) w) :
    wpAnyF P md ops Q S f (n + 1) listed a w := by
  refine ⟨fun h0 => (by rw [hr] at h0; cases h0), fun j hj => ?_⟩
  rw [hr, List.mem_singleton] at hj
  subst hj
  exact wpOp_step ho (fun K' hK => h K' (fun a w hW => hK a w ⟨fun e => absurd rfl e, hW⟩))
theorem wpAnyF_done {f : Nat} {listed : Array Bool} {a : Act} {w : World} (hr : Region.ready md ops listed = []) (h : Q .normal a w) : ∀ n, wpAnyF P md ops Q S f n listed a w
  | 0 => ⟨hr, h⟩
  | _ + 1 => ⟨fun _ => h, by rw [hr]; simp⟩
theorem wp_region_F {id f : Nat} {a : Act} {w : World} (hm : P.follows .mixedOrders = true)
    (h : wpAnyF P .any ops Q S f ops.size (Array.replicate ops.size false) a { w with drawn := w.drawn + 1 }) : (Code.region id ops true).wp P Q a w :=
  wp_region_any hm (wpAny_of_F _ _ _ _ h)
end
end Go.Proofs.YtebjhbeaknokkaaGreatDoor
namespace Go.Proofs.YtebjhbeaknokkaaGreatDoor
open Go Go.RowKit Go.Lib
attribute [local go_sem] Oper.semAt_some

def M.verE (q : Nat × Nat) : Nat := if q.2 = 0 ∧ q.1 ≠ 1 then 2 else q.2
def M.ofR (k : Int) (p : List M.It) : M.Rc × Nat :=
  (⟨k, (M.getBool (p.getD 0 M.zeroI)).1, (M.getNumber (p.getD 1 M.zeroI)).1, (M.readR (p.getD 2 M.zeroI)).1, decide (3 < p.length), if 3 < p.length then (M.getNumber (p.getD 3 M.zeroI)).1 else 0, if 4 < p.length then (M.getNumber (p.getD 4 M.zeroI)).1 else 0⟩,
   M.firstE [(M.getBool (p.getD 0 M.zeroI)).2, (M.getNumber (p.getD 1 M.zeroI)).2, (M.readR (p.getD 2 M.zeroI)).2, if 3 < p.length then (M.getNumber (p.getD 3 M.zeroI)).2 else 0, if 4 < p.length then M.verE (M.getNumber (p.getD 4 M.zeroI)) else 0])
abbrev gotv (x : M.Rc) (v : Value) (e : Nat) : Value := .agg #[.int .i64 x.kind, .bool x.st, .int .u64 (x.gas : Nat), v, .bool x.full, .int .u64 (x.nonce : Nat), .int .u64 (x.ver : Nat), .int .i64 (e : Nat)]
theorem Tryz.gotSize : (Tryz.prog.info? 70).map (·.size) = some 8 := by kernel_rfl
set_option maxHeartbeats 4000000 in
theorem set_eight {w : World} {g : Nat} {o0 o1 o2 o3 o4 o5 o6 o7 : Value} {t : TypeId} (h : w.heap[g]? = some (.cells #[o0, o1, o2, o3, o4, o5, o6, o7] t (0, 0))) (a b c d e f i j : Value) :
    (((((((w.setCell ⟨g, 0, none⟩ a).setCell ⟨g, 1, none⟩ b).setCell ⟨g, 2, none⟩ c).setCell ⟨g, 3, none⟩ d).setCell ⟨g, 4, none⟩ e).setCell ⟨g, 5, none⟩ f).setCell ⟨g, 6, none⟩ i).setCell ⟨g, 7, none⟩ j = w.setRow g #[a, b, c, d, e, f, i, j] := by
  have step : ∀ (W : World) (cur : Array Value) (j : Nat) (v : Value), W.heap[g]? = some (.cells cur t (0, 0)) → W.setCell ⟨g, j, none⟩ v = W.setRow g (cur.setIfInBounds j v) ∧ (W.setRow g (cur.setIfInBounds j v)).heap[g]? = some (.cells (cur.setIfInBounds j v) t (0, 0)) := fun W cur j v hW => ⟨setCell_eq_setRow W g j cur t (0, 0) v hW, setRow_heap W g cur _ t (0, 0) hW⟩
  obtain ⟨e0, h0⟩ := step _ _ 0 a h
  obtain ⟨e1, h1⟩ := step _ _ 1 b h0
  obtain ⟨e2, h2⟩ := step _ _ 2 c h1
  obtain ⟨e3, h3⟩ := step _ _ 3 d h2
  obtain ⟨e4, h4⟩ := step _ _ 4 e h3
  obtain ⟨e5, h5⟩ := step _ _ 5 f h4
  obtain ⟨e6, h6⟩ := step _ _ 6 i h5
  obtain ⟨e7, h7⟩ := step _ _ 7 j h6
  rw [e0, e1, e2, e3, e4, e5, e6, e7, setRow_setRow, setRow_setRow, setRow_setRow, setRow_setRow, setRow_setRow, setRow_setRow, setRow_setRow]
  rfl
structure Cells8 (w : World) (g : Nat) : Prop where
  i0 : ∃ v, w.cell? ⟨g, 0, none⟩ = some v
  i1 : ∃ v, w.cell? ⟨g, 1, none⟩ = some v
  i2 : ∃ v, w.cell? ⟨g, 2, none⟩ = some v
  i3 : ∃ v, w.cell? ⟨g, 3, none⟩ = some v
  i4 : ∃ v, w.cell? ⟨g, 4, none⟩ = some v
  i5 : ∃ v, w.cell? ⟨g, 5, none⟩ = some v
  i6 : ∃ v, w.cell? ⟨g, 6, none⟩ = some v
  i7 : ∃ v, w.cell? ⟨g, 7, none⟩ = some v
  f : ∀ j, w.frozen? ⟨g, j, none⟩ = false
set_option maxHeartbeats 2000000 in
theorem cells_eight {w : World} {g : Nat} {o0 o1 o2 o3 o4 o5 o6 o7 : Value} {t : TypeId} (h : w.heap[g]? = some (.cells #[o0, o1, o2, o3, o4, o5, o6, o7] t (0, 0))) : Cells8 w g := by
  constructor <;> simp [World.cell?, World.frozen?, h]
theorem got_row {fn : Func} (hres : fn.results = #[.cell 4 70]) (w1 : World) (tmps : Array Value) (cs old : Array Value) (hz : cs.size = 8) (g : Nat)
    (hrow : w1.heap[g]? = some (.cells old 70 (0, 0))) (R : Ending → World → Prop) (hp : tmps.getD 4 undef = .pointer (some ⟨g, 0, none⟩))
    (h : R (.returned (.agg cs)) (w1.setRow g cs)) :
    bodyPost Tryz.prog fn R .ret { tmps := tmps, defers := [] } (w1.setRow g cs) := by
  have := results_cell_row (P := Tryz.prog) hres tmps (w1.setRow g cs) g 70 cs (0, 0) _ hp (setRow_heap w1 g old cs 70 (0, 0) hrow) Tryz.underlying70 rfl (by rw [Tryz.gotSize, hz])
  exact bodyPost_ret this rfl h
theorem NoTxt.got {w : World} {g : Nat} {k e : Int} {st fu : Bool} {ga no ve : Int} {a : Option Addr} {n c : Nat} (h : w.heap[g]? = some (.cells #[.int .i64 k, .bool st, .int .u64 ga, .slice a n c, .bool fu, .int .u64 no, .int .u64 ve, .int .i64 e] 70 (0, 0))) : NoTxt w g := by
  intro o s hs
  match o with
  | 0 => simp [World.cell?, h] at hs
  | 1 => simp [World.cell?, h] at hs
  | 2 => simp [World.cell?, h] at hs
  | 3 => simp [World.cell?, h] at hs
  | 4 => simp [World.cell?, h] at hs
  | 5 => simp [World.cell?, h] at hs
  | 6 => simp [World.cell?, h] at hs
  | 7 => simp [World.cell?, h] at hs
  | o + 8 => simp [World.cell?, h] at hs
theorem NoTxt.rcI {w : World} {g : Nat} {k : Int} {st fu : Bool} {ga no ve : Int} {a : Option Addr} {n c : Nat} (h : w.heap[g]? = some (.cells #[.int .i64 k, .bool st, .int .u64 ga, .slice a n c, .bool fu, .int .u64 no, .int .u64 ve] 25 (0, 0))) : NoTxt w g := by
  intro o s hs
  match o with
  | 0 => simp [World.cell?, h] at hs
  | 1 => simp [World.cell?, h] at hs
  | 2 => simp [World.cell?, h] at hs
  | 3 => simp [World.cell?, h] at hs
  | 4 => simp [World.cell?, h] at hs
  | 5 => simp [World.cell?, h] at hs
  | 6 => simp [World.cell?, h] at hs
  | o + 7 => simp [World.cell?, h] at hs
theorem B7.row {w : World} {g : Nat} {o0 o1 o2 o3 o4 o5 o6 : Value} {t : TypeId} (h : w.heap[g]? = some (.cells #[o0, o1, o2, o3, o4, o5, o6] t (0, 0))) : B7 w g o0 o1 o2 o3 o4 o5 o6 := by
  constructor <;> simp [World.cell?, h]
set_option maxRecDepth 100000 in
set_option maxHeartbeats 8000000 in
theorem rof3_any (k : Int) (x0 x1 x2 : M.It) (a : Option Addr) (cap : Nat) (w : World) (hL : Lay w w.heap.size [x0, x1, x2] (.slice a 3 cap)) :
    Calls Tryz.prog 38 #[.int .i64 k, .slice a 3 cap] w fun e w' => (∃ v, e = .returned (gotv (M.ofR k [x0, x1, x2]).1 v (M.ofR k [x0, x1, x2]).2) ∧ Ls w' w'.heap.size (M.ofR k [x0, x1, x2]).1.logs v) ∧ Below w.heap.size w w' := by
  have mixed : Tryz.prog.follows .mixedOrders = true := by kernel_rfl
  obtain ⟨g, hg⟩ : ∃ g, w.heap.size = g := ⟨_, rfl⟩
  obtain ⟨w0, hw0⟩ : ∃ w0, w.alloc (.cells #[.int .i64 0, .bool false, .int .u64 0, .slice none 0 0, .bool false, .int .u64 0, .int .u64 0, .int .i64 0] 70) = w0 := ⟨_, rfl⟩
  have hb0 : Below w.heap.size w w0 := by rw [← hw0]; exact (Below.refl _ _).alloc (Nat.le_refl _) _
  have hrow0 : w0.heap[g]? = some (.cells #[.int .i64 0, .bool false, .int .u64 0, .slice none 0 0, .bool false, .int .u64 0, .int .u64 0, .int .i64 0] 70 (0, 0)) := by rw [← hw0, ← hg]; exact heap_alloc_new w _
  have hz0 : g < w0.heap.size := by rw [← hw0, ← hg]; simp
  obtain ⟨b, o, cap0, l0, d0, y0, u0, he0, hbn, hx0, c00, c01, c02, hK0⟩ := hL.at_ (k := 0) (by simp)
  cases he0
  obtain rfl : x0 = .mk l0 d0 y0 := by simpa using hx0
  obtain ⟨va0, vc0, rfl, -, -⟩ := hK0.slice
  obtain ⟨b', o', cap1, l1, d1, y1, u1, he1, -, hx1, c10, c11, c12, hK1⟩ := hL.at_ (k := 1) (by simp)
  cases he1
  obtain rfl : x1 = .mk l1 d1 y1 := by simpa using hx1
  obtain ⟨va1, vc1, rfl, -, -⟩ := hK1.slice
  obtain ⟨b', o', cap2, l2, d2, y2, u2, he2, -, hx2, c20, c21, c22, hK2⟩ := hL.at_ (k := 2) (by simp)
  cases he2
  obtain rfl : x2 = .mk l2 d2 y2 := by simpa using hx2
  obtain ⟨va2, vc2, rfl, -, -⟩ := hK2.slice
  have HC0 := Lib.hid (fun W (h : Below w.heap.size w W) => (show W.cell? ⟨b, o, none⟩ = some (.bool l0) ∧ W.cell? ⟨b, o + 1, none⟩ = some (.string ⟨d0.toArray⟩) ∧ W.cell? ⟨b, o + 2, none⟩ = some (.slice va0 y0.length vc0) from ⟨(h.cell (p := ⟨b, _, none⟩) hbn).trans c00, (h.cell (p := ⟨b, _, none⟩) hbn).trans c01, (h.cell (p := ⟨b, _, none⟩) hbn).trans c02⟩))
  have HC1 := Lib.hid (fun W (h : Below w.heap.size w W) => (show W.cell? ⟨b, o + 3, none⟩ = some (.bool l1) ∧ W.cell? ⟨b, o + 4, none⟩ = some (.string ⟨d1.toArray⟩) ∧ W.cell? ⟨b, o + 5, none⟩ = some (.slice va1 y1.length vc1) from ⟨(h.cell (p := ⟨b, _, none⟩) hbn).trans c10, (h.cell (p := ⟨b, _, none⟩) hbn).trans c11, (h.cell (p := ⟨b, _, none⟩) hbn).trans c12⟩))
  have HC2 := Lib.hid (fun W (h : Below w.heap.size w W) => (show W.cell? ⟨b, o + 6, none⟩ = some (.bool l2) ∧ W.cell? ⟨b, o + 7, none⟩ = some (.string ⟨d2.toArray⟩) ∧ W.cell? ⟨b, o + 8, none⟩ = some (.slice va2 y2.length vc2) from ⟨(h.cell (p := ⟨b, _, none⟩) hbn).trans c20, (h.cell (p := ⟨b, _, none⟩) hbn).trans c21, (h.cell (p := ⟨b, _, none⟩) hbn).trans c22⟩))
  have HQ0 := Lib.hid (fun W => rgb_any l0 d0 y0 va0 vc0 W)
  have HQ1 := Lib.hid (fun W => rgn_any l1 d1 y1 va1 vc1 W)
  have HQ2 := Lib.hid (fun W (hb : Below w.heap.size w W) => rreadR_any l2 d2 y2 va2 vc2 W ((hK2.from_ hb).mono hb.size))
  have hof : M.ofR k [.mk l0 d0 y0, .mk l1 d1 y1, .mk l2 d2 y2] = (⟨k, (M.getBool (.mk l0 d0 y0)).1, (M.getNumber (.mk l1 d1 y1)).1, (M.readR (.mk l2 d2 y2)).1, false, 0, 0⟩, M.firstE [(M.getBool (.mk l0 d0 y0)).2, (M.getNumber (.mk l1 d1 y1)).2, (M.readR (.mk l2 d2 y2)).2, 0, 0]) := rfl
  rw [hof]
  clear hof
  generalize M.getBool (.mk l0 d0 y0) = q0 at *
  generalize M.getNumber (.mk l1 d1 y1) = q1 at *
  generalize M.readR (.mk l2 d2 y2) = q2 at *
  obtain ⟨st, e0⟩ := q0
  obtain ⟨ga, e1⟩ := q1
  obtain ⟨ls, e2⟩ := q2
  dsimp only at *
  have HW0 := Lib.hid hw0
  have HB0 := Lib.hid hb0
  have HRW0 := Lib.hid hrow0
  have HZ0 := Lib.hid hz0
  have HGE := Lib.hid hg
  clear hw0 hb0 hrow0 hz0 hL hx0 c00 c01 c02 hK0 hx1 c10 c11 c12 hK1 hx2 c20 c21 c22 hK2
  obtain ⟨c0, c1, c2⟩ := HC0.out w0 HB0.out
  go_enter Tryz.func38, Tryz.ntmps38
  go_wp2_with (first | rw [HW0.out] | rw [hg])
  try rw [HW0.out]
  try rw [hg]
  refine (HQ0.out w0).mono ?_
  rintro e w1 ⟨rfl, hb_⟩
  have HB1 := Lib.hid (HB0.out.trans (hb_.mono HB0.out.size))
  have HRW1 := Lib.hid ((hb_.block g HZ0.out).trans HRW0.out)
  have HZ1 := Lib.hid (Nat.lt_of_lt_of_le HZ0.out hb_.size)
  clear c0 c1 c2 hb_
  obtain ⟨c0, c1, c2⟩ := HC1.out w1 HB1.out
  go_wp2_with fail
  refine (HQ1.out w1).mono ?_
  rintro e w2 ⟨rfl, hb_⟩
  have HB2 := Lib.hid (HB1.out.trans (hb_.mono HB1.out.size))
  have HRW2 := Lib.hid ((hb_.block g HZ1.out).trans HRW1.out)
  have HZ2 := Lib.hid (Nat.lt_of_lt_of_le HZ1.out hb_.size)
  clear c0 c1 c2 hb_
  obtain ⟨c0, c1, c2⟩ := HC2.out w2 HB2.out
  go_wp2_with fail
  refine (HQ2.out w2 HB2.out).mono ?_
  rintro e w3 ⟨⟨v, rfl, hLs⟩, hb_⟩
  have HB3 := Lib.hid (HB2.out.trans (hb_.mono HB2.out.size))
  have HRW3 := Lib.hid ((hb_.block g HZ2.out).trans HRW2.out)
  have HZ3 := Lib.hid (Nat.lt_of_lt_of_le HZ2.out hb_.size)
  clear c0 c1 c2 hb_
  obtain ⟨sa, sn, sc, rfl⟩ : ∃ a n c, v = .slice a n c := by obtain ⟨a, c, h, -, -⟩ := hLs.slice; exact ⟨_, _, _, h⟩
  obtain ⟨x, hx⟩ : ∃ x, w3.heap.size = x := ⟨_, rfl⟩
  obtain ⟨w4, hw4⟩ : ∃ w4, w3.alloc (.cells #[.int .i64 k, .bool st, .int .u64 (ga : Nat), .slice sa sn sc, .bool false, .int .u64 0, .int .u64 0] 25) = w4 := ⟨_, rfl⟩
  have hb4 : Below w3.heap.size w3 w4 := by rw [← hw4]; exact (Below.refl _ _).alloc (Nat.le_refl _) _
  have hx4 : w4.heap[x]? = some (.cells #[.int .i64 k, .bool st, .int .u64 (ga : Nat), .slice sa sn sc, .bool false, .int .u64 0, .int .u64 0] 25 (0, 0)) := by rw [← hw4, ← hx]; exact heap_alloc_new w3 _
  have HB4 := Lib.hid (HB3.out.trans (hb4.mono HB3.out.size))
  have HRW4 := Lib.hid ((hb4.block g HZ3.out).trans HRW3.out)
  have HZ4 := Lib.hid (Nat.lt_of_lt_of_le HZ3.out hb4.size)
  have HLS := Lib.hid (hLs.kept hb4)
  have HX4 := Lib.hid hx4
  have HXG := Lib.hid (show g < x by have := HZ3.out; omega)
  have HXZ := Lib.hid (show x < w4.heap.size by have := congrArg (fun z => z.heap.size) hw4; simp at this; omega)
  have HW4 := Lib.hid hw4
  have HXE := Lib.hid hx
  clear hb4 hx4 hw4 hLs
  obtain ⟨⟨_, i0⟩, ⟨_, i1⟩, ⟨_, i2⟩, ⟨_, i3⟩, ⟨_, i4⟩, ⟨_, i5⟩, ⟨_, i6⟩, fz⟩ := cells_seven HX4.out
  go_wp2_with (first | rw [HW4.out] | rw [HXE.out])
  have hcx : B7 w4 x (.int .i64 k) (.bool st) (.int .u64 (ga : Nat)) (.slice sa sn sc) (.bool false) (.int .u64 0) (.int .u64 0) := B7.row HX4.out
  have HCX := Lib.hid (fun W (h : Below w4.heap.size w4 W) => hcx.from_ h)
  clear hcx i0 i1 i2 i3 i4 i5 i6 fz
  refine wp_region_F (S := fun W => Below w4.heap.size w4 W) (f := 9) mixed ?_
  have hS0 : Below w4.heap.size w4 w4.drew := (Below.refl _ _).drew
  rw [show Array.replicate (Array.size _) false = #[false, false, false, false, false, false, false, false, false, false] from rfl, show Array.size (α := Oper) _ = 10 from rfl]
  refine wpAnyF_take (i := 0) (v := .agg #[.int .i64 k, .bool st, .int .u64 (ga : Nat), .slice sa sn sc, .bool false, .int .u64 0, .int .u64 0]) rfl (by kernel_rfl) (by kernel_rfl) (by kernel_rfl) (by kernel_rfl) (fun _ _ _ h => h) (Or.inl ⟨by rfl, ?_⟩) hS0 ?_
  · intro Y hY
    obtain ⟨c0, c1, c2, c3, c4, c5, c6⟩ := HCX.out Y hY
    go_simp
  simp only [Act.put, zqA, zqC, zqD, zqE, zqF]
  refine wpAnyF_take (i := 1) (v := .int .i64 (e0 : Nat)) rfl (by kernel_rfl) (by kernel_rfl) (by kernel_rfl) (by kernel_rfl) (fun _ _ _ h => h) (Or.inl ⟨by rfl, ?_⟩) hS0 ?_
  · intro Y hY
    skip
    go_simp
  simp only [Act.put, zqA, zqB, zqC, zqD, zqE, zqF]
  refine wpAnyF_take (i := 2) (v := .int .i64 (e1 : Nat)) rfl (by kernel_rfl) (by kernel_rfl) (by kernel_rfl) (by kernel_rfl) (fun _ _ _ h => h) (Or.inl ⟨by rfl, ?_⟩) hS0 ?_
  · intro Y hY
    skip
    go_simp
  simp only [Act.put, zqA, zqB, zqC, zqD, zqE, zqF]
  refine wpAnyF_take (i := 3) (v := .int .i64 (e2 : Nat)) rfl (by kernel_rfl) (by kernel_rfl) (by kernel_rfl) (by kernel_rfl) (fun _ _ _ h => h) (Or.inl ⟨by rfl, ?_⟩) hS0 ?_
  · intro Y hY
    skip
    go_simp
  simp only [Act.put, zqA, zqB, zqC, zqD, zqE, zqF]
  refine wpAnyF_take (i := 4) (v := .int .i64 0) rfl (by kernel_rfl) (by kernel_rfl) (by kernel_rfl) (by kernel_rfl) (fun _ _ _ h => h) (Or.inl ⟨by rfl, ?_⟩) hS0 ?_
  · intro Y hY
    skip
    go_simp
  simp only [Act.put, zqA, zqB, zqC, zqD, zqE, zqF]
  refine wpAnyF_take (i := 5) (v := .int .i64 0) rfl (by kernel_rfl) (by kernel_rfl) (by kernel_rfl) (by kernel_rfl) (fun _ _ _ h => h) (Or.inl ⟨by rfl, ?_⟩) hS0 ?_
  · intro Y hY
    skip
    go_simp
  simp only [Act.put, zqA, zqB, zqC, zqD, zqE, zqF]
  refine wpAnyF_one (i := 6) (by kernel_rfl) rfl rfl (fun K hK => ?_)
  go_simp
  obtain ⟨wA, hwA⟩ : ∃ wA, (w4.alloc (.cells #[.int .i64 (e0 : Nat), .int .i64 (e1 : Nat), .int .i64 (e2 : Nat), .int .i64 0, .int .i64 0] 28)).drew = wA := ⟨_, rfl⟩
  have hS1 : Below w4.heap.size w4 wA := by rw [← hwA]; exact Below.drew ((Below.refl _ _).alloc (Nat.le_refl _) _)
  have hrowA : wA.heap[w4.heap.size]? = some (.cells #[.int .i64 (e0 : Nat), .int .i64 (e1 : Nat), .int .i64 (e2 : Nat), .int .i64 0, .int .i64 0] 28 (0, 0)) := by rw [← hwA]; exact heap_alloc_new _ _
  have hcA : ∀ i e, ([e0, e1, e2, 0, 0] : List Nat)[i]? = some e → wA.cell? ⟨w4.heap.size, i, none⟩ = some (.int .i64 (e : Nat)) := fun i e he => by
    match i, he with
    | 0, he => obtain rfl : e0 = e := by simpa using he
               simp [World.cell?, hrowA]
    | 1, he => obtain rfl : e1 = e := by simpa using he
               simp [World.cell?, hrowA]
    | 2, he => obtain rfl : e2 = e := by simpa using he
               simp [World.cell?, hrowA]
    | 3, he => obtain rfl : 0 = e := by simpa using he
               simp [World.cell?, hrowA]
    | 4, he => obtain rfl : 0 = e := by simpa using he
               simp [World.cell?, hrowA]
    | j + 5, he => simp at he
  have HCA := Lib.hid hcA
  rw [hwA]
  clear hcA hrowA hwA
  refine hK.out _ _ hS1 (fun _ => ?_)
  clear hK K
  simp only [List.setIfInBounds_toArray, List.set_cons_zero, List.set_cons_succ]
  refine wpAnyF_one (i := 7) (by kernel_rfl) rfl rfl (fun K hK => ?_)
  go_simp
  refine (rfirst_any [e0, e1, e2, 0, 0] w4.heap.size 5 wA (by simp) HCA.out).mono ?_
  rintro e wB ⟨rfl, hbB⟩
  have hS2 : Below w4.heap.size w4 wB := hS1.trans (Below.mono hbB hS1.size)
  try go_wp2_with fail
  refine hK.out _ _ hS2 (fun _ => ?_)
  clear hK K
  simp only [List.setIfInBounds_toArray, List.set_cons_zero, List.set_cons_succ]
  refine wpAnyF_one (i := 8) (by kernel_rfl) rfl rfl (fun K hK => ?_)
  go_simp
  refine hK.out _ _ hS2 (fun _ => ?_)
  clear hK K
  simp only [List.setIfInBounds_toArray, List.set_cons_zero, List.set_cons_succ]
  have hrowB := (hS2.block g HZ4.out).trans HRW4.out
  obtain ⟨⟨_, i0⟩, ⟨_, i1⟩, ⟨_, i2⟩, ⟨_, i3⟩, ⟨_, i4⟩, ⟨_, i5⟩, ⟨_, i6⟩, ⟨_, i7⟩, fz⟩ := cells_eight hrowB
  refine wpAnyF_last (by kernel_rfl) rfl (fun K hK => ?_)
  go_simp
  refine hK.out _ _ ?_
  clear hK K
  refine wpAnyF_done (by kernel_rfl) ?_ _
  rw [set_eight hrowB]
  clear i0 i1 i2 i3 i4 i5 i6 i7 fz
  go_wp2_with fail
  refine got_row rfl wB _ #[.int .i64 k, .bool st, .int .u64 (ga : Nat), .slice sa sn sc, .bool false, .int .u64 0, .int .u64 0, .int .i64 (M.firstE [e0, e1, e2, 0, 0] : Nat)] _ rfl g hrowB _ rfl ?_
  refine ⟨⟨_, rfl, ?_⟩, below_row (HB4.out.trans (hS2.mono HB4.out.size)) (by have := HGE.out; omega) _⟩
  rw [setRow_size]
  exact (HLS.out.kept hS2).rowN (NoTxt.got hrowB) _
end Go.Proofs.YtebjhbeaknokkaaGreatDoor
namespace Go.Proofs.YtebjhbeaknokkaaGreatDoor
open Go Go.RowKit

theorem M.firstE_cons (e : Nat) (es : List Nat) : M.firstE (e :: es) = if e ≠ 0 then e else M.firstE es := rfl
theorem M.rdT_zero (f : M.It → List UInt8 × Nat) (x : M.It) : M.rdT f 0 x = f x := rfl
theorem M.rdT_bad {f : M.It → List UInt8 × Nat} {e : Nat} (he : e ≠ 0) (x : M.It) : (M.rdT f e x).2 = e := by
  unfold M.rdT
  rw [if_neg he]
theorem M.rdEachT_bad (f : M.It → List UInt8 × Nat) : ∀ (e : Nat) (xs : List M.It), e ≠ 0 → (M.rdEach (M.rdT f) e xs).2 = e
  | e, [], _ => rfl
  | e, x :: xs, he => by
    rw [M.rdEach]
    dsimp only
    rw [M.rdT_bad he]
    exact M.rdEachT_bad f e xs he
theorem M.rdEachT_first (f : M.It → List UInt8 × Nat) : ∀ xs : List M.It, (M.rdEach (M.rdT f) 0 xs).2 = M.firstE (xs.map fun x => (f x).2)
  | [] => rfl
  | x :: xs => by
    rw [M.rdEach, List.map_cons, M.firstE_cons, M.rdT_zero]
    dsimp only
    by_cases h : (f x).2 = 0
    · rw [if_neg (by simp [h]), h]
      exact M.rdEachT_first f xs
    · rw [if_pos h]
      exact M.rdEachT_bad f _ xs h
theorem M.rdEachT_all (f : M.It → List UInt8 × Nat) : ∀ xs : List M.It, (M.rdEach (M.rdT f) 0 xs).2 = 0 → (M.rdEach (M.rdT f) 0 xs).1 = xs.map fun x => (f x).1
  | [], _ => rfl
  | x :: xs, h => by
    rw [M.rdEach, M.rdT_zero] at h ⊢
    dsimp only at h ⊢
    by_cases h0 : (f x).2 = 0
    · rw [h0] at h ⊢
      rw [M.rdEachT_all f xs h]
      rfl
    · rw [M.rdEachT_bad f _ xs h0] at h
      exact absurd h h0
theorem M.rdEachT_eachR (f : M.It → List UInt8 × Nat) (xs : List M.It) : (M.rdEach (M.rdT f) 0 xs).2 = (M.eachR f xs).2 ∧ ((M.eachR f xs).2 = 0 → (M.rdEach (M.rdT f) 0 xs).1 = (M.eachR f xs).1) := by
  have h1 := M.rdEachT_first f xs
  unfold M.eachR
  by_cases h : M.firstE (xs.map fun x => (f x).2) = 0
  · rw [if_pos h]
    exact ⟨h1.trans h, fun _ => M.rdEachT_all f xs (h1.trans h)⟩
  · rw [if_neg h]
    exact ⟨h1, fun q => absurd q h⟩
end Go.Proofs.YtebjhbeaknokkaaGreatDoor
namespace Go.Proofs.YtebjhbeaknokkaaGreatDoor
open Go Go.RowKit

theorem M.rdL_zero (a b : Int) (x : M.It) : M.rdL 0 a b x = M.getList a b x := rfl
theorem M.rdL_bad {e : Nat} (he : e ≠ 0) (a b : Int) (x : M.It) : (M.rdL e a b x).2 = e := by
  unfold M.rdL
  rw [if_neg he]
def M.rdTop (e : Nat) (x : M.It) : List (List UInt8) × Nat := M.rdEach (M.rdT (rText 32)) (M.rdL e 0 4 x).2 (M.rdL e 0 4 x).1
theorem M.rdTop_bad {e : Nat} (he : e ≠ 0) (x : M.It) : (M.rdTop e x).2 = e := by
  unfold M.rdTop
  rw [M.rdEachT_bad _ _ _ (by rw [M.rdL_bad he]; exact he), M.rdL_bad he]
theorem M.rdTop_zero (x : M.It) : (M.rdTop 0 x).2 = (M.keysR 4 32 x).2 ∧ ((M.keysR 4 32 x).2 = 0 → (M.rdTop 0 x).1 = (M.keysR 4 32 x).1) := by
  unfold M.rdTop M.keysR
  rw [M.rdL_zero]
  by_cases h : (M.getList 0 4 x).2 = 0
  · rw [if_neg (by simp [h]), h]
    exact M.rdEachT_eachR (rText 32) _
  · rw [if_pos h]
    exact ⟨M.rdEachT_bad _ _ _ h, fun q => absurd q h⟩
theorem M.rdParts_partsL (p : List M.It) : (M.rdParts p).2 = (M.partsL (p.getD 0 M.zeroI) (p.getD 1 M.zeroI) (p.getD 2 M.zeroI)).2 ∧ ((M.partsL (p.getD 0 M.zeroI) (p.getD 1 M.zeroI) (p.getD 2 M.zeroI)).2 = 0 → (M.rdParts p).1 = (M.partsL (p.getD 0 M.zeroI) (p.getD 1 M.zeroI) (p.getD 2 M.zeroI)).1) := by
  have e0 : M.rdParts p = (⟨(rText 20 (p.getD 0 M.zeroI)).1, (M.rdTop (rText 20 (p.getD 0 M.zeroI)).2 (p.getD 1 M.zeroI)).1, (M.rdT (M.getText 0 4096) (M.rdTop (rText 20 (p.getD 0 M.zeroI)).2 (p.getD 1 M.zeroI)).2 (p.getD 2 M.zeroI)).1⟩,
      (M.rdT (M.getText 0 4096) (M.rdTop (rText 20 (p.getD 0 M.zeroI)).2 (p.getD 1 M.zeroI)).2 (p.getD 2 M.zeroI)).2) := rfl
  rw [e0]
  unfold M.partsL
  dsimp only
  generalize rText 20 (p.getD 0 M.zeroI) = a
  generalize p.getD 2 M.zeroI = x2
  obtain ⟨a1, a2⟩ := a
  dsimp only
  rw [M.firstE_cons]
  by_cases ha : a2 = 0
  · subst ha
    rw [if_neg (by simp)]
    obtain ⟨h1, h2⟩ := M.rdTop_zero (p.getD 1 M.zeroI)
    generalize M.keysR 4 32 (p.getD 1 M.zeroI) = k at *
    generalize M.rdTop 0 (p.getD 1 M.zeroI) = t at *
    obtain ⟨t1, t2⟩ := t
    dsimp only at h1 h2 ⊢
    subst h1
    rw [M.firstE_cons]
    by_cases hk : k.2 = 0
    · rw [if_neg (by simp [hk]), hk, M.rdT_zero, h2 hk, M.firstE_cons]
      by_cases hg : (M.getText 0 4096 x2).2 = 0
      · rw [if_neg (by simp [hg]), hg]
        exact ⟨rfl, fun _ => rfl⟩
      · rw [if_pos hg]
        exact ⟨rfl, fun _ => rfl⟩
    · rw [if_pos hk, M.rdT_bad hk]
      exact ⟨rfl, fun q => absurd q hk⟩
  · rw [if_pos ha, M.rdT_bad (by rw [M.rdTop_bad ha]; exact ha), M.rdTop_bad ha]
    exact ⟨rfl, fun q => absurd q ha⟩
theorem M.rdLog_logR (x : M.It) : (M.rdLog 0 x).2 = (M.logR x).2 ∧ ((M.logR x).2 = 0 → (M.rdLog 0 x).1 = (M.logR x).1) := by
  unfold M.rdLog M.logR
  rw [M.rdL_zero]
  by_cases h : (M.getList 3 3 x).2 = 0
  · rw [if_neg (by simp [h]), if_neg (by simp [h])]
    exact M.rdParts_partsL _
  · rw [if_pos h, if_pos h]
    exact ⟨rfl, fun _ => rfl⟩
end Go.Proofs.YtebjhbeaknokkaaGreatDoor
namespace Go.Proofs.YtebjhbeaknokkaaGreatDoor
open Go Go.RowKit

theorem M.rdLog_bad {e : Nat} (he : e ≠ 0) (x : M.It) : (M.rdLog e x).2 = e := by
  unfold M.rdLog
  rw [M.rdL_bad he, if_pos he]
theorem M.rdEachL_bad : ∀ (e : Nat) (xs : List M.It), e ≠ 0 → (M.rdEach M.rdLog e xs).2 = e
  | e, [], _ => rfl
  | e, x :: xs, he => by
    rw [M.rdEach]
    dsimp only
    rw [M.rdLog_bad he]
    exact M.rdEachL_bad e xs he
theorem M.rdEachL_eachR : ∀ xs : List M.It, (M.rdEach M.rdLog 0 xs).2 = (M.eachR M.logR xs).2 ∧ ((M.eachR M.logR xs).2 = 0 → (M.rdEach M.rdLog 0 xs).1 = (M.eachR M.logR xs).1)
  | [] => ⟨rfl, fun _ => rfl⟩
  | x :: xs => by
    obtain ⟨i1, i2⟩ := M.rdEachL_eachR xs
    obtain ⟨h1, h2⟩ := M.rdLog_logR x
    rw [M.rdEach]
    dsimp only
    unfold M.eachR at i1 i2 ⊢
    rw [List.map_cons, List.map_cons, M.firstE_cons]
    by_cases h : (M.logR x).2 = 0
    · have f : (if (M.logR x).2 ≠ 0 then (M.logR x).2 else M.firstE (xs.map fun x => (M.logR x).2)) = M.firstE (xs.map fun x => (M.logR x).2) := if_neg (by simp [h])
      rw [f, h1, h]
      by_cases q : M.firstE (xs.map fun x => (M.logR x).2) = 0
      · rw [if_pos q] at i1 i2 ⊢
        exact ⟨i1, fun _ => by rw [i2 rfl, h2 h]⟩
      · rw [if_neg q] at i1 i2 ⊢
        exact ⟨i1, fun z => absurd z q⟩
    · have f : (if (M.logR x).2 ≠ 0 then (M.logR x).2 else M.firstE (xs.map fun x => (M.logR x).2)) = (M.logR x).2 := if_pos h
      rw [f, if_neg h, h1, M.rdEachL_bad _ _ h]
      exact ⟨rfl, fun z => absurd z h⟩
def M.rdLs (e : Nat) (x : M.It) : List M.Lg × Nat := M.rdEach M.rdLog (M.rdL e 0 16 x).2 (M.rdL e 0 16 x).1
theorem M.rdLs_bad {e : Nat} (he : e ≠ 0) (x : M.It) : (M.rdLs e x).2 = e := by
  unfold M.rdLs
  rw [M.rdEachL_bad _ _ (by rw [M.rdL_bad he]; exact he), M.rdL_bad he]
theorem M.rdLs_zero (x : M.It) : (M.rdLs 0 x).2 = (M.readR x).2 ∧ ((M.readR x).2 = 0 → (M.rdLs 0 x).1 = (M.readR x).1) := by
  unfold M.rdLs M.readR
  rw [M.rdL_zero]
  by_cases h : (M.getList 0 16 x).2 = 0
  · rw [if_neg (by simp [h]), h]
    exact M.rdEachL_eachR _
  · rw [if_pos h]
    exact ⟨M.rdEachL_bad _ _ h, fun q => absurd q h⟩
theorem M.rdX_zero {α : Type} (z : α) (f : M.It → α × Nat) (x : M.It) : M.rdX z f 0 x = f x := rfl
theorem M.rdX_bad {α : Type} {e : Nat} (he : e ≠ 0) (z : α) (f : M.It → α × Nat) (x : M.It) : M.rdX z f e x = (z, e) := by
  unfold M.rdX
  rw [if_neg he]
theorem M.rdMore_bad {e : Nat} (he : e ≠ 0) : ∀ p, (M.rdMore e p).2 = e
  | [] => rfl
  | [x] => by rw [M.rdMore, M.rdX_bad he]
  | x :: y :: _ => by rw [M.rdMore, M.rdX_bad he, M.rdX_bad he]
theorem M.verE_ver (x : M.It) : (rVersion x).2 = M.verE (M.getNumber x) ∧ (M.verE (M.getNumber x) = 0 → (rVersion x).1 = (M.getNumber x).1) := by
  unfold rVersion M.verE
  by_cases h : (M.getNumber x).2 = 0 ∧ (M.getNumber x).1 ≠ 1
  · rw [if_pos h, if_pos h]
    exact ⟨rfl, fun q => by cases q⟩
  · rw [if_neg h, if_neg h]
    exact ⟨rfl, fun _ => rfl⟩
theorem M.rcP_eq (k : Nat) (a b c : M.It) (r : List M.It) : M.rdRcP k (a :: b :: c :: r) =
    (⟨k, (M.getBool a).1, (M.rdX 0 M.getNumber (M.getBool a).2 b).1, (M.rdLs (M.rdX 0 M.getNumber (M.getBool a).2 b).2 c).1, (M.rdMore (M.rdLs (M.rdX 0 M.getNumber (M.getBool a).2 b).2 c).2 r).1.1, (M.rdMore (M.rdLs (M.rdX 0 M.getNumber (M.getBool a).2 b).2 c).2 r).1.2.1, (M.rdMore (M.rdLs (M.rdX 0 M.getNumber (M.getBool a).2 b).2 c).2 r).1.2.2⟩,
      (M.rdMore (M.rdLs (M.rdX 0 M.getNumber (M.getBool a).2 b).2 c).2 r).2) := rfl
theorem M.rcP_some {k : Nat} {a b c : M.It} {r : List M.It} (ha : (M.getBool a).2 = 0) (hb : (M.getNumber b).2 = 0) (hc : (M.readR c).2 = 0) : M.rdRcP k (a :: b :: c :: r) =
    (⟨k, (M.getBool a).1, (M.getNumber b).1, (M.readR c).1, (M.rdMore 0 r).1.1, (M.rdMore 0 r).1.2.1, (M.rdMore 0 r).1.2.2⟩, (M.rdMore 0 r).2) := by
  obtain ⟨h1, h2⟩ := M.rdLs_zero c
  rw [M.rcP_eq, ha, M.rdX_zero, hb, h1, hc, h2 hc]
theorem M.rcP_bad {k : Nat} {a b c : M.It} {r : List M.It} (es : List Nat) (h : ¬ ((M.getBool a).2 = 0 ∧ (M.getNumber b).2 = 0 ∧ (M.readR c).2 = 0)) :
    (M.rdRcP k (a :: b :: c :: r)).2 = M.firstE ((M.getBool a).2 :: (M.getNumber b).2 :: (M.readR c).2 :: es) ∧ M.firstE ((M.getBool a).2 :: (M.getNumber b).2 :: (M.readR c).2 :: es) ≠ 0 := by
  rw [M.rcP_eq, M.firstE_cons]
  dsimp only
  by_cases ha : (M.getBool a).2 = 0
  · rw [if_neg (by simp [ha]), ha, M.rdX_zero, M.firstE_cons]
    by_cases hb : (M.getNumber b).2 = 0
    · have hc : (M.readR c).2 ≠ 0 := fun q => h ⟨ha, hb, q⟩
      rw [if_neg (by simp [hb]), hb, (M.rdLs_zero c).1, M.rdMore_bad hc, M.firstE_cons, if_pos hc]
      exact ⟨rfl, hc⟩
    · rw [if_pos hb, M.rdMore_bad (by rw [M.rdLs_bad hb]; exact hb), M.rdLs_bad hb]
      exact ⟨rfl, hb⟩
  · rw [if_pos ha, M.rdX_bad ha, M.rdMore_bad (by rw [M.rdLs_bad ha]; exact ha), M.rdLs_bad ha]
    exact ⟨rfl, ha⟩
theorem M.ofR_rcP (k : Nat) (p : List M.It) (h3 : 3 ≤ p.length) (h5 : p.length ≤ 5) : (M.rdRcP k p).2 = (M.ofR k p).2 ∧ ((M.ofR k p).2 = 0 → (M.rdRcP k p).1 = (M.ofR k p).1) := by
  match p, h3, h5 with
  | [a, b, c], _, _ =>
    have e : M.ofR k [a, b, c] = (⟨k, (M.getBool a).1, (M.getNumber b).1, (M.readR c).1, false, 0, 0⟩, M.firstE [(M.getBool a).2, (M.getNumber b).2, (M.readR c).2, 0, 0]) := rfl
    rw [e]
    by_cases h : (M.getBool a).2 = 0 ∧ (M.getNumber b).2 = 0 ∧ (M.readR c).2 = 0
    · rw [M.rcP_some h.1 h.2.1 h.2.2, h.1, h.2.1, h.2.2]
      exact ⟨rfl, fun _ => rfl⟩
    · obtain ⟨q1, q2⟩ := M.rcP_bad (k := k) (r := []) [0, 0] h
      exact ⟨q1, fun q => absurd q q2⟩
  | [a, b, c, d], _, _ =>
    have e : M.ofR k [a, b, c, d] = (⟨k, (M.getBool a).1, (M.getNumber b).1, (M.readR c).1, true, (M.getNumber d).1, 0⟩, M.firstE [(M.getBool a).2, (M.getNumber b).2, (M.readR c).2, (M.getNumber d).2, 0]) := rfl
    rw [e]
    by_cases h : (M.getBool a).2 = 0 ∧ (M.getNumber b).2 = 0 ∧ (M.readR c).2 = 0
    · rw [M.rcP_some h.1 h.2.1 h.2.2, h.1, h.2.1, h.2.2, M.rdMore, M.rdX_zero]
      dsimp only
      have f : M.firstE [0, 0, 0, (M.getNumber d).2, 0] = (M.getNumber d).2 := by
        by_cases hd : (M.getNumber d).2 = 0
        · rw [hd]; rfl
        · simp [M.firstE, hd]
      rw [f]
      exact ⟨rfl, fun _ => rfl⟩
    · obtain ⟨q1, q2⟩ := M.rcP_bad (k := k) (r := [d]) [(M.getNumber d).2, 0] h
      exact ⟨q1, fun q => absurd q q2⟩
  | [a, b, c, d, x], _, _ =>
    have e : M.ofR k [a, b, c, d, x] = (⟨k, (M.getBool a).1, (M.getNumber b).1, (M.readR c).1, true, (M.getNumber d).1, (M.getNumber x).1⟩, M.firstE [(M.getBool a).2, (M.getNumber b).2, (M.readR c).2, (M.getNumber d).2, M.verE (M.getNumber x)]) := rfl
    rw [e]
    by_cases h : (M.getBool a).2 = 0 ∧ (M.getNumber b).2 = 0 ∧ (M.readR c).2 = 0
    · obtain ⟨v1, v2⟩ := M.verE_ver x
      rw [M.rcP_some h.1 h.2.1 h.2.2, h.1, h.2.1, h.2.2, M.rdMore, M.rdX_zero]
      dsimp only
      by_cases hd : (M.getNumber d).2 = 0
      · have f : M.firstE [0, 0, 0, (M.getNumber d).2, M.verE (M.getNumber x)] = M.verE (M.getNumber x) := by
          rw [hd]
          by_cases hx : M.verE (M.getNumber x) = 0
          · rw [hx]; rfl
          · simp [M.firstE, hx]
        rw [f, hd, M.rdX_zero]
        exact ⟨v1, fun q => by rw [v2 q]⟩
      · have f : M.firstE [0, 0, 0, (M.getNumber d).2, M.verE (M.getNumber x)] = (M.getNumber d).2 := by simp [M.firstE, hd]
        rw [f, M.rdX_bad hd]
        exact ⟨rfl, fun q => absurd q hd⟩
    · obtain ⟨q1, q2⟩ := M.rcP_bad (k := k) (r := [d, x]) [(M.getNumber d).2, M.verE (M.getNumber x)] h
      exact ⟨q1, fun q => absurd q q2⟩
end Go.Proofs.YtebjhbeaknokkaaGreatDoor
namespace Go.Proofs.YtebjhbeaknokkaaGreatDoor
open Go Go.RowKit

abbrev M.zeroR : M.Rc := ⟨0, false, 0, [], false, 0, 0⟩
def M.decP (k : Nat) (t : List UInt8) : M.Rc × Nat :=
  if (M.decodeL t).2 ≠ 0 then (M.zeroR, (M.decodeL t).2)
  else if (M.getList 3 (M.mostP k) (M.decodeL t).1).2 ≠ 0 then (M.zeroR, (M.getList 3 (M.mostP k) (M.decodeL t).1).2)
  else if (M.ofR k (M.getList 3 (M.mostP k) (M.decodeL t).1).1).2 ≠ 0 then (M.zeroR, (M.ofR k (M.getList 3 (M.mostP k) (M.decodeL t).1).1).2)
  else M.ofR k (M.getList 3 (M.mostP k) (M.decodeL t).1).1
theorem M.getList_len {a b : Int} {x : M.It} (h : (M.getList a b x).2 = 0) : a ≤ (M.getList a b x).1.length ∧ ((M.getList a b x).1.length : Int) ≤ b := by
  have := M.rdL_len (e0 := 0) (least := a) (most := b) (x := x) h
  exact this
theorem M.decR_of {s : List UInt8} {x : M.Rc × Nat} (h : M.rdRc s = x) : M.decR s = if x.2 = 0 then x else (M.zeroR, x.2) := by
  unfold M.decR
  rw [h]
theorem M.decR_behind {s t : List UInt8} {k : Nat} (hk : kdOf s = (k, 0)) (ht : s.drop (M.headR k).length = t) : M.decR s = M.decP k t := by
  have e0 : M.rdRc s = if (M.rdL (M.decodeL t).2 3 (M.mostP k) (M.decodeL t).1).2 ≠ 0 then (M.zeroR, (M.rdL (M.decodeL t).2 3 (M.mostP k) (M.decodeL t).1).2) else M.rdRcP k (M.rdL (M.decodeL t).2 3 (M.mostP k) (M.decodeL t).1).1 := by
    unfold M.rdRc
    rw [hk]
    dsimp only
    rw [ht]
    rfl
  unfold M.decP
  by_cases h : (M.decodeL t).2 = 0
  · rw [h, M.rdL_zero] at e0
    have n1 : ¬ (M.decodeL t).2 ≠ 0 := by simp [h]
    rw [if_neg n1]
    by_cases g : (M.getList 3 (M.mostP k) (M.decodeL t).1).2 = 0
    · have n2 : ¬ (M.getList 3 (M.mostP k) (M.decodeL t).1).2 ≠ 0 := by simp [g]
      rw [if_neg n2] at e0
      rw [if_neg n2, M.decR_of e0]
      obtain ⟨l1, l2⟩ := M.getList_len g
      have hm : (M.mostP k : Int) ≤ 5 := by unfold M.mostP; split <;> omega
      obtain ⟨o1, o2⟩ := M.ofR_rcP k (M.getList 3 (M.mostP k) (M.decodeL t).1).1 (by omega) (by omega)
      rw [o1]
      by_cases q : (M.ofR k (M.getList 3 (M.mostP k) (M.decodeL t).1).1).2 = 0
      · have n3 : ¬ (M.ofR k (M.getList 3 (M.mostP k) (M.decodeL t).1).1).2 ≠ 0 := by simp [q]
        rw [if_pos q, if_neg n3]
        exact Prod.ext (o2 q) o1
      · rw [if_neg q, if_pos q]
    · rw [if_pos g] at e0
      rw [if_pos g, M.decR_of e0]
      dsimp only
      rw [if_neg g]
  · rw [M.rdL_bad h, if_pos h] at e0
    rw [if_pos h, M.decR_of e0]
    dsimp only
    rw [if_neg h]
theorem M.decR_bad {s : List UInt8} {e : Nat} (hk : (kdOf s).2 = e) (he : e ≠ 0) : M.decR s = (M.zeroR, e) := by
  have h : (M.rdRc s).2 = e ∧ M.rdRc s = (M.zeroR, e) := by
    have e1 : ∀ t, M.rdI e t = (M.zeroI, e) := fun t => by unfold M.rdI; rw [if_neg he]
    have : M.rdRc s = (M.zeroR, e) := by
      unfold M.rdRc
      dsimp only
      rw [hk, e1, M.rdL_bad he, if_pos he]
    exact ⟨by rw [this], this⟩
  unfold M.decR
  rw [h.1, if_neg he]
end Go.Proofs.YtebjhbeaknokkaaGreatDoor
namespace Go.Proofs.YtebjhbeaknokkaaGreatDoor
open Go Go.RowKit Go.Lib
attribute [local go_sem] Oper.semAt_some

set_option maxRecDepth 100000 in
set_option maxHeartbeats 8000000 in
theorem rof5_any (k : Int) (x0 x1 x2 x3 x4 : M.It) (a : Option Addr) (cap : Nat) (w : World) (hL : Lay w w.heap.size [x0, x1, x2, x3, x4] (.slice a 5 cap)) :
    Calls Tryz.prog 38 #[.int .i64 k, .slice a 5 cap] w fun e w' => (∃ v, e = .returned (gotv (M.ofR k [x0, x1, x2, x3, x4]).1 v (M.ofR k [x0, x1, x2, x3, x4]).2) ∧ Ls w' w'.heap.size (M.ofR k [x0, x1, x2, x3, x4]).1.logs v) ∧ Below w.heap.size w w' := by
  have mixed : Tryz.prog.follows .mixedOrders = true := by kernel_rfl
  obtain ⟨g, hg⟩ : ∃ g, w.heap.size = g := ⟨_, rfl⟩
  obtain ⟨w0, hw0⟩ : ∃ w0, w.alloc (.cells #[.int .i64 0, .bool false, .int .u64 0, .slice none 0 0, .bool false, .int .u64 0, .int .u64 0, .int .i64 0] 70) = w0 := ⟨_, rfl⟩
  have hb0 : Below w.heap.size w w0 := by rw [← hw0]; exact (Below.refl _ _).alloc (Nat.le_refl _) _
  have hrow0 : w0.heap[g]? = some (.cells #[.int .i64 0, .bool false, .int .u64 0, .slice none 0 0, .bool false, .int .u64 0, .int .u64 0, .int .i64 0] 70 (0, 0)) := by rw [← hw0, ← hg]; exact heap_alloc_new w _
  have hz0 : g < w0.heap.size := by rw [← hw0, ← hg]; simp
  obtain ⟨b, o, cap0, l0, d0, y0, u0, he0, hbn, hx0, c00, c01, c02, hK0⟩ := hL.at_ (k := 0) (by simp)
  cases he0
  obtain rfl : x0 = .mk l0 d0 y0 := by simpa using hx0
  obtain ⟨va0, vc0, rfl, -, -⟩ := hK0.slice
  obtain ⟨b', o', cap1, l1, d1, y1, u1, he1, -, hx1, c10, c11, c12, hK1⟩ := hL.at_ (k := 1) (by simp)
  cases he1
  obtain rfl : x1 = .mk l1 d1 y1 := by simpa using hx1
  obtain ⟨va1, vc1, rfl, -, -⟩ := hK1.slice
  obtain ⟨b', o', cap2, l2, d2, y2, u2, he2, -, hx2, c20, c21, c22, hK2⟩ := hL.at_ (k := 2) (by simp)
  cases he2
  obtain rfl : x2 = .mk l2 d2 y2 := by simpa using hx2
  obtain ⟨va2, vc2, rfl, -, -⟩ := hK2.slice
  obtain ⟨b', o', cap3, l3, d3, y3, u3, he3, -, hx3, c30, c31, c32, hK3⟩ := hL.at_ (k := 3) (by simp)
  cases he3
  obtain rfl : x3 = .mk l3 d3 y3 := by simpa using hx3
  obtain ⟨va3, vc3, rfl, -, -⟩ := hK3.slice
  obtain ⟨b', o', cap4, l4, d4, y4, u4, he4, -, hx4, c40, c41, c42, hK4⟩ := hL.at_ (k := 4) (by simp)
  cases he4
  obtain rfl : x4 = .mk l4 d4 y4 := by simpa using hx4
  obtain ⟨va4, vc4, rfl, -, -⟩ := hK4.slice
  have HC0 := Lib.hid (fun W (h : Below w.heap.size w W) => (show W.cell? ⟨b, o, none⟩ = some (.bool l0) ∧ W.cell? ⟨b, o + 1, none⟩ = some (.string ⟨d0.toArray⟩) ∧ W.cell? ⟨b, o + 2, none⟩ = some (.slice va0 y0.length vc0) from ⟨(h.cell (p := ⟨b, _, none⟩) hbn).trans c00, (h.cell (p := ⟨b, _, none⟩) hbn).trans c01, (h.cell (p := ⟨b, _, none⟩) hbn).trans c02⟩))
  have HC1 := Lib.hid (fun W (h : Below w.heap.size w W) => (show W.cell? ⟨b, o + 3, none⟩ = some (.bool l1) ∧ W.cell? ⟨b, o + 4, none⟩ = some (.string ⟨d1.toArray⟩) ∧ W.cell? ⟨b, o + 5, none⟩ = some (.slice va1 y1.length vc1) from ⟨(h.cell (p := ⟨b, _, none⟩) hbn).trans c10, (h.cell (p := ⟨b, _, none⟩) hbn).trans c11, (h.cell (p := ⟨b, _, none⟩) hbn).trans c12⟩))
  have HC2 := Lib.hid (fun W (h : Below w.heap.size w W) => (show W.cell? ⟨b, o + 6, none⟩ = some (.bool l2) ∧ W.cell? ⟨b, o + 7, none⟩ = some (.string ⟨d2.toArray⟩) ∧ W.cell? ⟨b, o + 8, none⟩ = some (.slice va2 y2.length vc2) from ⟨(h.cell (p := ⟨b, _, none⟩) hbn).trans c20, (h.cell (p := ⟨b, _, none⟩) hbn).trans c21, (h.cell (p := ⟨b, _, none⟩) hbn).trans c22⟩))
  have HC3 := Lib.hid (fun W (h : Below w.heap.size w W) => (show W.cell? ⟨b, o + 9, none⟩ = some (.bool l3) ∧ W.cell? ⟨b, o + 10, none⟩ = some (.string ⟨d3.toArray⟩) ∧ W.cell? ⟨b, o + 11, none⟩ = some (.slice va3 y3.length vc3) from ⟨(h.cell (p := ⟨b, _, none⟩) hbn).trans c30, (h.cell (p := ⟨b, _, none⟩) hbn).trans c31, (h.cell (p := ⟨b, _, none⟩) hbn).trans c32⟩))
  have HC4 := Lib.hid (fun W (h : Below w.heap.size w W) => (show W.cell? ⟨b, o + 12, none⟩ = some (.bool l4) ∧ W.cell? ⟨b, o + 13, none⟩ = some (.string ⟨d4.toArray⟩) ∧ W.cell? ⟨b, o + 14, none⟩ = some (.slice va4 y4.length vc4) from ⟨(h.cell (p := ⟨b, _, none⟩) hbn).trans c40, (h.cell (p := ⟨b, _, none⟩) hbn).trans c41, (h.cell (p := ⟨b, _, none⟩) hbn).trans c42⟩))
  have HQ0 := Lib.hid (fun W => rgb_any l0 d0 y0 va0 vc0 W)
  have HQ1 := Lib.hid (fun W => rgn_any l1 d1 y1 va1 vc1 W)
  have HQ2 := Lib.hid (fun W (hb : Below w.heap.size w W) => rreadR_any l2 d2 y2 va2 vc2 W ((hK2.from_ hb).mono hb.size))
  have HQ3 := Lib.hid (fun W => rgn_any l3 d3 y3 va3 vc3 W)
  have HQ4 := Lib.hid (fun W => rgn_any l4 d4 y4 va4 vc4 W)
  have hof : M.ofR k [.mk l0 d0 y0, .mk l1 d1 y1, .mk l2 d2 y2, .mk l3 d3 y3, .mk l4 d4 y4] = (⟨k, (M.getBool (.mk l0 d0 y0)).1, (M.getNumber (.mk l1 d1 y1)).1, (M.readR (.mk l2 d2 y2)).1, true, (M.getNumber (.mk l3 d3 y3)).1, (M.getNumber (.mk l4 d4 y4)).1⟩, M.firstE [(M.getBool (.mk l0 d0 y0)).2, (M.getNumber (.mk l1 d1 y1)).2, (M.readR (.mk l2 d2 y2)).2, (M.getNumber (.mk l3 d3 y3)).2, M.verE (M.getNumber (.mk l4 d4 y4))]) := rfl
  rw [hof]
  clear hof
  generalize M.getBool (.mk l0 d0 y0) = q0 at *
  generalize M.getNumber (.mk l1 d1 y1) = q1 at *
  generalize M.readR (.mk l2 d2 y2) = q2 at *
  generalize M.getNumber (.mk l3 d3 y3) = q3 at *
  generalize M.getNumber (.mk l4 d4 y4) = q4 at *
  obtain ⟨st, e0⟩ := q0
  obtain ⟨ga, e1⟩ := q1
  obtain ⟨ls, e2⟩ := q2
  obtain ⟨no, e3⟩ := q3
  obtain ⟨ve, e4⟩ := q4
  dsimp only at *
  obtain ⟨ee, hee⟩ : ∃ ee, M.verE (ve, e4) = ee := ⟨_, rfl⟩
  rw [hee]
  have HEE := Lib.hid hee
  clear hee
  have HW0 := Lib.hid hw0
  have HB0 := Lib.hid hb0
  have HRW0 := Lib.hid hrow0
  have HZ0 := Lib.hid hz0
  have HGE := Lib.hid hg
  clear hw0 hb0 hrow0 hz0 hL hx0 c00 c01 c02 hK0 hx1 c10 c11 c12 hK1 hx2 c20 c21 c22 hK2 hx3 c30 c31 c32 hK3 hx4 c40 c41 c42 hK4
  obtain ⟨c0, c1, c2⟩ := HC0.out w0 HB0.out
  go_enter Tryz.func38, Tryz.ntmps38
  go_wp2_with (first | rw [HW0.out] | rw [hg])
  try rw [HW0.out]
  try rw [hg]
  refine (HQ0.out w0).mono ?_
  rintro e w1 ⟨rfl, hb_⟩
  have HB1 := Lib.hid (HB0.out.trans (hb_.mono HB0.out.size))
  have HRW1 := Lib.hid ((hb_.block g HZ0.out).trans HRW0.out)
  have HZ1 := Lib.hid (Nat.lt_of_lt_of_le HZ0.out hb_.size)
  clear c0 c1 c2 hb_
  obtain ⟨c0, c1, c2⟩ := HC1.out w1 HB1.out
  go_wp2_with fail
  refine (HQ1.out w1).mono ?_
  rintro e w2 ⟨rfl, hb_⟩
  have HB2 := Lib.hid (HB1.out.trans (hb_.mono HB1.out.size))
  have HRW2 := Lib.hid ((hb_.block g HZ1.out).trans HRW1.out)
  have HZ2 := Lib.hid (Nat.lt_of_lt_of_le HZ1.out hb_.size)
  clear c0 c1 c2 hb_
  obtain ⟨c0, c1, c2⟩ := HC2.out w2 HB2.out
  go_wp2_with fail
  refine (HQ2.out w2 HB2.out).mono ?_
  rintro e w3 ⟨⟨v, rfl, hLs⟩, hb_⟩
  have HB3 := Lib.hid (HB2.out.trans (hb_.mono HB2.out.size))
  have HRW3 := Lib.hid ((hb_.block g HZ2.out).trans HRW2.out)
  have HZ3 := Lib.hid (Nat.lt_of_lt_of_le HZ2.out hb_.size)
  clear c0 c1 c2 hb_
  obtain ⟨sa, sn, sc, rfl⟩ : ∃ a n c, v = .slice a n c := by obtain ⟨a, c, h, -, -⟩ := hLs.slice; exact ⟨_, _, _, h⟩
  obtain ⟨x, hx⟩ : ∃ x, w3.heap.size = x := ⟨_, rfl⟩
  obtain ⟨w4, hw4⟩ : ∃ w4, w3.alloc (.cells #[.int .i64 k, .bool st, .int .u64 (ga : Nat), .slice sa sn sc, .bool false, .int .u64 0, .int .u64 0] 25) = w4 := ⟨_, rfl⟩
  have hb4 : Below w3.heap.size w3 w4 := by rw [← hw4]; exact (Below.refl _ _).alloc (Nat.le_refl _) _
  have hx4 : w4.heap[x]? = some (.cells #[.int .i64 k, .bool st, .int .u64 (ga : Nat), .slice sa sn sc, .bool false, .int .u64 0, .int .u64 0] 25 (0, 0)) := by rw [← hw4, ← hx]; exact heap_alloc_new w3 _
  have HB4 := Lib.hid (HB3.out.trans (hb4.mono HB3.out.size))
  have HRW4 := Lib.hid ((hb4.block g HZ3.out).trans HRW3.out)
  have HZ4 := Lib.hid (Nat.lt_of_lt_of_le HZ3.out hb4.size)
  have HLS := Lib.hid (hLs.kept hb4)
  have HX4 := Lib.hid hx4
  have HXG := Lib.hid (show g < x by have := HZ3.out; omega)
  have HXZ := Lib.hid (show x < w4.heap.size by have := congrArg (fun z => z.heap.size) hw4; simp at this; omega)
  have HW4 := Lib.hid hw4
  have HXE := Lib.hid hx
  clear hb4 hx4 hw4 hLs
  obtain ⟨⟨_, i0⟩, ⟨_, i1⟩, ⟨_, i2⟩, ⟨_, i3⟩, ⟨_, i4⟩, ⟨_, i5⟩, ⟨_, i6⟩, fz⟩ := cells_seven HX4.out
  obtain ⟨w5, hw5⟩ : ∃ W, w4.setCell ⟨x, 4, none⟩ (.bool true) = W := ⟨_, rfl⟩
  have he5 : w4.setRow x #[.int .i64 k, .bool st, .int .u64 (ga : Nat), .slice sa sn sc, .bool true, .int .u64 0, .int .u64 0] = w5 := by rw [← hw5, setCell_eq_setRow w4 x 4 _ _ (0, 0) (.bool true) HX4.out]; rfl
  have HX5 := Lib.hid (show w5.heap[x]? = some (.cells #[.int .i64 k, .bool st, .int .u64 (ga : Nat), .slice sa sn sc, .bool true, .int .u64 0, .int .u64 0] 25 (0, 0)) by rw [← he5]; exact setRow_heap w4 x _ _ 25 (0, 0) HX4.out)
  have HB5 := Lib.hid (he5 ▸ below_row HB4.out (by have := HXG.out; have := HGE.out; omega) _ : Below w.heap.size w w5)
  have HRW5 := Lib.hid (show w5.heap[g]? = some (.cells #[.int .i64 0, .bool false, .int .u64 0, .slice none 0 0, .bool false, .int .u64 0, .int .u64 0, .int .i64 0] 70 (0, 0)) by rw [← he5, setRow_other _ _ _ _ (by have := HXG.out; omega)]; exact HRW4.out)
  have hsz5 : w5.heap.size = w4.heap.size := by rw [← he5, setRow_size]
  have HZ5 := Lib.hid (show g < w5.heap.size by rw [hsz5]; exact HZ4.out)
  have HXZ5 := Lib.hid (show x < w5.heap.size by rw [hsz5]; exact HXZ.out)
  have HLS := Lib.hid (show Ls w5 w5.heap.size ls (.slice sa sn sc) by rw [hsz5, ← he5]; exact HLS.out.rowN (NoTxt.rcI HX4.out) _)
  have HW5 := Lib.hid hw5
  clear hw5 he5 hsz5
  obtain ⟨c0, c1, c2⟩ := HC3.out w5 HB5.out
  go_wp2_with (first | rw [HW4.out] | rw [HXE.out] | rw [HW5.out])
  try rw [HW5.out]
  refine (HQ3.out w5).mono ?_
  rintro e w6 ⟨rfl, hb_⟩
  have HB6 := Lib.hid (HB5.out.trans (hb_.mono HB5.out.size))
  have HRW6 := Lib.hid ((hb_.block g HZ5.out).trans HRW5.out)
  have HZ6 := Lib.hid (Nat.lt_of_lt_of_le HZ5.out hb_.size)
  have HX6 := Lib.hid ((hb_.block x HXZ5.out).trans HX5.out)
  have HXZ6 := Lib.hid (Nat.lt_of_lt_of_le HXZ5.out hb_.size)
  have HLS := Lib.hid (HLS.out.kept hb_)
  clear c0 c1 c2 hb_ i0 i1 i2 i3 i4 i5 i6 fz
  obtain ⟨⟨_, i0⟩, ⟨_, i1⟩, ⟨_, i2⟩, ⟨_, i3⟩, ⟨_, i4⟩, ⟨_, i5⟩, ⟨_, i6⟩, fz⟩ := cells_seven HX6.out
  obtain ⟨w7, hw7⟩ : ∃ W, w6.setCell ⟨x, 5, none⟩ (.int .u64 (no : Nat)) = W := ⟨_, rfl⟩
  have he7 : w6.setRow x #[.int .i64 k, .bool st, .int .u64 (ga : Nat), .slice sa sn sc, .bool true, .int .u64 (no : Nat), .int .u64 0] = w7 := by rw [← hw7, setCell_eq_setRow w6 x 5 _ _ (0, 0) (.int .u64 (no : Nat)) HX6.out]; rfl
  have HX7 := Lib.hid (show w7.heap[x]? = some (.cells #[.int .i64 k, .bool st, .int .u64 (ga : Nat), .slice sa sn sc, .bool true, .int .u64 (no : Nat), .int .u64 0] 25 (0, 0)) by rw [← he7]; exact setRow_heap w6 x _ _ 25 (0, 0) HX6.out)
  have HB7 := Lib.hid (he7 ▸ below_row HB6.out (by have := HXG.out; have := HGE.out; omega) _ : Below w.heap.size w w7)
  have HRW7 := Lib.hid (show w7.heap[g]? = some (.cells #[.int .i64 0, .bool false, .int .u64 0, .slice none 0 0, .bool false, .int .u64 0, .int .u64 0, .int .i64 0] 70 (0, 0)) by rw [← he7, setRow_other _ _ _ _ (by have := HXG.out; omega)]; exact HRW6.out)
  have hsz7 : w7.heap.size = w6.heap.size := by rw [← he7, setRow_size]
  have HZ7 := Lib.hid (show g < w7.heap.size by rw [hsz7]; exact HZ6.out)
  have HXZ7 := Lib.hid (show x < w7.heap.size by rw [hsz7]; exact HXZ6.out)
  have HLS := Lib.hid (show Ls w7 w7.heap.size ls (.slice sa sn sc) by rw [hsz7, ← he7]; exact HLS.out.rowN (NoTxt.rcI HX6.out) _)
  have HW7 := Lib.hid hw7
  clear hw7 he7 hsz7
  obtain ⟨c0, c1, c2⟩ := HC4.out w7 HB7.out
  go_wp2_with (first | rw [HW7.out])
  try rw [HW7.out]
  refine (HQ4.out w7).mono ?_
  rintro e w8 ⟨rfl, hb_⟩
  have HB8 := Lib.hid (HB7.out.trans (hb_.mono HB7.out.size))
  have HRW8 := Lib.hid ((hb_.block g HZ7.out).trans HRW7.out)
  have HZ8 := Lib.hid (Nat.lt_of_lt_of_le HZ7.out hb_.size)
  have HX8 := Lib.hid ((hb_.block x HXZ7.out).trans HX7.out)
  have HXZ8 := Lib.hid (Nat.lt_of_lt_of_le HXZ7.out hb_.size)
  have HLS := Lib.hid (HLS.out.kept hb_)
  clear c0 c1 c2 hb_ i0 i1 i2 i3 i4 i5 i6 fz
  obtain ⟨⟨_, i0⟩, ⟨_, i1⟩, ⟨_, i2⟩, ⟨_, i3⟩, ⟨_, i4⟩, ⟨_, i5⟩, ⟨_, i6⟩, fz⟩ := cells_seven HX8.out
  obtain ⟨w9, hw9⟩ : ∃ W, w8.setCell ⟨x, 6, none⟩ (.int .u64 (ve : Nat)) = W := ⟨_, rfl⟩
  have he9 : w8.setRow x #[.int .i64 k, .bool st, .int .u64 (ga : Nat), .slice sa sn sc, .bool true, .int .u64 (no : Nat), .int .u64 (ve : Nat)] = w9 := by rw [← hw9, setCell_eq_setRow w8 x 6 _ _ (0, 0) (.int .u64 (ve : Nat)) HX8.out]; rfl
  have HX9 := Lib.hid (show w9.heap[x]? = some (.cells #[.int .i64 k, .bool st, .int .u64 (ga : Nat), .slice sa sn sc, .bool true, .int .u64 (no : Nat), .int .u64 (ve : Nat)] 25 (0, 0)) by rw [← he9]; exact setRow_heap w8 x _ _ 25 (0, 0) HX8.out)
  have HB9 := Lib.hid (he9 ▸ below_row HB8.out (by have := HXG.out; have := HGE.out; omega) _ : Below w.heap.size w w9)
  have HRW9 := Lib.hid (show w9.heap[g]? = some (.cells #[.int .i64 0, .bool false, .int .u64 0, .slice none 0 0, .bool false, .int .u64 0, .int .u64 0, .int .i64 0] 70 (0, 0)) by rw [← he9, setRow_other _ _ _ _ (by have := HXG.out; omega)]; exact HRW8.out)
  have hsz9 : w9.heap.size = w8.heap.size := by rw [← he9, setRow_size]
  have HZ9 := Lib.hid (show g < w9.heap.size by rw [hsz9]; exact HZ8.out)
  have HXZ9 := Lib.hid (show x < w9.heap.size by rw [hsz9]; exact HXZ8.out)
  have HLS := Lib.hid (show Ls w9 w9.heap.size ls (.slice sa sn sc) by rw [hsz9, ← he9]; exact HLS.out.rowN (NoTxt.rcI HX8.out) _)
  have HW9 := Lib.hid hw9
  clear hw9 he9 hsz9
  have j6 := (B7.row HX9.out).c6
  by_cases h4 : e4 = 0
  · subst h4
    by_cases hv : ve = 1
    · subst hv
      obtain rfl : 0 = ee := HEE.out
      clear HEE
      rw [show ((1 : Nat) : Int) = 1 from rfl] at *
      go_wp2_with (first | rw [HW9.out])
      have hcx : B7 w9 x (.int .i64 k) (.bool st) (.int .u64 (ga : Nat)) (.slice sa sn sc) (.bool true) (.int .u64 (no : Nat)) (.int .u64 1) := B7.row HX9.out
      have HCX := Lib.hid (fun W (h : Below w9.heap.size w9 W) => hcx.from_ h)
      clear hcx i0 i1 i2 i3 i4 i5 i6 fz
      clear j6
      refine wp_region_F (S := fun W => Below w9.heap.size w9 W) (f := 9) mixed ?_
      have hS0 : Below w9.heap.size w9 w9.drew := (Below.refl _ _).drew
      rw [show Array.replicate (Array.size _) false = #[false, false, false, false, false, false, false, false, false, false] from rfl, show Array.size (α := Oper) _ = 10 from rfl]
      refine wpAnyF_take (i := 0) (v := .agg #[.int .i64 k, .bool st, .int .u64 (ga : Nat), .slice sa sn sc, .bool true, .int .u64 (no : Nat), .int .u64 1]) rfl (by kernel_rfl) (by kernel_rfl) (by kernel_rfl) (by kernel_rfl) (fun _ _ _ h => h) (Or.inl ⟨by rfl, ?_⟩) hS0 ?_
      · intro Y hY
        obtain ⟨c0, c1, c2, c3, c4, c5, c6⟩ := HCX.out Y hY
        go_simp
      simp only [Act.put, zqA, zqC, zqD, zqE, zqF]
      refine wpAnyF_take (i := 1) (v := .int .i64 (e0 : Nat)) rfl (by kernel_rfl) (by kernel_rfl) (by kernel_rfl) (by kernel_rfl) (fun _ _ _ h => h) (Or.inl ⟨by rfl, ?_⟩) hS0 ?_
      · intro Y hY
        skip
        go_simp
      simp only [Act.put, zqA, zqB, zqC, zqD, zqE, zqF]
      refine wpAnyF_take (i := 2) (v := .int .i64 (e1 : Nat)) rfl (by kernel_rfl) (by kernel_rfl) (by kernel_rfl) (by kernel_rfl) (fun _ _ _ h => h) (Or.inl ⟨by rfl, ?_⟩) hS0 ?_
      · intro Y hY
        skip
        go_simp
      simp only [Act.put, zqA, zqB, zqC, zqD, zqE, zqF]
      refine wpAnyF_take (i := 3) (v := .int .i64 (e2 : Nat)) rfl (by kernel_rfl) (by kernel_rfl) (by kernel_rfl) (by kernel_rfl) (fun _ _ _ h => h) (Or.inl ⟨by rfl, ?_⟩) hS0 ?_
      · intro Y hY
        skip
        go_simp
      simp only [Act.put, zqA, zqB, zqC, zqD, zqE, zqF]
      refine wpAnyF_take (i := 4) (v := .int .i64 (e3 : Nat)) rfl (by kernel_rfl) (by kernel_rfl) (by kernel_rfl) (by kernel_rfl) (fun _ _ _ h => h) (Or.inl ⟨by rfl, ?_⟩) hS0 ?_
      · intro Y hY
        skip
        go_simp
      simp only [Act.put, zqA, zqB, zqC, zqD, zqE, zqF]
      refine wpAnyF_take (i := 5) (v := .int .i64 0) rfl (by kernel_rfl) (by kernel_rfl) (by kernel_rfl) (by kernel_rfl) (fun _ _ _ h => h) (Or.inl ⟨by rfl, ?_⟩) hS0 ?_
      · intro Y hY
        skip
        go_simp
      simp only [Act.put, zqA, zqB, zqC, zqD, zqE, zqF]
      refine wpAnyF_one (i := 6) (by kernel_rfl) rfl rfl (fun K hK => ?_)
      go_simp
      obtain ⟨wA, hwA⟩ : ∃ wA, (w9.alloc (.cells #[.int .i64 (e0 : Nat), .int .i64 (e1 : Nat), .int .i64 (e2 : Nat), .int .i64 (e3 : Nat), .int .i64 0] 28)).drew = wA := ⟨_, rfl⟩
      have hS1 : Below w9.heap.size w9 wA := by rw [← hwA]; exact Below.drew ((Below.refl _ _).alloc (Nat.le_refl _) _)
      have hrowA : wA.heap[w9.heap.size]? = some (.cells #[.int .i64 (e0 : Nat), .int .i64 (e1 : Nat), .int .i64 (e2 : Nat), .int .i64 (e3 : Nat), .int .i64 0] 28 (0, 0)) := by rw [← hwA]; exact heap_alloc_new _ _
      have hcA : ∀ i e, ([e0, e1, e2, e3, 0] : List Nat)[i]? = some e → wA.cell? ⟨w9.heap.size, i, none⟩ = some (.int .i64 (e : Nat)) := fun i e he => by
        match i, he with
        | 0, he => obtain rfl : e0 = e := by simpa using he
                   simp [World.cell?, hrowA]
        | 1, he => obtain rfl : e1 = e := by simpa using he
                   simp [World.cell?, hrowA]
        | 2, he => obtain rfl : e2 = e := by simpa using he
                   simp [World.cell?, hrowA]
        | 3, he => obtain rfl : e3 = e := by simpa using he
                   simp [World.cell?, hrowA]
        | 4, he => obtain rfl : 0 = e := by simpa using he
                   simp [World.cell?, hrowA]
        | j + 5, he => simp at he
      have HCA := Lib.hid hcA
      rw [hwA]
      clear hcA hrowA hwA
      refine hK.out _ _ hS1 (fun _ => ?_)
      clear hK K
      simp only [List.setIfInBounds_toArray, List.set_cons_zero, List.set_cons_succ]
      refine wpAnyF_one (i := 7) (by kernel_rfl) rfl rfl (fun K hK => ?_)
      go_simp
      refine (rfirst_any [e0, e1, e2, e3, 0] w9.heap.size 5 wA (by simp) HCA.out).mono ?_
      rintro e wB ⟨rfl, hbB⟩
      have hS2 : Below w9.heap.size w9 wB := hS1.trans (Below.mono hbB hS1.size)
      try go_wp2_with fail
      refine hK.out _ _ hS2 (fun _ => ?_)
      clear hK K
      simp only [List.setIfInBounds_toArray, List.set_cons_zero, List.set_cons_succ]
      refine wpAnyF_one (i := 8) (by kernel_rfl) rfl rfl (fun K hK => ?_)
      go_simp
      refine hK.out _ _ hS2 (fun _ => ?_)
      clear hK K
      simp only [List.setIfInBounds_toArray, List.set_cons_zero, List.set_cons_succ]
      have hrowB := (hS2.block g HZ9.out).trans HRW9.out
      obtain ⟨⟨_, i0⟩, ⟨_, i1⟩, ⟨_, i2⟩, ⟨_, i3⟩, ⟨_, i4⟩, ⟨_, i5⟩, ⟨_, i6⟩, ⟨_, i7⟩, fz⟩ := cells_eight hrowB
      refine wpAnyF_last (by kernel_rfl) rfl (fun K hK => ?_)
      go_simp
      refine hK.out _ _ ?_
      clear hK K
      refine wpAnyF_done (by kernel_rfl) ?_ _
      rw [set_eight hrowB]
      clear i0 i1 i2 i3 i4 i5 i6 i7 fz
      go_wp2_with fail
      refine got_row rfl wB _ #[.int .i64 k, .bool st, .int .u64 (ga : Nat), .slice sa sn sc, .bool true, .int .u64 (no : Nat), .int .u64 1, .int .i64 (M.firstE [e0, e1, e2, e3, 0] : Nat)] _ rfl g hrowB _ rfl ?_
      refine ⟨⟨_, rfl, ?_⟩, below_row (HB9.out.trans (hS2.mono HB9.out.size)) (by have := HGE.out; omega) _⟩
      rw [setRow_size]
      exact (HLS.out.kept hS2).rowN (NoTxt.got hrowB) _
    · have hv1 : ((ve : Int) == 1) = false := by simp; omega
      have hv2 : ((ve : Int) != 1) = true := by simp; omega
      obtain rfl : 2 = ee := HEE.out.symm ▸ (show M.verE (ve, 0) = 2 by unfold M.verE; simp [hv]).symm
      clear HEE
      go_wp2_with (first | rw [HW9.out])
      have hcx : B7 w9 x (.int .i64 k) (.bool st) (.int .u64 (ga : Nat)) (.slice sa sn sc) (.bool true) (.int .u64 (no : Nat)) (.int .u64 (ve : Nat)) := B7.row HX9.out
      have HCX := Lib.hid (fun W (h : Below w9.heap.size w9 W) => hcx.from_ h)
      clear hcx i0 i1 i2 i3 i4 i5 i6 fz
      clear j6
      refine wp_region_F (S := fun W => Below w9.heap.size w9 W) (f := 9) mixed ?_
      have hS0 : Below w9.heap.size w9 w9.drew := (Below.refl _ _).drew
      rw [show Array.replicate (Array.size _) false = #[false, false, false, false, false, false, false, false, false, false] from rfl, show Array.size (α := Oper) _ = 10 from rfl]
      refine wpAnyF_take (i := 0) (v := .agg #[.int .i64 k, .bool st, .int .u64 (ga : Nat), .slice sa sn sc, .bool true, .int .u64 (no : Nat), .int .u64 (ve : Nat)]) rfl (by kernel_rfl) (by kernel_rfl) (by kernel_rfl) (by kernel_rfl) (fun _ _ _ h => h) (Or.inl ⟨by rfl, ?_⟩) hS0 ?_
      · intro Y hY
        obtain ⟨c0, c1, c2, c3, c4, c5, c6⟩ := HCX.out Y hY
        go_simp
      simp only [Act.put, zqA, zqC, zqD, zqE, zqF]
      refine wpAnyF_take (i := 1) (v := .int .i64 (e0 : Nat)) rfl (by kernel_rfl) (by kernel_rfl) (by kernel_rfl) (by kernel_rfl) (fun _ _ _ h => h) (Or.inl ⟨by rfl, ?_⟩) hS0 ?_
      · intro Y hY
        skip
        go_simp
      simp only [Act.put, zqA, zqB, zqC, zqD, zqE, zqF]
      refine wpAnyF_take (i := 2) (v := .int .i64 (e1 : Nat)) rfl (by kernel_rfl) (by kernel_rfl) (by kernel_rfl) (by kernel_rfl) (fun _ _ _ h => h) (Or.inl ⟨by rfl, ?_⟩) hS0 ?_
      · intro Y hY
        skip
        go_simp
      simp only [Act.put, zqA, zqB, zqC, zqD, zqE, zqF]
      refine wpAnyF_take (i := 3) (v := .int .i64 (e2 : Nat)) rfl (by kernel_rfl) (by kernel_rfl) (by kernel_rfl) (by kernel_rfl) (fun _ _ _ h => h) (Or.inl ⟨by rfl, ?_⟩) hS0 ?_
      · intro Y hY
        skip
        go_simp
      simp only [Act.put, zqA, zqB, zqC, zqD, zqE, zqF]
      refine wpAnyF_take (i := 4) (v := .int .i64 (e3 : Nat)) rfl (by kernel_rfl) (by kernel_rfl) (by kernel_rfl) (by kernel_rfl) (fun _ _ _ h => h) (Or.inl ⟨by rfl, ?_⟩) hS0 ?_
      · intro Y hY
        skip
        go_simp
      simp only [Act.put, zqA, zqB, zqC, zqD, zqE, zqF]
      refine wpAnyF_take (i := 5) (v := .int .i64 2) rfl (by kernel_rfl) (by kernel_rfl) (by kernel_rfl) (by kernel_rfl) (fun _ _ _ h => h) (Or.inl ⟨by rfl, ?_⟩) hS0 ?_
      · intro Y hY
        skip
        go_simp
      simp only [Act.put, zqA, zqB, zqC, zqD, zqE, zqF]
      refine wpAnyF_one (i := 6) (by kernel_rfl) rfl rfl (fun K hK => ?_)
      go_simp
      obtain ⟨wA, hwA⟩ : ∃ wA, (w9.alloc (.cells #[.int .i64 (e0 : Nat), .int .i64 (e1 : Nat), .int .i64 (e2 : Nat), .int .i64 (e3 : Nat), .int .i64 2] 28)).drew = wA := ⟨_, rfl⟩
      have hS1 : Below w9.heap.size w9 wA := by rw [← hwA]; exact Below.drew ((Below.refl _ _).alloc (Nat.le_refl _) _)
      have hrowA : wA.heap[w9.heap.size]? = some (.cells #[.int .i64 (e0 : Nat), .int .i64 (e1 : Nat), .int .i64 (e2 : Nat), .int .i64 (e3 : Nat), .int .i64 2] 28 (0, 0)) := by rw [← hwA]; exact heap_alloc_new _ _
      have hcA : ∀ i e, ([e0, e1, e2, e3, 2] : List Nat)[i]? = some e → wA.cell? ⟨w9.heap.size, i, none⟩ = some (.int .i64 (e : Nat)) := fun i e he => by
        match i, he with
        | 0, he => obtain rfl : e0 = e := by simpa using he
                   simp [World.cell?, hrowA]
        | 1, he => obtain rfl : e1 = e := by simpa using he
                   simp [World.cell?, hrowA]
        | 2, he => obtain rfl : e2 = e := by simpa using he
                   simp [World.cell?, hrowA]
        | 3, he => obtain rfl : e3 = e := by simpa using he
                   simp [World.cell?, hrowA]
        | 4, he => obtain rfl : 2 = e := by simpa using he
                   simp [World.cell?, hrowA]
        | j + 5, he => simp at he
      have HCA := Lib.hid hcA
      rw [hwA]
      clear hcA hrowA hwA
      refine hK.out _ _ hS1 (fun _ => ?_)
      clear hK K
      simp only [List.setIfInBounds_toArray, List.set_cons_zero, List.set_cons_succ]
      refine wpAnyF_one (i := 7) (by kernel_rfl) rfl rfl (fun K hK => ?_)
      go_simp
      refine (rfirst_any [e0, e1, e2, e3, 2] w9.heap.size 5 wA (by simp) HCA.out).mono ?_
      rintro e wB ⟨rfl, hbB⟩
      have hS2 : Below w9.heap.size w9 wB := hS1.trans (Below.mono hbB hS1.size)
      try go_wp2_with fail
      refine hK.out _ _ hS2 (fun _ => ?_)
      clear hK K
      simp only [List.setIfInBounds_toArray, List.set_cons_zero, List.set_cons_succ]
      refine wpAnyF_one (i := 8) (by kernel_rfl) rfl rfl (fun K hK => ?_)
      go_simp
      refine hK.out _ _ hS2 (fun _ => ?_)
      clear hK K
      simp only [List.setIfInBounds_toArray, List.set_cons_zero, List.set_cons_succ]
      have hrowB := (hS2.block g HZ9.out).trans HRW9.out
      obtain ⟨⟨_, i0⟩, ⟨_, i1⟩, ⟨_, i2⟩, ⟨_, i3⟩, ⟨_, i4⟩, ⟨_, i5⟩, ⟨_, i6⟩, ⟨_, i7⟩, fz⟩ := cells_eight hrowB
      refine wpAnyF_last (by kernel_rfl) rfl (fun K hK => ?_)
      go_simp
      refine hK.out _ _ ?_
      clear hK K
      refine wpAnyF_done (by kernel_rfl) ?_ _
      rw [set_eight hrowB]
      clear i0 i1 i2 i3 i4 i5 i6 i7 fz
      go_wp2_with fail
      refine got_row rfl wB _ #[.int .i64 k, .bool st, .int .u64 (ga : Nat), .slice sa sn sc, .bool true, .int .u64 (no : Nat), .int .u64 (ve : Nat), .int .i64 (M.firstE [e0, e1, e2, e3, 2] : Nat)] _ rfl g hrowB _ rfl ?_
      refine ⟨⟨_, rfl, ?_⟩, below_row (HB9.out.trans (hS2.mono HB9.out.size)) (by have := HGE.out; omega) _⟩
      rw [setRow_size]
      exact (HLS.out.kept hS2).rowN (NoTxt.got hrowB) _
  · have h41 : ((e4 : Int) == 0) = false := by simp [h4]
    obtain rfl : e4 = ee := HEE.out.symm ▸ (show M.verE (ve, e4) = e4 by unfold M.verE; simp [h4]).symm
    clear HEE
    go_wp2_with (first | rw [HW9.out])
    have hcx : B7 w9 x (.int .i64 k) (.bool st) (.int .u64 (ga : Nat)) (.slice sa sn sc) (.bool true) (.int .u64 (no : Nat)) (.int .u64 (ve : Nat)) := B7.row HX9.out
    have HCX := Lib.hid (fun W (h : Below w9.heap.size w9 W) => hcx.from_ h)
    clear hcx i0 i1 i2 i3 i4 i5 i6 fz
    clear j6
    refine wp_region_F (S := fun W => Below w9.heap.size w9 W) (f := 9) mixed ?_
    have hS0 : Below w9.heap.size w9 w9.drew := (Below.refl _ _).drew
    rw [show Array.replicate (Array.size _) false = #[false, false, false, false, false, false, false, false, false, false] from rfl, show Array.size (α := Oper) _ = 10 from rfl]
    refine wpAnyF_take (i := 0) (v := .agg #[.int .i64 k, .bool st, .int .u64 (ga : Nat), .slice sa sn sc, .bool true, .int .u64 (no : Nat), .int .u64 (ve : Nat)]) rfl (by kernel_rfl) (by kernel_rfl) (by kernel_rfl) (by kernel_rfl) (fun _ _ _ h => h) (Or.inl ⟨by rfl, ?_⟩) hS0 ?_
    · intro Y hY
      obtain ⟨c0, c1, c2, c3, c4, c5, c6⟩ := HCX.out Y hY
      go_simp
    simp only [Act.put, zqA, zqC, zqD, zqE, zqF]
    refine wpAnyF_take (i := 1) (v := .int .i64 (e0 : Nat)) rfl (by kernel_rfl) (by kernel_rfl) (by kernel_rfl) (by kernel_rfl) (fun _ _ _ h => h) (Or.inl ⟨by rfl, ?_⟩) hS0 ?_
    · intro Y hY
      skip
      go_simp
    simp only [Act.put, zqA, zqB, zqC, zqD, zqE, zqF]
    refine wpAnyF_take (i := 2) (v := .int .i64 (e1 : Nat)) rfl (by kernel_rfl) (by kernel_rfl) (by kernel_rfl) (by kernel_rfl) (fun _ _ _ h => h) (Or.inl ⟨by rfl, ?_⟩) hS0 ?_
    · intro Y hY
      skip
      go_simp
    simp only [Act.put, zqA, zqB, zqC, zqD, zqE, zqF]
    refine wpAnyF_take (i := 3) (v := .int .i64 (e2 : Nat)) rfl (by kernel_rfl) (by kernel_rfl) (by kernel_rfl) (by kernel_rfl) (fun _ _ _ h => h) (Or.inl ⟨by rfl, ?_⟩) hS0 ?_
    · intro Y hY
      skip
      go_simp
    simp only [Act.put, zqA, zqB, zqC, zqD, zqE, zqF]
    refine wpAnyF_take (i := 4) (v := .int .i64 (e3 : Nat)) rfl (by kernel_rfl) (by kernel_rfl) (by kernel_rfl) (by kernel_rfl) (fun _ _ _ h => h) (Or.inl ⟨by rfl, ?_⟩) hS0 ?_
    · intro Y hY
      skip
      go_simp
    simp only [Act.put, zqA, zqB, zqC, zqD, zqE, zqF]
    refine wpAnyF_take (i := 5) (v := .int .i64 (e4 : Nat)) rfl (by kernel_rfl) (by kernel_rfl) (by kernel_rfl) (by kernel_rfl) (fun _ _ _ h => h) (Or.inl ⟨by rfl, ?_⟩) hS0 ?_
    · intro Y hY
      skip
      go_simp
    simp only [Act.put, zqA, zqB, zqC, zqD, zqE, zqF]
    refine wpAnyF_one (i := 6) (by kernel_rfl) rfl rfl (fun K hK => ?_)
    go_simp
    obtain ⟨wA, hwA⟩ : ∃ wA, (w9.alloc (.cells #[.int .i64 (e0 : Nat), .int .i64 (e1 : Nat), .int .i64 (e2 : Nat), .int .i64 (e3 : Nat), .int .i64 (e4 : Nat)] 28)).drew = wA := ⟨_, rfl⟩
    have hS1 : Below w9.heap.size w9 wA := by rw [← hwA]; exact Below.drew ((Below.refl _ _).alloc (Nat.le_refl _) _)
    have hrowA : wA.heap[w9.heap.size]? = some (.cells #[.int .i64 (e0 : Nat), .int .i64 (e1 : Nat), .int .i64 (e2 : Nat), .int .i64 (e3 : Nat), .int .i64 (e4 : Nat)] 28 (0, 0)) := by rw [← hwA]; exact heap_alloc_new _ _
    have hcA : ∀ i e, ([e0, e1, e2, e3, e4] : List Nat)[i]? = some e → wA.cell? ⟨w9.heap.size, i, none⟩ = some (.int .i64 (e : Nat)) := fun i e he => by
      match i, he with
      | 0, he => obtain rfl : e0 = e := by simpa using he
                 simp [World.cell?, hrowA]
      | 1, he => obtain rfl : e1 = e := by simpa using he
                 simp [World.cell?, hrowA]
      | 2, he => obtain rfl : e2 = e := by simpa using he
                 simp [World.cell?, hrowA]
      | 3, he => obtain rfl : e3 = e := by simpa using he
                 simp [World.cell?, hrowA]
      | 4, he => obtain rfl : e4 = e := by simpa using he
                 simp [World.cell?, hrowA]
      | j + 5, he => simp at he
    have HCA := Lib.hid hcA
    rw [hwA]
    clear hcA hrowA hwA
    refine hK.out _ _ hS1 (fun _ => ?_)
    clear hK K
    simp only [List.setIfInBounds_toArray, List.set_cons_zero, List.set_cons_succ]
    refine wpAnyF_one (i := 7) (by kernel_rfl) rfl rfl (fun K hK => ?_)
    go_simp
    refine (rfirst_any [e0, e1, e2, e3, e4] w9.heap.size 5 wA (by simp) HCA.out).mono ?_
    rintro e wB ⟨rfl, hbB⟩
    have hS2 : Below w9.heap.size w9 wB := hS1.trans (Below.mono hbB hS1.size)
    try go_wp2_with fail
    refine hK.out _ _ hS2 (fun _ => ?_)
    clear hK K
    simp only [List.setIfInBounds_toArray, List.set_cons_zero, List.set_cons_succ]
    refine wpAnyF_one (i := 8) (by kernel_rfl) rfl rfl (fun K hK => ?_)
    go_simp
    refine hK.out _ _ hS2 (fun _ => ?_)
    clear hK K
    simp only [List.setIfInBounds_toArray, List.set_cons_zero, List.set_cons_succ]
    have hrowB := (hS2.block g HZ9.out).trans HRW9.out
    obtain ⟨⟨_, i0⟩, ⟨_, i1⟩, ⟨_, i2⟩, ⟨_, i3⟩, ⟨_, i4⟩, ⟨_, i5⟩, ⟨_, i6⟩, ⟨_, i7⟩, fz⟩ := cells_eight hrowB
    refine wpAnyF_last (by kernel_rfl) rfl (fun K hK => ?_)
    go_simp
    refine hK.out _ _ ?_
    clear hK K
    refine wpAnyF_done (by kernel_rfl) ?_ _
    rw [set_eight hrowB]
    clear i0 i1 i2 i3 i4 i5 i6 i7 fz
    go_wp2_with fail
    refine got_row rfl wB _ #[.int .i64 k, .bool st, .int .u64 (ga : Nat), .slice sa sn sc, .bool true, .int .u64 (no : Nat), .int .u64 (ve : Nat), .int .i64 (M.firstE [e0, e1, e2, e3, e4] : Nat)] _ rfl g hrowB _ rfl ?_
    refine ⟨⟨_, rfl, ?_⟩, below_row (HB9.out.trans (hS2.mono HB9.out.size)) (by have := HGE.out; omega) _⟩
    rw [setRow_size]
    exact (HLS.out.kept hS2).rowN (NoTxt.got hrowB) _
end Go.Proofs.YtebjhbeaknokkaaGreatDoor
namespace Go.Proofs.YtebjhbeaknokkaaGreatDoor
open Go Go.RowKit Go.Lib
attribute [local go_sem] Oper.semAt_some

set_option maxRecDepth 100000 in
set_option maxHeartbeats 8000000 in
theorem rof4_any (k : Int) (x0 x1 x2 x3 : M.It) (a : Option Addr) (cap : Nat) (w : World) (hL : Lay w w.heap.size [x0, x1, x2, x3] (.slice a 4 cap)) :
    Calls Tryz.prog 38 #[.int .i64 k, .slice a 4 cap] w fun e w' => (∃ v, e = .returned (gotv (M.ofR k [x0, x1, x2, x3]).1 v (M.ofR k [x0, x1, x2, x3]).2) ∧ Ls w' w'.heap.size (M.ofR k [x0, x1, x2, x3]).1.logs v) ∧ Below w.heap.size w w' := by
  have mixed : Tryz.prog.follows .mixedOrders = true := by kernel_rfl
  obtain ⟨g, hg⟩ : ∃ g, w.heap.size = g := ⟨_, rfl⟩
  obtain ⟨w0, hw0⟩ : ∃ w0, w.alloc (.cells #[.int .i64 0, .bool false, .int .u64 0, .slice none 0 0, .bool false, .int .u64 0, .int .u64 0, .int .i64 0] 70) = w0 := ⟨_, rfl⟩
  have hb0 : Below w.heap.size w w0 := by rw [← hw0]; exact (Below.refl _ _).alloc (Nat.le_refl _) _
  have hrow0 : w0.heap[g]? = some (.cells #[.int .i64 0, .bool false, .int .u64 0, .slice none 0 0, .bool false, .int .u64 0, .int .u64 0, .int .i64 0] 70 (0, 0)) := by rw [← hw0, ← hg]; exact heap_alloc_new w _
  have hz0 : g < w0.heap.size := by rw [← hw0, ← hg]; simp
  obtain ⟨b, o, cap0, l0, d0, y0, u0, he0, hbn, hx0, c00, c01, c02, hK0⟩ := hL.at_ (k := 0) (by simp)
  cases he0
  obtain rfl : x0 = .mk l0 d0 y0 := by simpa using hx0
  obtain ⟨va0, vc0, rfl, -, -⟩ := hK0.slice
  obtain ⟨b', o', cap1, l1, d1, y1, u1, he1, -, hx1, c10, c11, c12, hK1⟩ := hL.at_ (k := 1) (by simp)
  cases he1
  obtain rfl : x1 = .mk l1 d1 y1 := by simpa using hx1
  obtain ⟨va1, vc1, rfl, -, -⟩ := hK1.slice
  obtain ⟨b', o', cap2, l2, d2, y2, u2, he2, -, hx2, c20, c21, c22, hK2⟩ := hL.at_ (k := 2) (by simp)
  cases he2
  obtain rfl : x2 = .mk l2 d2 y2 := by simpa using hx2
  obtain ⟨va2, vc2, rfl, -, -⟩ := hK2.slice
  obtain ⟨b', o', cap3, l3, d3, y3, u3, he3, -, hx3, c30, c31, c32, hK3⟩ := hL.at_ (k := 3) (by simp)
  cases he3
  obtain rfl : x3 = .mk l3 d3 y3 := by simpa using hx3
  obtain ⟨va3, vc3, rfl, -, -⟩ := hK3.slice
  have HC0 := Lib.hid (fun W (h : Below w.heap.size w W) => (show W.cell? ⟨b, o, none⟩ = some (.bool l0) ∧ W.cell? ⟨b, o + 1, none⟩ = some (.string ⟨d0.toArray⟩) ∧ W.cell? ⟨b, o + 2, none⟩ = some (.slice va0 y0.length vc0) from ⟨(h.cell (p := ⟨b, _, none⟩) hbn).trans c00, (h.cell (p := ⟨b, _, none⟩) hbn).trans c01, (h.cell (p := ⟨b, _, none⟩) hbn).trans c02⟩))
  have HC1 := Lib.hid (fun W (h : Below w.heap.size w W) => (show W.cell? ⟨b, o + 3, none⟩ = some (.bool l1) ∧ W.cell? ⟨b, o + 4, none⟩ = some (.string ⟨d1.toArray⟩) ∧ W.cell? ⟨b, o + 5, none⟩ = some (.slice va1 y1.length vc1) from ⟨(h.cell (p := ⟨b, _, none⟩) hbn).trans c10, (h.cell (p := ⟨b, _, none⟩) hbn).trans c11, (h.cell (p := ⟨b, _, none⟩) hbn).trans c12⟩))
  have HC2 := Lib.hid (fun W (h : Below w.heap.size w W) => (show W.cell? ⟨b, o + 6, none⟩ = some (.bool l2) ∧ W.cell? ⟨b, o + 7, none⟩ = some (.string ⟨d2.toArray⟩) ∧ W.cell? ⟨b, o + 8, none⟩ = some (.slice va2 y2.length vc2) from ⟨(h.cell (p := ⟨b, _, none⟩) hbn).trans c20, (h.cell (p := ⟨b, _, none⟩) hbn).trans c21, (h.cell (p := ⟨b, _, none⟩) hbn).trans c22⟩))
  have HC3 := Lib.hid (fun W (h : Below w.heap.size w W) => (show W.cell? ⟨b, o + 9, none⟩ = some (.bool l3) ∧ W.cell? ⟨b, o + 10, none⟩ = some (.string ⟨d3.toArray⟩) ∧ W.cell? ⟨b, o + 11, none⟩ = some (.slice va3 y3.length vc3) from ⟨(h.cell (p := ⟨b, _, none⟩) hbn).trans c30, (h.cell (p := ⟨b, _, none⟩) hbn).trans c31, (h.cell (p := ⟨b, _, none⟩) hbn).trans c32⟩))
  have HQ0 := Lib.hid (fun W => rgb_any l0 d0 y0 va0 vc0 W)
  have HQ1 := Lib.hid (fun W => rgn_any l1 d1 y1 va1 vc1 W)
  have HQ2 := Lib.hid (fun W (hb : Below w.heap.size w W) => rreadR_any l2 d2 y2 va2 vc2 W ((hK2.from_ hb).mono hb.size))
  have HQ3 := Lib.hid (fun W => rgn_any l3 d3 y3 va3 vc3 W)
  have hof : M.ofR k [.mk l0 d0 y0, .mk l1 d1 y1, .mk l2 d2 y2, .mk l3 d3 y3] = (⟨k, (M.getBool (.mk l0 d0 y0)).1, (M.getNumber (.mk l1 d1 y1)).1, (M.readR (.mk l2 d2 y2)).1, true, (M.getNumber (.mk l3 d3 y3)).1, 0⟩, M.firstE [(M.getBool (.mk l0 d0 y0)).2, (M.getNumber (.mk l1 d1 y1)).2, (M.readR (.mk l2 d2 y2)).2, (M.getNumber (.mk l3 d3 y3)).2, 0]) := rfl
  rw [hof]
  clear hof
  generalize M.getBool (.mk l0 d0 y0) = q0 at *
  generalize M.getNumber (.mk l1 d1 y1) = q1 at *
  generalize M.readR (.mk l2 d2 y2) = q2 at *
  generalize M.getNumber (.mk l3 d3 y3) = q3 at *
  obtain ⟨st, e0⟩ := q0
  obtain ⟨ga, e1⟩ := q1
  obtain ⟨ls, e2⟩ := q2
  obtain ⟨no, e3⟩ := q3
  dsimp only at *
  have HW0 := Lib.hid hw0
  have HB0 := Lib.hid hb0
  have HRW0 := Lib.hid hrow0
  have HZ0 := Lib.hid hz0
  have HGE := Lib.hid hg
  clear hw0 hb0 hrow0 hz0 hL hx0 c00 c01 c02 hK0 hx1 c10 c11 c12 hK1 hx2 c20 c21 c22 hK2 hx3 c30 c31 c32 hK3
  obtain ⟨c0, c1, c2⟩ := HC0.out w0 HB0.out
  go_enter Tryz.func38, Tryz.ntmps38
  go_wp2_with (first | rw [HW0.out] | rw [hg])
  try rw [HW0.out]
  try rw [hg]
  refine (HQ0.out w0).mono ?_
  rintro e w1 ⟨rfl, hb_⟩
  have HB1 := Lib.hid (HB0.out.trans (hb_.mono HB0.out.size))
  have HRW1 := Lib.hid ((hb_.block g HZ0.out).trans HRW0.out)
  have HZ1 := Lib.hid (Nat.lt_of_lt_of_le HZ0.out hb_.size)
  clear c0 c1 c2 hb_
  obtain ⟨c0, c1, c2⟩ := HC1.out w1 HB1.out
  go_wp2_with fail
  refine (HQ1.out w1).mono ?_
  rintro e w2 ⟨rfl, hb_⟩
  have HB2 := Lib.hid (HB1.out.trans (hb_.mono HB1.out.size))
  have HRW2 := Lib.hid ((hb_.block g HZ1.out).trans HRW1.out)
  have HZ2 := Lib.hid (Nat.lt_of_lt_of_le HZ1.out hb_.size)
  clear c0 c1 c2 hb_
  obtain ⟨c0, c1, c2⟩ := HC2.out w2 HB2.out
  go_wp2_with fail
  refine (HQ2.out w2 HB2.out).mono ?_
  rintro e w3 ⟨⟨v, rfl, hLs⟩, hb_⟩
  have HB3 := Lib.hid (HB2.out.trans (hb_.mono HB2.out.size))
  have HRW3 := Lib.hid ((hb_.block g HZ2.out).trans HRW2.out)
  have HZ3 := Lib.hid (Nat.lt_of_lt_of_le HZ2.out hb_.size)
  clear c0 c1 c2 hb_
  obtain ⟨sa, sn, sc, rfl⟩ : ∃ a n c, v = .slice a n c := by obtain ⟨a, c, h, -, -⟩ := hLs.slice; exact ⟨_, _, _, h⟩
  obtain ⟨x, hx⟩ : ∃ x, w3.heap.size = x := ⟨_, rfl⟩
  obtain ⟨w4, hw4⟩ : ∃ w4, w3.alloc (.cells #[.int .i64 k, .bool st, .int .u64 (ga : Nat), .slice sa sn sc, .bool false, .int .u64 0, .int .u64 0] 25) = w4 := ⟨_, rfl⟩
  have hb4 : Below w3.heap.size w3 w4 := by rw [← hw4]; exact (Below.refl _ _).alloc (Nat.le_refl _) _
  have hx4 : w4.heap[x]? = some (.cells #[.int .i64 k, .bool st, .int .u64 (ga : Nat), .slice sa sn sc, .bool false, .int .u64 0, .int .u64 0] 25 (0, 0)) := by rw [← hw4, ← hx]; exact heap_alloc_new w3 _
  have HB4 := Lib.hid (HB3.out.trans (hb4.mono HB3.out.size))
  have HRW4 := Lib.hid ((hb4.block g HZ3.out).trans HRW3.out)
  have HZ4 := Lib.hid (Nat.lt_of_lt_of_le HZ3.out hb4.size)
  have HLS := Lib.hid (hLs.kept hb4)
  have HX4 := Lib.hid hx4
  have HXG := Lib.hid (show g < x by have := HZ3.out; omega)
  have HXZ := Lib.hid (show x < w4.heap.size by have := congrArg (fun z => z.heap.size) hw4; simp at this; omega)
  have HW4 := Lib.hid hw4
  have HXE := Lib.hid hx
  clear hb4 hx4 hw4 hLs
  obtain ⟨⟨_, i0⟩, ⟨_, i1⟩, ⟨_, i2⟩, ⟨_, i3⟩, ⟨_, i4⟩, ⟨_, i5⟩, ⟨_, i6⟩, fz⟩ := cells_seven HX4.out
  obtain ⟨w5, hw5⟩ : ∃ W, w4.setCell ⟨x, 4, none⟩ (.bool true) = W := ⟨_, rfl⟩
  have he5 : w4.setRow x #[.int .i64 k, .bool st, .int .u64 (ga : Nat), .slice sa sn sc, .bool true, .int .u64 0, .int .u64 0] = w5 := by rw [← hw5, setCell_eq_setRow w4 x 4 _ _ (0, 0) (.bool true) HX4.out]; rfl
  have HX5 := Lib.hid (show w5.heap[x]? = some (.cells #[.int .i64 k, .bool st, .int .u64 (ga : Nat), .slice sa sn sc, .bool true, .int .u64 0, .int .u64 0] 25 (0, 0)) by rw [← he5]; exact setRow_heap w4 x _ _ 25 (0, 0) HX4.out)
  have HB5 := Lib.hid (he5 ▸ below_row HB4.out (by have := HXG.out; have := HGE.out; omega) _ : Below w.heap.size w w5)
  have HRW5 := Lib.hid (show w5.heap[g]? = some (.cells #[.int .i64 0, .bool false, .int .u64 0, .slice none 0 0, .bool false, .int .u64 0, .int .u64 0, .int .i64 0] 70 (0, 0)) by rw [← he5, setRow_other _ _ _ _ (by have := HXG.out; omega)]; exact HRW4.out)
  have hsz5 : w5.heap.size = w4.heap.size := by rw [← he5, setRow_size]
  have HZ5 := Lib.hid (show g < w5.heap.size by rw [hsz5]; exact HZ4.out)
  have HXZ5 := Lib.hid (show x < w5.heap.size by rw [hsz5]; exact HXZ.out)
  have HLS := Lib.hid (show Ls w5 w5.heap.size ls (.slice sa sn sc) by rw [hsz5, ← he5]; exact HLS.out.rowN (NoTxt.rcI HX4.out) _)
  have HW5 := Lib.hid hw5
  clear hw5 he5 hsz5
  obtain ⟨c0, c1, c2⟩ := HC3.out w5 HB5.out
  go_wp2_with (first | rw [HW4.out] | rw [HXE.out] | rw [HW5.out])
  try rw [HW5.out]
  refine (HQ3.out w5).mono ?_
  rintro e w6 ⟨rfl, hb_⟩
  have HB6 := Lib.hid (HB5.out.trans (hb_.mono HB5.out.size))
  have HRW6 := Lib.hid ((hb_.block g HZ5.out).trans HRW5.out)
  have HZ6 := Lib.hid (Nat.lt_of_lt_of_le HZ5.out hb_.size)
  have HX6 := Lib.hid ((hb_.block x HXZ5.out).trans HX5.out)
  have HXZ6 := Lib.hid (Nat.lt_of_lt_of_le HXZ5.out hb_.size)
  have HLS := Lib.hid (HLS.out.kept hb_)
  clear c0 c1 c2 hb_ i0 i1 i2 i3 i4 i5 i6 fz
  obtain ⟨⟨_, i0⟩, ⟨_, i1⟩, ⟨_, i2⟩, ⟨_, i3⟩, ⟨_, i4⟩, ⟨_, i5⟩, ⟨_, i6⟩, fz⟩ := cells_seven HX6.out
  obtain ⟨w7, hw7⟩ : ∃ W, w6.setCell ⟨x, 5, none⟩ (.int .u64 (no : Nat)) = W := ⟨_, rfl⟩
  have he7 : w6.setRow x #[.int .i64 k, .bool st, .int .u64 (ga : Nat), .slice sa sn sc, .bool true, .int .u64 (no : Nat), .int .u64 0] = w7 := by rw [← hw7, setCell_eq_setRow w6 x 5 _ _ (0, 0) (.int .u64 (no : Nat)) HX6.out]; rfl
  have HX7 := Lib.hid (show w7.heap[x]? = some (.cells #[.int .i64 k, .bool st, .int .u64 (ga : Nat), .slice sa sn sc, .bool true, .int .u64 (no : Nat), .int .u64 0] 25 (0, 0)) by rw [← he7]; exact setRow_heap w6 x _ _ 25 (0, 0) HX6.out)
  have HB7 := Lib.hid (he7 ▸ below_row HB6.out (by have := HXG.out; have := HGE.out; omega) _ : Below w.heap.size w w7)
  have HRW7 := Lib.hid (show w7.heap[g]? = some (.cells #[.int .i64 0, .bool false, .int .u64 0, .slice none 0 0, .bool false, .int .u64 0, .int .u64 0, .int .i64 0] 70 (0, 0)) by rw [← he7, setRow_other _ _ _ _ (by have := HXG.out; omega)]; exact HRW6.out)
  have hsz7 : w7.heap.size = w6.heap.size := by rw [← he7, setRow_size]
  have HZ7 := Lib.hid (show g < w7.heap.size by rw [hsz7]; exact HZ6.out)
  have HXZ7 := Lib.hid (show x < w7.heap.size by rw [hsz7]; exact HXZ6.out)
  have HLS := Lib.hid (show Ls w7 w7.heap.size ls (.slice sa sn sc) by rw [hsz7, ← he7]; exact HLS.out.rowN (NoTxt.rcI HX6.out) _)
  have HW7 := Lib.hid hw7
  clear hw7 he7 hsz7
  go_wp2_with (first | rw [HW7.out])
  have hcx : B7 w7 x (.int .i64 k) (.bool st) (.int .u64 (ga : Nat)) (.slice sa sn sc) (.bool true) (.int .u64 (no : Nat)) (.int .u64 0) := B7.row HX7.out
  have HCX := Lib.hid (fun W (h : Below w7.heap.size w7 W) => hcx.from_ h)
  clear hcx i0 i1 i2 i3 i4 i5 i6 fz
  refine wp_region_F (S := fun W => Below w7.heap.size w7 W) (f := 9) mixed ?_
  have hS0 : Below w7.heap.size w7 w7.drew := (Below.refl _ _).drew
  rw [show Array.replicate (Array.size _) false = #[false, false, false, false, false, false, false, false, false, false] from rfl, show Array.size (α := Oper) _ = 10 from rfl]
  refine wpAnyF_take (i := 0) (v := .agg #[.int .i64 k, .bool st, .int .u64 (ga : Nat), .slice sa sn sc, .bool true, .int .u64 (no : Nat), .int .u64 0]) rfl (by kernel_rfl) (by kernel_rfl) (by kernel_rfl) (by kernel_rfl) (fun _ _ _ h => h) (Or.inl ⟨by rfl, ?_⟩) hS0 ?_
  · intro Y hY
    obtain ⟨c0, c1, c2, c3, c4, c5, c6⟩ := HCX.out Y hY
    go_simp
  simp only [Act.put, zqA, zqC, zqD, zqE, zqF]
  refine wpAnyF_take (i := 1) (v := .int .i64 (e0 : Nat)) rfl (by kernel_rfl) (by kernel_rfl) (by kernel_rfl) (by kernel_rfl) (fun _ _ _ h => h) (Or.inl ⟨by rfl, ?_⟩) hS0 ?_
  · intro Y hY
    skip
    go_simp
  simp only [Act.put, zqA, zqB, zqC, zqD, zqE, zqF]
  refine wpAnyF_take (i := 2) (v := .int .i64 (e1 : Nat)) rfl (by kernel_rfl) (by kernel_rfl) (by kernel_rfl) (by kernel_rfl) (fun _ _ _ h => h) (Or.inl ⟨by rfl, ?_⟩) hS0 ?_
  · intro Y hY
    skip
    go_simp
  simp only [Act.put, zqA, zqB, zqC, zqD, zqE, zqF]
  refine wpAnyF_take (i := 3) (v := .int .i64 (e2 : Nat)) rfl (by kernel_rfl) (by kernel_rfl) (by kernel_rfl) (by kernel_rfl) (fun _ _ _ h => h) (Or.inl ⟨by rfl, ?_⟩) hS0 ?_
  · intro Y hY
    skip
    go_simp
  simp only [Act.put, zqA, zqB, zqC, zqD, zqE, zqF]
  refine wpAnyF_take (i := 4) (v := .int .i64 (e3 : Nat)) rfl (by kernel_rfl) (by kernel_rfl) (by kernel_rfl) (by kernel_rfl) (fun _ _ _ h => h) (Or.inl ⟨by rfl, ?_⟩) hS0 ?_
  · intro Y hY
    skip
    go_simp
  simp only [Act.put, zqA, zqB, zqC, zqD, zqE, zqF]
  refine wpAnyF_take (i := 5) (v := .int .i64 0) rfl (by kernel_rfl) (by kernel_rfl) (by kernel_rfl) (by kernel_rfl) (fun _ _ _ h => h) (Or.inl ⟨by rfl, ?_⟩) hS0 ?_
  · intro Y hY
    skip
    go_simp
  simp only [Act.put, zqA, zqB, zqC, zqD, zqE, zqF]
  refine wpAnyF_one (i := 6) (by kernel_rfl) rfl rfl (fun K hK => ?_)
  go_simp
  obtain ⟨wA, hwA⟩ : ∃ wA, (w7.alloc (.cells #[.int .i64 (e0 : Nat), .int .i64 (e1 : Nat), .int .i64 (e2 : Nat), .int .i64 (e3 : Nat), .int .i64 0] 28)).drew = wA := ⟨_, rfl⟩
  have hS1 : Below w7.heap.size w7 wA := by rw [← hwA]; exact Below.drew ((Below.refl _ _).alloc (Nat.le_refl _) _)
  have hrowA : wA.heap[w7.heap.size]? = some (.cells #[.int .i64 (e0 : Nat), .int .i64 (e1 : Nat), .int .i64 (e2 : Nat), .int .i64 (e3 : Nat), .int .i64 0] 28 (0, 0)) := by rw [← hwA]; exact heap_alloc_new _ _
  have hcA : ∀ i e, ([e0, e1, e2, e3, 0] : List Nat)[i]? = some e → wA.cell? ⟨w7.heap.size, i, none⟩ = some (.int .i64 (e : Nat)) := fun i e he => by
    match i, he with
    | 0, he => obtain rfl : e0 = e := by simpa using he
               simp [World.cell?, hrowA]
    | 1, he => obtain rfl : e1 = e := by simpa using he
               simp [World.cell?, hrowA]
    | 2, he => obtain rfl : e2 = e := by simpa using he
               simp [World.cell?, hrowA]
    | 3, he => obtain rfl : e3 = e := by simpa using he
               simp [World.cell?, hrowA]
    | 4, he => obtain rfl : 0 = e := by simpa using he
               simp [World.cell?, hrowA]
    | j + 5, he => simp at he
  have HCA := Lib.hid hcA
  rw [hwA]
  clear hcA hrowA hwA
  refine hK.out _ _ hS1 (fun _ => ?_)
  clear hK K
  simp only [List.setIfInBounds_toArray, List.set_cons_zero, List.set_cons_succ]
  refine wpAnyF_one (i := 7) (by kernel_rfl) rfl rfl (fun K hK => ?_)
  go_simp
  refine (rfirst_any [e0, e1, e2, e3, 0] w7.heap.size 5 wA (by simp) HCA.out).mono ?_
  rintro e wB ⟨rfl, hbB⟩
  have hS2 : Below w7.heap.size w7 wB := hS1.trans (Below.mono hbB hS1.size)
  try go_wp2_with fail
  refine hK.out _ _ hS2 (fun _ => ?_)
  clear hK K
  simp only [List.setIfInBounds_toArray, List.set_cons_zero, List.set_cons_succ]
  refine wpAnyF_one (i := 8) (by kernel_rfl) rfl rfl (fun K hK => ?_)
  go_simp
  refine hK.out _ _ hS2 (fun _ => ?_)
  clear hK K
  simp only [List.setIfInBounds_toArray, List.set_cons_zero, List.set_cons_succ]
  have hrowB := (hS2.block g HZ7.out).trans HRW7.out
  obtain ⟨⟨_, i0⟩, ⟨_, i1⟩, ⟨_, i2⟩, ⟨_, i3⟩, ⟨_, i4⟩, ⟨_, i5⟩, ⟨_, i6⟩, ⟨_, i7⟩, fz⟩ := cells_eight hrowB
  refine wpAnyF_last (by kernel_rfl) rfl (fun K hK => ?_)
  go_simp
  refine hK.out _ _ ?_
  clear hK K
  refine wpAnyF_done (by kernel_rfl) ?_ _
  rw [set_eight hrowB]
  clear i0 i1 i2 i3 i4 i5 i6 i7 fz
  go_wp2_with fail
  refine got_row rfl wB _ #[.int .i64 k, .bool st, .int .u64 (ga : Nat), .slice sa sn sc, .bool true, .int .u64 (no : Nat), .int .u64 0, .int .i64 (M.firstE [e0, e1, e2, e3, 0] : Nat)] _ rfl g hrowB _ rfl ?_
  refine ⟨⟨_, rfl, ?_⟩, below_row (HB7.out.trans (hS2.mono HB7.out.size)) (by have := HGE.out; omega) _⟩
  rw [setRow_size]
  exact (HLS.out.kept hS2).rowN (NoTxt.got hrowB) _
end Go.Proofs.YtebjhbeaknokkaaGreatDoor
namespace Go.Proofs.YtebjhbeaknokkaaGreatDoor
open Go Go.RowKit Go.Lib
attribute [local go_sem] Oper.semAt_some

set_option maxHeartbeats 2000000 in
theorem rofN_any (k : Int) (xs : List M.It) (h3 : 3 ≤ xs.length) (h5 : xs.length ≤ 5) (a : Option Addr) (cap : Nat) (w : World) (hL : Lay w w.heap.size xs (.slice a xs.length cap)) :
    Calls Tryz.prog 38 #[.int .i64 k, .slice a xs.length cap] w fun e w' => (∃ v, e = .returned (gotv (M.ofR k xs).1 v (M.ofR k xs).2) ∧ Ls w' w'.heap.size (M.ofR k xs).1.logs v) ∧ Below w.heap.size w w' := by
  match xs, h3, h5, hL with
  | [x0, x1, x2], _, _, hL => exact rof3_any k x0 x1 x2 a cap w hL
  | [x0, x1, x2, x3], _, _, hL => exact rof4_any k x0 x1 x2 x3 a cap w hL
  | [x0, x1, x2, x3, x4], _, _, hL => exact rof5_any k x0 x1 x2 x3 x4 a cap w hL
  | [], h, _, _ => simp at h
  | [_], h, _, _ => simp at h
  | [_, _], h, _, _ => simp at h
  | _ :: _ :: _ :: _ :: _ :: _ :: _, _, h, _ => simp only [List.length_cons] at h; omega
abbrev DrP (s : List UInt8) (w : World) (e : Ending) (w' : World) : Prop := (∃ v, e = .returned (.tuple #[rcv (M.decR s).1 v, .int .i64 ((M.decR s).2 : Nat)]) ∧ Ls w' w'.heap.size (M.decR s).1.logs v) ∧ Below w.heap.size w w'
theorem dec11_zero {fn : Func} (hres : fn.results = #[.cell 2 25, .tmp 3]) (s : List UInt8) (w w1 : World) (tmps : Array Value) (er : Nat) (hd : M.decR s = (M.zeroR, er)) (hB : Below w.heap.size w w1)
    (hrow : ∃ o0 o1 o2 o3 o4 o5 o6, w1.heap[w.heap.size]? = some (.cells #[o0, o1, o2, o3, o4, o5, o6] 25 (0, 0)))
    (h2 : tmps.getD 2 undef = .pointer (some ⟨w.heap.size, 0, none⟩)) (h3 : tmps.getD 3 undef = .int .i64 (er : Nat)) :
    bodyPost Tryz.prog fn (DrP s w) .ret { tmps := tmps, defers := [] } (w1.setRow w.heap.size #[.int .i64 0, .bool false, .int .u64 0, .slice none 0 0, .bool false, .int .u64 0, .int .u64 0]) := by
  obtain ⟨o0, o1, o2, o3, o4, o5, o6, hrow⟩ := hrow
  refine rcd_row hres w1 _ #[.int .i64 0, .bool false, .int .u64 0, .slice none 0 0, .bool false, .int .u64 0, .int .u64 0] _ rfl w.heap.size er hrow _ h2 h3 ?_
  unfold DrP
  rw [hd]
  exact ⟨⟨.slice none 0 0, rfl, .nil_ (by decide)⟩, hB.trans ⟨rfl, rfl, rfl, by rw [setRow_size]; exact Nat.le_refl _, fun i hi => setRow_other _ _ _ _ (by omega)⟩⟩
def D8 (w : World) (g er : Nat) (Y : World) : Prop := Below w.heap.size w Y ∧ (∃ o0 o1 o2 o3 o4 o5 o6, Y.heap[w.heap.size]? = some (.cells #[o0, o1, o2, o3, o4, o5, o6] 25 (0, 0))) ∧ Y.cell? ⟨g, 7, none⟩ = some (.int .i64 (er : Nat))

set_option maxRecDepth 100000 in
set_option maxHeartbeats 8000000 in
theorem rdec11_nil (w : World) : Calls Tryz.prog 16 #[.string ⟨#[]⟩] w (DrP [] w) := by
  have hd := M.decR_bad (s := []) (e := 3) rfl (by decide)
  obtain ⟨w0, hw0⟩ : ∃ w0, w.alloc (.cells #[.int .i64 0, .bool false, .int .u64 0, .slice none 0 0, .bool false, .int .u64 0, .int .u64 0] 25) = w0 := ⟨_, rfl⟩
  have hb0 : Below w.heap.size w w0 := by rw [← hw0]; exact (Below.refl _ _).alloc (Nat.le_refl _) _
  have hrow0 : w0.heap[w.heap.size]? = some (.cells #[.int .i64 0, .bool false, .int .u64 0, .slice none 0 0, .bool false, .int .u64 0, .int .u64 0] 25 (0, 0)) := by rw [← hw0]; exact heap_alloc_new w _
  have hlt0 : w.heap.size < w0.heap.size := by rw [← hw0]; simp
  obtain ⟨⟨_, z0⟩, ⟨_, z1⟩, ⟨_, z2⟩, ⟨_, z3⟩, ⟨_, z4⟩, ⟨_, z5⟩, ⟨_, z6⟩, y4⟩ := cells_seven hrow0
  have HW0 := Lib.hid hw0
  have HB0 := Lib.hid hb0
  have HR0 := Lib.hid hrow0
  clear hw0 hb0 hrow0
  go_enter Tryz.func16, Tryz.ntmps16
  go_wp2_with (rw [HW0.out])
  rw [set_seven HR0.out]
  exact dec11_zero rfl [] w w0 _ 3 hd HB0.out ⟨_, _, _, _, _, _, _, HR0.out⟩ rfl rfl
set_option maxRecDepth 100000 in
set_option maxHeartbeats 8000000 in
theorem rdec11_bad (c : UInt8) (r : List UInt8) (w : World) (hc : c.toNat < 192) (hk : c.toNat = 0 ∨ M.manyK c.toNat = 0) (hkd : (kdOf (c :: r)).2 = 9) : Calls Tryz.prog 16 #[.string ⟨(c :: r).toArray⟩] w (DrP (c :: r) w) := by
  have hd := M.decR_bad (s := c :: r) (e := 9) hkd (by decide)
  have hne : ((⟨(c :: r).toArray⟩ : ByteArray) == ⟨#[]⟩) = false := by rfl
  have hb := wrap_byte c
  have hix : ∀ hk : 0 < (⟨(c :: r).toArray⟩ : ByteArray).size, (⟨(c :: r).toArray⟩ : ByteArray)[0]'hk = c := idx_at (by rfl)
  have hsl := slice_from (c :: r) 1 (by simp)
  rw [List.drop_one, List.tail_cons] at hsl
  have HSL := Lib.hid hsl
  have h1' : ((c.toNat : Nat) : Int) < 192 := by omega
  obtain ⟨w0, hw0⟩ : ∃ w0, w.alloc (.cells #[.int .i64 0, .bool false, .int .u64 0, .slice none 0 0, .bool false, .int .u64 0, .int .u64 0] 25) = w0 := ⟨_, rfl⟩
  have hb0 : Below w.heap.size w w0 := by rw [← hw0]; exact (Below.refl _ _).alloc (Nat.le_refl _) _
  have hrow0 : w0.heap[w.heap.size]? = some (.cells #[.int .i64 0, .bool false, .int .u64 0, .slice none 0 0, .bool false, .int .u64 0, .int .u64 0] 25 (0, 0)) := by rw [← hw0]; exact heap_alloc_new w _
  have hlt0 : w.heap.size < w0.heap.size := by rw [← hw0]; simp
  obtain ⟨⟨_, z0⟩, ⟨_, z1⟩, ⟨_, z2⟩, ⟨_, z3⟩, ⟨_, z4⟩, ⟨_, z5⟩, ⟨_, z6⟩, y4⟩ := cells_seven hrow0
  have HW0 := Lib.hid hw0
  have HB0 := Lib.hid hb0
  have HR0 := Lib.hid hrow0
  clear hw0 hb0 hrow0
  clear hkd hsl
  by_cases h0 : c.toNat = 0
  · have h0' : ((c.toNat : Nat) : Int) = 0 := by omega
    clear hk
    go_enter Tryz.func16, Tryz.ntmps16
    go_wp2_with (first | rw [HW0.out] | rw [HSL.out])
    rw [set_seven HR0.out]
    exact dec11_zero rfl _ w w0 _ 9 hd HB0.out ⟨_, _, _, _, _, _, _, HR0.out⟩ rfl rfl
  · have h0' : ¬ ((c.toNat : Nat) : Int) = 0 := by omega
    have hm := hk.resolve_left h0
    have HM := Lib.hid (rmany_any c.toNat w0)
    rw [hm] at HM
    clear hk hm
    go_enter Tryz.func16, Tryz.ntmps16
    go_wp2_with (first | rw [HW0.out] | rw [HSL.out])
    refine HM.out.mono ?_
    rintro e w1 ⟨rfl, hb1⟩
    have hrow1 := (hb1.block _ hlt0).trans HR0.out
    have hgw := HB0.out.trans (hb1.mono HB0.out.size)
    obtain ⟨⟨_, z0⟩, ⟨_, z1⟩, ⟨_, z2⟩, ⟨_, z3⟩, ⟨_, z4⟩, ⟨_, z5⟩, ⟨_, z6⟩, y4⟩ := cells_seven hrow1
    have HRW := Lib.hid hrow1
    clear hrow1 hb1
    go_wp2_with fail
    rw [set_seven HRW.out]
    exact dec11_zero rfl _ w w1 _ 9 hd hgw ⟨_, _, _, _, _, _, _, HRW.out⟩ rfl rfl
set_option maxRecDepth 100000 in
set_option maxHeartbeats 16000000 in
theorem rdec11_leg (c : UInt8) (r : List UInt8) (w : World) (hc : 192 ≤ c.toNat) (hs : (c :: r).length ≤ 65536) : Calls Tryz.prog 16 #[.string ⟨(c :: r).toArray⟩] w (DrP (c :: r) w) := by
  have mixed : Tryz.prog.follows .mixedOrders = true := by kernel_rfl
  have hne : ((⟨(c :: r).toArray⟩ : ByteArray) == ⟨#[]⟩) = false := by rfl
  have hb := wrap_byte c
  have hix : ∀ hk : 0 < (⟨(c :: r).toArray⟩ : ByteArray).size, (⟨(c :: r).toArray⟩ : ByteArray)[0]'hk = c := idx_at (by rfl)
  have h1' : ¬ ((c.toNat : Nat) : Int) < 192 := by omega
  have hD := M.decR_behind (s := c :: r) (t := c :: r) (k := 0) (by rw [kdOf, if_pos hc]) rfl
  obtain ⟨w0, hw0⟩ : ∃ w0, w.alloc (.cells #[.int .i64 0, .bool false, .int .u64 0, .slice none 0 0, .bool false, .int .u64 0, .int .u64 0] 25) = w0 := ⟨_, rfl⟩
  have hb0 : Below w.heap.size w w0 := by rw [← hw0]; exact (Below.refl _ _).alloc (Nat.le_refl _) _
  have hrow0 : w0.heap[w.heap.size]? = some (.cells #[.int .i64 0, .bool false, .int .u64 0, .slice none 0 0, .bool false, .int .u64 0, .int .u64 0] 25 (0, 0)) := by rw [← hw0]; exact heap_alloc_new w _
  have hlt0 : w.heap.size < w0.heap.size := by rw [← hw0]; simp
  obtain ⟨⟨_, z0⟩, ⟨_, z1⟩, ⟨_, z2⟩, ⟨_, z3⟩, ⟨_, z4⟩, ⟨_, z5⟩, ⟨_, z6⟩, y4⟩ := cells_seven hrow0
  have HW0 := Lib.hid hw0
  have HB0 := Lib.hid hb0
  have HR0 := Lib.hid hrow0
  clear hw0 hb0 hrow0
  have HD5 := Lib.hid ((rdec5_any (c :: r) w0 (by simpa using hs)).mono fun _ _ h => h.ok)
  unfold M.decP at hD
  have HD := Lib.hid hD
  clear hD
  go_enter Tryz.func16, Tryz.ntmps16
  go_wp2_with (first | rw [HW0.out])
  refine HD5.out.mono ?_
  rintro e w1 ⟨l, b, xs, a, cap, rfl, hx, hfr, hb1⟩
  have hrow1 := (hb1.block _ hlt0).trans HR0.out
  have hlt1 : w.heap.size < w1.heap.size := Nat.lt_of_lt_of_le hlt0 hb1.size
  have hg1 := HB0.out.trans (hb1.mono (Nat.le_of_lt hlt0))
  have hd := HD.out
  rw [hx] at hd
  generalize (M.decodeL (c :: r)).2 = er at *
  clear HD HD5 hx
  clear z0 z1 z2 z3 z4 z5 z6 y4
  obtain ⟨w2, hw2⟩ : ∃ w2, w1.alloc (.cells #[.bool l, .string ⟨b.toArray⟩, .slice a xs.length cap] 44) = w2 := ⟨_, rfl⟩
  have hb2 : Below w1.heap.size w1 w2 := by rw [← hw2]; exact (Below.refl _ _).alloc (Nat.le_refl _) _
  have hg2 : w2.heap[w1.heap.size]? = some (.cells #[.bool l, .string ⟨b.toArray⟩, .slice a xs.length cap] 44 (0, 0)) := by rw [← hw2]; exact heap_alloc_new w1 _
  have x0 : w2.cell? ⟨w1.heap.size, 0, none⟩ = some (.bool l) := by simp [World.cell?, hg2]
  have x1 : w2.cell? ⟨w1.heap.size, 1, none⟩ = some (.string ⟨b.toArray⟩) := by simp [World.cell?, hg2]
  have x2 : w2.cell? ⟨w1.heap.size, 2, none⟩ = some (.slice a xs.length cap) := by simp [World.cell?, hg2]
  have hrow2 := (hb2.block _ hlt1).trans hrow1
  have hgw2 := hg1.trans (hb2.mono (Nat.le_of_lt hlt1))
  have hlt2 : w.heap.size < w2.heap.size := Nat.lt_of_lt_of_le hlt1 hb2.size
  have hL2 := (hfr.lay).keptW hb2
  have HW2 := Lib.hid hw2
  have HR2 := Lib.hid hrow2
  have HG2 := Lib.hid hgw2
  have HL2 := Lib.hid hL2
  clear hw2 hg2 hrow1 hfr hg1 hL2 hb1
  obtain ⟨⟨_, z0⟩, ⟨_, z1⟩, ⟨_, z2⟩, ⟨_, z3⟩, ⟨_, z4⟩, ⟨_, z5⟩, ⟨_, z6⟩, y4⟩ := cells_seven hrow2
  clear hrow2 hgw2 hb2
  by_cases her : er = 0
  · subst her
    rw [if_neg (by simp)] at hd
    have HG := Lib.hid (rgl_any l b xs a cap 3 3 w2)
    have HD := Lib.hid hd
    clear hd
    go_wp2_with (rw [HW2.out])
    refine HG.out.mono ?_
    rintro e w3 ⟨rfl, hb3⟩
    have hd := HD.out
    rw [show ((M.mostP (0) : Nat) : Int) = 3 from rfl] at hd
    have hok := @M.getList_ok 3 3 (.mk l b xs)
    have hln := @M.getList_len 3 3 (.mk l b xs)
    generalize M.getList 3 3 (.mk l b xs) = q at *
    obtain ⟨ys, f⟩ := q
    dsimp only at hd hok hln
    have hrow3 := (hb3.block _ hlt2).trans HR2.out
    have hgw3 := HG2.out.trans (hb3.mono (Nat.le_of_lt hlt2))
    have hlt3 : w.heap.size < w3.heap.size := Nat.lt_of_lt_of_le hlt2 hb3.size
    have hL3 := HL2.out.keptW hb3
    clear HG HD z0 z1 z2 z3 z4 z5 z6 y4
    obtain ⟨⟨_, z0⟩, ⟨_, z1⟩, ⟨_, z2⟩, ⟨_, z3⟩, ⟨_, z4⟩, ⟨_, z5⟩, ⟨_, z6⟩, y4⟩ := cells_seven hrow3
    have HR3 := Lib.hid hrow3
    have HG3 := Lib.hid hgw3
    have HL3 := Lib.hid hL3
    clear hrow3 hgw3 hL3 hb3 x0 x1 x2
    by_cases hf : f = 0
    · subst hf
      obtain ⟨_, _, hxe, hys⟩ := hok rfl
      cases hxe
      subst hys
      obtain ⟨l1, l2⟩ := hln rfl
      rw [if_neg (by simp)] at hd
      have HO := Lib.hid (rofN_any 0 ys (by omega) (by omega) a cap w3 HL3.out)
      generalize M.ofR 0 ys = p at *
      obtain ⟨⟨k1, st, ga, ls, fu, no, ve⟩, n⟩ := p
      dsimp only at hd HO
      have HD := Lib.hid hd
      clear hd hok hln l1 l2
      go_wp2_with fail
      refine HO.out.mono ?_
      rintro e w4 ⟨⟨v, rfl, L4⟩, hb4⟩
      obtain ⟨av, cv, rfl, _, _⟩ := L4.slice
      have hrow4 := (hb4.block _ hlt3).trans HR3.out
      have hgw4 := HG3.out.trans (hb4.mono (Nat.le_of_lt hlt3))
      have hlt4 : w.heap.size < w4.heap.size := Nat.lt_of_lt_of_le hlt3 hb4.size
      clear z0 z1 z2 z3 z4 z5 z6 y4
      obtain ⟨w5, hw5⟩ : ∃ w5, w4.alloc (.cells #[.int .i64 k1, .bool st, .int .u64 (ga : Nat), .slice av ls.length cv, .bool fu, .int .u64 (no : Nat), .int .u64 (ve : Nat), .int .i64 (n : Nat)] 70) = w5 := ⟨_, rfl⟩
      have hb5 : Below w4.heap.size w4 w5 := by rw [← hw5]; exact (Below.refl _ _).alloc (Nat.le_refl _) _
      have g5 : w5.heap[w4.heap.size]? = some (.cells #[.int .i64 k1, .bool st, .int .u64 (ga : Nat), .slice av ls.length cv, .bool fu, .int .u64 (no : Nat), .int .u64 (ve : Nat), .int .i64 (n : Nat)] 70 (0, 0)) := by rw [← hw5]; exact heap_alloc_new w4 _
      have hrow5 := (hb5.block _ hlt4).trans hrow4
      have hgw5 := hgw4.trans (hb5.mono (Nat.le_of_lt hlt4))
      have c0 : w5.cell? ⟨w4.heap.size, 0, none⟩ = some (.int .i64 k1) := by simp [World.cell?, g5]
      have c1 : w5.cell? ⟨w4.heap.size, 1, none⟩ = some (.bool st) := by simp [World.cell?, g5]
      have c2 : w5.cell? ⟨w4.heap.size, 2, none⟩ = some (.int .u64 (ga : Nat)) := by simp [World.cell?, g5]
      have c3 : w5.cell? ⟨w4.heap.size, 3, none⟩ = some (.slice av ls.length cv) := by simp [World.cell?, g5]
      have c4 : w5.cell? ⟨w4.heap.size, 4, none⟩ = some (.bool fu) := by simp [World.cell?, g5]
      have c5 : w5.cell? ⟨w4.heap.size, 5, none⟩ = some (.int .u64 (no : Nat)) := by simp [World.cell?, g5]
      have c6 : w5.cell? ⟨w4.heap.size, 6, none⟩ = some (.int .u64 (ve : Nat)) := by simp [World.cell?, g5]
      have c7 : w5.cell? ⟨w4.heap.size, 7, none⟩ = some (.int .i64 (n : Nat)) := by simp [World.cell?, g5]
      obtain ⟨⟨_, z0⟩, ⟨_, z1⟩, ⟨_, z2⟩, ⟨_, z3⟩, ⟨_, z4⟩, ⟨_, z5⟩, ⟨_, z6⟩, y4⟩ := cells_seven hrow5
      have HL5 := Lib.hid (L4.kept hb5)
      have HR5 := Lib.hid hrow5
      have HG5 := Lib.hid hgw5
      have HW5 := Lib.hid hw5
      clear hrow4 hgw4 hrow5 hgw5 L4 hb4 hb5 g5 hw5 HO
      by_cases hn : n = 0
      · subst hn
        have hd := HD.out
        rw [if_neg (by simp)] at hd
        have HDD := Lib.hid hd
        have hwz : w4.alloc (.cells #[.int .i64 k1, .bool st, .int .u64 (ga : Nat), .slice av ls.length cv, .bool fu, .int .u64 (no : Nat), .int .u64 (ve : Nat), .int .i64 0] 70) = w5 := HW5.out
        have HWZ := Lib.hid hwz
        have c7' : w5.cell? ⟨w4.heap.size, 7, none⟩ = some (.int .i64 0) := c7
        clear hd HD hwz HW5 c7
        go_wp2_with (rw [HWZ.out])
        rw [set_seven HR5.out]
        refine rcd_row rfl w5 _ #[.int .i64 k1, .bool st, .int .u64 (ga : Nat), .slice av ls.length cv, .bool fu, .int .u64 (no : Nat), .int .u64 (ve : Nat)] _ rfl w.heap.size 0 HR5.out _ rfl rfl ?_
        unfold DrP
        rw [HDD.out]
        refine ⟨⟨_, rfl, ?_⟩, HG5.out.trans ⟨rfl, rfl, rfl, by rw [setRow_size]; exact Nat.le_refl _, fun i hi => setRow_other _ _ _ _ (by omega)⟩⟩
        rw [setRow_size]
        exact HL5.out.rowN (NoTxt.rc rfl HR5.out) _
      · have hn' : ¬ ((n : Nat) : Int) = 0 := by omega
        have hd := HD.out
        rw [if_pos hn] at hd
        have HDD := Lib.hid hd
        clear hd HD z0 z1 z2 z3 z4 z5 z6
        go_wp2_with (rw [HW5.out])
        refine wp_region_held (S := D8 w w4.heap.size n) mixed ?_
        have hS0 : D8 w w4.heap.size n w5.drew := ⟨HG5.out.drew, ⟨_, _, _, _, _, _, _, HR5.out⟩, c7⟩
        rw [show Array.replicate (Array.size _) false = #[false, false, false, false, false] from rfl, show Array.size (α := Oper) _ = 5 from rfl]
        refine wpAnyH_take (i := 0) (v := .agg #[.int .i64 0, .bool false, .int .u64 0, .slice none 0 0, .bool false, .int .u64 0, .int .u64 0]) rfl (by kernel_rfl) (by kernel_rfl) (by kernel_rfl) (fun _ _ _ h => h) (Or.inl ⟨by rfl, ?_⟩) hS0 ?_
        · intro Y hY
          skip
          go_simp
        simp only [Act.put, zqA, zqC, zqD, zqE, zqF]
        refine wpAnyH_take (i := 1) (v := .pointer (some ⟨w4.heap.size, 7, none⟩)) rfl (by kernel_rfl) (by kernel_rfl) (by kernel_rfl) (fun _ _ _ h => h) (Or.inl ⟨by rfl, ?_⟩) hS0 ?_
        · intro Y hY
          skip
          go_simp
        simp only [Act.put, zqA, zqB, zqC, zqD, zqE, zqF]
        refine wpAnyH_take (i := 2) (v := .int .i64 (n : Nat)) rfl (by kernel_rfl) (by kernel_rfl) (by kernel_rfl) (fun _ _ _ h => h) (Or.inl ⟨by rfl, ?_⟩) hS0 ?_
        · intro Y hY
          have c4 := hY.2.2
          go_simp
        simp only [Act.put, zqA, zqB, zqC, zqD, zqE, zqF]
        refine wpAnyH_ready (rs := [3]) (by kernel_rfl) (by simp) ?_
        refine AllReadyH.cons rfl (fun K hK => ?_) AllReadyH.nil
        have hrowD : w5.drew.heap[w.heap.size]? = _ := HR5.out
        obtain ⟨⟨_, z0⟩, ⟨_, z1⟩, ⟨_, z2⟩, ⟨_, z3⟩, ⟨_, z4⟩, ⟨_, z5⟩, ⟨_, z6⟩, y4⟩ := cells_seven HR5.out
        go_simp
        rw [set_seven HR5.out]
        have hS5 : D8 w w4.heap.size n (w5.drew.setRow w.heap.size #[.int .i64 0, .bool false, .int .u64 0, .slice none 0 0, .bool false, .int .u64 0, .int .u64 0]) := ⟨HG5.out.drew.trans ⟨rfl, rfl, rfl, by simp, fun j hj => setRow_other _ _ _ _ (by omega)⟩, ⟨_, _, _, _, _, _, _, setRow_heap _ _ _ _ _ (0, 0) hrowD⟩, by
          rw [World.cell?_of_block (a := ⟨w4.heap.size, 7, none⟩) (setRow_other _ _ _ _ (show w4.heap.size ≠ w.heap.size by omega))]
          exact c7⟩
        refine hK.out _ _ hS5 (fun _ => ?_)
        clear hK K
        simp only [List.setIfInBounds_toArray, List.set_cons_zero, List.set_cons_succ]
        refine wpAnyH_take (i := 4) (v := .int .i64 (n : Nat)) rfl (by kernel_rfl) (by kernel_rfl) (by kernel_rfl) (fun _ _ _ h => h) (Or.inl ⟨by rfl, ?_⟩) hS5 ?_
        · intro Y hY
          skip
          go_simp
        simp only [Act.put, zqA, zqB, zqC, zqD, zqE, zqF]
        refine wpAnyH_done (by kernel_rfl) ?_ _
        go_wp2_with fail
        show bodyPost _ _ _ .ret _ (w5.drew.setRow w.heap.size #[.int .i64 0, .bool false, .int .u64 0, .slice none 0 0, .bool false, .int .u64 0, .int .u64 0])
        exact dec11_zero rfl _ w w5.drew _ n HDD.out HG5.out.drew ⟨_, _, _, _, _, _, _, hrowD⟩ rfl rfl
    · have hf' : ¬ ((f : Nat) : Int) = 0 := by omega
      have hv : (if f = 0 then Value.slice a xs.length cap else .slice none 0 0) = .slice none 0 0 := if_neg hf
      rw [if_pos hf] at hd
      have HDD := Lib.hid hd
      clear hd hok hln
      go_wp2_with fail
      rw [set_seven HR3.out]
      exact dec11_zero rfl _ w w3 _ f HDD.out HG3.out ⟨_, _, _, _, _, _, _, HR3.out⟩ rfl rfl
  · have her' : ¬ ((er : Nat) : Int) = 0 := by omega
    rw [if_pos her] at hd
    have HDD := Lib.hid hd
    clear hd
    go_wp2_with (rw [HW2.out])
    rw [set_seven HR2.out]
    exact dec11_zero rfl _ w w2 _ er HDD.out HG2.out ⟨_, _, _, _, _, _, _, HR2.out⟩ rfl rfl
end Go.Proofs.YtebjhbeaknokkaaGreatDoor
namespace Go.Proofs.YtebjhbeaknokkaaGreatDoor
open Go Go.RowKit Go.Lib
attribute [local go_sem] Oper.semAt_some

set_option maxRecDepth 100000 in
set_option maxHeartbeats 16000000 in
theorem rdec11_typ (c : UInt8) (r : List UInt8) (w : World) (hc : c.toNat < 192) (hc0 : c.toNat ≠ 0) (hk : M.manyK (c.toNat : Nat) ≠ 0) (hc6 : c.toNat ≠ 126) (hkd : kdOf (c :: r) = (c.toNat, 0)) (hs : (c :: r).length ≤ 65536) : Calls Tryz.prog 16 #[.string ⟨(c :: r).toArray⟩] w (DrP (c :: r) w) := by
  have mixed : Tryz.prog.follows .mixedOrders = true := by kernel_rfl
  have hne : ((⟨(c :: r).toArray⟩ : ByteArray) == ⟨#[]⟩) = false := by rfl
  have hb := wrap_byte c
  have hix : ∀ hk : 0 < (⟨(c :: r).toArray⟩ : ByteArray).size, (⟨(c :: r).toArray⟩ : ByteArray)[0]'hk = c := idx_at (by rfl)
  have hsl := slice_from (c :: r) 1 (by simp)
  rw [List.drop_one, List.tail_cons] at hsl
  have HSL := Lib.hid hsl
  clear hsl
  have hext : (⟨(c :: r).toArray⟩ : ByteArray).extract 1 (r.length + 1) = ⟨r.toArray⟩ := by rw [cutS]; simp
  have h1' : ((c.toNat : Nat) : Int) < 192 := by omega
  have h0' : ¬ ((c.toNat : Nat) : Int) = 0 := by omega
  have hs' : r.length ≤ 65536 := by simp only [List.length_cons] at hs; omega
  have hmk : M.manyK (c.toNat : Nat) ≠ 0 := hk
  have hD := M.decR_behind (s := c :: r) (t := r) (k := c.toNat) hkd (by rw [M.headR, if_neg h0']; rfl)
  have h26 : ¬ ((c.toNat : Nat) : Int) = 126 := by omega
  have hmp : ((M.mostP c.toNat : Nat) : Int) = 3 := by rw [M.mostP, if_neg hc6]; rfl
  obtain ⟨w0, hw0⟩ : ∃ w0, w.alloc (.cells #[.int .i64 0, .bool false, .int .u64 0, .slice none 0 0, .bool false, .int .u64 0, .int .u64 0] 25) = w0 := ⟨_, rfl⟩
  have hb0 : Below w.heap.size w w0 := by rw [← hw0]; exact (Below.refl _ _).alloc (Nat.le_refl _) _
  have hrow0 : w0.heap[w.heap.size]? = some (.cells #[.int .i64 0, .bool false, .int .u64 0, .slice none 0 0, .bool false, .int .u64 0, .int .u64 0] 25 (0, 0)) := by rw [← hw0]; exact heap_alloc_new w _
  have hlt0 : w.heap.size < w0.heap.size := by rw [← hw0]; simp
  obtain ⟨⟨_, z0⟩, ⟨_, z1⟩, ⟨_, z2⟩, ⟨_, z3⟩, ⟨_, z4⟩, ⟨_, z5⟩, ⟨_, z6⟩, y4⟩ := cells_seven hrow0
  have HW0 := Lib.hid hw0
  have HB0 := Lib.hid hb0
  have HR0 := Lib.hid hrow0
  clear hw0 hb0 hrow0
  have HM := Lib.hid (rmany_any ((c.toNat : Nat) : Int) w0)
  generalize M.manyK ((c.toNat : Nat) : Int) = m at *
  unfold M.decP at hD
  have HD := Lib.hid hD
  clear hD
  go_enter Tryz.func16, Tryz.ntmps16
  go_wp2_with (first | rw [HW0.out] | rw [HSL.out])
  refine HM.out.mono ?_
  rintro e wm ⟨rfl, hbm⟩
  have hmz : ¬ ((m : Nat) : Int) = 0 := by omega
  have hmz1 : (((m : Nat) : Int) == 0) = false := by simp [hmk]
  have hrowm := (hbm.block _ hlt0).trans HR0.out
  have hgm := HB0.out.trans (hbm.mono (Nat.le_of_lt hlt0))
  have hltm : w.heap.size < wm.heap.size := Nat.lt_of_lt_of_le hlt0 hbm.size
  have HD5 := Lib.hid ((rdec5_any (r) wm hs').mono fun _ _ h => h.ok)
  have HRM := Lib.hid hrowm
  have HGM := Lib.hid hgm
  clear hrowm hgm hbm
  go_wp2_with fail
  refine HD5.out.mono ?_
  rintro e w1 ⟨l, b, xs, a, cap, rfl, hx, hfr, hb1⟩
  have hrow1 := (hb1.block _ hltm).trans HRM.out
  have hlt1 : w.heap.size < w1.heap.size := Nat.lt_of_lt_of_le hltm hb1.size
  have hg1 := HGM.out.trans (hb1.mono (Nat.le_of_lt hltm))
  have hd := HD.out
  rw [hx] at hd
  generalize (M.decodeL (r)).2 = er at *
  clear HD HD5 hx
  clear z0 z1 z2 z3 z4 z5 z6 y4
  obtain ⟨w2, hw2⟩ : ∃ w2, w1.alloc (.cells #[.bool l, .string ⟨b.toArray⟩, .slice a xs.length cap] 44) = w2 := ⟨_, rfl⟩
  have hb2 : Below w1.heap.size w1 w2 := by rw [← hw2]; exact (Below.refl _ _).alloc (Nat.le_refl _) _
  have hg2 : w2.heap[w1.heap.size]? = some (.cells #[.bool l, .string ⟨b.toArray⟩, .slice a xs.length cap] 44 (0, 0)) := by rw [← hw2]; exact heap_alloc_new w1 _
  have x0 : w2.cell? ⟨w1.heap.size, 0, none⟩ = some (.bool l) := by simp [World.cell?, hg2]
  have x1 : w2.cell? ⟨w1.heap.size, 1, none⟩ = some (.string ⟨b.toArray⟩) := by simp [World.cell?, hg2]
  have x2 : w2.cell? ⟨w1.heap.size, 2, none⟩ = some (.slice a xs.length cap) := by simp [World.cell?, hg2]
  have hrow2 := (hb2.block _ hlt1).trans hrow1
  have hgw2 := hg1.trans (hb2.mono (Nat.le_of_lt hlt1))
  have hlt2 : w.heap.size < w2.heap.size := Nat.lt_of_lt_of_le hlt1 hb2.size
  have hL2 := (hfr.lay).keptW hb2
  have HW2 := Lib.hid hw2
  have HR2 := Lib.hid hrow2
  have HG2 := Lib.hid hgw2
  have HL2 := Lib.hid hL2
  clear hw2 hg2 hrow1 hfr hg1 hL2 hb1
  obtain ⟨⟨_, z0⟩, ⟨_, z1⟩, ⟨_, z2⟩, ⟨_, z3⟩, ⟨_, z4⟩, ⟨_, z5⟩, ⟨_, z6⟩, y4⟩ := cells_seven hrow2
  clear hrow2 hgw2 hb2
  by_cases her : er = 0
  · subst her
    rw [if_neg (by simp)] at hd
    have HG := Lib.hid (rgl_any l b xs a cap 3 3 w2)
    have HD := Lib.hid hd
    clear hd
    go_wp2_with (rw [HW2.out])
    refine HG.out.mono ?_
    rintro e w3 ⟨rfl, hb3⟩
    have hd := HD.out
    rw [show ((M.mostP (c.toNat) : Nat) : Int) = 3 from hmp] at hd
    have hok := @M.getList_ok 3 3 (.mk l b xs)
    have hln := @M.getList_len 3 3 (.mk l b xs)
    generalize M.getList 3 3 (.mk l b xs) = q at *
    obtain ⟨ys, f⟩ := q
    dsimp only at hd hok hln
    have hrow3 := (hb3.block _ hlt2).trans HR2.out
    have hgw3 := HG2.out.trans (hb3.mono (Nat.le_of_lt hlt2))
    have hlt3 : w.heap.size < w3.heap.size := Nat.lt_of_lt_of_le hlt2 hb3.size
    have hL3 := HL2.out.keptW hb3
    clear HG HD z0 z1 z2 z3 z4 z5 z6 y4
    obtain ⟨⟨_, z0⟩, ⟨_, z1⟩, ⟨_, z2⟩, ⟨_, z3⟩, ⟨_, z4⟩, ⟨_, z5⟩, ⟨_, z6⟩, y4⟩ := cells_seven hrow3
    have HR3 := Lib.hid hrow3
    have HG3 := Lib.hid hgw3
    have HL3 := Lib.hid hL3
    clear hrow3 hgw3 hL3 hb3 x0 x1 x2
    by_cases hf : f = 0
    · subst hf
      obtain ⟨_, _, hxe, hys⟩ := hok rfl
      cases hxe
      subst hys
      obtain ⟨l1, l2⟩ := hln rfl
      rw [if_neg (by simp)] at hd
      have HO := Lib.hid (rofN_any ((c.toNat : Nat) : Int) ys (by omega) (by omega) a cap w3 HL3.out)
      generalize M.ofR ((c.toNat : Nat) : Int) ys = p at *
      obtain ⟨⟨k1, st, ga, ls, fu, no, ve⟩, n⟩ := p
      dsimp only at hd HO
      have HD := Lib.hid hd
      clear hd hok hln l1 l2
      go_wp2_with fail
      refine HO.out.mono ?_
      rintro e w4 ⟨⟨v, rfl, L4⟩, hb4⟩
      obtain ⟨av, cv, rfl, _, _⟩ := L4.slice
      have hrow4 := (hb4.block _ hlt3).trans HR3.out
      have hgw4 := HG3.out.trans (hb4.mono (Nat.le_of_lt hlt3))
      have hlt4 : w.heap.size < w4.heap.size := Nat.lt_of_lt_of_le hlt3 hb4.size
      clear z0 z1 z2 z3 z4 z5 z6 y4
      obtain ⟨w5, hw5⟩ : ∃ w5, w4.alloc (.cells #[.int .i64 k1, .bool st, .int .u64 (ga : Nat), .slice av ls.length cv, .bool fu, .int .u64 (no : Nat), .int .u64 (ve : Nat), .int .i64 (n : Nat)] 70) = w5 := ⟨_, rfl⟩
      have hb5 : Below w4.heap.size w4 w5 := by rw [← hw5]; exact (Below.refl _ _).alloc (Nat.le_refl _) _
      have g5 : w5.heap[w4.heap.size]? = some (.cells #[.int .i64 k1, .bool st, .int .u64 (ga : Nat), .slice av ls.length cv, .bool fu, .int .u64 (no : Nat), .int .u64 (ve : Nat), .int .i64 (n : Nat)] 70 (0, 0)) := by rw [← hw5]; exact heap_alloc_new w4 _
      have hrow5 := (hb5.block _ hlt4).trans hrow4
      have hgw5 := hgw4.trans (hb5.mono (Nat.le_of_lt hlt4))
      have c0 : w5.cell? ⟨w4.heap.size, 0, none⟩ = some (.int .i64 k1) := by simp [World.cell?, g5]
      have c1 : w5.cell? ⟨w4.heap.size, 1, none⟩ = some (.bool st) := by simp [World.cell?, g5]
      have c2 : w5.cell? ⟨w4.heap.size, 2, none⟩ = some (.int .u64 (ga : Nat)) := by simp [World.cell?, g5]
      have c3 : w5.cell? ⟨w4.heap.size, 3, none⟩ = some (.slice av ls.length cv) := by simp [World.cell?, g5]
      have c4 : w5.cell? ⟨w4.heap.size, 4, none⟩ = some (.bool fu) := by simp [World.cell?, g5]
      have c5 : w5.cell? ⟨w4.heap.size, 5, none⟩ = some (.int .u64 (no : Nat)) := by simp [World.cell?, g5]
      have c6 : w5.cell? ⟨w4.heap.size, 6, none⟩ = some (.int .u64 (ve : Nat)) := by simp [World.cell?, g5]
      have c7 : w5.cell? ⟨w4.heap.size, 7, none⟩ = some (.int .i64 (n : Nat)) := by simp [World.cell?, g5]
      obtain ⟨⟨_, z0⟩, ⟨_, z1⟩, ⟨_, z2⟩, ⟨_, z3⟩, ⟨_, z4⟩, ⟨_, z5⟩, ⟨_, z6⟩, y4⟩ := cells_seven hrow5
      have HL5 := Lib.hid (L4.kept hb5)
      have HR5 := Lib.hid hrow5
      have HG5 := Lib.hid hgw5
      have HW5 := Lib.hid hw5
      clear hrow4 hgw4 hrow5 hgw5 L4 hb4 hb5 g5 hw5 HO
      by_cases hn : n = 0
      · subst hn
        have hd := HD.out
        rw [if_neg (by simp)] at hd
        have HDD := Lib.hid hd
        have hwz : w4.alloc (.cells #[.int .i64 k1, .bool st, .int .u64 (ga : Nat), .slice av ls.length cv, .bool fu, .int .u64 (no : Nat), .int .u64 (ve : Nat), .int .i64 0] 70) = w5 := HW5.out
        have HWZ := Lib.hid hwz
        have c7' : w5.cell? ⟨w4.heap.size, 7, none⟩ = some (.int .i64 0) := c7
        clear hd HD hwz HW5 c7
        go_wp2_with (rw [HWZ.out])
        rw [set_seven HR5.out]
        refine rcd_row rfl w5 _ #[.int .i64 k1, .bool st, .int .u64 (ga : Nat), .slice av ls.length cv, .bool fu, .int .u64 (no : Nat), .int .u64 (ve : Nat)] _ rfl w.heap.size 0 HR5.out _ rfl rfl ?_
        unfold DrP
        rw [HDD.out]
        refine ⟨⟨_, rfl, ?_⟩, HG5.out.trans ⟨rfl, rfl, rfl, by rw [setRow_size]; exact Nat.le_refl _, fun i hi => setRow_other _ _ _ _ (by omega)⟩⟩
        rw [setRow_size]
        exact HL5.out.rowN (NoTxt.rc rfl HR5.out) _
      · have hn' : ¬ ((n : Nat) : Int) = 0 := by omega
        have hd := HD.out
        rw [if_pos hn] at hd
        have HDD := Lib.hid hd
        clear hd HD z0 z1 z2 z3 z4 z5 z6
        go_wp2_with (rw [HW5.out])
        refine wp_region_held (S := D8 w w4.heap.size n) mixed ?_
        have hS0 : D8 w w4.heap.size n w5.drew := ⟨HG5.out.drew, ⟨_, _, _, _, _, _, _, HR5.out⟩, c7⟩
        rw [show Array.replicate (Array.size _) false = #[false, false, false, false, false] from rfl, show Array.size (α := Oper) _ = 5 from rfl]
        refine wpAnyH_take (i := 0) (v := .agg #[.int .i64 0, .bool false, .int .u64 0, .slice none 0 0, .bool false, .int .u64 0, .int .u64 0]) rfl (by kernel_rfl) (by kernel_rfl) (by kernel_rfl) (fun _ _ _ h => h) (Or.inl ⟨by rfl, ?_⟩) hS0 ?_
        · intro Y hY
          skip
          go_simp
        simp only [Act.put, zqA, zqC, zqD, zqE, zqF]
        refine wpAnyH_take (i := 1) (v := .pointer (some ⟨w4.heap.size, 7, none⟩)) rfl (by kernel_rfl) (by kernel_rfl) (by kernel_rfl) (fun _ _ _ h => h) (Or.inl ⟨by rfl, ?_⟩) hS0 ?_
        · intro Y hY
          skip
          go_simp
        simp only [Act.put, zqA, zqB, zqC, zqD, zqE, zqF]
        refine wpAnyH_take (i := 2) (v := .int .i64 (n : Nat)) rfl (by kernel_rfl) (by kernel_rfl) (by kernel_rfl) (fun _ _ _ h => h) (Or.inl ⟨by rfl, ?_⟩) hS0 ?_
        · intro Y hY
          have c4 := hY.2.2
          go_simp
        simp only [Act.put, zqA, zqB, zqC, zqD, zqE, zqF]
        refine wpAnyH_ready (rs := [3]) (by kernel_rfl) (by simp) ?_
        refine AllReadyH.cons rfl (fun K hK => ?_) AllReadyH.nil
        have hrowD : w5.drew.heap[w.heap.size]? = _ := HR5.out
        obtain ⟨⟨_, z0⟩, ⟨_, z1⟩, ⟨_, z2⟩, ⟨_, z3⟩, ⟨_, z4⟩, ⟨_, z5⟩, ⟨_, z6⟩, y4⟩ := cells_seven HR5.out
        go_simp
        rw [set_seven HR5.out]
        have hS5 : D8 w w4.heap.size n (w5.drew.setRow w.heap.size #[.int .i64 0, .bool false, .int .u64 0, .slice none 0 0, .bool false, .int .u64 0, .int .u64 0]) := ⟨HG5.out.drew.trans ⟨rfl, rfl, rfl, by simp, fun j hj => setRow_other _ _ _ _ (by omega)⟩, ⟨_, _, _, _, _, _, _, setRow_heap _ _ _ _ _ (0, 0) hrowD⟩, by
          rw [World.cell?_of_block (a := ⟨w4.heap.size, 7, none⟩) (setRow_other _ _ _ _ (show w4.heap.size ≠ w.heap.size by omega))]
          exact c7⟩
        refine hK.out _ _ hS5 (fun _ => ?_)
        clear hK K
        simp only [List.setIfInBounds_toArray, List.set_cons_zero, List.set_cons_succ]
        refine wpAnyH_take (i := 4) (v := .int .i64 (n : Nat)) rfl (by kernel_rfl) (by kernel_rfl) (by kernel_rfl) (fun _ _ _ h => h) (Or.inl ⟨by rfl, ?_⟩) hS5 ?_
        · intro Y hY
          skip
          go_simp
        simp only [Act.put, zqA, zqB, zqC, zqD, zqE, zqF]
        refine wpAnyH_done (by kernel_rfl) ?_ _
        go_wp2_with fail
        show bodyPost _ _ _ .ret _ (w5.drew.setRow w.heap.size #[.int .i64 0, .bool false, .int .u64 0, .slice none 0 0, .bool false, .int .u64 0, .int .u64 0])
        exact dec11_zero rfl _ w w5.drew _ n HDD.out HG5.out.drew ⟨_, _, _, _, _, _, _, hrowD⟩ rfl rfl
    · have hf' : ¬ ((f : Nat) : Int) = 0 := by omega
      have hv : (if f = 0 then Value.slice a xs.length cap else .slice none 0 0) = .slice none 0 0 := if_neg hf
      rw [if_pos hf] at hd
      have HDD := Lib.hid hd
      clear hd hok hln
      go_wp2_with fail
      rw [set_seven HR3.out]
      exact dec11_zero rfl _ w w3 _ f HDD.out HG3.out ⟨_, _, _, _, _, _, _, HR3.out⟩ rfl rfl
  · have her' : ¬ ((er : Nat) : Int) = 0 := by omega
    rw [if_pos her] at hd
    have HDD := Lib.hid hd
    clear hd
    go_wp2_with (rw [HW2.out])
    rw [set_seven HR2.out]
    exact dec11_zero rfl _ w w2 _ er HDD.out HG2.out ⟨_, _, _, _, _, _, _, HR2.out⟩ rfl rfl
end Go.Proofs.YtebjhbeaknokkaaGreatDoor
