/- The landed package field: items copied. The landed package field: copied, of items that are bytes; List, GetList. The landed package field: items of any depth, copied. The landed package field: List, and GetList, of any items. -/
import Derived.Test.YtihiacbhdcahkaaGreatDoorH14
import Derived.Test.YtihiacbhdcahkaaGreatDoorH15
import Derived.Lib.SliceRun
namespace Go.Proofs.YtihiacbhdcahkaaGreatDoor
open Go Go.RowKit

theorem wpList_append_run {P : Program} {ops : Array Oper} {rest : List Oper} {o : Oper} {a : Act} {w w' : World} {Q : Exit → Act → World → Prop} (hgd : o.guard = none) (s x : Operand) (ats : Array TypeId)
    (ho : o.op = .call { callee := .builtin .append, args := #[s, x], argTypes := ats }) (v u v' : Value) (hs : a.eval s = v) (hx : a.eval x = u) (hr : (Builtin.append_ ats o.type #[v, u]).run P w = .ok v' w')
    (h : wpList P ops Q rest (a.put o.dst v') w') : wpList P ops Q (o :: rest) a w := by
  refine wpList_plain hgd fun _ hK => ?_
  unfold Oper.wp execOp
  simp only [ho, resolve, invoke, builtin, Sem.run_bind, Sem.run_pure, Result.andThen_ok, List.map_toArray, List.map_cons, List.map_nil, hs, hx, hr]
  exact hK _ _ h

/-- What lies in cells: items that are bytes. -/
def Tx (cur : Array Value) (ls : List (List UInt8)) : Prop := ∀ i s, ls[i]? = some s → cur[i * 3]? = some (.bool false) ∧ cur[i * 3 + 1]? = some (.string ⟨s.toArray⟩) ∧ ∃ a cap, cur[i * 3 + 2]? = some (.slice a 0 cap) ∧ cap ≤ maxLen

theorem nil_is (w : World) (a : Option Addr) (n c : Nat) : (binOp .eql 43 (.slice a n c) (.slice none 0 0)).run Tryz.prog w = .ok (.bool a.isNone) w :=
  Lib.run_eql_slice_nil w 43 45 a n c 0 0 Tryz.underlying43

set_option maxRecDepth 100000 in
set_option maxHeartbeats 4000000 in
theorem clone_none (a : Option Addr) (cap : Nat) (w : World) : Calls Tryz.prog 132 #[.slice a 0 cap] w fun e w' => (∃ a' cap', e = .returned (.slice a' 0 cap') ∧ cap' ≤ maxLen) ∧ Below w.heap.size w w' := by
  cases a with
  | none =>
    have HE := fun W => nil_is W none 0 cap
    simp only [Option.isNone] at HE
    go_enter Tryz.func132, Tryz.ntmps132
    go_wp2_with fail
    go_ret
    exact ⟨⟨_, _, rfl, by decide⟩, Below.refl _ _⟩
  | some b =>
    have HE := fun W => nil_is W (some b) 0 cap
    simp only [Option.isNone] at HE
    go_enter Tryz.func132, Tryz.ntmps132
    go_wp2_with fail
    go_ret
    exact ⟨⟨_, _, rfl, by decide⟩, (Below.refl _ w).alloc (Nat.le_refl _) _⟩

theorem three {P : Nat → Prop} {n : Nat} (h : ∀ i, i < n → P (i * 3) ∧ P (i * 3 + 1) ∧ P (i * 3 + 2)) : ∀ j, j < n * 3 → P j := by
  intro j hj
  obtain ⟨h0, h1, h2⟩ := h (j / 3) (by omega)
  have : j % 3 = 0 ∨ j % 3 = 1 ∨ j % 3 = 2 := by omega
  rcases this with e | e | e
  · rw [show j = j / 3 * 3 by omega]; exact h0
  · rw [show j = j / 3 * 3 + 1 by omega]; exact h1
  · rw [show j = j / 3 * 3 + 2 by omega]; exact h2

/-- Cells one behind the other. -/
def seg (w : World) (b o m : Nat) : List Value := (List.range m).map fun j => (w.cell? ⟨b, o + j, none⟩).getD undef
theorem seg_length (w : World) (b o m : Nat) : (seg w b o m).length = m := by simp [seg]
theorem seg_at {w : World} {b o m j : Nat} (hj : j < m) {v : Value} (h : w.cell? ⟨b, o + j, none⟩ = some v) : (seg w b o m)[j]? = some v := by simp [seg, hj, h]
theorem seg_all {w : World} {b o m : Nat} (h : ∀ j, j < m → ∃ v, w.cell? ⟨b, o + j, none⟩ = some v) (j : Nat) (v : Value) (hv : (seg w b o m)[j]? = some v) : w.cell? ((⟨b, o, none⟩ : Addr).add j) = some v := by
  have hj : j < m := by
    have := (List.getElem?_eq_some_iff.1 hv).1
    rwa [seg_length] at this
  obtain ⟨u, hu⟩ := h j hj
  rw [seg_at hj hu] at hv
  cases hv
  rw [addr_add]
  exact hu

end Go.Proofs.YtihiacbhdcahkaaGreatDoor
namespace Go.Proofs.YtihiacbhdcahkaaGreatDoor
open Go Go.RowKit

set_option maxRecDepth 100000 in
set_option maxHeartbeats 4000000 in
theorem copied_none (a : Option Addr) (cap : Nat) (w : World) : Calls Tryz.prog 89 #[.slice a 0 cap] w fun e w' => (∃ a' cap', e = .returned (.slice a' 0 cap') ∧ cap' ≤ maxLen) ∧ Below w.heap.size w w' := by
  have HC := Lib.hid (fun W => clone_none a cap W)
  go_enter Tryz.func89, Tryz.ntmps89
  go_wp2_with fail
  refine (HC.out _).mono ?_
  rintro e w1 ⟨⟨a', cap', rfl, hm⟩, hb1⟩
  go_wp2_with fail
  go_loopw [10] (fun i wr => i = .int .i64 0 ∧ wr = w1) (fun _ _ => 0)
  case atStart => exact ⟨rfl, rfl⟩
  case round =>
    obtain ⟨rfl, rfl⟩ := hrel
    go_wp2_with fail
    go_ret
    exact ⟨⟨_, _, rfl, hm⟩, hb1⟩

theorem Tx.set1 {cur : Array Value} {ls : List (List UInt8)} {k : Nat} {s : List UInt8} (h : Tx cur ls) (hk : ls[k]? = some s) : Tx (cur.setIfInBounds (k * 3 + 1) (.string ⟨s.toArray⟩)) ls := fun i t hi => by
  obtain ⟨c0, c1, a, cap, c2, hm⟩ := h i t hi
  refine ⟨by rw [Array.getElem?_setIfInBounds_ne (by omega)]; exact c0, ?_, a, cap, by rw [Array.getElem?_setIfInBounds_ne (by omega)]; exact c2, hm⟩
  by_cases e : i = k
  · subst e
    rw [hk] at hi
    cases hi
    have := (Array.getElem?_eq_some_iff.1 c1).1
    rw [Array.getElem?_setIfInBounds_self_of_lt this]
  · rw [Array.getElem?_setIfInBounds_ne (by omega)]
    exact c1
theorem Tx.set2 {cur : Array Value} {ls : List (List UInt8)} {k : Nat} (h : Tx cur ls) (a : Option Addr) (cap : Nat) (hm : cap ≤ maxLen) : Tx (cur.setIfInBounds (k * 3 + 2) (.slice a 0 cap)) ls := fun i t hi => by
  obtain ⟨c0, c1, a', cap', c2, hm'⟩ := h i t hi
  refine ⟨by rw [Array.getElem?_setIfInBounds_ne (by omega)]; exact c0, by rw [Array.getElem?_setIfInBounds_ne (by omega)]; exact c1, ?_⟩
  by_cases e : i = k
  · subst e
    have := (Array.getElem?_eq_some_iff.1 c2).1
    exact ⟨a, cap, by rw [Array.getElem?_setIfInBounds_self_of_lt this], hm⟩
  · exact ⟨a', cap', by rw [Array.getElem?_setIfInBounds_ne (by omega)]; exact c2, hm'⟩
theorem Tx.lay {W : World} {S : Nat → Prop} {g cap : Nat} {cur : Array Value} {ls : List (List UInt8)} (h : Tx cur ls) (hrow : W.heap[g]? = some (.cells cur 45 (0, 0))) (hg : S g) (hc : ls.length ≤ cap) (hm : cap ≤ maxLen) : LayS W S (ls.map M.textI) (.slice (some ⟨g, 0, none⟩) ls.length cap) := by
  have hat : ∀ j v, cur[j]? = some v → W.cell? ⟨g, 0 + j, none⟩ = some v := fun j v hv => by simp [World.cell?, hrow, hv]
  have hx : ∀ i l d ys, (ls.map M.textI)[i]? = some (M.It.mk l d ys) → ∃ s, ls[i]? = some s ∧ l = false ∧ d = s ∧ ys = [] := fun i l d ys e => by
    rw [List.getElem?_map] at e
    cases hs : ls[i]? with
    | none => rw [hs] at e; cases e
    | some s =>
      rw [hs] at e
      simp only [Option.map_some, Option.some.injEq, M.textI, M.It.mk.injEq] at e
      exact ⟨s, hs, e.1.symm, e.2.1.symm, e.2.2.symm⟩
  have key := LayS.row (w := W) (S := S) (xs := ls.map M.textI) (b := g) (o := 0) (cap := cap) (fun i => (cur[i * 3 + 2]?).getD undef) hg (by rw [List.length_map]; exact hc) hm
    (fun i l d ys e => by
      obtain ⟨s, hs, rfl, rfl, rfl⟩ := hx i l d ys e
      exact hat _ _ (h i _ hs).1)
    (fun i l d ys e => by
      obtain ⟨s, hs, rfl, rfl, rfl⟩ := hx i l d ys e
      have := hat _ _ (h i _ hs).2.1
      rwa [← Nat.add_assoc] at this)
    (fun i l d ys e => by
      obtain ⟨s, hs, rfl, rfl, rfl⟩ := hx i l d ys e
      obtain ⟨a, c, c2, _⟩ := (h i _ hs).2.2
      have := hat _ _ c2
      rw [← Nat.add_assoc] at this
      rw [this, c2, Option.getD_some])
    (fun i l d ys e => by
      obtain ⟨s, hs, rfl, rfl, rfl⟩ := hx i l d ys e
      obtain ⟨a, c, c2, hm⟩ := (h i _ hs).2.2
      rw [c2, Option.getD_some]
      exact .nil_ hm)
  rwa [List.length_map] at key

end Go.Proofs.YtihiacbhdcahkaaGreatDoor
namespace Go.Proofs.YtihiacbhdcahkaaGreatDoor
open Go Go.RowKit

/-- What lies in cells: items; of what each one leads to G is said. -/
def Cx (cur : Array Value) (xs : List M.It) (G : Nat → List M.It → Value → Prop) : Prop := ∀ i l d ys, xs[i]? = some (.mk l d ys) →
  cur[i * 3]? = some (.bool l) ∧ cur[i * 3 + 1]? = some (.string ⟨d.toArray⟩) ∧ ∃ a cap, cur[i * 3 + 2]? = some (.slice a ys.length cap) ∧ cap ≤ maxLen ∧ G i ys (.slice a ys.length cap)

set_option maxRecDepth 100000 in
set_option maxHeartbeats 4000000 in
theorem clone_items (xs : List M.It) (hne : 0 < xs.length) (hl : xs.length ≤ 4000) (a : Option Addr) (cap : Nat) (w : World) (hL : Lay w w.heap.size xs (.slice a xs.length cap)) :
    Calls Tryz.prog 132 #[.slice a xs.length cap] w fun e w' => (∃ g cap' cur, e = .returned (.slice (some ⟨g, 0, none⟩) xs.length cap') ∧ w.heap.size ≤ g ∧ w'.heap[g]? = some (.cells cur 45 (0, 0)) ∧ Cx cur xs (fun _ ys v => Lay w w.heap.size ys v) ∧ xs.length ≤ cap' ∧ cap' ≤ maxLen) ∧ Below w.heap.size w w' := by
  obtain ⟨b, o, rfl⟩ : ∃ b o, a = some ⟨b, o, none⟩ := by
    obtain ⟨b', o', cap', l, d, ys, u, hv, _⟩ := hL.at_ (k := 0) hne
    injection hv with h1
    exact ⟨_, _, h1⟩
  have HE := fun W => nil_is W (some ⟨b, o, none⟩) xs.length cap
  simp only [Option.isNone] at HE
  obtain ⟨i, hi, hz0, hz1, hz2⟩ := info_parts Tryz.ofItem
  have hb1 : Below w.heap.size w (w.alloc (.cells #[] 45)) := by (repeat (first | exact Below.refl _ _ | refine Below.drew ?_ | refine Below.alloc ?_ (by first | omega | (simp; omega) | simp) _ | refine Below.setCell ?_ (by first | omega | (simp; omega) | simp) _))
  have hL1 := hL.from_ hb1
  have hall : ∀ j, j < xs.length * 3 → ∃ v, (w.alloc (.cells #[] 45)).cell? ⟨b, o + j, none⟩ = some v := three fun k hk => by
    obtain ⟨b', o', cap', l, d, ys, u, hv, _, _, c0, c1, c2, _⟩ := hL1.at_ hk
    cases hv
    exact ⟨⟨_, c0⟩, ⟨_, c1⟩, ⟨_, c2⟩⟩
  have hnews := seg_all hall
  have HA := run_append_grow (P := Tryz.prog) (w.alloc (.cells #[] 45)) 43 43 45 i _ Tryz.underlying43 hi hz0 ⟨w.heap.size, 0, none⟩ 0 0 [] (by simp) (fun j v h => by simp at h) ⟨b, o, none⟩ xs.length cap (seg (w.alloc (.cells #[] 45)) b o (xs.length * 3)) (by rw [seg_length, hz1]) hnews (by omega) (by omega) (growslice_fits (by omega) (by rw [hz2]; omega))
  simp only [Nat.zero_add] at HA
  have hge := grownCap_ge (w.alloc (.cells #[] 45)) xs.length 0 45
  have hle := grownCap_le_maxLen (w.alloc (.cells #[] 45)) xs.length 0 45 (by simp only [maxLen]; omega)
  generalize grownCap (w.alloc (.cells #[] 45)) xs.length 0 45 = gc at *
  obtain ⟨cur, hcur⟩ : ∃ cur, ([].toArray ++ (seg (w.alloc (.cells #[] 45)) b o (xs.length * 3)).toArray ++ Builtin.zeroCells (Value.agg #[.bool false, .string ⟨#[]⟩, .slice none 0 0]).cells (gc - xs.length)) = cur := ⟨_, rfl⟩
  rw [hcur] at HA
  have hTx : Cx cur xs fun _ ys v => Lay w w.heap.size ys v := fun k l d ys hk => by
    have hk' := (List.getElem?_eq_some_iff.1 hk).1
    obtain ⟨b', o', cap', l', d', ys', u, hv, hbn, hx, c0, c1, c2, hu⟩ := hL1.at_ hk'
    cases hv
    rw [hk] at hx
    cases hx
    obtain ⟨_, _, _, _, _, _, u0, hv0, _, hx0, _, _, d2, hu0⟩ := hL.at_ hk'
    cases hv0
    rw [hk] at hx0
    cases hx0
    have e2 := (hb1.cell (p := ⟨b, o + k * 3 + 2, none⟩) hbn).trans d2
    rw [c2] at e2
    cases e2
    obtain ⟨a2, cp2, rfl, _, hm⟩ := hu.slice
    have hat : ∀ j v, j < xs.length * 3 → (w.alloc (.cells #[] 45)).cell? ⟨b, o + j, none⟩ = some v → cur[j]? = some v := fun j v hj h => by
      have := seg_at hj h
      rw [← hcur, Array.getElem?_append_left (by simp [seg_length]; omega)]
      simpa using this
    exact ⟨hat _ _ (by omega) c0, hat _ _ (by omega) c1, a2, cp2, hat _ _ (by omega) c2, hm, hu0⟩
  clear hcur hnews hall hL1 hL hi hz0 hz1 hz2
  obtain ⟨w1, hw1⟩ : ∃ w1, ((w.alloc (.cells #[] 45)).drew.alloc (.cells cur 45)) = w1 := ⟨_, rfl⟩
  have hrow : w1.heap[w.heap.size + 1]? = some (.cells cur 45 (0, 0)) := by
    rw [← hw1]
    have := heap_alloc_new (w.alloc (.cells #[] 45)).drew (.cells cur 45)
    simpa using this
  have hb : Below w.heap.size w w1 := by rw [← hw1]; exact (hb1.drew).alloc (by simp) _
  rw [hw1] at HA
  rw [show (w.alloc (.cells #[] 45)).heap.size = w.heap.size + 1 by simp] at HA
  clear hw1 hb1
  go_enter Tryz.func132, Tryz.ntmps132
  have HA' := Lib.hid HA
  clear HA
  go_wp2_with (at_builtin; refine wpList_append_run rfl _ _ _ rfl _ _ _ rfl rfl HA'.out ?_)
  go_ret
  exact ⟨⟨_, _, _, rfl, by omega, hrow, hTx, hge, hle⟩, hb⟩

theorem Cx.imp {cur : Array Value} {xs : List M.It} {G H : Nat → List M.It → Value → Prop} (h : Cx cur xs G) (hGH : ∀ i l d ys v, xs[i]? = some (.mk l d ys) → G i ys v → H i ys v) : Cx cur xs H := fun i l d ys e => by
  obtain ⟨c0, c1, a, cap, c2, hm, hg⟩ := h i l d ys e
  exact ⟨c0, c1, a, cap, c2, hm, hGH i l d ys _ e hg⟩
theorem Cx.set1 {cur : Array Value} {xs : List M.It} {G : Nat → List M.It → Value → Prop} {k : Nat} {l : Bool} {s : List UInt8} {ys : List M.It} (h : Cx cur xs G) (hk : xs[k]? = some (.mk l s ys)) : Cx (cur.setIfInBounds (k * 3 + 1) (.string ⟨s.toArray⟩)) xs G := fun i l' t ys' hi => by
  obtain ⟨c0, c1, a, cap, c2, hm, hg⟩ := h i l' t ys' hi
  refine ⟨by rw [Array.getElem?_setIfInBounds_ne (by omega)]; exact c0, ?_, a, cap, by rw [Array.getElem?_setIfInBounds_ne (by omega)]; exact c2, hm, hg⟩
  by_cases e : i = k
  · subst e
    rw [hk] at hi
    cases hi
    have := (Array.getElem?_eq_some_iff.1 c1).1
    rw [Array.getElem?_setIfInBounds_self_of_lt this]
  · rw [Array.getElem?_setIfInBounds_ne (by omega)]
    exact c1
theorem Cx.set2 {cur : Array Value} {xs : List M.It} {G H : Nat → List M.It → Value → Prop} {k : Nat} {l : Bool} {s : List UInt8} {ys : List M.It} (h : Cx cur xs G) (hk : xs[k]? = some (.mk l s ys)) (a : Option Addr) (cap : Nat) (hm : cap ≤ maxLen) (hH : H k ys (.slice a ys.length cap)) (hGH : ∀ i l d ys v, i ≠ k → xs[i]? = some (.mk l d ys) → G i ys v → H i ys v) : Cx (cur.setIfInBounds (k * 3 + 2) (.slice a ys.length cap)) xs H := fun i l' d ys' hi => by
  obtain ⟨c0, c1, a', cap', c2, hm', hg⟩ := h i l' d ys' hi
  refine ⟨by rw [Array.getElem?_setIfInBounds_ne (by omega)]; exact c0, by rw [Array.getElem?_setIfInBounds_ne (by omega)]; exact c1, ?_⟩
  by_cases e : i = k
  · subst e
    rw [hk] at hi
    cases hi
    have := (Array.getElem?_eq_some_iff.1 c2).1
    exact ⟨a, cap, by rw [Array.getElem?_setIfInBounds_self_of_lt this], hm, hH⟩
  · exact ⟨a', cap', by rw [Array.getElem?_setIfInBounds_ne (by omega)]; exact c2, hm', hGH i l' d ys' _ e hi hg⟩
theorem Cx.lay {W : World} {S : Nat → Prop} {g cap : Nat} {cur : Array Value} {xs : List M.It} (h : Cx cur xs fun _ ys v => LayS W S ys v) (hrow : W.heap[g]? = some (.cells cur 45 (0, 0))) (hg : S g) (hc : xs.length ≤ cap) (hm : cap ≤ maxLen) : LayS W S xs (.slice (some ⟨g, 0, none⟩) xs.length cap) := by
  have hat : ∀ j v, cur[j]? = some v → W.cell? ⟨g, 0 + j, none⟩ = some v := fun j v hv => by simp [World.cell?, hrow, hv]
  exact LayS.row (w := W) (S := S) (xs := xs) (b := g) (o := 0) (cap := cap) (fun i => (cur[i * 3 + 2]?).getD undef) hg hc hm
    (fun i l d ys e => hat _ _ (h i l d ys e).1)
    (fun i l d ys e => by
      have := hat _ _ (h i l d ys e).2.1
      rwa [← Nat.add_assoc] at this)
    (fun i l d ys e => by
      obtain ⟨a, c, c2, _⟩ := (h i l d ys e).2.2
      have := hat _ _ c2
      rw [← Nat.add_assoc] at this
      rw [this, c2, Option.getD_some])
    (fun i l d ys e => by
      obtain ⟨a, c, c2, hm, hg⟩ := (h i l d ys e).2.2
      rw [c2, Option.getD_some]
      exact hg)
theorem M.smIs_at : ∀ {xs : List M.It} {i : Nat} {l : Bool} {d : List UInt8} {ys : List M.It}, M.smIs xs → xs[i]? = some (.mk l d ys) → d.length ≤ 140737488355328 ∧ M.smIs ys
  | x :: xs, 0, l, d, ys, h, e => by
    cases e
    have := h.1
    rwa [M.smI] at this
  | x :: xs, i + 1, l, d, ys, h, e => M.smIs_at h.2 (by simpa using e)
/-- Of what items lead to that have been copied, and of what the others do. -/
def GK (w wr : World) (g k : Nat) (i : Nat) (ys : List M.It) (v : Value) : Prop := (i < k → LayS wr (fun b => w.heap.size ≤ b ∧ b < wr.heap.size ∧ b ≠ g) ys v) ∧ (k ≤ i → Lay w w.heap.size ys v)
/-- What copying items must do, for items of such size. -/
def CopC (n : Nat) : Prop := ∀ (xs : List M.It) (a : Option Addr) (cap : Nat) (w : World), SizeOf.sizeOf xs ≤ n → M.cntIs xs ≤ 4000 → M.smIs xs → Lay w w.heap.size xs (.slice a xs.length cap) →
  Calls Tryz.prog 89 #[.slice a xs.length cap] w fun e w' => (∃ a' cap', e = .returned (.slice a' xs.length cap') ∧ Fresh w.heap.size w' xs (.slice a' xs.length cap')) ∧ Below w.heap.size w w'

set_option maxRecDepth 100000 in
set_option maxHeartbeats 8000000 in
theorem copied_step (n : Nat) (ih : CopC n) : CopC (n + 1) := by
  intro xs a cap w hsz hcn hsm hL
  have hl : xs.length ≤ 4000 := Nat.le_trans (M.length_cnt xs) hcn
  by_cases hne : xs.length = 0
  · obtain rfl := List.eq_nil_of_length_eq_zero hne
    refine (copied_none a cap w).mono ?_
    rintro e w1 ⟨⟨a', cap', rfl, hm⟩, hb1⟩
    exact ⟨⟨a', cap', rfl, .nil_ hm⟩, hb1⟩
  · have HC := Lib.hid (clone_items xs (by omega) hl a cap w hL)
    have HS := Lib.hid hsm
    have HCN := Lib.hid hcn
    have HSZ := Lib.hid hsz
    have IH := Lib.hid ih
    clear hL hsm hcn hsz ih
    go_enter Tryz.func89, Tryz.ntmps89
    go_wp2_with fail
    refine HC.out.mono ?_
    rintro e w1 ⟨⟨g, cap', cur0, rfl, hg0, hrow0, hT0, hc0, hm0⟩, hb1⟩
    have hsz1 : g < w1.heap.size := (Array.getElem?_eq_some_iff.1 hrow0).1
    go_wp2_with fail
    go_loopw [10] (fun i wr => ∃ (k : Nat) (cur : Array Value), k ≤ xs.length ∧ i = .int .i64 k ∧ wr.heap[g]? = some (.cells cur 45 (0, 0)) ∧ Cx cur xs (GK w wr g k) ∧ Below w.heap.size w wr) (fun i _ => xs.length - (RowKit.intOf i).toNat)
    case atStart => exact ⟨0, cur0, by omega, rfl, hrow0, hT0.imp (fun i _ _ _ _ _ h => ⟨fun h0 => absurd h0 (by omega), fun _ => h⟩), hb1⟩
    case round =>
      obtain ⟨k, cur, hk, rfl, hrow, hT, hb⟩ := hrel
      have hsz : g < wr.heap.size := (Array.getElem?_eq_some_iff.1 hrow).1
      by_cases hlt : k < xs.length
      · have hk2 : k < 4000 := by omega
        obtain ⟨l, s, ys, hks⟩ : ∃ l s ys, xs[k]? = some (.mk l s ys) := by
          rw [List.getElem?_eq_getElem hlt]
          obtain ⟨l, s, ys⟩ := xs[k]
          exact ⟨l, s, ys, rfl⟩
        obtain ⟨q0, q1, a2, cp2, q2, hm2, hG⟩ := hT k l s ys hks
        replace hG := hG.2 (Nat.le_refl _)
        obtain ⟨sm1, sm2⟩ := M.smIs_at HS.out hks
        have hcy : M.cntIs ys ≤ 4000 := by
          have h1 := M.cntI_part (List.mem_of_getElem? hks)
          rw [M.cntI] at h1
          have := HCN.out
          omega
        have hsy : SizeOf.sizeOf ys ≤ n := by
          have h1 := size_get hks
          have := HSZ.out
          rw [M.It.mk.sizeOf_spec] at h1
          omega
        have c0 : wr.cell? ⟨g, k * 3, none⟩ = some (.bool l) := by simp [World.cell?, hrow, q0]
        have c1 : wr.cell? ⟨g, k * 3 + 1, none⟩ = some (.string ⟨s.toArray⟩) := by simp [World.cell?, hrow, q1]
        have c2 : wr.cell? ⟨g, k * 3 + 2, none⟩ = some (.slice a2 ys.length cp2) := by simp [World.cell?, hrow, q2]
        have HT := Lib.hid (fun W => clone_any s W (Nat.le_trans sm1 (by decide)))
        have hne1 : ¬ g = wr.heap.size := by omega
        have hne2 : ¬ wr.heap.size = g := by omega
        have HCP := Lib.hid (fun W (h : Below w.heap.size w W) => IH.out ys a2 cp2 W hsy hcy sm2 ((hG.from_ h).mono h.size))
        clear hsy hcy sm1 sm2 hG
        go_wp2_with fail
        refine (HT.out _).mono ?_
        rintro e w2 ⟨rfl, hb2⟩
        have hsz2 : wr.heap.size + 1 ≤ w2.heap.size := by simpa using hb2.size
        have hrow2 : w2.heap[g]? = some (.cells cur 45 (0, 0)) := (hb2.block g (by simp; omega)).trans ((Below.heap_alloc wr _ g hsz).trans hrow)
        have hbox2 : w2.heap[wr.heap.size]? = some (.cells #[.bool l, .string ⟨s.toArray⟩, .slice a2 ys.length cp2] 45 (0, 0)) := (hb2.block _ (by simp)).trans (heap_alloc_new wr _)
        have d1 : w2.cell? ⟨g, k * 3 + 1, none⟩ = some (.string ⟨s.toArray⟩) := by simp [World.cell?, hrow2, q1]
        have f1 : w2.frozen? ⟨g, k * 3 + 1, none⟩ = false := by simp [World.frozen?, hrow2]
        have e2 : w2.cell? ⟨wr.heap.size, 2, none⟩ = some (.slice a2 ys.length cp2) := by simp [World.cell?, hbox2]
        obtain ⟨w3, hw3⟩ : ∃ w3, w2.setCell ⟨g, k * 3 + 1, none⟩ (.string ⟨s.toArray⟩) = w3 := ⟨_, rfl⟩
        have hrow3 : w3.heap[g]? = some (.cells (cur.setIfInBounds (k * 3 + 1) (.string ⟨s.toArray⟩)) 45 (0, 0)) := by
          rw [← hw3, setCell_eq_setRow w2 g (k * 3 + 1) cur _ (0, 0) _ hrow2]
          exact setRow_heap w2 g cur _ _ (0, 0) hrow2
        have hb3 : Below w.heap.size w w3 := by
          rw [← hw3]
          exact Below.setCell ((hb.alloc hb.size _).trans (hb2.mono (by simp; have := hb.size; omega))) hg0 _
        have HW3 := Lib.hid hw3
        have hb2X := hb2
        clear hw3 hb2
        go_wp2_with fail
        rw [HW3.out]
        refine (HCP.out _ hb3).mono ?_
        rintro e w4 ⟨⟨a3, cp3, rfl, hFr⟩, hb4⟩
        have hz3 : w3.heap.size = w2.heap.size := by rw [← HW3.out]; simp [World.setCell]
        have hrow4 := (hb4.block g (by omega)).trans hrow3
        have q4 : (cur.setIfInBounds (k * 3 + 1) (.string ⟨s.toArray⟩))[k * 3 + 2]? = some (.slice a2 ys.length cp2) := by rw [Array.getElem?_setIfInBounds_ne (by omega)]; exact q2
        have d4 : w4.cell? ⟨g, k * 3 + 2, none⟩ = some (.slice a2 ys.length cp2) := by simp only [World.cell?, hrow4]; exact q4
        have f4 : w4.frozen? ⟨g, k * 3 + 2, none⟩ = false := by simp [World.frozen?, hrow4]
        have hrow5 := setRow_heap w4 g _ ((cur.setIfInBounds (k * 3 + 1) (.string ⟨s.toArray⟩)).setIfInBounds (k * 3 + 2) (.slice a3 ys.length cp3)) _ (0, 0) hrow4
        rw [← setCell_eq_setRow w4 g (k * 3 + 2) _ _ (0, 0) _ hrow4] at hrow5
        have hb5 : Below w.heap.size w (w4.setCell ⟨g, k * 3 + 2, none⟩ (.slice a3 ys.length cp3)) := Below.setCell (hb3.trans (hb4.mono hb3.size)) hg0 _
        have hm3 : cp3 ≤ maxLen := by
          obtain ⟨_, _, e3, _, hm⟩ := hFr.lay.slice
          cases e3
          exact hm
        have hz5 : (w4.setCell ⟨g, k * 3 + 2, none⟩ (.slice a3 ys.length cp3)).heap.size = w4.heap.size := by simp [World.setCell]
        have hz4 := hb4.size
        have hblk : ∀ b, b ≠ g → b < wr.heap.size → (w4.setCell ⟨g, k * 3 + 2, none⟩ (.slice a3 ys.length cp3)).heap[b]? = wr.heap[b]? := fun b hbg hbl => by
          rw [Below.heap_setCell _ _ _ b hbg, hb4.block b (by omega), ← HW3.out, Below.heap_setCell _ _ _ b hbg, hb2X.block b (by simp; omega), Below.heap_alloc wr _ b hbl]
        have hT5 := (hT.set1 hks).set2 (H := GK w (w4.setCell ⟨g, k * 3 + 2, none⟩ (.slice a3 ys.length cp3)) g (k + 1)) hks a3 cp3 hm3
          ⟨fun _ => LayS.keep hFr fun b ⟨b1, b2⟩ => ⟨⟨by have := hb3.size; omega, by omega, by omega⟩, Below.heap_setCell _ _ _ b (by show b ≠ g; omega)⟩, fun h => absurd h (by omega)⟩
          (fun i l' d' ys' v hik hi h => ⟨fun hi2 => LayS.keep (h.1 (by omega)) fun b ⟨b1, b2, b3⟩ => ⟨⟨b1, by omega, b3⟩, hblk b b3 b2⟩, fun hi2 => h.2 (by omega)⟩)
        clear hb4 hb3 hrow4 hrow3 hrow2 hbox2 HW3 HCP HT hblk hb2X hz5 hz4 hFr
        go_wp2_with fail
        go_roundw
        case rel => exact ⟨k + 1, _, by omega, by simp, hrow5, hT5, hb5⟩
        case measure => simp [RowKit.intOf]; omega
      · obtain rfl : k = xs.length := by omega
        go_wp2_with fail
        go_ret
        refine ⟨⟨_, _, rfl, Cx.lay (hT.imp (H := fun _ ys v => LayS wr (fun b => w.heap.size ≤ b ∧ b < wr.heap.size) ys v) fun i l d ys v e h => ?_) hrow ⟨hg0, hsz⟩ hc0 hm0⟩, hb⟩
        exact LayS.keep (h.1 (List.getElem?_eq_some_iff.1 e).1) fun b ⟨b1, b2, _⟩ => ⟨⟨b1, b2⟩, rfl⟩

theorem copied_all : ∀ n, CopC n
  | 0 => fun xs a cap w h => by
    have : 0 < SizeOf.sizeOf xs := by cases xs <;> simp <;> omega
    omega
  | n + 1 => copied_step n (copied_all n)
theorem copied_it (xs : List M.It) (a : Option Addr) (cap : Nat) (w : World) (hcn : M.cntIs xs ≤ 4000) (hsm : M.smIs xs) (hL : Lay w w.heap.size xs (.slice a xs.length cap)) :
    Calls Tryz.prog 89 #[.slice a xs.length cap] w fun e w' => (∃ a' cap', e = .returned (.slice a' xs.length cap') ∧ Fresh w.heap.size w' xs (.slice a' xs.length cap')) ∧ Below w.heap.size w w' :=
  copied_all _ xs a cap w (Nat.le_refl _) hcn hsm hL
end Go.Proofs.YtihiacbhdcahkaaGreatDoor
namespace Go.Proofs.YtihiacbhdcahkaaGreatDoor
open Go Go.RowKit

set_option maxRecDepth 100000 in
set_option maxHeartbeats 4000000 in
theorem flist_it (xs : List M.It) (a : Option Addr) (cap : Nat) (w : World) (hcn : M.cntIs xs ≤ 4000) (hsm : M.smIs xs) (hL : Lay w w.heap.size xs (.slice a xs.length cap)) :
    Calls Tryz.prog 47 #[.slice a xs.length cap] w fun e w' => (∃ a' cap', e = .returned (iv true [] (.slice a' xs.length cap')) ∧ Lay w' w'.heap.size xs (.slice a' xs.length cap')) ∧ Below w.heap.size w w' := by
  obtain ⟨w0, hw0⟩ : ∃ w0, w.alloc (.cells #[.bool false, .string ⟨#[]⟩, .slice none 0 0] 45) = w0 := ⟨_, rfl⟩
  have hb0 : Below w.heap.size w w0 := by rw [← hw0]; (repeat (first | exact Below.refl _ _ | refine Below.drew ?_ | refine Below.alloc ?_ (by first | omega | (simp; omega) | simp) _ | refine Below.setCell ?_ (by first | omega | (simp; omega) | simp) _))
  have hz0 : w0.heap.size = w.heap.size + 1 := by rw [← hw0]; simp
  have hrow0 : w0.heap[w.heap.size]? = some (.cells #[.bool false, .string ⟨#[]⟩, .slice none 0 0] 45 (0, 0)) := by rw [← hw0]; exact heap_alloc_new w _
  have HC := Lib.hid (copied_it xs a cap w0 hcn hsm ((hL.from_ hb0).mono (by omega)))
  have HW := Lib.hid hw0
  clear hw0 hL hsm
  go_enter Tryz.func47, Tryz.ntmps47
  go_wp2_with fail
  rw [HW.out]
  refine HC.out.mono ?_
  rintro e w1 ⟨⟨a', cap', rfl, hL1⟩, hb1⟩
  have hb : Below w.heap.size w w1 := hb0.trans (hb1.mono (by omega))
  have hrow : w1.heap[w.heap.size]? = _ := (hb1.block _ (by omega)).trans hrow0
  clear hb1 hb0 hrow0 HW
  obtain ⟨⟨_, z0⟩, ⟨_, z1⟩, ⟨_, z2⟩, y0, y1, y2⟩ := cells_three hrow
  go_wp2_with fail
  refine rf_post rfl w w1 _ true [] (.slice a' xs.length cap') w.heap.size (Nat.le_refl _) hb _ _ _ hrow _ rfl (fun Z hZ hz ho => ⟨⟨a', cap', rfl, ?_⟩, hZ⟩)
  exact (LayS.keep hL1 (T := fun b => b < Z.heap.size) (W := Z) fun b ⟨h1, h2⟩ => ⟨by omega, ho b (by omega)⟩).lay fun b h => h

set_option maxRecDepth 100000 in
set_option maxHeartbeats 4000000 in
theorem each_it (xs : List M.It) (a : Option Addr) (cap : Nat) (w : World) (hcn : M.cntIs xs ≤ 4000) (hsm : M.smIs xs) (hL : Lay w w.heap.size xs (.slice a xs.length cap)) :
    Calls Tryz.prog 183 #[.slice a xs.length cap] w fun e w' => (∃ a' cap', e = .returned (.tuple #[.slice a' xs.length cap', .int .i64 0]) ∧ Fresh w.heap.size w' xs (.slice a' xs.length cap')) ∧ Below w.heap.size w w' := by
  have HC := Lib.hid (copied_it xs a cap w hcn hsm hL)
  clear hL hsm
  go_enter Tryz.func183, Tryz.ntmps183
  go_wp2_with fail
  refine HC.out.mono ?_
  rintro e w1 ⟨⟨a', cap', rfl, hL1⟩, hb1⟩
  go_wp2_with fail
  go_ret2
  exact ⟨⟨_, _, rfl, hL1⟩, hb1⟩

set_option maxRecDepth 100000 in
set_option maxHeartbeats 4000000 in
theorem oflist_it (l : Bool) (d : List UInt8) (xs : List M.It) (a : Option Addr) (cap : Nat) (least most : Int) (w : World) (hR : Rd w l d xs a cap) :
    Calls Tryz.prog 182 #[iv l d (.slice a xs.length cap), .int .i64 least, .int .i64 most, .func (.func 183) #[] #[]] w fun e w' => (∃ a' cap', e = .returned (.tuple #[.slice a' (M.getList least most (.mk l d xs)).1.length cap', .int .i64 ((M.getList least most (.mk l d xs)).2 : Nat)]) ∧ Fresh w.heap.size w' (M.getList least most (.mk l d xs)).1 (.slice a' (M.getList least most (.mk l d xs)).1.length cap')) ∧ Below w.heap.size w w' := by
  have E1 : ∀ args w, (callFunc 183 args).run Tryz.prog w = .ok (.enter 183 args) w := enters_of Tryz.func183 (by kernel_rfl) rfl
  have hb0 : Below w.heap.size w (w.alloc (.cells #[.bool l, .string ⟨d.toArray⟩, .slice a xs.length cap] 45)) := by (repeat (first | exact Below.refl _ _ | refine Below.drew ?_ | refine Below.alloc ?_ (by first | omega | (simp; omega) | simp) _ | refine Below.setCell ?_ (by first | omega | (simp; omega) | simp) _))
  obtain ⟨hL, hsm, hcn, hfo⟩ := hR
  cases l with
  | false =>
    have e1 : M.getList least most (.mk false d xs) = ([], 2) := rfl
    rw [e1]
    clear hL hsm hcn hfo e1
    go_enter Tryz.func182, Tryz.ntmps182
    go_wp2_with fail
    go_ret2
    exact ⟨⟨none, 0, rfl, .nil_ (by decide)⟩, hb0⟩
  | true =>
    obtain ⟨rfl, _⟩ := (M.formI_ok hfo).1 rfl
    rw [M.smI] at hsm
    have HN := Lib.hid (fun V => count_any xs.length least most V)
    have HE := Lib.hid (fun V (h : Below w.heap.size w V) => each_it xs a cap V hcn hsm.2 ((hL.from_ h).mono h.size))
    have e1 : M.getList least most (.mk true [] xs) = if M.within xs.length least most ≠ 0 then ([], M.within xs.length least most) else (xs, 0) := rfl
    rw [e1]
    clear hL hsm hcn hfo e1
    generalize M.within xs.length least most = q at *
    by_cases hq : q = 0
    · subst hq
      rw [if_neg (by simp)]
      go_enter Tryz.func182, Tryz.ntmps182
      go_wp2_with fail
      refine (HN.out _).mono ?_
      rintro e w1 ⟨rfl, hb1⟩
      obtain ⟨hce, hfr⟩ := bcell hb1
      have hb01 := hb0.trans (hb1.mono (by simp))
      go_wp2_with fail
      refine (HE.out _ hb01).mono ?_
      rintro e w2 ⟨⟨a', cap', rfl, hFr⟩, hb2⟩
      go_wp2_with fail
      go_ret2
      exact ⟨⟨_, _, rfl, hFr.mono hb01.size⟩, hb01.trans (hb2.mono hb01.size)⟩
    · rw [if_pos hq]
      have hq1 : ((q : Int) != 0) = true := by simp; omega
      clear hq
      go_enter Tryz.func182, Tryz.ntmps182
      go_wp2_with fail
      refine (HN.out _).mono ?_
      rintro e w1 ⟨rfl, hb1⟩
      have hb01 := hb0.trans (hb1.mono (by simp))
      go_wp2_with fail
      go_ret2
      exact ⟨⟨none, 0, rfl, .nil_ (by decide)⟩, hb01⟩

set_option maxRecDepth 100000 in
set_option maxHeartbeats 4000000 in
theorem getlist_it (l : Bool) (d : List UInt8) (xs : List M.It) (a : Option Addr) (cap : Nat) (least most : Int) (w : World) (hR : Rd w l d xs a cap) :
    Calls Tryz.prog 104 #[iv l d (.slice a xs.length cap), .int .i64 least, .int .i64 most] w fun e w' => (∃ a' cap', e = .returned (.tuple #[.slice a' (M.getList least most (.mk l d xs)).1.length cap', .int .i64 ((M.getList least most (.mk l d xs)).2 : Nat)]) ∧ Fresh w.heap.size w' (M.getList least most (.mk l d xs)).1 (.slice a' (M.getList least most (.mk l d xs)).1.length cap')) ∧ Below w.heap.size w w' := by
  have hb0 : Below w.heap.size w (w.alloc (.cells #[.bool l, .string ⟨d.toArray⟩, .slice a xs.length cap] 45)) := by (repeat (first | exact Below.refl _ _ | refine Below.drew ?_ | refine Below.alloc ?_ (by first | omega | (simp; omega) | simp) _ | refine Below.setCell ?_ (by first | omega | (simp; omega) | simp) _))
  have HL := Lib.hid (fun W (h : Below w.heap.size w W) => oflist_it l d xs a cap least most W (hR.kept h))
  clear hR
  generalize M.getList least most (.mk l d xs) = r at *
  obtain ⟨r1, r2⟩ := r
  go_enter Tryz.func104, Tryz.ntmps104
  go_wp2_with fail
  refine (HL.out _ hb0).mono ?_
  rintro e w1 ⟨⟨a', cap', rfl, hFr⟩, hb1⟩
  go_wp2_with fail
  go_ret2
  exact ⟨⟨_, _, rfl, hFr.mono hb0.size⟩, hb0.trans (hb1.mono hb0.size)⟩
end Go.Proofs.YtihiacbhdcahkaaGreatDoor
