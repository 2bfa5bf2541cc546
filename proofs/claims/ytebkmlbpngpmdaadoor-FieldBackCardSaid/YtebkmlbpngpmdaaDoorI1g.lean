/- Rows of items that a call makes by appending: what they lead to lies in the call's own blocks. -/
import Derived.Test.YtebkmlbpngpmdaaDoorC1g
import Derived.Laws.AppendOwn
namespace Go.Proofs.YtebkmlbpngpmdaaDoor
open Go Go.RowKit

/-- What a slice of items leads to, in the blocks of a set. -/
inductive LayS (w : World) (S : Nat → Prop) : List M.It → Value → Prop
  | nil_ {a : Option Addr} {cap : Nat} (hm : cap ≤ maxLen) : LayS w S [] (.slice a 0 cap)
  | row {xs : List M.It} {b o cap : Nat} (V : Nat → Value) (hb : S b) (hc : xs.length ≤ cap) (hm : cap ≤ maxLen)
      (c0 : ∀ i l d ys, xs[i]? = some (.mk l d ys) → w.cell? ⟨b, o + i * 3, none⟩ = some (.bool l))
      (c1 : ∀ i l d ys, xs[i]? = some (.mk l d ys) → w.cell? ⟨b, o + i * 3 + 1, none⟩ = some (.string ⟨d.toArray⟩))
      (c2 : ∀ i l d ys, xs[i]? = some (.mk l d ys) → w.cell? ⟨b, o + i * 3 + 2, none⟩ = some (V i))
      (r : ∀ i l d ys, xs[i]? = some (.mk l d ys) → LayS w S ys (V i)) : LayS w S xs (.slice (some ⟨b, o, none⟩) xs.length cap)

theorem LayS.keep {w W : World} {S T : Nat → Prop} {xs : List M.It} {v : Value} (h : LayS w S xs v) (hST : ∀ b, S b → T b ∧ W.heap[b]? = w.heap[b]?) : LayS W T xs v := by
  induction h with
  | nil_ hm => exact .nil_ hm
  | row V hb hc hm c0 c1 c2 _ ih =>
    obtain ⟨hT, he⟩ := hST _ hb
    exact .row V hT hc hm (fun i l d ys e => (World.cell?_of_block (a := ⟨_, _, _⟩) he).trans (c0 i l d ys e)) (fun i l d ys e => (World.cell?_of_block (a := ⟨_, _, _⟩) he).trans (c1 i l d ys e)) (fun i l d ys e => (World.cell?_of_block (a := ⟨_, _, _⟩) he).trans (c2 i l d ys e)) ih
theorem LayS.lay {w : World} {S : Nat → Prop} {n : Nat} {xs : List M.It} {v : Value} (h : LayS w S xs v) (hS : ∀ b, S b → b < n) : Lay w n xs v := by
  induction h with
  | nil_ hm => exact .nil_ hm
  | row V hb hc hm c0 c1 c2 _ ih => exact .row V (hS _ hb) hc hm c0 c1 c2 ih

/-- What a call has made itself: in blocks from B on. -/
def Fresh (B : Nat) (w : World) (xs : List M.It) (v : Value) : Prop := LayS w (fun b => B ≤ b ∧ b < w.heap.size) xs v
theorem Fresh.lay {B : Nat} {w : World} {xs : List M.It} {v : Value} (h : Fresh B w xs v) : Lay w w.heap.size xs v := LayS.lay h fun _ h => h.2
theorem Fresh.from_ {B : Nat} {w W : World} {xs : List M.It} {v : Value} (h : Fresh B w xs v) (hb : Below w.heap.size w W) : Fresh B W xs v :=
  LayS.keep h fun b ⟨h1, h2⟩ => ⟨⟨h1, Nat.lt_of_lt_of_le h2 hb.size⟩, hb.block b h2⟩
theorem Fresh.mono {A B : Nat} {w : World} {xs : List M.It} {v : Value} (h : Fresh B w xs v) (hAB : A ≤ B) : Fresh A w xs v :=
  LayS.keep h fun _ ⟨h1, h2⟩ => ⟨⟨Nat.le_trans hAB h1, h2⟩, rfl⟩
theorem Fresh.nil (B : Nat) (w : World) (a : Option Addr) : Fresh B w [] (.slice a 0 0) := .nil_ (by decide)

/-- The three cells of an item. -/
def c3 (p : M.It × Value) : List Value := match p.1 with | .mk l d _ => [.bool l, .string ⟨d.toArray⟩, p.2]
/-- What an item leads to. -/
def kids : M.It → List M.It | .mk _ _ ys => ys

theorem flat_at : ∀ (L : List (M.It × Value)) (i : Nat) (l : Bool) (d : List UInt8) (ys : List M.It) (u : Value), L[i]? = some (.mk l d ys, u) →
    (L.flatMap c3)[i * 3]? = some (.bool l) ∧ (L.flatMap c3)[i * 3 + 1]? = some (.string ⟨d.toArray⟩) ∧ (L.flatMap c3)[i * 3 + 2]? = some u
  | [], i, l, d, ys, u, h => by simp at h
  | (.mk l0 d0 ys0, u0) :: L, 0, l, d, ys, u, h => by
    simp at h
    obtain ⟨⟨rfl, rfl, rfl⟩, rfl⟩ := h
    simp [c3]
  | (.mk l0 d0 ys0, u0) :: L, i + 1, l, d, ys, u, h => by
    simp at h
    obtain ⟨e0, e1, e2⟩ := flat_at L i l d ys u h
    rw [show (i + 1) * 3 = i * 3 + 3 by omega]
    simpa [c3] using ⟨e0, e1, e2⟩

/-- A row of items that a call owns. -/
structure ItRow (B : Nat) (w : World) (L : List (M.It × Value)) (v : Value) : Prop where
  own : w.ownsRow B 30 3 v L.length (L.flatMap c3)
  kid : ∀ p ∈ L, LayS w (fun b => B ≤ b ∧ b < w.heap.size ∧ some b ≠ v.ownBlock) (kids p.1) p.2

theorem ItRow.nil (B : Nat) (w : World) : ItRow B w [] (.slice none 0 0) := ⟨World.ownsRow_nil _ _ _ _, fun _ h => by cases h⟩
theorem ItRow.from_ {B : Nat} {w W : World} {L : List (M.It × Value)} {v : Value} (h : ItRow B w L v) (hb : Below w.heap.size w W) : ItRow B W L v := by
  refine ⟨⟨h.own.1, ?_⟩, fun p hp => (h.kid p hp).keep fun b ⟨h1, h2, h3⟩ => ⟨⟨h1, Nat.lt_of_lt_of_le h2 hb.size, h3⟩, hb.block b h2⟩⟩
  rcases h.own.2 with h0 | ⟨g, cap, cur, hv, hB, hg, h1⟩
  · exact .inl h0
  · exact .inr ⟨g, cap, cur, hv, hB, (hb.block g (Array.getElem?_eq_some_iff.1 hg).1).trans hg, h1⟩
theorem addr_add (b o i : Nat) : (⟨b, o, none⟩ : Addr).add i = ⟨b, o + i, none⟩ := by
  unfold Addr.add
  by_cases h : i = 0
  · subst h; simp
  · simp [h]
theorem ItRow.fresh {B : Nat} {w : World} {L : List (M.It × Value)} {v : Value} (h : ItRow B w L v) : Fresh B w (L.map (·.1)) v := by
  rcases h.own.2 with ⟨hv, h0⟩ | ⟨g, cap, cur, hv, hB, hg, hc, hm, h1⟩
  · obtain rfl := List.eq_nil_of_length_eq_zero h0
    subst hv
    exact .nil_ (by decide)
  · have hcell := h.own.cells (g := g) (by rw [hv]; rfl)
    have hat : ∀ i l d ys, (L.map (·.1))[i]? = some (M.It.mk l d ys) → ∃ u, L[i]? = some (M.It.mk l d ys, u) := fun i l d ys e => by
      rw [List.getElem?_map] at e
      cases hl : L[i]? with
      | none => rw [hl] at e; cases e
      | some p =>
        rw [hl] at e
        obtain ⟨x, u⟩ := p
        simp at e
        subst e
        exact ⟨u, hl⟩
    have key := LayS.row (w := w) (S := fun b => B ≤ b ∧ b < w.heap.size) (xs := L.map (·.1)) (b := g) (o := 0) (cap := cap) (fun i => ((L[i]?).map (·.2)).getD Go.undef) ⟨hB, (Array.getElem?_eq_some_iff.1 hg).1⟩ (by simpa using hc) hm
      (fun i l d ys e => by
        obtain ⟨u, hu⟩ := hat i l d ys e
        have := hcell _ _ (flat_at L i l d ys u hu).1
        rw [addr_add] at this
        simpa using this)
      (fun i l d ys e => by
        obtain ⟨u, hu⟩ := hat i l d ys e
        have := hcell _ _ (flat_at L i l d ys u hu).2.1
        rw [addr_add] at this
        simpa [Nat.add_assoc] using this)
      (fun i l d ys e => by
        obtain ⟨u, hu⟩ := hat i l d ys e
        have := hcell _ _ (flat_at L i l d ys u hu).2.2
        rw [addr_add] at this
        simpa [Nat.add_assoc, hu] using this)
      (fun i l d ys e => by
        obtain ⟨u, hu⟩ := hat i l d ys e
        have := (h.kid _ (List.mem_of_getElem? hu)).keep (T := fun b => B ≤ b ∧ b < w.heap.size) (W := w) fun b ⟨h1, h2, _⟩ => ⟨⟨h1, h2⟩, rfl⟩
        simpa [hu, kids] using this)
    rw [hv]
    rw [List.length_map] at key
    exact key

/-- A store below the row's base: into the box that holds the slice. -/
theorem ItRow.above {B : Nat} {w W : World} {L : List (M.It × Value)} {v : Value} (h : ItRow B w L v) (hz : w.heap.size ≤ W.heap.size) (hb : ∀ b, B ≤ b → b < w.heap.size → W.heap[b]? = w.heap[b]?) : ItRow B W L v := by
  refine ⟨⟨h.own.1, ?_⟩, fun p hp => (h.kid p hp).keep fun b ⟨h1, h2, h3⟩ => ⟨⟨h1, Nat.lt_of_lt_of_le h2 hz, h3⟩, hb b h1 h2⟩⟩
  rcases h.own.2 with h0 | ⟨g, cap, cur, hv, hB, hg, h1⟩
  · exact .inl h0
  · exact .inr ⟨g, cap, cur, hv, hB, (hb g hB (Array.getElem?_eq_some_iff.1 hg).1).trans hg, h1⟩
theorem ItRow.setCell {B : Nat} {w : World} {L : List (M.It × Value)} {v : Value} (h : ItRow B w L v) (a : Addr) (x : Value) (ha : a.block < B) : ItRow B (w.setCell a x) L v :=
  h.above (by simp [World.setCell]) fun b h1 _ => Below.heap_setCell w a x b (by omega)
/-- What a call made after the row was there stands in other blocks. -/
theorem ItRow.other {B : Nat} {w W : World} {L : List (M.It × Value)} {v : Value} {ys : List M.It} {u : Value} (h : ItRow B w L v) (hB : B ≤ w.heap.size) (hF : Fresh w.heap.size W ys u) : LayS W (fun b => B ≤ b ∧ b < W.heap.size ∧ some b ≠ v.ownBlock) ys u :=
  LayS.keep hF fun b ⟨h1, h2⟩ => ⟨⟨Nat.le_trans hB h1, h2, fun e => by have := (World.ownsRow.lt h.own b e.symm).2; omega⟩, rfl⟩
theorem LayS.slice {w : World} {S : Nat → Prop} {xs : List M.It} {v : Value} (h : LayS w S xs v) : ∃ a cap, v = .slice a xs.length cap := by
  cases h with
  | nil_ hm => exact ⟨_, _, rfl⟩
  | row V hb hc hm c0 c1 c2 r => exact ⟨_, _, rfl⟩
theorem LayS.one {w : World} {S : Nat → Prop} {xs : List M.It} {v : Value} (h : LayS w S xs v) : v.oneCell' = true := by
  obtain ⟨a, cap, rfl⟩ := h.slice
  rfl
/-- The slice of a row. -/
theorem ItRow.slice {B : Nat} {w : World} {L : List (M.It × Value)} {v : Value} (h : ItRow B w L v) : ∃ a cap, v = .slice a L.length cap := by
  rcases h.own.2 with ⟨hv, h0⟩ | ⟨g, cap, cur, hv, _⟩
  · exact ⟨none, 0, by rw [hv, h0]⟩
  · exact ⟨_, _, hv⟩

theorem Tryd.ofItem : (Tryd.prog.info? 30).map (fun i => (i.zero, i.size, i.bytes)) = some (some (.agg #[.bool false, .string ⟨#[]⟩, .slice none 0 0]), 3, 48) := by kernel_rfl

/-- One item more, out of three cells: the row is its own block or a new one. -/
theorem item_append {B : Nat} {w : World} {L : List (M.It × Value)} {v : Value} (hL : ItRow B w L v) (hB : B ≤ w.heap.size) (hlen : L.length ≤ 100000) (ty : TypeId) (ad : Addr) (c : Nat) (l : Bool) (d : List UInt8) (ys : List M.It) (u : Value)
    (hnews : ∀ j x, ([.bool l, .string ⟨d.toArray⟩, u] : List Value)[j]? = some x → w.cell? (ad.add j) = some x) (hu : u.oneCell' = true) (hk : LayS w (fun b => B ≤ b ∧ b < w.heap.size ∧ some b ≠ v.ownBlock) ys u) :
    ∃ v' w', (Builtin.append_ #[28, 28] ty #[v, .slice (some ad) 1 c]).run Tryd.prog w = .ok v' w' ∧ ItRow B w' (L ++ [(.mk l d ys, u)]) v' ∧ w.grownBy w' v.ownBlock ∧ (v'.ownBlock = v.ownBlock ∨ v'.ownBlock = some w.heap.size) := by
  obtain ⟨i, hi, hz0, hz1, hz2⟩ := info_parts Tryd.ofItem
  have h1 : ∀ x ∈ ([.bool l, .string ⟨d.toArray⟩, u] : List Value), x.oneCell' = true := by
    intro x hx
    simp only [List.mem_cons, List.not_mem_nil, or_false] at hx
    rcases hx with rfl | rfl | rfl
    · rfl
    · rfl
    · exact hu
  obtain ⟨v', w', hr, ho, hg, _⟩ := run_append_own (P := Tryd.prog) w B 28 ty 30 i _ 3 48 Tryd.underlying28 hi hz0 hz1 hz2 rfl (by omega) v L.length _ hL.own ad 1 c [.bool l, .string ⟨d.toArray⟩, u] rfl hnews h1 (by simp only [maxLen]; omega) (by omega) hB
  have hblk : v'.ownBlock = v.ownBlock ∨ v'.ownBlock = some w.heap.size := by
    rcases hL.own.2 with ⟨rfl, h0⟩ | ⟨g, cap, cur, rfl, hbg, hgc, hnc, hcm, hcs, htake⟩
    · have h2 := run_append_nil (P := Tryd.prog) w 28 ty 30 i _ Tryd.underlying28 hi hz0 ad 1 c [.bool l, .string ⟨d.toArray⟩, u] (by rw [hz1]; rfl) hnews (by omega) (by omega) (by rw [hz2]; omega)
      rw [h2] at hr
      cases hr
      exact .inr rfl
    · by_cases hroom : L.length + 1 ≤ cap
      · have h2 := run_append_room (P := Tryd.prog) w 28 ty 30 i Tryd.underlying28 hi g L.length cap cur hgc ad 1 c [.bool l, .string ⟨d.toArray⟩, u] (by rw [hz1]; rfl) hnews h1 hroom (by rw [hz1, hcs]; show L.length * 3 + 3 ≤ cap * 3; omega)
        rw [h2] at hr
        cases hr
        exact .inl rfl
      · have h2 := run_append_grow (P := Tryd.prog) w 28 ty 30 i _ Tryd.underlying28 hi hz0 ⟨g, 0, none⟩ L.length cap _ (by rw [hz1]; exact hL.own.1) (hL.own.cells (g := g) rfl) ad 1 c [.bool l, .string ⟨d.toArray⟩, u] (by rw [hz1]; rfl) hnews (by omega) (by omega) (growslice_fits (by omega) (by rw [hz2]; omega))
        rw [h2] at hr
        cases hr
        exact .inr rfl
  refine ⟨v', w', hr, ⟨?_, ?_⟩, hg, hblk⟩
  · rw [List.flatMap_append, List.length_append]
    simpa [c3] using ho
  · have hS : ∀ b, (B ≤ b ∧ b < w.heap.size ∧ some b ≠ v.ownBlock) → (B ≤ b ∧ b < w'.heap.size ∧ some b ≠ v'.ownBlock) ∧ w'.heap[b]? = w.heap[b]? := fun b ⟨k1, k2, k3⟩ => by
      refine ⟨⟨k1, Nat.lt_of_lt_of_le k2 hg.size, ?_⟩, hg.block b k2 k3⟩
      rcases hblk with e | e
      · rw [e]; exact k3
      · rw [e]; intro h; cases h; omega
    intro p hp
    rcases List.mem_append.1 hp with h | h
    · exact (hL.kid p h).keep hS
    · simp only [List.mem_singleton] at h
      subst h
      exact hk.keep hS

section
variable {ops : Array Oper} {rest : List Oper} {o : Oper} {a : Act} {Q : Exit → Act → World → Prop}
/-- The append of an item, in a list of operations. -/
theorem wpList_append_item (hgd : o.guard = none) (s x : Operand) (ho : o.op = .call { callee := .builtin .append, args := #[s, x], argTypes := #[28, 28] })
    {B : Nat} {w : World} {L : List (M.It × Value)} {v : Value} (hs : a.eval s = v) (hL : ItRow B w L v) (hB : B ≤ w.heap.size) (hlen : L.length ≤ 100000) (ad : Addr) (c : Nat) (hx : a.eval x = .slice (some ad) 1 c) (l : Bool) (d : List UInt8) (ys : List M.It) (u : Value)
    (hnews : ∀ j x, ([.bool l, .string ⟨d.toArray⟩, u] : List Value)[j]? = some x → w.cell? (ad.add j) = some x) (hu : u.oneCell' = true) (hk : LayS w (fun b => B ≤ b ∧ b < w.heap.size ∧ some b ≠ v.ownBlock) ys u)
    (h : ∀ v' w', ItRow B w' (L ++ [(.mk l d ys, u)]) v' → w.grownBy w' v.ownBlock → wpList Tryd.prog ops Q rest (a.put o.dst v') w') : wpList Tryd.prog ops Q (o :: rest) a w := by
  obtain ⟨v', w', hr, h2, h3, _⟩ := item_append hL hB hlen o.type ad c l d ys u hnews hu hk
  refine wpList_plain hgd fun _ hK => ?_
  unfold Oper.wp execOp
  simp only [ho, resolve, invoke, builtin, Sem.run_bind, Sem.run_pure, Result.andThen_ok, List.map_toArray, List.map_cons, List.map_nil, hs, hx, hr]
  exact hK _ _ (h v' w' h2 h3)
end
end Go.Proofs.YtebkmlbpngpmdaaDoor
