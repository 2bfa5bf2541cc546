/- A string's bytes as a new row, and another string appended to it. -/
import Derived.Test.YtdfcfpbofomdcaaDoorQ8
import Derived.Lib.ConvBytes
import Derived.Lib.AppendStr
import Derived.Laws.CopyRow
namespace Go.Proofs.YtdfcfpbofomdcaaDoor
open Go Go.RowKit Go.Lib

theorem sealed_store (P : Program) (g o : Nat) (t : TypeId) (fz : Nat × Nat) : ∀ (vs : List Value) (i : Nat) (cur : Array Value) (w : World), w.heap[g]? = some (.cells cur t fz) → cur.size ≤ fz.1 → o + i + vs.length ≤ cur.size → (∀ v ∈ vs, v.oneCell' = true) →
    (storeCells ⟨g, o, none⟩ vs i).run P w = .ok () (w.setRow g (cur.toList.take (o + i) ++ vs ++ cur.toList.drop (o + i + vs.length)).toArray)
  | [], i, cur, w, hg, _, _, _ => by
    simp only [storeCells, List.append_nil, List.length_nil, Nat.add_zero, List.take_append_drop, Array.toArray_toList]
    rw [setRow_self w g cur t fz hg]
    rfl
  | v :: rest, i, cur, w, hg, hfz, hl, h1 => by
    have hi : o + i < cur.size := by simp at hl; omega
    have hadd : (⟨g, o, none⟩ : Addr).add i = ⟨g, o + i, none⟩ := by unfold Addr.add; split <;> simp_all
    have hcell : w.cell? ⟨g, o + i, none⟩ = some cur[o + i] := by simp [World.cell?, hg, hi]
    have hfro : w.frozen? ⟨g, o + i, none⟩ = false := by
      obtain ⟨lo, hi'⟩ := fz
      simp only [World.frozen?, hg, Bool.and_eq_false_iff, decide_eq_false_iff_not]
      left
      simp only at hfz
      omega
    have hst : (store ((⟨g, o, none⟩ : Addr).add i) v).run P w = .ok () (w.setRow g (cur.setIfInBounds (o + i) v)) := by
      rw [hadd, run_store P w _ v _ (h1 v (by simp)), hcell]
      simp [hfro, setCell_eq_setRow w g (o + i) cur t fz v hg]
    have ih := sealed_store P g o t fz rest (i + 1) (cur.setIfInBounds (o + i) v) (w.setRow g (cur.setIfInBounds (o + i) v)) (setRow_heap w g cur _ t _ hg) (by simpa using hfz) (by simp at hl ⊢; omega) (fun x hx => h1 x (by simp [hx]))
    simp only [storeCells, Sem.run_bind, hst, Result.andThen_ok, ih, setRow_setRow]
    congr 3
    have e := list_seg_step cur.toList (o + i) v rest (by simp at hl ⊢; omega)
    simpa [Array.toList_setIfInBounds, Nat.add_assoc] using e

/-- What an append of a string to a row that a conversion has made leaves. -/
structure Grew (w w' : World) (base : Nat) (e : TypeId) (row : Nat) (g' n cap' : Nat) (xs : List Value) : Prop where
  cap : n ≤ cap'
  max : cap' ≤ maxLen
  own : base ≤ g'
  lt : g' < w'.heap.size
  cells : ∀ j u, xs[j]? = some u → w'.cell? ⟨g', j, none⟩ = some u
  kept : w.grownBy w' (some row)

theorem append_sealed {P : Program} (w : World) (base : Nat) (t u ty e : TypeId) (i : TypeInfo) (ht : P.underlying t = some (.slice e)) (hu : P.underlying u = some .string) (hi : P.info? e = some i) (hz : i.zero = some (.int .u8 0))
    (hsize : i.size = 1) (hby : i.bytes = 1) (g n cap : Nat) (cur : Array Value) (hg : w.heap[g]? = some (.cells cur e (cur.size, cur.size + 1))) (hcs : cur.size = cap) (hn : n ≤ cap) (hcm : cap ≤ maxLen) (hb : base ≤ g) (s : ByteArray)
    (h63 : n + s.size ≤ maxLen) (hbytes : n + s.size ≤ 140737488355328) (hbase : base ≤ w.heap.size) :
    ∃ g' cap' w', (Builtin.append_ #[t, u] ty #[.slice (some ⟨g, 0, none⟩) n cap, .string s]).run P w = .ok (.slice (some ⟨g', 0, none⟩) (n + s.size) cap') w' ∧ Grew w w' base e g g' (n + s.size) cap' (cur.toList.take n ++ strCells s) := by
  have hsmall : n + s.size ≤ 9223372036854775807 := by simp only [maxLen] at h63; omega
  by_cases hroom : n + s.size ≤ cap
  · have hf := run_firstCells_string (P := P) w 1 s
    have hst := sealed_store P g n e _ (strCells s) 0 cur w hg (Nat.le_refl _) (by rw [strCells_length]; omega) (strCells_oneCell s)
    simp only [Nat.add_zero, strCells_length] at hst
    refine ⟨g, cap, w.setRow g (cur.toList.take n ++ strCells s ++ cur.toList.drop (n + s.size)).toArray, ?_, hroom, hcm, hb, ?_, ?_, ⟨rfl, rfl, rfl, by simp, fun k _ hk => setRow_other w g k _ (fun e => hk (by simp [e]))⟩⟩
    · simp [Builtin.append_, run_underlying ht, run_underlying hu, sizeOf, typeInfo, hi, hsize, Builtin.lenOf, hroom, hf, Addr.add_lit, hst]
    · have := (Array.getElem?_eq_some_iff.1 hg).1
      simpa using this
    · intro j v hj
      rw [cell_setRow_same w g j cur _ e _ hg]
      have hjl := (List.getElem?_eq_some_iff.1 hj).1
      rw [List.getElem?_toArray, List.getElem?_append_left hjl]
      exact hj
  · have holds : ∀ j u, (cur.toList.take n)[j]? = some u → w.cell? ((⟨g, 0, none⟩ : Addr).add j) = some u := by
      intro j v hj
      have hadd : (⟨g, 0, none⟩ : Addr).add j = ⟨g, j, none⟩ := by unfold Addr.add; split <;> simp_all
      rw [hadd, cell_of_row w g j cur e _ hg]
      rw [List.getElem?_take] at hj
      split at hj
      · simpa using hj
      · cases hj
    have hr := run_append_grow_string (P := P) w t u ty e i (.int .u8 0) ht hu hi hz ⟨g, 0, none⟩ n cap (cur.toList.take n) (by rw [hsize, List.length_take]; simp; omega) holds s (by omega) (by omega) (by rw [hby]; exact growslice_fits (by omega) (by omega))
    refine ⟨w.heap.size, _, _, hr, grownCap_ge w (n + s.size) cap e, grownCap_le_maxLen w (n + s.size) cap e h63, hbase, by simp, ?_, ⟨rfl, rfl, rfl, by simp, fun k hk _ => Below.heap_alloc w.drew _ k hk⟩⟩
    intro j v hj
    have hh : (w.drew.alloc (.cells ((cur.toList.take n).toArray ++ (strCells s).toArray ++ Builtin.zeroCells (Value.int .u8 0).cells (grownCap w (n + s.size) cap e - (n + s.size))) e)).heap[w.heap.size]? = _ := Go.heap_alloc_new w.drew (.cells ((cur.toList.take n).toArray ++ (strCells s).toArray ++ Builtin.zeroCells (Value.int .u8 0).cells (grownCap w (n + s.size) cap e - (n + s.size))) e)
    rw [cell_of_row _ _ j _ e (0, 0) hh]
    have hjl := (List.getElem?_eq_some_iff.1 hj).1
    rw [Array.getElem?_append_left (by simpa using hjl)]
    simpa using hj

theorem wpListIn_append_sealed {F : Fence} {m : Nat} {P : Program} {ops : Array Oper} {rest : List Oper} {o : Oper} {a : Act} {Q : Exit → Act → World → Prop} (w : World) (hgd : o.guard = none) (sl x : Operand) (t u : TypeId)
    (ho : o.op = .call { callee := .builtin .append, args := #[sl, x], argTypes := #[t, u] })
    (base : Nat) (e : TypeId) (i : TypeInfo) (ht : P.underlying t = some (.slice e)) (hu : P.underlying u = some .string) (hi : P.info? e = some i) (hz : i.zero = some (.int .u8 0))
    (hsize : i.size = 1) (hby : i.bytes = 1) (g n cap : Nat) (cur : Array Value) (hs : a.eval sl = .slice (some ⟨g, 0, none⟩) n cap) (hg : w.heap[g]? = some (.cells cur e (cur.size, cur.size + 1))) (hcs : cur.size = cap) (hn : n ≤ cap) (hcm : cap ≤ maxLen) (hb : base ≤ g) (s : ByteArray) (hx : a.eval x = .string s)
    (h63 : n + s.size ≤ maxLen) (hbytes : n + s.size ≤ 140737488355328) (hbase : base ≤ w.heap.size)
    (h : ∀ g' cap' w', Grew w w' base e g g' (n + s.size) cap' (cur.toList.take n ++ strCells s) → wpListIn F m P ops Q rest (a.put o.dst (.slice (some ⟨g', 0, none⟩) (n + s.size) cap')) w') : wpListIn F m P ops Q (o :: rest) a w := by
  refine wpListIn_plain hgd fun K hK => ?_
  obtain ⟨g', cap', w', hr, h2⟩ := append_sealed (P := P) w base t u o.type e i ht hu hi hz hsize hby g n cap cur hg hcs hn hcm hb s h63 hbytes hbase
  unfold Oper.wpIn
  refine ⟨?_, ?_⟩
  · simp [Oper.about, ho, resolve, Target.leads, Sem.run_pure]
  · rw [Oper.semAt_plain F _ _ (by rw [ho]; intro c hc'; cases hc')]
    simp [execOp, ho, resolve, invoke, builtin, hs, hx, hr, Result.andThen]
    exact hK _ _ (h g' cap' w' h2)

/-- What a conversion of a string to bytes leaves. -/
structure Seal (w w' : World) (e : TypeId) (b : ByteArray) (cap : Nat) (cur : Array Value) : Prop where
  row : w'.heap[w.heap.size]? = some (.cells cur e (cur.size, cur.size + 1))
  size : cur.size = cap
  len : b.size ≤ cap
  max : cap ≤ maxLen
  take : cur.toList.take b.size = strCells b
  low : Below w.heap.size w w'
  new : w'.heap.size = w.heap.size + 1

theorem seal_is (w : World) (e : TypeId) (b : ByteArray) (hb : b.size ≤ maxLen) : Seal w (bytesWorld w e b) e b (grownCap w b.size 0 e) (bytesCells w e b) := by
  have hge := grownCap_ge w b.size 0 e
  have hcm := grownCap_le_maxLen w b.size 0 e hb
  have hsz : (bytesCells w e b).size = grownCap w b.size 0 e := by
    have : b.data.size = b.size := rfl
    simp [bytesCells, this]
    omega
  refine ⟨bytesWorld_at_new w e b, hsz, hge, hcm, ?_, ⟨rfl, rfl, rfl, by rw [bytesWorld_size]; omega, fun k hk => bytesWorld_at_old w e b k hk⟩, bytesWorld_size w e b⟩
  have hl : b.size = (b.data.toList.map fun x : UInt8 => Value.int .u8 x.toNat).length := by
    rw [List.length_map, Array.length_toList]; rfl
  unfold bytesCells strCells
  rw [Array.toList_append, Array.toList_map, hl, List.take_left]

theorem wpListIn_seal {F : Fence} {m : Nat} {P : Program} {ops : Array Oper} {rest : List Oper} {o : Oper} {a : Act} {Q : Exit → Act → World → Prop} (w : World) (hgd : o.guard = none) (src dst e : TypeId) (x : Operand)
    (ho : o.op = .convert src dst x) (b : ByteArray) (hx : a.eval x = .string b) (hs : P.underlying src = some .string) (hd : P.underlying dst = some (.slice e)) (he : P.underlying e = some (.int .u8)) (hb : b.size ≤ maxLen)
    (h : ∀ cap cur w', Seal w w' e b cap cur → wpListIn F m P ops Q rest (a.put o.dst (.slice (some ⟨w.heap.size, 0, none⟩) b.size cap)) w') : wpListIn F m P ops Q (o :: rest) a w := by
  refine wpListIn_plain hgd fun K hK => ?_
  have hr := Go.Lib.run_convert_string_bytes (P := P) w src dst e b hs hd he
  unfold Oper.wpIn
  rw [Oper.semAt_plain F _ _ (by intro c; rw [ho]; exact fun h => nomatch h)]
  refine ⟨by intro f hf; simp [Oper.about, ho] at hf, ?_⟩
  unfold execOp
  simp only [ho, hx, Sem.run_bind, Sem.run_pure]
  rw [hr]
  exact hK _ _ (h _ _ _ (seal_is w e b hb))
end Go.Proofs.YtdfcfpbofomdcaaDoor
