/- Package tx: the table of kinds: a map of rows of fields. -/
import Derived.Test.YtihiacbhdcahkaaGreatDoorH03
import Derived.Maps.OwnIn
import Derived.Maps.Own
import Derived.Maps.OwnOps
namespace Go.Proofs.YtihiacbhdcahkaaGreatDoor
open Go Go.RowKit Go.Lib Go.Shelf
open Go.Maps (Keyed)

/-- A variable that holds a field. -/
structure VarAt (n : Nat) (W : World) (b : Nat) (x : Value × Value × Value) : Prop where
  lt : b < n
  c0 : W.cell? ⟨b, 0, none⟩ = some x.1
  c1 : W.cell? ⟨b, 1, none⟩ = some x.2.1
  c2 : W.cell? ⟨b, 2, none⟩ = some x.2.2
  ok : PartOk n W x.2.2
  f0 : IsFn x.1
  f1 : IsFn x.2.1
theorem VarAt.from_ {n : Nat} {W W' : World} {b : Nat} {x : Value × Value × Value} (h : VarAt n W b x) (hb : Below n W W') : VarAt n W' b x :=
  ⟨h.lt, (hb.cell (p := ⟨b, 0, none⟩) h.lt).trans h.c0, (hb.cell (p := ⟨b, 1, none⟩) h.lt).trans h.c1, (hb.cell (p := ⟨b, 2, none⟩) h.lt).trans h.c2, h.ok.from_ hb, h.f0, h.f1⟩
theorem VarAt.mono {n m : Nat} {W : World} {b : Nat} {x : Value × Value × Value} (h : VarAt n W b x) (hm : n ≤ m) : VarAt m W b x :=
  ⟨Nat.lt_of_lt_of_le h.lt hm, h.c0, h.c1, h.c2, h.ok.mono hm, h.f0, h.f1⟩
theorem VarAt.up {W W' : World} {b : Nat} {x : Value × Value × Value} (h : VarAt W.heap.size W b x) (hb : Below W.heap.size W W') : VarAt W'.heap.size W' b x := (h.from_ hb).mono hb.size
theorem isFn_ok {n : Nat} {W : World} {l : Value} (h : PartOk n W l) : IsFn l := by
  obtain ⟨F, box, rfl, _⟩ := h.out
  exact .inr ⟨_, _, _, rfl⟩
/-- Fields as cells. -/
def pcells (xs : List (Value × Value × Value)) : List Value := xs.flatMap fun x => [x.1, x.2.1, x.2.2]
theorem pcells_at : ∀ (xs : List (Value × Value × Value)) (j : Nat) (x : Value × Value × Value), xs[j]? = some x → (pcells xs)[j * 3]? = some x.1 ∧ (pcells xs)[j * 3 + 1]? = some x.2.1 ∧ (pcells xs)[j * 3 + 2]? = some x.2.2
  | [], j, x, h => by simp at h
  | y :: ys, 0, x, h => by
    cases h
    exact ⟨rfl, rfl, rfl⟩
  | y :: ys, j + 1, x, h => by
    obtain ⟨h0, h1, h2⟩ := pcells_at ys j x h
    rw [show (j + 1) * 3 = j * 3 + 1 + 1 + 1 by omega]
    exact ⟨h0, h1, h2⟩
/-- A row of fields. -/
structure RowOk (n : Nat) (W : World) (r len : Nat) : Prop where
  out : ∃ xs : List (Value × Value × Value), xs.length = len ∧ W.heap[r]? = some (.cells (pcells xs).toArray 181 (0, 0)) ∧ ∀ x ∈ xs, IsFn x.1 ∧ IsFn x.2.1 ∧ PartOk n W x.2.2
  lt : r < n
theorem RowOk.from_ {n : Nat} {W W' : World} {r len : Nat} (h : RowOk n W r len) (hb : Below n W W') : RowOk n W' r len := by
  obtain ⟨xs, h1, h2, h3⟩ := h.out
  exact ⟨⟨xs, h1, (hb.block r h.lt).trans h2, fun x hx => ⟨(h3 x hx).1, (h3 x hx).2.1, (h3 x hx).2.2.from_ hb⟩⟩, h.lt⟩
theorem RowOk.mono {n m : Nat} {W : World} {r len : Nat} (h : RowOk n W r len) (hm : n ≤ m) : RowOk m W r len := by
  obtain ⟨xs, h1, h2, h3⟩ := h.out
  exact ⟨⟨xs, h1, h2, fun x hx => ⟨(h3 x hx).1, (h3 x hx).2.1, (h3 x hx).2.2.mono hm⟩⟩, Nat.lt_of_lt_of_le h.lt hm⟩
theorem RowOk.at_ {n : Nat} {W : World} {r len j : Nat} (h : RowOk n W r len) (hj : j < len) : ∃ x : Value × Value × Value, IsFn x.1 ∧ IsFn x.2.1 ∧ PartOk n W x.2.2 ∧ W.cell? ⟨r, j * 3, none⟩ = some x.1 ∧ W.cell? ⟨r, j * 3 + 1, none⟩ = some x.2.1 ∧ W.cell? ⟨r, j * 3 + 2, none⟩ = some x.2.2 := by
  obtain ⟨xs, h1, h2, h3⟩ := h.out
  have hj' : j < xs.length := by omega
  have hx := List.getElem?_eq_getElem hj'
  obtain ⟨e0, e1, e2⟩ := pcells_at xs j _ hx
  obtain ⟨g0, g1, g2⟩ := h3 _ (List.getElem_mem hj')
  refine ⟨xs[j], g0, g1, g2, ?_, ?_, ?_⟩
  · simp only [World.cell?, h2, List.getElem?_toArray]; exact e0
  · simp only [World.cell?, h2, List.getElem?_toArray]; exact e1
  · simp only [World.cell?, h2, List.getElem?_toArray]; exact e2
def Rvt (v : Value) : Option (DataW Value × List MemPlace) := some (.held v, [])
theorem own_att {w W : World} {b n : Nat} {D : DataW Value} (h : w.ownsMap Tryz.prog 3 Rvt b n D) (he : W.heap[b]? = w.heap[b]?) : W.ownsMap Tryz.prog 3 Rvt b n D := by
  obtain ⟨es, clock, hb, F, hs, hD⟩ := h
  exact ⟨es, clock, he.trans hb, F, hs, hD⟩
theorem keyIt (k : Int) (h : (Lit.int .i64 k).wf = true) : keyOf Tryz.prog 3 (.int .i64 k) = some (.int .i64 k) := Go.Maps.keyOf_int_mk Tryz.underlying3 h
theorem intKeyedt : Keyed Tryz.prog 3 := Go.Maps.int_keyed Tryz.underlying3
theorem isMap_putt {D : DataW Value} (h : Go.Maps.IsMap D) (k : Lit) (d : DataW Value) : Go.Maps.IsMap (D.put k d) := by
  obtain ⟨es, rfl⟩ := h
  exact ⟨_, rfl⟩
def rowS (r len : Nat) : Value := .slice (some ⟨r, 0, none⟩) len len
def put1 (D : DataW Value) (k : Int) (r len : Nat) : DataW Value := D.put (.int .i64 k) (.held (rowS r len))
def D5 (r0 r1 r2 r3 r4 : Nat) : DataW Value := put1 (put1 (put1 (put1 (put1 (.map []) 0 r0 9) 1 r1 11) 2 r2 12) 4 r3 13) 126 r4 8
theorem put1_map {D : DataW Value} (h : Go.Maps.IsMap D) (k : Int) (r len : Nat) : Go.Maps.IsMap (put1 D k r len) := isMap_putt h _ _
theorem put1_at {D : DataW Value} (h : Go.Maps.IsMap D) (k k' : Int) (r len : Nat) (z : DataW Value) : (put1 D k r len).atKey (.int .i64 k') z = if k' = k then .held (rowS r len) else D.atKey (.int .i64 k') z := by
  split
  · rename_i e
    subst e
    exact Go.Maps.atKey_put_same h (by simp [WideAt.IsKeyLit]) _ _
  · rename_i e
    exact Go.Maps.atKey_put_other (by simp [e]) _ _
theorem D5_at (r0 r1 r2 r3 r4 : Nat) (k : Int) (z : DataW Value) : (D5 r0 r1 r2 r3 r4).atKey (.int .i64 k) z = if k = 126 then .held (rowS r4 8) else if k = 4 then .held (rowS r3 13) else if k = 2 then .held (rowS r2 12) else if k = 1 then .held (rowS r1 11) else if k = 0 then .held (rowS r0 9) else z := by
  have m0 : Go.Maps.IsMap (.map [] : DataW Value) := ⟨_, rfl⟩
  have m1 := put1_map m0 0 r0 9
  have m2 := put1_map m1 1 r1 11
  have m3 := put1_map m2 2 r2 12
  have m4 := put1_map m3 4 r3 13
  unfold D5
  rw [put1_at m4, put1_at m3, put1_at m2, put1_at m1, put1_at m0]
  rfl
/-- The table of kinds. -/
structure TKinds (W : World) (n m : Nat) : Prop where
  lt : m < n
  out : ∃ r0 r1 r2 r3 r4, W.ownsMap Tryz.prog 3 Rvt m 5 (D5 r0 r1 r2 r3 r4) ∧ RowOk n W r0 9 ∧ RowOk n W r1 11 ∧ RowOk n W r2 12 ∧ RowOk n W r3 13 ∧ RowOk n W r4 8
theorem TKinds.from_ {w W : World} {n m : Nat} (h : TKinds w n m) (hb : Below n w W) : TKinds W n m := by
  obtain ⟨r0, r1, r2, r3, r4, h0, h1, h2, h3, h4, h5⟩ := h.out
  exact ⟨h.lt, r0, r1, r2, r3, r4, own_att h0 (hb.block m h.lt), h1.from_ hb, h2.from_ hb, h3.from_ hb, h4.from_ hb, h5.from_ hb⟩
def isKd (k : Int) : Prop := k = 0 ∨ k = 1 ∨ k = 2 ∨ k = 4 ∨ k = 126
theorem zero_kindt (w : World) : (zeroValue 129).run Tryz.prog w = .ok (.slice none 0 0) w := by go_simp
theorem TKinds.look {W : World} {n m : Nat} (h : TKinds W n m) (k : Int) (hk : isKd k) : ∃ r len, len ≤ 13 ∧ RowOk n W r len ∧
    (Instr.lookup 131 (.map (some m)) (.int .i64 k) true).run Tryz.prog W = .ok (.tuple #[rowS r len, .bool true]) W := by
  obtain ⟨r0, r1, r2, r3, r4, own, h1, h2, h3, h4, h5⟩ := h.out
  obtain ⟨es, clock, hb, FF, _, hD⟩ := own
  have hat := D5_at r0 r1 r2 r3 r4 k
  rw [hD] at hat
  have hw : (Lit.int .i64 k).wf = true := by rcases hk with rfl | rfl | rfl | rfl | rfl <;> decide
  have key : ∀ r len, (∀ z : DataW Value, (DataW.map _ : DataW Value).atKey (.int .i64 k) z = .held (rowS r len)) → (Instr.lookup 131 (.map (some m)) (.int .i64 k) true).run Tryz.prog W = .ok (.tuple #[rowS r len, .bool true]) W := fun r len hat => by
    rcases Maps.fit_look (R := Rvt) true intKeyedt Tryz.underlying131 (zero_kindt W) hb FF (keyIt k hw) with ⟨_, _, h3⟩ | ⟨e0, y, _, _, h3, h4, h5, _⟩
    · have h1 := (h3 .nil).symm.trans (hat .nil)
      cases h1
    · have h1 := (h5 .nil).symm.trans (hat .nil)
      cases h4
      rw [h3, DataW.held.inj h1]
      rfl
  rcases hk with rfl | rfl | rfl | rfl | rfl
  · exact ⟨r0, 9, by omega, h1, key _ _ fun z => (hat z).trans rfl⟩
  · exact ⟨r1, 11, by omega, h2, key _ _ fun z => (hat z).trans rfl⟩
  · exact ⟨r2, 12, by omega, h3, key _ _ fun z => (hat z).trans rfl⟩
  · exact ⟨r3, 13, by omega, h4, key _ _ fun z => (hat z).trans rfl⟩
  · exact ⟨r4, 8, by omega, h5, key _ _ fun z => (hat z).trans rfl⟩
theorem findNow_nonet (k : Int) : ∀ (es : List MapEntry) (i : Nat), (∀ e ∈ es, ∃ a, e.key = .int .i64 a ∧ a ≠ k) → Instr.findNow (.int .i64) (.int .i64 k) es i = some none
  | [], _, _ => rfl
  | e :: es, i, h => by
    obtain ⟨a, h1, h2⟩ := h e (by simp)
    rw [Instr.findNow, h1]
    have : Instr.sameNow (.int .i64) (.int .i64 k) (.int .i64 a) = some false := by simp [Instr.sameNow, Ne.symm h2]
    rw [this]
    exact findNow_nonet k es (i + 1) fun x hx => h x (by simp [hx])
theorem check_intt (em : Bool) (k : Int) (w : World) : (Instr.checkKey em 10000 3 (.int .i64 k)).run Tryz.prog w = .ok () w := by
  rw [show (10000 : Nat) = 9999 + 1 from rfl, Instr.checkKey]
  simp [run_underlying Tryz.underlying3, Result.andThen]
theorem TKinds.miss {W : World} {n m : Nat} (h : TKinds W n m) (k : Int) (hk : ¬ isKd k) :
    (Instr.lookup 131 (.map (some m)) (.int .i64 k) true).run Tryz.prog W = .ok (.tuple #[.slice none 0 0, .bool false]) W := by
  obtain ⟨r0, r1, r2, r3, r4, own, _⟩ := h.out
  obtain ⟨es, clock, hb, FF, _, hD⟩ := own
  unfold isKd at hk
  by_cases hw : (Lit.int .i64 k).wf = true
  · have hat := D5_at r0 r1 r2 r3 r4 k
    rw [hD] at hat
    rcases Maps.fit_look (R := Rvt) true intKeyedt Tryz.underlying131 (zero_kindt W) hb FF (keyIt k hw) with ⟨h2, _, h3⟩ | ⟨e0, y, _, _, h3, h4, h5, _⟩
    · exact h2
    · have h1 := (h5 .nil).symm.trans (hat .nil)
      cases h4
      rw [if_neg (by omega), if_neg (by omega), if_neg (by omega), if_neg (by omega), if_neg (by omega)] at h1
      exact absurd h1 (by simp)
  · have hkeys : ∀ e ∈ es.toList, ∃ a, e.key = .int .i64 a ∧ a ≠ k := by
      intro e he
      obtain ⟨l, hl⟩ := FF.keys e he
      generalize e.key = v at *
      cases v <;> simp [keyOf, mapKey, Tryz.underlying3] at hl
      obtain ⟨⟨rfl, hwf⟩, _⟩ := hl
      exact ⟨_, rfl, fun e => hw (e ▸ hwf)⟩
    have hf := findNow_nonet k es.toList 0 hkeys
    simp [Instr.lookup, run_underlying Tryz.underlying131, MapKept.run_getObj_map hb, check_intt, Instr.findKey, run_underlying Tryz.underlying3, hf, Result.andThen]
end Go.Proofs.YtihiacbhdcahkaaGreatDoor
