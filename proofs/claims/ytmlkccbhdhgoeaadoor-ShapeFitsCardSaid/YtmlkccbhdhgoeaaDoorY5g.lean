/- The landed package shape: the table of kinds: a map of structs of functions. -/
import Derived.Test.YtmlkccbhdhgoeaaDoorY1g
import Derived.Maps.OwnIn
import Derived.Maps.Own
import Derived.Maps.OwnOps
namespace Go.Proofs.YtmlkccbhdhgoeaaDoor
open Go Go.RowKit
open Go.Maps (Keyed)

/-- How an entry reads: as itself. -/
def Rv (v : Value) : Option (DataW Value × List MemPlace) := some (.held v, [])
def sizeV (k : Nat) : Value := match k with
  | 1 => .func (.func 36) #[] #[]
  | 2 => .func (.func 42) #[] #[]
  | 3 => .func (.func 47) #[] #[]
  | 5 => .func (.func 54) #[] #[]
  | 7 => .func (.func 60) #[] #[]
  | _ => .nilFunc
def faultG (k : Nat) : FuncId := match k with
  | 1 => 37
  | 2 => 43
  | 3 => 48
  | 4 => 52
  | 5 => 55
  | 6 => 58
  | 7 => 61
  | _ => 63
def restG (k : Nat) : FuncId := match k with
  | 1 => 40
  | 2 => 40
  | 3 => 50
  | 4 => 50
  | 5 => 57
  | 6 => 57
  | 7 => 50
  | _ => 64
def ofF (k : Nat) : Value := match k with
  | 3 => .func (.func 51) #[] #[]
  | 4 => .func (.func 51) #[] #[]
  | 7 => .func (.func 62) #[] #[]
  | 8 => .func (.func 65) #[] #[]
  | _ => .nilFunc
def numG (k : Nat) : FuncId := match k with
  | 1 => 35
  | 2 => 41
  | 3 => 46
  | 4 => 46
  | 5 => 46
  | 6 => 46
  | _ => 41
def loN (k : Nat) : Nat := match k with
  | 3 => 1
  | 4 => 1
  | 7 => 1
  | 8 => 1
  | _ => 0
def hiN (k : Nat) : Nat := match k with
  | 3 => 1
  | 4 => 1
  | 7 => 16
  | 8 => 8
  | _ => 0
/-- What is under a kind. -/
def ent (c k : Nat) : Value := .agg #[hasV c, sizeV k, .func (.func (faultG k)) #[] #[], .func (.func (restG k)) #[] #[], ofF k]
def put8 (D : DataW Value) (c k : Nat) : DataW Value := D.put (.int .i64 (k : Nat)) (.held (ent c k))
def DM (cs : List Nat) : DataW Value := (cs.zipIdx.foldl (fun D p => put8 D p.1 (p.2 + 1)) (.map []))

theorem own_at {w W : World} {b n : Nat} {D : DataW Value} (h : w.ownsMap Tryd.prog 3 Rv b n D) (he : W.heap[b]? = w.heap[b]?) : W.ownsMap Tryd.prog 3 Rv b n D := by
  obtain ⟨es, clock, hb, F, hs, hD⟩ := h
  exact ⟨es, clock, he.trans hb, F, hs, hD⟩
theorem wpList_insert_own {w : World} {ops : Array Oper} {rest : List Oper} {o : Oper} {a : Act} {Q : Exit → Act → World → Prop}
    (hg : o.guard = none) (m x v : Operand) (t : TypeId) (hop : o.op = Op.insert t m x v)
    (k e : TypeId) (K : Keyed Tryd.prog k) (ht : Tryd.prog.underlying t = some (.map k e)) (R : Value → Option (DataW Value × List MemPlace)) (b n : Nat) (D : DataW Value)
    (hm : a.eval m = .map (some b)) (hown : w.ownsMap Tryd.prog k R b n D) (hn : n < maxLen) (key val : Value) (kl : Lit) (hx : a.eval x = key) (hv : a.eval v = val) (hkey : keyOf Tryd.prog k key = some kl)
    (d : DataW Value) (ps : List MemPlace) (hval : R val = some (d, ps))
    (hK : ∀ w', w'.ownsMap Tryd.prog k R b (n + 1) (D.put kl d) → w.grownBy w' (some b) → wpList Tryd.prog ops Q rest (a.put o.dst undef) w') :
    wpList Tryd.prog ops Q (o :: rest) a w := by
  refine wpList_plain hg fun K' hK' => ?_
  obtain ⟨w', hrun, r1, r2⟩ := hown.update K ht hn hkey hval
  unfold Oper.wp
  simp [execOp, hop, hm, hx, hv, hrun, Result.andThen]
  exact hK' _ _ (hK w' r1 r2)

theorem HasAt.grow {w W : World} {c b : Nat} {g : FuncId} {lo hi : Nat} (h : HasAt w w.heap.size c g lo hi) (hg : w.grownBy W (some b)) (hc : b < c) : HasAt W W.heap.size c g lo hi := by
  have hlt := h.lt
  have hz := hg.size
  have key : ∀ i, i < 3 → W.cell? ⟨c + i, 0, none⟩ = w.cell? ⟨c + i, 0, none⟩ := fun i hi => World.cell?_of_block (a := ⟨c + i, 0, none⟩) (hg.block (c + i) (by omega) (fun e => by cases e; omega))
  exact ⟨by omega, (key 0 (by omega)).trans h.c0, (key 1 (by omega)).trans h.c1, (key 2 (by omega)).trans h.c2⟩
theorem Below.grow {w W W2 : World} {b : Nat} (h : Below w.heap.size w W) (hg : W.grownBy W2 (some b)) (hb : w.heap.size ≤ b) : Below w.heap.size w W2 :=
  ⟨hg.os.trans h.os, hg.tape.trans h.tape, hg.output.trans h.output, Nat.le_trans h.size hg.size, fun i hi => (hg.block i (Nat.lt_of_lt_of_le hi h.size) (fun e => by cases e; omega)).trans (h.block i hi)⟩

/-- While the table is made. -/
structure TS (w W : World) (j : Nat) (cs : List Nat) (D : DataW Value) : Prop where
  own : W.ownsMap Tryd.prog 3 Rv w.heap.size j D
  len : cs.length = j
  has : ∀ i c, cs[i]? = some c → HasAt W W.heap.size c (numG (i + 1)) (loN (i + 1)) (hiN (i + 1)) ∧ w.heap.size < c
  below : Below w.heap.size w W
theorem TS.next {w W w1 w2 : World} {j : Nat} {cs : List Nat} {D D2 : DataW Value} (h : TS w W j cs D) (hH : HasAt w1 w1.heap.size W.heap.size (numG (j + 1)) (loN (j + 1)) (hiN (j + 1))) (hb : Below W.heap.size W w1)
    (ho : w2.ownsMap Tryd.prog 3 Rv w.heap.size (j + 1) D2) (hg : w1.grownBy w2 (some w.heap.size)) : TS w w2 (j + 1) (cs ++ [W.heap.size]) D2 := by
  have hlt := h.own.lt
  have hz := hb.size
  refine ⟨ho, by rw [List.length_append, h.len]; rfl, fun i c e => ?_, Below.grow (h.below.trans (hb.mono h.below.size)) hg (Nat.le_refl _)⟩
  rw [List.getElem?_append] at e
  split at e
  · obtain ⟨h1, h2⟩ := h.has i c e
    exact ⟨((h1.from_ hb).mono hz).grow hg h2, h2⟩
  · rename_i hi
    have hj := h.len
    have : i - cs.length = 0 := by
      rcases Nat.eq_zero_or_pos (i - cs.length) with h0 | h0
      · exact h0
      · rw [List.getElem?_eq_none (by simp; omega)] at e; cases e
    rw [this] at e
    cases e
    obtain rfl : i = j := by omega
    exact ⟨hH.grow hg hlt, hlt⟩

/-- The table of kinds, in block b, with all that it leads to in the first n blocks. -/
structure Kinds (W : World) (n b : Nat) (cs : List Nat) : Prop where
  lt : b < n
  own : W.ownsMap Tryd.prog 3 Rv b 8 (DM cs)
  len : cs.length = 8
  has : ∀ i c, cs[i]? = some c → HasAt W n c (numG (i + 1)) (loN (i + 1)) (hiN (i + 1))
theorem Kinds.from_ {w W : World} {n b : Nat} {cs : List Nat} (h : Kinds w n b cs) (hb : Below n w W) : Kinds W n b cs :=
  ⟨h.lt, own_at h.own (hb.block b h.lt), h.len, fun i c e => (h.has i c e).from_ hb⟩
theorem Kinds.mono {w : World} {n m b : Nat} {cs : List Nat} (h : Kinds w n b cs) (hm : n ≤ m) : Kinds w m b cs :=
  ⟨Nat.lt_of_lt_of_le h.lt hm, h.own, h.len, fun i c e => (h.has i c e).mono hm⟩

theorem keyI (k : Int) (h : (Lit.int .i64 k).wf = true) : keyOf Tryd.prog 3 (.int .i64 k) = some (.int .i64 k) := Go.Maps.keyOf_int_mk Tryd.underlying3 h
theorem intKeyed : Keyed Tryd.prog 3 := Go.Maps.int_keyed Tryd.underlying3

set_option maxRecDepth 100000 in
set_option maxHeartbeats 8000000 in
theorem table_any (w : World) : Calls Tryd.prog 25 #[] w fun e w' => e = .returned (.map (some w.heap.size)) ∧ (∃ cs, Kinds w' w'.heap.size w.heap.size cs) ∧ Below w.heap.size w w' := by
  have hmm := @run_makeMap Tryd.prog
  have HH := Lib.hid has_any
  have T0 : Hid (TS w (w.alloc (.map #[] 0)) 0 [] (.map [])) := ⟨World.ownsMap_made _ _ _ _, rfl, fun i c e => by simp at e, (Below.refl _ _).alloc (Nat.le_refl _) _⟩
  obtain ⟨W0, hW0⟩ : ∃ W0, w.alloc (.map #[] 0) = W0 := ⟨_, rfl⟩
  rw [hW0] at T0
  have HW0 := Lib.hid hW0
  clear hW0
  go_enter Tryd.func25, Tryd.ntmps25
  go_wp2_with fail
  rw [HW0.out]
  refine (HH.out _ _ _ _).mono ?_
  rintro e u1 ⟨rfl, hH, hb⟩
  have ho := own_at T0.out.own (hb.block _ T0.out.own.lt)
  go_wp2_with (refine wpList_insert_own rfl _ _ _ _ rfl 3 59 intKeyed Tryd.underlying47 Rv w.heap.size 0 _ rfl ho (by decide) (.int .i64 1) (ent W0.heap.size 1) (.int .i64 1) rfl rfl (keyI 1 (by decide)) _ _ rfl ?_; intro W1 ho1 hg1)
  have T1 := Lib.hid (T0.out.next hH hb ho1 hg1)
  clear T0 hH hb ho ho1 hg1
  refine (HH.out _ _ _ _).mono ?_
  rintro e u2 ⟨rfl, hH, hb⟩
  have ho := own_at T1.out.own (hb.block _ T1.out.own.lt)
  go_wp2_with (refine wpList_insert_own rfl _ _ _ _ rfl 3 59 intKeyed Tryd.underlying47 Rv w.heap.size 1 _ rfl ho (by decide) (.int .i64 2) (ent W1.heap.size 2) (.int .i64 2) rfl rfl (keyI 2 (by decide)) _ _ rfl ?_; intro W2 ho2 hg2)
  have T2 := Lib.hid (T1.out.next hH hb ho2 hg2)
  clear T1 hH hb ho ho2 hg2
  refine (HH.out _ _ _ _).mono ?_
  rintro e u3 ⟨rfl, hH, hb⟩
  have ho := own_at T2.out.own (hb.block _ T2.out.own.lt)
  go_wp2_with (refine wpList_insert_own rfl _ _ _ _ rfl 3 59 intKeyed Tryd.underlying47 Rv w.heap.size 2 _ rfl ho (by decide) (.int .i64 3) (ent W2.heap.size 3) (.int .i64 3) rfl rfl (keyI 3 (by decide)) _ _ rfl ?_; intro W3 ho3 hg3)
  have T3 := Lib.hid (T2.out.next hH hb ho3 hg3)
  clear T2 hH hb ho ho3 hg3
  refine (HH.out _ _ _ _).mono ?_
  rintro e u4 ⟨rfl, hH, hb⟩
  have ho := own_at T3.out.own (hb.block _ T3.out.own.lt)
  go_wp2_with (refine wpList_insert_own rfl _ _ _ _ rfl 3 59 intKeyed Tryd.underlying47 Rv w.heap.size 3 _ rfl ho (by decide) (.int .i64 4) (ent W3.heap.size 4) (.int .i64 4) rfl rfl (keyI 4 (by decide)) _ _ rfl ?_; intro W4 ho4 hg4)
  have T4 := Lib.hid (T3.out.next hH hb ho4 hg4)
  clear T3 hH hb ho ho4 hg4
  refine (HH.out _ _ _ _).mono ?_
  rintro e u5 ⟨rfl, hH, hb⟩
  have ho := own_at T4.out.own (hb.block _ T4.out.own.lt)
  go_wp2_with (refine wpList_insert_own rfl _ _ _ _ rfl 3 59 intKeyed Tryd.underlying47 Rv w.heap.size 4 _ rfl ho (by decide) (.int .i64 5) (ent W4.heap.size 5) (.int .i64 5) rfl rfl (keyI 5 (by decide)) _ _ rfl ?_; intro W5 ho5 hg5)
  have T5 := Lib.hid (T4.out.next hH hb ho5 hg5)
  clear T4 hH hb ho ho5 hg5
  refine (HH.out _ _ _ _).mono ?_
  rintro e u6 ⟨rfl, hH, hb⟩
  have ho := own_at T5.out.own (hb.block _ T5.out.own.lt)
  go_wp2_with (refine wpList_insert_own rfl _ _ _ _ rfl 3 59 intKeyed Tryd.underlying47 Rv w.heap.size 5 _ rfl ho (by decide) (.int .i64 6) (ent W5.heap.size 6) (.int .i64 6) rfl rfl (keyI 6 (by decide)) _ _ rfl ?_; intro W6 ho6 hg6)
  have T6 := Lib.hid (T5.out.next hH hb ho6 hg6)
  clear T5 hH hb ho ho6 hg6
  refine (HH.out _ _ _ _).mono ?_
  rintro e u7 ⟨rfl, hH, hb⟩
  have ho := own_at T6.out.own (hb.block _ T6.out.own.lt)
  go_wp2_with (refine wpList_insert_own rfl _ _ _ _ rfl 3 59 intKeyed Tryd.underlying47 Rv w.heap.size 6 _ rfl ho (by decide) (.int .i64 7) (ent W6.heap.size 7) (.int .i64 7) rfl rfl (keyI 7 (by decide)) _ _ rfl ?_; intro W7 ho7 hg7)
  have T7 := Lib.hid (T6.out.next hH hb ho7 hg7)
  clear T6 hH hb ho ho7 hg7
  refine (HH.out _ _ _ _).mono ?_
  rintro e u8 ⟨rfl, hH, hb⟩
  have ho := own_at T7.out.own (hb.block _ T7.out.own.lt)
  go_wp2_with (refine wpList_insert_own rfl _ _ _ _ rfl 3 59 intKeyed Tryd.underlying47 Rv w.heap.size 7 _ rfl ho (by decide) (.int .i64 8) (ent W7.heap.size 8) (.int .i64 8) rfl rfl (keyI 8 (by decide)) _ _ rfl ?_; intro W8 ho8 hg8)
  have T8 := Lib.hid (T7.out.next hH hb ho8 hg8)
  clear T7 hH hb ho ho8 hg8
  go_ret
  exact ⟨rfl, ⟨[W0.heap.size, W1.heap.size, W2.heap.size, W3.heap.size, W4.heap.size, W5.heap.size, W6.heap.size, W7.heap.size], ⟨T8.out.own.lt, T8.out.own, T8.out.len, fun i c e => (T8.out.has i c e).1⟩⟩, T8.out.below⟩
theorem isMap_put {D : DataW Value} (h : Go.Maps.IsMap D) (k : Lit) (d : DataW Value) : Go.Maps.IsMap (D.put k d) := by
  obtain ⟨es, rfl⟩ := h
  exact ⟨_, rfl⟩
theorem isMap_fold (l : List (Nat × Nat)) : ∀ D, Go.Maps.IsMap D → Go.Maps.IsMap (l.foldl (fun D p => put8 D p.1 (p.2 + 1)) D) := by
  induction l with
  | nil => exact fun D h => h
  | cons p l ih => exact fun D h => ih _ (isMap_put h _ _)
/-- What is under a key. -/
theorem atKey_fold (kl : Lit) (z : DataW Value) (l : List (Nat × Nat)) : ∀ D, Go.Maps.IsMap D → (∀ p ∈ l, kl ≠ .int .i64 ((p.2 + 1 : Nat) : Int)) → (l.foldl (fun D p => put8 D p.1 (p.2 + 1)) D).atKey kl z = D.atKey kl z := by
  induction l with
  | nil => exact fun D _ _ => rfl
  | cons p l ih =>
    intro D hD hp
    rw [List.foldl_cons, ih (put8 D p.1 (p.2 + 1)) (isMap_put hD _ _) (fun q hq => hp q (by simp [hq]))]
    exact Go.Maps.atKey_put_other (hp p (by simp)) _ _
theorem DM_at (cs : List Nat) (i c : Nat) (hi : cs[i]? = some c) (z : DataW Value) : (DM cs).atKey (.int .i64 ((i + 1 : Nat) : Int)) z = .held (ent c (i + 1)) := by
  have hlt := (List.getElem?_eq_some_iff.1 hi).1
  have hz : cs.zipIdx = (cs.zipIdx.take i) ++ (c, i) :: (cs.zipIdx.drop (i + 1)) := by
    have h1 : cs.zipIdx[i]? = some (c, i) := by rw [List.getElem?_zipIdx, hi]; simp
    have h2 := List.getElem?_eq_some_iff.1 h1
    rw [← h2.2, ← List.drop_eq_getElem_cons h2.1, List.take_append_drop]
  unfold DM
  rw [hz, List.foldl_append, List.foldl_cons, atKey_fold]
  · exact Go.Maps.atKey_put_same (isMap_fold _ _ ⟨_, rfl⟩) (by simp [WideAt.IsKeyLit]) _ _
  · exact isMap_put (isMap_fold _ _ ⟨_, rfl⟩) _ _
  · intro p hp e
    obtain ⟨j, hj⟩ := List.mem_iff_getElem?.1 hp
    rw [List.getElem?_drop, List.getElem?_zipIdx] at hj
    cases hc : cs[i + 1 + j]? with
    | none => rw [hc] at hj; simp at hj
    | some d =>
      rw [hc] at hj
      simp at hj
      rw [← hj] at e
      simp at e
      omega
theorem DM_not (cs : List Nat) (k : Int) (hk : k < 1 ∨ cs.length < k) (z : DataW Value) : (DM cs).atKey (.int .i64 k) z = z := by
  unfold DM
  rw [atKey_fold]
  · rfl
  · exact ⟨_, rfl⟩
  · intro p hp e
    obtain ⟨j, hj⟩ := List.mem_iff_getElem?.1 hp
    rw [List.getElem?_zipIdx] at hj
    cases hc : cs[j]? with
    | none => rw [hc] at hj; simp at hj
    | some d =>
      have hlt := (List.getElem?_eq_some_iff.1 hc).1
      rw [hc] at hj
      simp at hj
      rw [← hj] at e
      simp at e
      omega

def zeroK : Value := .agg #[.nilFunc, .nilFunc, .nilFunc, .nilFunc, .nilFunc]
theorem zero_kind (w : World) : (zeroValue 59).run Tryd.prog w = .ok zeroK w := by go_simp; rfl
theorem Kinds.look {W : World} {n b : Nat} {cs : List Nat} (h : Kinds W n b cs) (ok : Bool) (i c : Nat) (hi : cs[i]? = some c) (hw : (Lit.int .i64 ((i + 1 : Nat) : Int)).wf = true) :
    (Instr.lookup 47 (.map (some b)) (.int .i64 ((i + 1 : Nat) : Int)) ok).run Tryd.prog W = .ok (if ok then .tuple #[ent c (i + 1), .bool true] else ent c (i + 1)) W := by
  have hlt := (List.getElem?_eq_some_iff.1 hi).1
  have h8 := h.len
  obtain ⟨es, clock, hb, F, _, hD⟩ := h.own
  have hat := DM_at cs i c hi
  rw [hD] at hat
  rcases Maps.fit_look (R := Rv) ok intKeyed Tryd.underlying47 (zero_kind W) hb F (keyI ((i + 1 : Nat) : Int) hw) with ⟨_, _, h3⟩ | ⟨e0, y, _, _, h3, h4, h5, _⟩
  · have h1 := (h3 .nil).symm.trans (hat .nil)
    cases h1
  · have h1 := (h5 .nil).symm.trans (hat .nil)
    cases h4
    rw [h3, DataW.held.inj h1]
theorem findNow_none (k : Int) : ∀ (es : List MapEntry) (i : Nat), (∀ e ∈ es, ∃ a, e.key = .int .i64 a ∧ a ≠ k) → Instr.findNow (.int .i64) (.int .i64 k) es i = some none
  | [], _, _ => rfl
  | e :: es, i, h => by
    obtain ⟨a, h1, h2⟩ := h e (by simp)
    rw [Instr.findNow, h1]
    have : Instr.sameNow (.int .i64) (.int .i64 k) (.int .i64 a) = some false := by simp [Instr.sameNow, Ne.symm h2]
    rw [this]
    exact findNow_none k es (i + 1) fun x hx => h x (by simp [hx])
theorem check_int (em : Bool) (k : Int) (w : World) : (Instr.checkKey em 10000 3 (.int .i64 k)).run Tryd.prog w = .ok () w := by
  rw [show (10000 : Nat) = 9999 + 1 from rfl, Instr.checkKey]
  simp [run_underlying Tryd.underlying3, Result.andThen]
theorem Kinds.miss {W : World} {n b : Nat} {cs : List Nat} (h : Kinds W n b cs) (ok : Bool) (k : Int) (hk : k < 1 ∨ 8 < k) :
    (Instr.lookup 47 (.map (some b)) (.int .i64 k) ok).run Tryd.prog W = .ok (if ok then .tuple #[zeroK, .bool false] else zeroK) W := by
  obtain ⟨es, clock, hb, F, _, hD⟩ := h.own
  by_cases hw : (Lit.int .i64 k).wf = true
  · have hat := DM_not cs k (by rw [h.len]; exact hk)
    rw [hD] at hat
    rcases Maps.fit_look (R := Rv) ok intKeyed Tryd.underlying47 (zero_kind W) hb F (keyI k hw) with ⟨h2, _, h3⟩ | ⟨e0, y, _, _, h3, h4, h5, _⟩
    · exact h2
    · have h1 := (h5 .nil).symm.trans (hat .nil)
      cases h4
      exact absurd h1 (by simp)
  · have hkeys : ∀ e ∈ es.toList, ∃ a, e.key = .int .i64 a ∧ a ≠ k := by
      intro e he
      obtain ⟨l, hl⟩ := F.keys e he
      generalize e.key = v at *
      cases v <;> simp [keyOf, mapKey, Tryd.underlying3] at hl
      obtain ⟨⟨rfl, hwf⟩, _⟩ := hl
      exact ⟨_, rfl, fun e => hw (e ▸ hwf)⟩
    have hf := findNow_none k es.toList 0 hkeys
    simp [Instr.lookup, run_underlying Tryd.underlying47, MapKept.run_getObj_map hb, check_int, Instr.findKey, run_underlying Tryd.underlying3, hf, Result.andThen]
    rfl
theorem Kinds.at_ {W : World} {n b : Nat} {cs : List Nat} (h : Kinds W n b cs) (k : Int) (h1 : 1 ≤ k) (h2 : k ≤ 8) : ∃ (j c : Nat), k = ((j + 1 : Nat) : Int) ∧ j < 8 ∧ HasAt W n c (numG (j + 1)) (loN (j + 1)) (hiN (j + 1)) ∧
    ∀ (ok : Bool) (W' : World), Below n W W' → (Instr.lookup 47 (.map (some b)) (.int .i64 k) ok).run Tryd.prog W' = .ok (if ok then .tuple #[ent c (j + 1), .bool true] else ent c (j + 1)) W' := by
  obtain ⟨j, rfl⟩ : ∃ j : Nat, k = ((j + 1 : Nat) : Int) := ⟨(k - 1).toNat, by omega⟩
  have hj : j < 8 := by omega
  have hlt : j < cs.length := by rw [h.len]; exact hj
  refine ⟨j, cs[j], rfl, hj, h.has j _ (List.getElem?_eq_getElem hlt), fun ok W' hb => (h.from_ hb).look ok j _ (List.getElem?_eq_getElem hlt) ?_⟩
  match j, hj with
  | 0, _ => decide
  | 1, _ => decide
  | 2, _ => decide
  | 3, _ => decide
  | 4, _ => decide
  | 5, _ => decide
  | 6, _ => decide
  | 7, _ => decide
end Go.Proofs.YtmlkccbhdhgoeaaDoor
