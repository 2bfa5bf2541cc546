/- The landed package shape: the table of kinds: a map of structs of functions. A range over a function whose body may return: a round that goes on keeps whatever lay there, but for what it says. My own law out of the kit's one for the statement. The landed package shape: a type and those in it, as they are told. The landed package shape: check. The landed package shape: fixed. The landed package shape: what is left of a value, the type of an item, sizes. The landed package shape: size. The reference's Types: how many types stand in a type. -/
import Derived.Test.YtaajkbclojmbeaaGreatDoorI07
import Derived.Maps.OwnIn
import Derived.Maps.Own
import Derived.Maps.OwnOps
import Derived.Test.YtaajkbclojmbeaaGreatDoorI02
import Derived.RangeFuncBound
import Derived.RangeFuncCalls
import Derived.RangeFuncLeaves
import Derived.RangeFuncNested
import Derived.Lib.Hide
import Derived.Test.YtaajkbclojmbeaaGreatDoorI01
import Derived.DefersIn
import Derived.OwnWalkIn
import Derived.TacticsInMore
import Derived.LoopNIn
import Derived.LoopIn
import Derived.RangeFuncBox
import Derived.Shelf.Abstract
import Derived.Test.YtaajkbclojmbeaaGreatDoorI04
import Derived.Test.YtaajkbclojmbeaaGreatDoorI03
import Derived.Laws.Bits64b
namespace Go.Proofs.YtaajkbclojmbeaaGreatDoor
open Go Go.RowKit
open Go.Maps (Keyed)

/-- How an entry reads: as itself. -/
def Rv (v : Value) : Option (DataW Value × List MemPlace) := some (.held v, [])
def sizeV (k : Nat) : Value := match k with
  | 1 => .func (.func 76) #[] #[]
  | 2 => .func (.func 82) #[] #[]
  | 3 => .func (.func 87) #[] #[]
  | 5 => .func (.func 94) #[] #[]
  | 7 => .func (.func 100) #[] #[]
  | _ => .nilFunc
def faultG (k : Nat) : FuncId := match k with
  | 1 => 77
  | 2 => 83
  | 3 => 88
  | 4 => 92
  | 5 => 95
  | 6 => 98
  | 7 => 101
  | _ => 103
def restG (k : Nat) : FuncId := match k with
  | 1 => 80
  | 2 => 80
  | 3 => 90
  | 4 => 90
  | 5 => 97
  | 6 => 97
  | 7 => 90
  | _ => 104
def ofF (k : Nat) : Value := match k with
  | 3 => .func (.func 91) #[] #[]
  | 4 => .func (.func 91) #[] #[]
  | 7 => .func (.func 102) #[] #[]
  | 8 => .func (.func 105) #[] #[]
  | _ => .nilFunc
def numG (k : Nat) : FuncId := match k with
  | 1 => 75
  | 2 => 81
  | 3 => 86
  | 4 => 86
  | 5 => 86
  | 6 => 86
  | _ => 81
def loN (k : Nat) : Nat := match k with
  | 3 => 1
  | 4 => 1
  | 7 => 1
  | 8 => 1
  | _ => 0
def hiN (k : Nat) : Nat := match k with
  | 3 => 1
  | 4 => 1
  | 7 => 16
  | 8 => 8
  | _ => 0
/-- What is under a kind. -/
def ent (c k : Nat) : Value := .agg #[hasV c, sizeV k, .func (.func (faultG k)) #[] #[], .func (.func (restG k)) #[] #[], ofF k]
def put8 (D : DataW Value) (c k : Nat) : DataW Value := D.put (.int .i64 (k : Nat)) (.held (ent c k))
def DM (cs : List Nat) : DataW Value := (cs.zipIdx.foldl (fun D p => put8 D p.1 (p.2 + 1)) (.map []))

theorem own_at {w W : World} {b n : Nat} {D : DataW Value} (h : w.ownsMap Tryz.prog 3 Rv b n D) (he : W.heap[b]? = w.heap[b]?) : W.ownsMap Tryz.prog 3 Rv b n D := by
  obtain ⟨es, clock, hb, F, hs, hD⟩ := h
  exact ⟨es, clock, he.trans hb, F, hs, hD⟩
theorem wpList_insert_own {w : World} {ops : Array Oper} {rest : List Oper} {o : Oper} {a : Act} {Q : Exit → Act → World → Prop}
    (hg : o.guard = none) (m x v : Operand) (t : TypeId) (hop : o.op = Op.insert t m x v)
    (k e : TypeId) (K : Keyed Tryz.prog k) (ht : Tryz.prog.underlying t = some (.map k e)) (R : Value → Option (DataW Value × List MemPlace)) (b n : Nat) (D : DataW Value)
    (hm : a.eval m = .map (some b)) (hown : w.ownsMap Tryz.prog k R b n D) (hn : n < maxLen) (key val : Value) (kl : Lit) (hx : a.eval x = key) (hv : a.eval v = val) (hkey : keyOf Tryz.prog k key = some kl)
    (d : DataW Value) (ps : List MemPlace) (hval : R val = some (d, ps))
    (hK : ∀ w', w'.ownsMap Tryz.prog k R b (n + 1) (D.put kl d) → w.grownBy w' (some b) → wpList Tryz.prog ops Q rest (a.put o.dst undef) w') :
    wpList Tryz.prog ops Q (o :: rest) a w := by
  refine wpList_plain hg fun K' hK' => ?_
  obtain ⟨w', hrun, r1, r2⟩ := hown.update K ht hn hkey hval
  unfold Oper.wp
  simp [execOp, hop, hm, hx, hv, hrun, Result.andThen]
  exact hK' _ _ (hK w' r1 r2)

theorem HasAt.grow {w W : World} {c b : Nat} {g : FuncId} {lo hi : Nat} (h : HasAt w w.heap.size c g lo hi) (hg : w.grownBy W (some b)) (hc : b < c) : HasAt W W.heap.size c g lo hi := by
  have hlt := h.lt
  have hz := hg.size
  have key : ∀ i, i < 3 → W.cell? ⟨c + i, 0, none⟩ = w.cell? ⟨c + i, 0, none⟩ := fun i hi => World.cell?_of_block (a := ⟨c + i, 0, none⟩) (hg.block (c + i) (by omega) (fun e => by cases e; omega))
  exact ⟨by omega, (key 0 (by omega)).trans h.c0, (key 1 (by omega)).trans h.c1, (key 2 (by omega)).trans h.c2⟩
theorem Below.grow {w W W2 : World} {b : Nat} (h : Below w.heap.size w W) (hg : W.grownBy W2 (some b)) (hb : w.heap.size ≤ b) : Below w.heap.size w W2 :=
  ⟨hg.os.trans h.os, hg.tape.trans h.tape, hg.output.trans h.output, Nat.le_trans h.size hg.size, fun i hi => (hg.block i (Nat.lt_of_lt_of_le hi h.size) (fun e => by cases e; omega)).trans (h.block i hi)⟩

/-- While the table is made. -/
structure TS (w W : World) (j : Nat) (cs : List Nat) (D : DataW Value) : Prop where
  own : W.ownsMap Tryz.prog 3 Rv w.heap.size j D
  len : cs.length = j
  has : ∀ i c, cs[i]? = some c → HasAt W W.heap.size c (numG (i + 1)) (loN (i + 1)) (hiN (i + 1)) ∧ w.heap.size < c
  below : Below w.heap.size w W
theorem TS.next {w W w1 w2 : World} {j : Nat} {cs : List Nat} {D D2 : DataW Value} (h : TS w W j cs D) (hH : HasAt w1 w1.heap.size W.heap.size (numG (j + 1)) (loN (j + 1)) (hiN (j + 1))) (hb : Below W.heap.size W w1)
    (ho : w2.ownsMap Tryz.prog 3 Rv w.heap.size (j + 1) D2) (hg : w1.grownBy w2 (some w.heap.size)) : TS w w2 (j + 1) (cs ++ [W.heap.size]) D2 := by
  have hlt := h.own.lt
  have hz := hb.size
  refine ⟨ho, by rw [List.length_append, h.len]; rfl, fun i c e => ?_, Below.grow (h.below.trans (hb.mono h.below.size)) hg (Nat.le_refl _)⟩
  rw [List.getElem?_append] at e
  split at e
  · obtain ⟨h1, h2⟩ := h.has i c e
    exact ⟨((h1.from_ hb).mono hz).grow hg h2, h2⟩
  · rename_i hi
    have hj := h.len
    have : i - cs.length = 0 := by
      rcases Nat.eq_zero_or_pos (i - cs.length) with h0 | h0
      · exact h0
      · rw [List.getElem?_eq_none (by simp; omega)] at e; cases e
    rw [this] at e
    cases e
    obtain rfl : i = j := by omega
    exact ⟨hH.grow hg hlt, hlt⟩

/-- The table of kinds, in block b, with all that it leads to in the first n blocks. -/
structure Kinds (W : World) (n b : Nat) (cs : List Nat) : Prop where
  lt : b < n
  own : W.ownsMap Tryz.prog 3 Rv b 8 (DM cs)
  len : cs.length = 8
  has : ∀ i c, cs[i]? = some c → HasAt W n c (numG (i + 1)) (loN (i + 1)) (hiN (i + 1))
theorem Kinds.from_ {w W : World} {n b : Nat} {cs : List Nat} (h : Kinds w n b cs) (hb : Below n w W) : Kinds W n b cs :=
  ⟨h.lt, own_at h.own (hb.block b h.lt), h.len, fun i c e => (h.has i c e).from_ hb⟩
theorem Kinds.mono {w : World} {n m b : Nat} {cs : List Nat} (h : Kinds w n b cs) (hm : n ≤ m) : Kinds w m b cs :=
  ⟨Nat.lt_of_lt_of_le h.lt hm, h.own, h.len, fun i c e => (h.has i c e).mono hm⟩

theorem keyI (k : Int) (h : (Lit.int .i64 k).wf = true) : keyOf Tryz.prog 3 (.int .i64 k) = some (.int .i64 k) := Go.Maps.keyOf_int_mk Tryz.underlying3 h
theorem intKeyed : Keyed Tryz.prog 3 := Go.Maps.int_keyed Tryz.underlying3

set_option maxRecDepth 100000 in
set_option maxHeartbeats 8000000 in
theorem table_any (w : World) : Calls Tryz.prog 42 #[] w fun e w' => e = .returned (.map (some w.heap.size)) ∧ (∃ cs, Kinds w' w'.heap.size w.heap.size cs) ∧ Below w.heap.size w w' := by
  have hmm := @run_makeMap Tryz.prog
  have HH := Lib.hid has_any
  have T0 : Hid (TS w (w.alloc (.map #[] 0)) 0 [] (.map [])) := ⟨World.ownsMap_made _ _ _ _, rfl, fun i c e => by simp at e, (Below.refl _ _).alloc (Nat.le_refl _) _⟩
  obtain ⟨W0, hW0⟩ : ∃ W0, w.alloc (.map #[] 0) = W0 := ⟨_, rfl⟩
  rw [hW0] at T0
  have HW0 := Lib.hid hW0
  clear hW0
  go_enter Tryz.func42, Tryz.ntmps42
  go_wp2_with fail
  rw [HW0.out]
  refine (HH.out _ _ _ _).mono ?_
  rintro e u1 ⟨rfl, hH, hb⟩
  have ho := own_at T0.out.own (hb.block _ T0.out.own.lt)
  go_wp2_with (refine wpList_insert_own rfl _ _ _ _ rfl 3 96 intKeyed Tryz.underlying68 Rv w.heap.size 0 _ rfl ho (by decide) (.int .i64 1) (ent W0.heap.size 1) (.int .i64 1) rfl rfl (keyI 1 (by decide)) _ _ rfl ?_; intro W1 ho1 hg1)
  have T1 := Lib.hid (T0.out.next hH hb ho1 hg1)
  clear T0 hH hb ho ho1 hg1
  refine (HH.out _ _ _ _).mono ?_
  rintro e u2 ⟨rfl, hH, hb⟩
  have ho := own_at T1.out.own (hb.block _ T1.out.own.lt)
  go_wp2_with (refine wpList_insert_own rfl _ _ _ _ rfl 3 96 intKeyed Tryz.underlying68 Rv w.heap.size 1 _ rfl ho (by decide) (.int .i64 2) (ent W1.heap.size 2) (.int .i64 2) rfl rfl (keyI 2 (by decide)) _ _ rfl ?_; intro W2 ho2 hg2)
  have T2 := Lib.hid (T1.out.next hH hb ho2 hg2)
  clear T1 hH hb ho ho2 hg2
  refine (HH.out _ _ _ _).mono ?_
  rintro e u3 ⟨rfl, hH, hb⟩
  have ho := own_at T2.out.own (hb.block _ T2.out.own.lt)
  go_wp2_with (refine wpList_insert_own rfl _ _ _ _ rfl 3 96 intKeyed Tryz.underlying68 Rv w.heap.size 2 _ rfl ho (by decide) (.int .i64 3) (ent W2.heap.size 3) (.int .i64 3) rfl rfl (keyI 3 (by decide)) _ _ rfl ?_; intro W3 ho3 hg3)
  have T3 := Lib.hid (T2.out.next hH hb ho3 hg3)
  clear T2 hH hb ho ho3 hg3
  refine (HH.out _ _ _ _).mono ?_
  rintro e u4 ⟨rfl, hH, hb⟩
  have ho := own_at T3.out.own (hb.block _ T3.out.own.lt)
  go_wp2_with (refine wpList_insert_own rfl _ _ _ _ rfl 3 96 intKeyed Tryz.underlying68 Rv w.heap.size 3 _ rfl ho (by decide) (.int .i64 4) (ent W3.heap.size 4) (.int .i64 4) rfl rfl (keyI 4 (by decide)) _ _ rfl ?_; intro W4 ho4 hg4)
  have T4 := Lib.hid (T3.out.next hH hb ho4 hg4)
  clear T3 hH hb ho ho4 hg4
  refine (HH.out _ _ _ _).mono ?_
  rintro e u5 ⟨rfl, hH, hb⟩
  have ho := own_at T4.out.own (hb.block _ T4.out.own.lt)
  go_wp2_with (refine wpList_insert_own rfl _ _ _ _ rfl 3 96 intKeyed Tryz.underlying68 Rv w.heap.size 4 _ rfl ho (by decide) (.int .i64 5) (ent W4.heap.size 5) (.int .i64 5) rfl rfl (keyI 5 (by decide)) _ _ rfl ?_; intro W5 ho5 hg5)
  have T5 := Lib.hid (T4.out.next hH hb ho5 hg5)
  clear T4 hH hb ho ho5 hg5
  refine (HH.out _ _ _ _).mono ?_
  rintro e u6 ⟨rfl, hH, hb⟩
  have ho := own_at T5.out.own (hb.block _ T5.out.own.lt)
  go_wp2_with (refine wpList_insert_own rfl _ _ _ _ rfl 3 96 intKeyed Tryz.underlying68 Rv w.heap.size 5 _ rfl ho (by decide) (.int .i64 6) (ent W5.heap.size 6) (.int .i64 6) rfl rfl (keyI 6 (by decide)) _ _ rfl ?_; intro W6 ho6 hg6)
  have T6 := Lib.hid (T5.out.next hH hb ho6 hg6)
  clear T5 hH hb ho ho6 hg6
  refine (HH.out _ _ _ _).mono ?_
  rintro e u7 ⟨rfl, hH, hb⟩
  have ho := own_at T6.out.own (hb.block _ T6.out.own.lt)
  go_wp2_with (refine wpList_insert_own rfl _ _ _ _ rfl 3 96 intKeyed Tryz.underlying68 Rv w.heap.size 6 _ rfl ho (by decide) (.int .i64 7) (ent W6.heap.size 7) (.int .i64 7) rfl rfl (keyI 7 (by decide)) _ _ rfl ?_; intro W7 ho7 hg7)
  have T7 := Lib.hid (T6.out.next hH hb ho7 hg7)
  clear T6 hH hb ho ho7 hg7
  refine (HH.out _ _ _ _).mono ?_
  rintro e u8 ⟨rfl, hH, hb⟩
  have ho := own_at T7.out.own (hb.block _ T7.out.own.lt)
  go_wp2_with (refine wpList_insert_own rfl _ _ _ _ rfl 3 96 intKeyed Tryz.underlying68 Rv w.heap.size 7 _ rfl ho (by decide) (.int .i64 8) (ent W7.heap.size 8) (.int .i64 8) rfl rfl (keyI 8 (by decide)) _ _ rfl ?_; intro W8 ho8 hg8)
  have T8 := Lib.hid (T7.out.next hH hb ho8 hg8)
  clear T7 hH hb ho ho8 hg8
  go_ret
  exact ⟨rfl, ⟨[W0.heap.size, W1.heap.size, W2.heap.size, W3.heap.size, W4.heap.size, W5.heap.size, W6.heap.size, W7.heap.size], ⟨T8.out.own.lt, T8.out.own, T8.out.len, fun i c e => (T8.out.has i c e).1⟩⟩, T8.out.below⟩
theorem isMap_put {D : DataW Value} (h : Go.Maps.IsMap D) (k : Lit) (d : DataW Value) : Go.Maps.IsMap (D.put k d) := by
  obtain ⟨es, rfl⟩ := h
  exact ⟨_, rfl⟩
theorem isMap_fold (l : List (Nat × Nat)) : ∀ D, Go.Maps.IsMap D → Go.Maps.IsMap (l.foldl (fun D p => put8 D p.1 (p.2 + 1)) D) := by
  induction l with
  | nil => exact fun D h => h
  | cons p l ih => exact fun D h => ih _ (isMap_put h _ _)
/-- What is under a key. -/
theorem atKey_fold (kl : Lit) (z : DataW Value) (l : List (Nat × Nat)) : ∀ D, Go.Maps.IsMap D → (∀ p ∈ l, kl ≠ .int .i64 ((p.2 + 1 : Nat) : Int)) → (l.foldl (fun D p => put8 D p.1 (p.2 + 1)) D).atKey kl z = D.atKey kl z := by
  induction l with
  | nil => exact fun D _ _ => rfl
  | cons p l ih =>
    intro D hD hp
    rw [List.foldl_cons, ih (put8 D p.1 (p.2 + 1)) (isMap_put hD _ _) (fun q hq => hp q (by simp [hq]))]
    exact Go.Maps.atKey_put_other (hp p (by simp)) _ _
theorem DM_at (cs : List Nat) (i c : Nat) (hi : cs[i]? = some c) (z : DataW Value) : (DM cs).atKey (.int .i64 ((i + 1 : Nat) : Int)) z = .held (ent c (i + 1)) := by
  have hlt := (List.getElem?_eq_some_iff.1 hi).1
  have hz : cs.zipIdx = (cs.zipIdx.take i) ++ (c, i) :: (cs.zipIdx.drop (i + 1)) := by
    have h1 : cs.zipIdx[i]? = some (c, i) := by rw [List.getElem?_zipIdx, hi]; simp
    have h2 := List.getElem?_eq_some_iff.1 h1
    rw [← h2.2, ← List.drop_eq_getElem_cons h2.1, List.take_append_drop]
  unfold DM
  rw [hz, List.foldl_append, List.foldl_cons, atKey_fold]
  · exact Go.Maps.atKey_put_same (isMap_fold _ _ ⟨_, rfl⟩) (by simp [WideAt.IsKeyLit]) _ _
  · exact isMap_put (isMap_fold _ _ ⟨_, rfl⟩) _ _
  · intro p hp e
    obtain ⟨j, hj⟩ := List.mem_iff_getElem?.1 hp
    rw [List.getElem?_drop, List.getElem?_zipIdx] at hj
    cases hc : cs[i + 1 + j]? with
    | none => rw [hc] at hj; simp at hj
    | some d =>
      rw [hc] at hj
      simp at hj
      rw [← hj] at e
      simp at e
      omega
theorem DM_not (cs : List Nat) (k : Int) (hk : k < 1 ∨ cs.length < k) (z : DataW Value) : (DM cs).atKey (.int .i64 k) z = z := by
  unfold DM
  rw [atKey_fold]
  · rfl
  · exact ⟨_, rfl⟩
  · intro p hp e
    obtain ⟨j, hj⟩ := List.mem_iff_getElem?.1 hp
    rw [List.getElem?_zipIdx] at hj
    cases hc : cs[j]? with
    | none => rw [hc] at hj; simp at hj
    | some d =>
      have hlt := (List.getElem?_eq_some_iff.1 hc).1
      rw [hc] at hj
      simp at hj
      rw [← hj] at e
      simp at e
      omega

def zeroK : Value := .agg #[.nilFunc, .nilFunc, .nilFunc, .nilFunc, .nilFunc]
theorem zero_kind (w : World) : (zeroValue 96).run Tryz.prog w = .ok zeroK w := by go_simp; rfl
theorem Kinds.look {W : World} {n b : Nat} {cs : List Nat} (h : Kinds W n b cs) (ok : Bool) (i c : Nat) (hi : cs[i]? = some c) (hw : (Lit.int .i64 ((i + 1 : Nat) : Int)).wf = true) :
    (Instr.lookup 68 (.map (some b)) (.int .i64 ((i + 1 : Nat) : Int)) ok).run Tryz.prog W = .ok (if ok then .tuple #[ent c (i + 1), .bool true] else ent c (i + 1)) W := by
  have hlt := (List.getElem?_eq_some_iff.1 hi).1
  have h8 := h.len
  obtain ⟨es, clock, hb, F, _, hD⟩ := h.own
  have hat := DM_at cs i c hi
  rw [hD] at hat
  rcases Maps.fit_look (R := Rv) ok intKeyed Tryz.underlying68 (zero_kind W) hb F (keyI ((i + 1 : Nat) : Int) hw) with ⟨_, _, h3⟩ | ⟨e0, y, _, _, h3, h4, h5, _⟩
  · have h1 := (h3 .nil).symm.trans (hat .nil)
    cases h1
  · have h1 := (h5 .nil).symm.trans (hat .nil)
    cases h4
    rw [h3, DataW.held.inj h1]
theorem findNow_none (k : Int) : ∀ (es : List MapEntry) (i : Nat), (∀ e ∈ es, ∃ a, e.key = .int .i64 a ∧ a ≠ k) → Instr.findNow (.int .i64) (.int .i64 k) es i = some none
  | [], _, _ => rfl
  | e :: es, i, h => by
    obtain ⟨a, h1, h2⟩ := h e (by simp)
    rw [Instr.findNow, h1]
    have : Instr.sameNow (.int .i64) (.int .i64 k) (.int .i64 a) = some false := by simp [Instr.sameNow, Ne.symm h2]
    rw [this]
    exact findNow_none k es (i + 1) fun x hx => h x (by simp [hx])
theorem check_int (em : Bool) (k : Int) (w : World) : (Instr.checkKey em 10000 3 (.int .i64 k)).run Tryz.prog w = .ok () w := by
  rw [show (10000 : Nat) = 9999 + 1 from rfl, Instr.checkKey]
  simp [run_underlying Tryz.underlying3, Result.andThen]
theorem Kinds.miss {W : World} {n b : Nat} {cs : List Nat} (h : Kinds W n b cs) (ok : Bool) (k : Int) (hk : k < 1 ∨ 8 < k) :
    (Instr.lookup 68 (.map (some b)) (.int .i64 k) ok).run Tryz.prog W = .ok (if ok then .tuple #[zeroK, .bool false] else zeroK) W := by
  obtain ⟨es, clock, hb, F, _, hD⟩ := h.own
  by_cases hw : (Lit.int .i64 k).wf = true
  · have hat := DM_not cs k (by rw [h.len]; exact hk)
    rw [hD] at hat
    rcases Maps.fit_look (R := Rv) ok intKeyed Tryz.underlying68 (zero_kind W) hb F (keyI k hw) with ⟨h2, _, h3⟩ | ⟨e0, y, _, _, h3, h4, h5, _⟩
    · exact h2
    · have h1 := (h5 .nil).symm.trans (hat .nil)
      cases h4
      exact absurd h1 (by simp)
  · have hkeys : ∀ e ∈ es.toList, ∃ a, e.key = .int .i64 a ∧ a ≠ k := by
      intro e he
      obtain ⟨l, hl⟩ := F.keys e he
      generalize e.key = v at *
      cases v <;> simp [keyOf, mapKey, Tryz.underlying3] at hl
      obtain ⟨⟨rfl, hwf⟩, _⟩ := hl
      exact ⟨_, rfl, fun e => hw (e ▸ hwf)⟩
    have hf := findNow_none k es.toList 0 hkeys
    simp [Instr.lookup, run_underlying Tryz.underlying68, MapKept.run_getObj_map hb, check_int, Instr.findKey, run_underlying Tryz.underlying3, hf, Result.andThen]
    rfl
theorem Kinds.at_ {W : World} {n b : Nat} {cs : List Nat} (h : Kinds W n b cs) (k : Int) (h1 : 1 ≤ k) (h2 : k ≤ 8) : ∃ (j c : Nat), k = ((j + 1 : Nat) : Int) ∧ j < 8 ∧ HasAt W n c (numG (j + 1)) (loN (j + 1)) (hiN (j + 1)) ∧
    ∀ (ok : Bool) (W' : World), Below n W W' → (Instr.lookup 68 (.map (some b)) (.int .i64 k) ok).run Tryz.prog W' = .ok (if ok then .tuple #[ent c (j + 1), .bool true] else ent c (j + 1)) W' := by
  obtain ⟨j, rfl⟩ : ∃ j : Nat, k = ((j + 1 : Nat) : Int) := ⟨(k - 1).toNat, by omega⟩
  have hj : j < 8 := by omega
  have hlt : j < cs.length := by rw [h.len]; exact hj
  refine ⟨j, cs[j], rfl, hj, h.has j _ (List.getElem?_eq_getElem hlt), fun ok W' hb => (h.from_ hb).look ok j _ (List.getElem?_eq_getElem hlt) ?_⟩
  match j, hj with
  | 0, _ => decide
  | 1, _ => decide
  | 2, _ => decide
  | 3, _ => decide
  | 4, _ => decide
  | 5, _ => decide
  | 6, _ => decide
  | 7, _ => decide
end Go.Proofs.YtaajkbclojmbeaaGreatDoor
namespace Go.Proofs.YtaajkbclojmbeaaGreatDoor
open Go Go.RowKit

/-- How the body of a round may be left. -/
def lwPost {α : Type} (On : α → Prop) (B : Nat) (T : Nat → Prop) (I : List α → World → Prop) (Ix : α → World → Prop) (xs : List α) (x : α) (W : World) : Exit → Act → World → Prop
  | .normal, _, W' => On x ∧ KeepsFrom B W W' ∧ (∀ b, b < W.heap.size → T b → W'.heap[b]? = W.heap[b]?) ∧ I xs W'
  | .ret, _, W' => ¬ On x ∧ KeepsFrom B W W' ∧ Ix x W'
  | _, _, _ => False

theorem range_lw {α : Type} {P : Program} {n : Nat} {g : Operand} {ps : Array Tmp} {assign body : Code} {Q : Exit → Act → World → Prop} {a : Act} {w : World} (h1 : 1 ≤ n)
    {gf : Nat} {lb : Array Value} (hg : a.eval g = .func (.func gf) #[] lb) (eg : ∀ args w, (callFunc gf args).run P w = .ok (.enter gf args) w)
    {encs : α → Array Value} (hps : ∀ x, (encs x).size = ps.size) (I : List α → World → Prop) (hI : OwnFrom w.heap.size I) (Ix : α → World → Prop) (hIx : OwnFrom w.heap.size Ix)
    (T : Nat → Prop) (hT : ∀ b, T b → b ≠ w.heap.size + 1) (S : List α → Prop) (Sx On : α → Prop)
    (G : List α → α → World → World → Prop)
    (hseq : ∀ (l : Nat) (J : List α → World → Prop) (Jx : α → World → Prop) (W : World), w.heap.size + 2 ≤ W.heap.size → (∀ pre A, J pre A → I pre A ∧ w.heap.size + 2 ≤ A.heap.size) →
      (∀ pre A B, J pre A → A.grownBy B none → J pre B) →
      (∀ pre x A B, J pre A → A.grownBy B none → G pre x A B → YieldAt Fence.wide (n - 1 - 1) P l (encs x) B fun e W' =>
        (e = .returned (.bool true) ∧ On x ∧ J (pre ++ [x]) W' ∧ B.heap.size ≤ W'.heap.size ∧ ∀ b, b < B.heap.size → T b → W'.heap[b]? = B.heap[b]?) ∨ (e = .returned (.bool false) ∧ ¬ On x ∧ Jx x W')) →
      J [] W → CallsIn Fence.wide (n - 1) P gf (#[.func (.yield l) #[] #[]] ++ lb) W fun e W' => (∃ v, e = .returned v) ∧ ((∃ xs, S xs ∧ J xs W') ∨ ∃ x, Sx x ∧ Jx x W'))
    (h0 : I [] w) (Ax : List α → α → Act → World → Prop) (hAx : ∀ pre x a', OwnFrom w.heap.size fun (_ : Unit) W => Ax pre x a' W)
    (hassign : ∀ (l : Nat) (pre : List α) (x : α) (A B : World) (K : Act → World → Prop), I pre A → A.grownBy B none → G pre x A B → (∀ a' B', KeepsFrom w.heap.size B B' → (∀ b, b < B.heap.size → T b → B'.heap[b]? = B.heap[b]?) → Ax pre x a' B' → K a' B') →
      assign.wpIn (Fence.wide.inRound l) (n - 1 - 1) P (Exit.then K (fun _ _ _ => False)) { tmps := (ps.zip (encs x)).foldl (fun t (p, v) => t.setIfInBounds p v) a.tmps, defers := [] } B)
    (hbody : ∀ (l : Nat) (pre : List α) (x : α) (a' : Act) (B : World), Ax pre x a' B →
      body.wpIn (Fence.wide.inRound l) (n - 1 - 1) P (lwPost On w.heap.size T I Ix (pre ++ [x]) x B) a' B)
    (hdone : ∀ (D : Nat) (xs : List α) (W : World), w.heap.size ≤ D → S xs → I xs W → W.heap[D]? = some (.deferred (some [])) → Q .normal { a with defers := { target := .collected D, args := #[] } :: a.defers } W)
    (hstop : ∀ (D : Nat) (x : α) (W : World), w.heap.size ≤ D → Sx x → Ix x W → W.heap[D]? = some (.deferred (some [])) → Code.ret.wpIn Fence.wide n P Q { a with defers := { target := .collected D, args := #[] } :: a.defers } W) :
    (Code.rangeFunc g ps assign body).wpIn Fence.wide n P Q a w := by
  refine wpIn_rangeFunc ?_
  intro fn hfn
  have hro : Fence.wide.round = none := rfl
  rw [hro]
  obtain ⟨rec, hrec⟩ : ∃ rec : LoopState → Option Code → Loop, rec = fun st pe => { state := st, pending := pe, fn, tmps := a.tmps, params := ps, assign, body, defers := w.heap.size } := ⟨_, rfl⟩
  obtain ⟨W1, hW1⟩ : ∃ W1, (w.alloc (.deferred (some []))).alloc (.loop (rec .ready none)) = W1 := ⟨_, rfl⟩
  have hL1 : W1.heap[w.heap.size + 1]? = some (.loop (rec .ready none)) := by
    rw [← hW1]; have := World.alloc_heap_new (w.alloc (.deferred (some []))) (.loop (rec .ready none)); rwa [World.size_alloc] at this
  have hK1 : W1.heap[w.heap.size]? = some (.deferred (some [])) := by
    rw [← hW1]; exact (Below.heap_alloc _ _ _ (by simp)).trans (World.alloc_heap_new w _)
  have hI1 : I [] W1 := by rw [← hW1]; exact hI.alloc _ (hI.alloc _ h0)
  have hb1 : Below w.heap.size w W1 := by rw [← hW1]; exact ((Below.refl _ w).alloc (Nat.le_refl _) _).alloc (by simp) _
  refine ⟨w.heap.size + 1, [{ target := .collected w.heap.size, args := #[] }], W1, { target := .fn (.func gf) lb, args := #[.func (.yield (w.heap.size + 1)) #[] #[]] }, W1, gf,
    #[.func (.yield (w.heap.size + 1)) #[] #[]] ++ lb, W1, ?_, ?_, fun _ _ => trivial, ?_, fun _ => h1, ?_⟩
  · rw [← hW1, hrec]; exact run_enterLoop_outer _ _ _ _ _
  · simp only [resolve, hg]
    simp [go_sem]
  · simp [invoke, go_sem, eg]
  · refine (hseq (w.heap.size + 1)
      (fun pre W => I pre W ∧ W.heap[w.heap.size + 1]? = some (.loop (rec .ready none)) ∧ W.heap[w.heap.size]? = some (.deferred (some [])))
      (fun x W => Ix x W ∧ W.heap[w.heap.size + 1]? = some (.loop (rec .done (some .ret))) ∧ W.heap[w.heap.size]? = some (.deferred (some [])))
      W1 (by rw [← hW1]; simp) (fun _ A h => ⟨h.1, (Array.getElem?_eq_some_iff.1 h.2.1).1⟩)
      (fun pre A B hs hg' => ⟨hI pre A B none hs.1 hg' (fun r e => by cases e), (hg'.block _ (Array.getElem?_eq_some_iff.1 hs.2.1).1 (by simp)).trans hs.2.1, (hg'.block _ (Array.getElem?_eq_some_iff.1 hs.2.2).1 (by simp)).trans hs.2.2⟩)
      ?_ ⟨hI1, hL1, hK1⟩).mono ?_
    · rintro pre x A W ⟨hi, hlA, hkA⟩ hgr hgx
      have hl : W.heap[w.heap.size + 1]? = some (.loop (rec .ready none)) := (hgr.block _ (Array.getElem?_eq_some_iff.1 hlA).1 (by simp)).trans hlA
      have hk : W.heap[w.heap.size]? = some (.deferred (some [])) := (hgr.block _ (Array.getElem?_eq_some_iff.1 hkA).1 (by simp)).trans hkA
      have hlt : w.heap.size + 1 < W.heap.size := (Array.getElem?_eq_some_iff.1 hl).1
      have hltA : w.heap.size + 1 < A.heap.size := (Array.getElem?_eq_some_iff.1 hlA).1
      have hy := run_yield (P := P) (args := encs x) hl (by rw [hrec]; exact hps x)
      rw [hrec] at hy
      refine ⟨fn, _, assign, body, hy, roundIn_of_wpIn hfn (hassign _ pre x A W _ hi hgr hgx ?_)⟩
      intro a' W' hk1 hT1 hax
      have hl1 := hk1.same _ _ (by omega) hl rfl
      have hd1 := hk1.same _ _ (Nat.le_refl _) hk rfl
      have hlt1 : w.heap.size + 1 < W'.heap.size := (Array.getElem?_eq_some_iff.1 hl1).1
      refine ⟨_, run_beginRound hl1 (by rw [hrec]), ?_⟩
      have hl2 : (W'.putObj (w.heap.size + 1) (.loop { rec .ready none with state := .busy })).heap[w.heap.size + 1]? = some (.loop { rec .ready none with state := .busy }) := World.putObj_heap_same hlt1
      have hk2 : (W'.putObj (w.heap.size + 1) (.loop { rec .ready none with state := .busy })).heap[w.heap.size]? = some (.deferred (some [])) := (World.putObj_heap_other (by omega)).trans hd1
      refine wpIn_mono (hbody _ pre x a' _ ((hAx pre x a').putObj (s := ()) _ hax (by omega) hl1 rfl)) ?_
      have fin : ∀ (jump : Option Code) (W3 : World), KeepsFrom w.heap.size (W'.putObj (w.heap.size + 1) (.loop { rec .ready none with state := .busy })) W3 →
          (Instr.endRound (w.heap.size + 1) jump).run P W3 = .ok (.bool jump.isNone) (W3.putObj (w.heap.size + 1) (.loop (rec (if jump.isNone then .ready else .done) jump))) ∧
          W3.heap[w.heap.size + 1]? = some (.loop { rec .ready none with state := .busy }) ∧
          (W3.putObj (w.heap.size + 1) (.loop (rec (if jump.isNone then .ready else .done) jump))).heap[w.heap.size + 1]? = some (.loop (rec (if jump.isNone then .ready else .done) jump)) ∧
          (W3.putObj (w.heap.size + 1) (.loop (rec (if jump.isNone then .ready else .done) jump))).heap[w.heap.size]? = some (.deferred (some [])) := fun jump W3 hk3 => by
        have hl3 := hk3.same _ _ (by omega) hl2 rfl
        have := run_endRound (P := P) jump hl3
        rw [hrec] at this ⊢
        exact ⟨this, by rw [hrec] at hl3; exact hl3, World.putObj_heap_same (Array.getElem?_eq_some_iff.1 hl3).1, (World.putObj_heap_other (by omega)).trans (hk3.same _ _ (Nat.le_refl _) hk2 rfl)⟩
      rintro e a3 W3 hp
      cases e with
      | normal =>
        obtain ⟨hon, hk3, hkp3, hi3⟩ := hp
        obtain ⟨hr, hl3, hl4, hk4⟩ := fin none W3 hk3
        have hs1 := hk1.size
        have hs3 := hk3.size
        have hp : ∀ (W : World) (l : Nat) (o : Obj), (W.putObj l o).heap.size = W.heap.size := fun W l o => by simp [World.putObj]
        rw [hp] at hs3
        refine ⟨_, _, hr, .inl ⟨rfl, hon, ⟨hI.putObj _ hi3 (by omega) hl3 rfl, hl4, hk4⟩, by rw [hp]; omega, fun b hlt hb => ?_⟩⟩
        have := hT b hb
        rw [World.putObj_heap_other (by omega), hkp3 b (by rw [hp]; omega) hb, World.putObj_heap_other (by omega), hT1 b hlt hb]
      | ret =>
        obtain ⟨hon, hk3, hi3⟩ := hp
        obtain ⟨hr, hl3, hl4, hk4⟩ := fin (some .ret) W3 hk3
        exact ⟨_, _, hr, .inr ⟨rfl, hon, hIx.putObj _ hi3 (by omega) hl3 rfl, hl4, hk4⟩⟩
      | exit id => exact hp.elim
      | goto t => exact hp.elim
      | panic ch => exact hp.elim
      | outgrown => exact hp.elim
    · rintro e W2 ⟨⟨v, rfl⟩, (⟨xs, hS, hi, hl, hk⟩ | ⟨x, hSx, hi, hl, hk⟩)⟩
      · exact ⟨none, _, by have := run_endLoop (P := P) hl (by rw [hrec]; simp); rw [hrec] at this; exact this, hdone _ xs _ (Nat.le_refl _) hS (hI.putObj _ hi (by omega) hl rfl) ((World.putObj_heap_other (by omega)).trans hk)⟩
      · exact ⟨some .ret, _, by have := run_endLoop (P := P) hl (by rw [hrec]; simp); rw [hrec] at this; exact this, hstop _ x _ (Nat.le_refl _) hSx (hIx.putObj _ hi (by omega) hl rfl) ((World.putObj_heap_other (by omega)).trans hk)⟩

end Go.Proofs.YtaajkbclojmbeaaGreatDoor
namespace Go.Proofs.YtaajkbclojmbeaaGreatDoor
open Go Go.RowKit
attribute [local go_sem] Oper.semAt_some

theorem yieldAt_any {m m' : Nat} {P : Program} {l : Nat} {args : Array Value} {W : World} {R : Ending → World → Prop} (h : YieldAt Fence.wide m P l args W R) : YieldAt Fence.wide m' P l args W R := by
  obtain ⟨fn, tmps, assign, body, hy, h1, h2⟩ := h
  exact ⟨fn, tmps, assign, body, hy, h1, fun c cs _ => h2 c cs (room_wide _)⟩

/-- What comes each time: in how many types it stands, a type, the value of those in it. -/
abbrev El := (Nat × M.Ty) × Value
def encT (x : El) : Array Value := match x.1.2 with | .mk k n _ => #[.int .i64 (x.1.1 : Nat), tv k n x.2]
def GoodEl (w0 : World) (L0 : List (Nat × M.Ty)) (pre : List El) (x : El) : Prop := LayT w0 w0.heap.size x.1.2.ins x.2 ∧ x.1.1 + M.cntT x.1.2 ≤ 1100 ∧ ∃ zs, L0 = pre.map (·.1) ++ x.1 :: zs

/-- What the rounds do, for the function that calls them. -/
structure TellH (w0 : World) (L0 : List (Nat × M.Ty)) (T : Nat → Prop) (N0 l : Nat) (J : List El → World → Prop) (Jx : El → World → Prop) (On : El → Prop) : Prop where
  grow : ∀ pre A B, J pre A → A.grownBy B none → J pre B
  low : ∀ pre A, J pre A → Below w0.heap.size w0 A
  new : ∀ pre A, J pre A → N0 ≤ A.heap.size
  tn : ∀ b, N0 ≤ b → T b
  y : ∀ m pre x A, J pre A → GoodEl w0 L0 pre x → YieldAt Fence.wide m Tryz.prog l (encT x) A fun e W' =>
    (e = .returned (.bool true) ∧ On x ∧ J (pre ++ [x]) W' ∧ A.heap.size ≤ W'.heap.size ∧ ∀ b, b < A.heap.size → T b → W'.heap[b]? = A.heap[b]?) ∨ (e = .returned (.bool false) ∧ ¬ On x ∧ Jx x W')

def TellP (T : Nat → Prop) (J : List El → World → Prop) (Jx : El → World → Prop) (On : El → Prop) (pre : List El) (L : List (Nat × M.Ty)) (W : World) (e : Ending) (W' : World) : Prop :=
  (e = .returned (.bool true) ∧ ∃ ys : List El, ys.map (·.1) = L ∧ (∀ y ∈ ys, On y) ∧ J (pre ++ ys) W' ∧ W.heap.size ≤ W'.heap.size ∧ ∀ b, b < W.heap.size → T b → W'.heap[b]? = W.heap[b]?) ∨
  (e = .returned (.bool false) ∧ ∃ (ys : List El) (y : El) (zs : List (Nat × M.Ty)), L = ys.map (·.1) ++ y.1 :: zs ∧ (∀ z ∈ ys, On z) ∧ ¬ On y ∧ Jx y W')

set_option maxRecDepth 100000 in
set_option maxHeartbeats 8000000 in
theorem tell_n (w0 : World) (L0 : List (Nat × M.Ty)) (T : Nat → Prop) (N0 l : Nat) (J : List El → World → Prop) (Jx : El → World → Prop) (On : El → Prop) (H : TellH w0 L0 T N0 l J Jx On) (z : Nat) :
    ∀ (d : Nat) (k n : Int) (xs : List M.Ty) (a : Option Addr) (cap : Nat) (pre : List El) (W : World), SizeOf.sizeOf xs ≤ z → LayT w0 w0.heap.size xs (.slice a xs.length cap) → d + M.cntT (.mk k n xs) ≤ 1100 → (∃ zs, L0 = pre.map (·.1) ++ M.flat d (.mk k n xs) ++ zs) → J pre W →
    Calls Tryz.prog 141 #[.int .i64 (d : Nat), tv k n (.slice a xs.length cap), .func (.yield l) #[] #[]] W (TellP T J Jx On pre (M.flat d (.mk k n xs)) W) := by
  have hro : Fence.wide.round = none := rfl
  induction z with
  | zero => intro d k n xs a cap pre W h; cases xs <;> simp at h
  | succ z ih =>
    intro d k n xs a cap pre W hs hL hd hp h0
    obtain ⟨x, hx⟩ : ∃ x : El, x = ((d, .mk k n xs), .slice a xs.length cap) := ⟨_, rfl⟩
    have hcx : M.cntTs xs + 1 + d ≤ 1100 := by rw [M.cntT] at hd; omega
    have hlen := M.length_cntT xs
    obtain ⟨d1, hd1e⟩ : ∃ d1, d1 = d + 1 := ⟨_, rfl⟩
    have hd1 : (d : Int) + 1 = (d1 : Nat) := by omega
    have hd1c : M.cntTs xs + d1 ≤ 1100 := by omega
    obtain ⟨W1, hW1⟩ : ∃ W1, W.alloc (.cells #[.int .i64 k, .int .i64 n, .slice a xs.length cap] 32) = W1 := ⟨_, rfl⟩
    have hg1 : W.grownBy W1 none := by rw [← hW1]; exact World.grownBy_alloc _ _ _
    have hz1 : W1.heap.size = W.heap.size + 1 := by rw [← hW1]; simp
    have hB1 : BoxT W1 W.heap.size k n (.slice a xs.length cap) := by rw [← hW1]; exact BoxT.new _ _ _ _ _
    have hJ1 := H.grow _ _ _ h0 hg1
    have hnew := H.new _ _ h0
    obtain ⟨fn, tmps, assign, body, hy, hR⟩ := H.y 7 pre x W1 hJ1 ⟨by rw [hx]; exact hL, by rw [hx]; exact hd, by obtain ⟨zs, hzs⟩ := hp; rw [hx]; exact ⟨M.flats (d + 1) xs ++ zs, by rw [hzs, M.flat]; simp⟩⟩
    have hy' := hy
    rw [hx] at hy'
    dsimp only [encT] at hy'
    have HW1 := Lib.hid hW1
    have hflat : Hid (M.flat d (.mk k n xs) = (d, .mk k n xs) :: M.flats d1 xs) := by show _ = _; rw [M.flat, hd1e]
    rw [hflat.out]
    rw [← hW1] at hy'
    rw [hflat.out] at hp
    have HPP := Lib.hid hp
    clear hp
    clear hW1 hy hd hd1e
    refine (callsIn_wide (n := 8)).1 ?_
    refine callsIn_of_wp Tryz.func141 rfl trivial ?_ rfl
    simp only [Tryz.ntmps141, List.size_toArray, List.length_cons, List.length_nil, Nat.reduceAdd, Nat.reduceSub, Array.replicate_succ, Array.replicate_zero, List.push_toArray, List.append_toArray, List.nil_append, List.cons_append]
    gi_wp2
    rw [HW1.out]
    refine hR.mono ?_
    clear hy' hR
    rintro e W2 (⟨rfl, hon, hj2, hz2, hk2⟩ | ⟨rfl, hoff, hjx⟩)
    · have hB2 : BoxT W2 W.heap.size k n (.slice a xs.length cap) := by
        have hb := hk2 W.heap.size (by omega) (H.tn _ hnew)
        exact ⟨(World.cell?_of_block (a := ⟨W.heap.size, 0, none⟩) hb).trans hB1.c0, (World.cell?_of_block (a := ⟨W.heap.size, 1, none⟩) hb).trans hB1.c1, (World.cell?_of_block (a := ⟨W.heap.size, 2, none⟩) hb).trans hB1.c2⟩
      have c2 := hB2.c2
      gi_wp2
      gi_loopw [17] (fun i wr => ∃ (j : Nat) (ys : List El), j ≤ xs.length ∧ i = .int .i64 (j : Nat) ∧ ys.map (·.1) = M.flats d1 (xs.take j) ∧ (∀ y ∈ ys, On y) ∧ J (pre ++ [x] ++ ys) wr ∧ W2.heap.size ≤ wr.heap.size ∧ ∀ b, b < W2.heap.size → T b → wr.heap[b]? = W2.heap[b]?)
        (fun i _ => xs.length - (intOf i).toNat)
      case atStart => exact ⟨0, [], by omega, rfl, by simp [M.flats], by simp, by simpa using hj2, Nat.le_refl _, fun _ _ _ => rfl⟩
      case round =>
        obtain ⟨j, ys, hj, rfl, hys, hons, hjr, hzr, hkr⟩ := hrel
        by_cases hlt : j < xs.length
        · obtain ⟨b, o, k', m', us, au, cu, rfl, hbn, hxk, e0, e1, e2, hLu⟩ := hL.at_ hlt
          have hsx := size_ty hxk
          rw [M.Ty.mk.sizeOf_spec] at hsx
          have hlow := H.low _ _ hjr
          have g0 := (hlow.cell (p := ⟨b, o + j * 3, none⟩) hbn).trans e0
          have g1 := (hlow.cell (p := ⟨b, o + j * 3 + 1, none⟩) hbn).trans e1
          have g2 := (hlow.cell (p := ⟨b, o + j * 3 + 2, none⟩) hbn).trans e2
          have hcx := M.cntT_part (List.mem_of_getElem? hxk)
          obtain ⟨WB, hWB⟩ : ∃ WB, wr.alloc (.cells #[.int .i64 k', .int .i64 m', .slice au us.length cu] 32) = WB := ⟨_, rfl⟩
          have hgB : wr.grownBy WB none := by rw [← hWB]; exact World.grownBy_alloc _ _ _
          have HI : Hid (Calls Tryz.prog 141 #[.int .i64 (d1 : Nat), tv k' m' (.slice au us.length cu), .func (.yield l) #[] #[]] (wr.alloc (.cells #[.int .i64 k', .int .i64 m', .slice au us.length cu] 32)) (TellP T J Jx On (pre ++ [x] ++ ys) (M.flat d1 (.mk k' m' us)) (wr.alloc (.cells #[.int .i64 k', .int .i64 m', .slice au us.length cu] 32)))) :=
            ih d1 k' m' us au cu _ _ (by omega) hLu (by omega) (by
              obtain ⟨q1, hq1⟩ := HPP.out
              obtain ⟨q2, hq2⟩ := M.flats_part (d := d1) hxk
              refine ⟨q2 ++ q1, ?_⟩
              rw [hq1, hq2, hx, ← hys]
              simp) (by rw [hWB]; exact H.grow _ _ _ hjr hgB)
          have HN := Lib.hid (M.flats_next (d := d1) hxk)
          have HP := Lib.hid (M.flats_part (d := d1) hxk)
          have HWB := Lib.hid hWB
          clear hWB ih hd1c hcx hlow hL hLu hk2 e0 e1 e2 hsx
          gi_wp2_with fail
          refine ⟨trivial, (callsIn_wide.2 HI.out).mono ?_⟩
          rintro e W3 (⟨rfl, zs, hzs, honz, hj3, hz3, hk3⟩ | ⟨rfl, zs, y, ts, hzs, honz, hoff, hjx⟩)
          · clear HI
            gi_wp2
            go_roundw
            case rel =>
              refine ⟨j + 1, ys ++ zs, by omega, by simp, by rw [List.map_append, hys, hzs, HN.out], fun y hy => (List.mem_append.1 hy).elim (hons y) (honz y), by rw [← List.append_assoc]; exact hj3, by simp at hz3; omega, fun c hc hTc => ?_⟩
              have hzw := hgB.size
              exact ((hk3 c (by simp; omega) hTc).trans (by rw [HWB.out]; exact hgB.block c (by omega) (by simp))).trans (hkr c hc hTc)
            case measure => simp [intOf]; omega
          · have HX := Lib.hid hjx
            clear HI hjx
            gi_wp2
            go_ret
            obtain ⟨vs, hvs⟩ := HP.out
            refine .inr ⟨rfl, x :: (ys ++ zs), y, ts ++ vs, ?_, ?_, hoff, HX.out⟩
            · rw [hvs, hzs, ← hys, hx]
              simp
            · intro q hq
              rcases List.mem_cons.1 hq with rfl | hq
              · exact hon
              · exact (List.mem_append.1 hq).elim (hons q) (honz q)
        · obtain rfl : j = xs.length := by omega
          rw [List.take_length] at hys
          have HJ := Lib.hid hjr
          have HK := Lib.hid hkr
          clear hjr hkr
          gi_wp2
          go_ret
          refine .inl ⟨rfl, x :: ys, by rw [List.map_cons, hys, hx], ?_, by have := HJ.out; simpa using this, by omega, fun c hc hTc => ?_⟩
          · intro q hq
            rcases List.mem_cons.1 hq with rfl | hq
            · exact hon
            · exact hons q hq
          · exact (HK.out c (by omega) hTc).trans ((hk2 c (by omega) hTc).trans (hg1.block c hc (by simp)))
    · have HX := Lib.hid hjx
      clear hjx
      gi_wp2
      go_ret
      exact .inr ⟨rfl, [], x, M.flats d1 xs, by rw [hx]; rfl, by simp, hoff, HX.out⟩

theorem within_in (n : Nat) (k m : Int) (v : Value) (w : World) :
    CallsIn Fence.wide n Tryz.prog 106 #[tv k m v] w fun e w' =>
      e = .returned (.func (.func 140) #[] #[.pointer (some ⟨w.heap.size, 0, none⟩)]) ∧ w' = w.alloc (.cells #[.int .i64 k, .int .i64 m, v] 32) := by
  have hmf : ∀ (fn : Fn) (first cap : Array Value) (w : World), (Instr.makeFunc fn first cap).run Tryz.prog w = .ok (.func fn first cap) w := fun _ _ _ _ => rfl
  refine callsIn_of_wp Tryz.func106 rfl trivial ?_ rfl
  simp only [Tryz.ntmps106, List.size_toArray, List.length_cons, List.length_nil, Nat.reduceAdd, Nat.reduceSub, Array.replicate_succ, Array.replicate_zero, List.push_toArray, List.append_toArray, List.nil_append, List.cons_append]
  gi_wp2
  go_ret
  exact ⟨rfl, rfl⟩

/-- All of them are told; or one that ends it, and those ahead of it. -/
def AllOf (t : M.Ty) (On : El → Prop) (xs : List El) : Prop := xs.map (·.1) = M.flat 0 t ∧ ∀ y ∈ xs, On y
def OneOf (t : M.Ty) (On : El → Prop) (y : El) : Prop := ∃ (ys : List El) (zs : List (Nat × M.Ty)), M.flat 0 t = ys.map (·.1) ++ y.1 :: zs ∧ (∀ z ∈ ys, On z) ∧ ¬ On y

theorem within_seq (w0 : World) (T : Nat → Prop) (N0 l : Nat) (J : List El → World → Prop) (Jx : El → World → Prop) (On : El → Prop) (k n : Int) (xs : List M.Ty) (H : TellH w0 (M.flat 0 (.mk k n xs)) T N0 l J Jx On) (m : Nat)
    (a : Option Addr) (cap : Nat) (hL : LayT w0 w0.heap.size xs (.slice a xs.length cap)) (hd : M.cntT (.mk k n xs) ≤ 1100) (bx : Nat) (W : World) (hB : BoxT W bx k n (.slice a xs.length cap)) (h0 : J [] W) :
    CallsIn Fence.wide m Tryz.prog 140 #[.func (.yield l) #[] #[], .pointer (some ⟨bx, 0, none⟩)] W fun e W' =>
      (∃ v, e = .returned v) ∧ ((∃ ys, AllOf (.mk k n xs) On ys ∧ J ys W') ∨ ∃ y, OneOf (.mk k n xs) On y ∧ Jx y W') := by
  have hro : Fence.wide.round = none := rfl
  have HT := Lib.hid (tell_n w0 _ T N0 l J Jx On H _ 0 k n xs a cap [] W (Nat.le_refl _) hL (by omega) ⟨[], by simp⟩ h0)
  have c0 := hB.c0
  have c1 := hB.c1
  have c2 := hB.c2
  refine callsIn_of_wp Tryz.func140 rfl trivial ?_ rfl
  simp only [Tryz.ntmps140, List.size_toArray, List.length_cons, List.length_nil, Nat.reduceAdd, Nat.reduceSub, Array.replicate_succ, Array.replicate_zero, List.push_toArray, List.append_toArray, List.nil_append, List.cons_append]
  gi_wp2_with fail
  refine ⟨trivial, fun h => (by cases h), (callsIn_wide.2 HT.out).mono ?_⟩
  rintro e W3 (⟨rfl, zs, hzs, honz, hj3, hz3, hk3⟩ | ⟨rfl, zs, y, ts, hzs, honz, hoff, hjx⟩)
  · have HJ := Lib.hid hj3
    clear hj3
    gi_wp2
    go_end0
    exact ⟨⟨_, rfl⟩, .inl ⟨zs, ⟨hzs, honz⟩, by simpa using HJ.out⟩⟩
  · have HJ := Lib.hid hjx
    clear hjx
    gi_wp2
    go_end0
    exact ⟨⟨_, rfl⟩, .inr ⟨y, ⟨zs, ts, hzs, honz, hoff⟩, HJ.out⟩⟩
end Go.Proofs.YtaajkbclojmbeaaGreatDoor
namespace Go.Proofs.YtaajkbclojmbeaaGreatDoor
open Go Go.RowKit Go.Shelf
attribute [local go_sem] Oper.semAt_some

/-- A kind's form. -/
theorem kform (j c : Nat) (hj : j < 8) (n : Int) (m : Nat) (hm : (m : Int) ≤ 9223372036854775807) (a : Option Addr) (cap : Nat) (w : World) (hH : HasAt w w.heap.size c (numG (j + 1)) (loN (j + 1)) (hiN (j + 1))) :
    Calls Tryz.prog 136 #[tv ((j + 1 : Nat) : Int) n (.slice a m cap), .pointer (some ⟨c, 0, none⟩), .pointer (some ⟨c + 1, 0, none⟩), .pointer (some ⟨c + 2, 0, none⟩)] w fun e w' => e = .returned (.bool (M.formT ((j + 1 : Nat) : Int) n m)) ∧ Below w.heap.size w w' := by
  have g1 := fun H => form_any 75 _ (enters_of Tryz.func75 (by kernel_rfl) rfl) width_any c (loN (j + 1)) (hiN (j + 1)) ((j + 1 : Nat) : Int) n m hm a cap w H
  have g2 := fun H => form_any 81 _ (enters_of Tryz.func81 (by kernel_rfl) rfl) nought_any c (loN (j + 1)) (hiN (j + 1)) ((j + 1 : Nat) : Int) n m hm a cap w H
  have g3 := fun H => form_any 86 _ (enters_of Tryz.func86 (by kernel_rfl) rfl) count_any c (loN (j + 1)) (hiN (j + 1)) ((j + 1 : Nat) : Int) n m hm a cap w H
  have key : ∀ q : Bool, q = M.formT ((j + 1 : Nat) : Int) n m → ∀ {g : FuncId}, (Calls Tryz.prog 136 #[tv ((j + 1 : Nat) : Int) n (.slice a m cap), .pointer (some ⟨c, 0, none⟩), .pointer (some ⟨c + 1, 0, none⟩), .pointer (some ⟨c + 2, 0, none⟩)] w fun e w' => e = .returned (.bool q) ∧ Below w.heap.size w w') → True → Calls Tryz.prog 136 #[tv ((j + 1 : Nat) : Int) n (.slice a m cap), .pointer (some ⟨c, 0, none⟩), .pointer (some ⟨c + 1, 0, none⟩), .pointer (some ⟨c + 2, 0, none⟩)] w fun e w' => e = .returned (.bool (M.formT ((j + 1 : Nat) : Int) n m)) ∧ Below w.heap.size w w' := by
    intro q hq _ h _
    rw [← hq]
    exact h
  match j, hj with
  | 0, _ => exact key _ (by simp only [loN, hiN]; unfold M.formT; rw [if_pos (by decide)]; cases m <;> simp) (g := 0) (g1 hH) trivial
  | 1, _ => exact key _ (by simp only [loN, hiN]; unfold M.formT; rw [if_neg (by decide), if_pos (by decide)]; cases m <;> simp) (g := 0) (g2 hH) trivial
  | 2, _ => exact key _ (by simp only [loN, hiN]; unfold M.formT; rw [if_neg (by decide), if_neg (by decide), if_pos (by decide)]; rcases (by omega : m = 1 ∨ m = 0 ∨ 2 ≤ m) with h | h | h; (rw [h]; simp); (rw [h]; simp); (rw [show (m == 1) = false by simp; omega, show decide (m ≤ 1) = false by simp; omega]; simp)) (g := 0) (g3 hH) trivial
  | 3, _ => exact key _ (by simp only [loN, hiN]; unfold M.formT; rw [if_neg (by decide), if_neg (by decide), if_pos (by decide)]; rcases (by omega : m = 1 ∨ m = 0 ∨ 2 ≤ m) with h | h | h; (rw [h]; simp); (rw [h]; simp); (rw [show (m == 1) = false by simp; omega, show decide (m ≤ 1) = false by simp; omega]; simp)) (g := 0) (g3 hH) trivial
  | 4, _ => exact key _ (by simp only [loN, hiN]; unfold M.formT; rw [if_neg (by decide), if_neg (by decide), if_neg (by decide), if_pos (by decide)]; by_cases h : m = 0 <;> simp [h]) (g := 0) (g3 hH) trivial
  | 5, _ => exact key _ (by simp only [loN, hiN]; unfold M.formT; rw [if_neg (by decide), if_neg (by decide), if_neg (by decide), if_pos (by decide)]; by_cases h : m = 0 <;> simp [h]) (g := 0) (g3 hH) trivial
  | 6, _ => exact key _ (by simp only [loN, hiN]; unfold M.formT; rw [if_neg (by decide), if_neg (by decide), if_neg (by decide), if_neg (by decide), if_pos (by decide)]) (g := 0) (g2 hH) trivial
  | 7, _ => exact key _ (by simp only [loN, hiN]; unfold M.formT; rw [if_neg (by decide), if_neg (by decide), if_neg (by decide), if_neg (by decide), if_neg (by decide)]) (g := 0) (g2 hH) trivial

/-- A function value, or none, is stored. -/
def IsF (V : Value) : Prop := V = .nilFunc ∨ ∃ F xa xb, V = .func F xa xb
theorem store_f {V : Value} (hV : IsF V) (W : World) (p : Addr) (h1 : (W.cell? p).isSome = true) (h2 : W.frozen? p = false) : (store p V).run Tryz.prog W = .ok () (W.setCell p V) := by
  rw [run_store _ _ _ _ _ (by rcases hV with rfl | ⟨F, xa, xb, rfl⟩ <;> rfl)]
  obtain ⟨v, hv⟩ := Option.isSome_iff_exists.1 h1
  rw [hv]
  simp [h2]
theorem isF_size (j : Nat) : IsF (sizeV j) := by unfold sizeV; split <;> first | exact .inr ⟨_, _, _, rfl⟩ | exact .inl rfl
theorem isF_of (j : Nat) : IsF (ofF j) := by unfold ofF; split <;> first | exact .inr ⟨_, _, _, rfl⟩ | exact .inl rfl

/-- Between two rounds: what lay there lies there; the table's box, the result's box. -/
structure CI (w : World) (b : Nat) (rt : TypeId) (ru : Value) (bt : Nat) (k n : Int) (v : Value) (W : World) : Prop where
  below : Below w.heap.size w W
  m : Boxed W w.heap.size 68 (.map (some b))
  r : Boxed W (w.heap.size + 2) rt ru
  t : BoxT W bt k n v
theorem boxed_kept' {W W' : World} {b : Nat} {t : TypeId} {v : Value} (h : Boxed W b t v) {row : Option Nat} (hg : W.grownBy W' row) (hr : ∀ r, row = some r → ∃ o : Obj, W.heap[r]? = some o ∧ o.isCells = false) : Boxed W' b t v :=
  (hg.block b h.lt (fun e => by
    obtain ⟨o, ho, hc⟩ := hr b e.symm
    rw [show W.heap[b]? = _ from h] at ho
    cases ho
    cases hc)).trans h
theorem below_kept {w W W' : World} (h : Below w.heap.size w W) {row : Option Nat} (hg : W.grownBy W' row) (hr : ∀ r, row = some r → w.heap.size ≤ r) : Below w.heap.size w W' :=
  ⟨hg.os.trans h.os, hg.tape.trans h.tape, hg.output.trans h.output, Nat.le_trans h.size hg.size, fun i hi => (hg.block i (Nat.lt_of_lt_of_le hi h.size) (fun e => by have := hr i e.symm; omega)).trans (h.block i hi)⟩
theorem boxT_kept {W W' : World} {S : Nat} {k m : Int} {v : Value} (h : BoxT W S k m v) {row : Option Nat} (hg : W.grownBy W' row) (hr : ∀ r, row = some r → ∃ o : Obj, W.heap[r]? = some o ∧ o.isCells = false) : BoxT W' S k m v :=
  ⟨cell_kept h.c0 hg hr, cell_kept h.c1 hg hr, cell_kept h.c2 hg hr⟩
theorem BoxT.lt' {W : World} {S : Nat} {k m : Int} {v : Value} (h : BoxT W S k m v) : S < W.heap.size := by
  have h0 := h.c0
  unfold World.cell? at h0
  cases ho : W.heap[S]? with
  | none => simp [ho] at h0
  | some o => exact (Array.getElem?_eq_some_iff.1 ho).1
theorem CI_own {w : World} {b B : Nat} {rt : TypeId} {ru : Value} {bt : Nat} {k n : Int} {v : Value} (hB : w.heap.size ≤ B) : OwnFrom B fun (_ : List El) W => CI w b rt ru bt k n v W := fun _ _ _ _ h hg hrow =>
  ⟨below_kept h.below hg (fun r e => Nat.le_trans hB (hrow r e).1), boxed_kept' h.m hg (fun r e => (hrow r e).2), boxed_kept' h.r hg (fun r e => (hrow r e).2), boxT_kept h.t hg (fun r e => (hrow r e).2)⟩
theorem CI.go {w B W2 : World} {b : Nat} {rt : TypeId} {ru : Value} {bt : Nat} {k n : Int} {v : Value} (h : CI w b rt ru bt k n v B) (hb : Below B.heap.size B W2) : CI w b rt ru bt k n v W2 :=
  ⟨h.below.trans (hb.mono h.below.size), (hb.block _ h.m.lt).trans h.m, (hb.block _ h.r.lt).trans h.r, h.t.from_ hb h.t.lt'⟩
structure CX (w : World) (x : El) (W : World) : Prop where
  below : Below w.heap.size w W
  r : Boxed W (w.heap.size + 2) 25 (.int .i64 (M.ownE x.1 : Nat))
theorem CX_own {w : World} {B : Nat} (hB : w.heap.size ≤ B) : OwnFrom B fun (x : El) W => CX w x W := fun _ _ _ _ h hg hrow =>
  ⟨below_kept h.below hg (fun r e => Nat.le_trans hB (hrow r e).1), boxed_kept' h.r hg (fun r e => (hrow r e).2)⟩
/-- The loop's variables are assigned to. -/
def CAx (w : World) (b : Nat) (rt : TypeId) (ru : Value) (bt : Nat) (k0 n0 : Int) (v0 : Value) (L0 : List (Nat × M.Ty)) (A1 : Nat → El → Act) (pre : List El) (x : El) (a' : Act) (B : World) : Prop :=
  ∃ (bx : Nat) (k n : Int) (us : List M.Ty), x.1.2 = .mk k n us ∧ GoodEl w L0 pre x ∧ a' = A1 bx x ∧ CI w b rt ru bt k0 n0 v0 B ∧ BoxT B bx k n x.2 ∧ w.heap.size + 3 ≤ bx ∧ bx < B.heap.size
theorem CAx_own {w : World} {b B : Nat} {rt : TypeId} {ru : Value} {bt : Nat} {k0 n0 : Int} {v0 : Value} (hB : w.heap.size ≤ B) {L0 : List (Nat × M.Ty)} {A1 : Nat → El → Act} (pre : List El) (x : El) (a' : Act) : OwnFrom B fun (_ : Unit) W => CAx w b rt ru bt k0 n0 v0 L0 A1 pre x a' W := by
  rintro _ W W' row ⟨bx, k, n, us, h1, h2, h3, h4, h5, h6, h7⟩ hg hrow
  exact ⟨bx, k, n, us, h1, h2, h3, CI_own hB [] _ _ row h4 hg hrow, boxT_kept h5 hg (fun r e => (hrow r e).2), h6, Nat.lt_of_lt_of_le h7 hg.size⟩

set_option maxRecDepth 100000 in
set_option maxHeartbeats 8000000 in
theorem kcheck_any (k n : Int) (xs : List M.Ty) (a : Option Addr) (cap b : Nat) (cs : List Nat) (w : World) (hL : LayT w w.heap.size xs (.slice a xs.length cap)) (hc : M.cntT (.mk k n xs) ≤ 1000) (hK : Kinds w w.heap.size b cs) :
    Calls Tryz.prog 43 #[.map (some b), tv k n (.slice a xs.length cap)] w fun e w' => e = .returned (.int .i64 (M.chkT 0 (.mk k n xs) : Nat)) ∧ Below w.heap.size w w' := by
  have hro : Fence.wide.round = none := rfl
  obtain ⟨r, hr⟩ : ∃ r, r = M.chkT 0 (.mk k n xs) := ⟨_, rfl⟩
  rw [← hr]
  refine (callsIn_wide (n := 6)).1 ?_
  refine callsIn_of_wp_marks Tryz.func43 rfl trivial ?_ rfl
  simp only [Tryz.ntmps43, List.size_toArray, List.length_cons, List.length_nil, Nat.reduceAdd, Nat.reduceSub, Array.replicate_succ, Array.replicate_zero, List.push_toArray, List.append_toArray, List.nil_append, List.cons_append]
  gi_wp2_with fail
  refine ⟨trivial, (within_in _ k n (.slice a xs.length cap) _).mono ?_⟩
  rintro e w' ⟨rfl, rfl⟩
  generalize hW1 : ((((w.alloc (.cells #[.map (some b)] 68)).alloc (.cells #[.int .i64 k, .int .i64 n, .slice a xs.length cap] 32)).alloc (.cells #[.int .i64 0] 25)).alloc (.cells #[.int .i64 k, .int .i64 n, .slice a xs.length cap] 32)) = W1
  have hz1 : W1.heap.size = w.heap.size + 4 := by rw [← hW1]; simp
  have hb1 : Below w.heap.size w W1 := by rw [← hW1]; (repeat (first | exact Below.refl _ _ | refine Below.drew ?_ | refine Below.alloc ?_ (by first | omega | (simp; omega) | simp) _ | refine Below.setCell ?_ (by first | omega | (simp; omega) | simp) _))
  have hI1 : CI w b 25 (.int .i64 0) (w.heap.size + 3) k n (.slice a xs.length cap) W1 := by
    refine ⟨hb1, ?_, ?_, ?_⟩
    · rw [← hW1]; exact (((Boxed.new w _ _).alloc _).alloc _).alloc _
    · rw [← hW1]
      have := Boxed.new ((w.alloc (.cells #[.map (some b)] 68)).alloc (.cells #[.int .i64 k, .int .i64 n, .slice a xs.length cap] 32)) 25 (.int .i64 0)
      rw [World.size_alloc, World.size_alloc] at this
      exact this.alloc _
    · rw [← hW1]
      have := BoxT.new (((w.alloc (.cells #[.map (some b)] 68)).alloc (.cells #[.int .i64 k, .int .i64 n, .slice a xs.length cap] 32)).alloc (.cells #[.int .i64 0] 25)) k n (.slice a xs.length cap) 32
      rw [World.size_alloc, World.size_alloc, World.size_alloc] at this
      exact this
  clear hW1
  gi_wp2_with fail
  obtain ⟨A1, hA1⟩ : ∃ A1 : Nat → El → Act, A1 = fun bx x => { tmps := #[.map (some b), tv k n (.slice a xs.length cap), .pointer (some ⟨w.heap.size, 0, none⟩), .pointer (some ⟨w.heap.size + 1, 0, none⟩), .pointer (some ⟨w.heap.size + 1 + 1, 0, none⟩), .int .i64 (x.1.1 : Nat), .pointer (some ⟨bx, 0, none⟩), undef, undef,
    .agg #[.int .i64 k, .int .i64 n, .slice a xs.length cap], .func (.func 140) #[] #[.pointer (some ⟨w.heap.size + 1 + 1 + 1, 0, none⟩)], .int .i64 (x.1.1 : Nat), tv x.1.2.k x.1.2.n x.2, undef, undef, undef, undef, undef, undef, undef, undef, undef, undef, undef, undef, undef, undef, undef, undef, undef, undef, undef], defers := [] } := ⟨_, rfl⟩
  have hw1 : w.heap.size ≤ W1.heap.size := by omega
  refine range_lw (gf := 140) (lb := #[.pointer (some ⟨w.heap.size + 1 + 1 + 1, 0, none⟩)]) (by omega) rfl (enters_of Tryz.func140 (by kernel_rfl) rfl)
    (encs := encT) (fun x => by obtain ⟨⟨d, ⟨k', n', us⟩⟩, v⟩ := x; rfl) (fun _ W => CI w b 25 (.int .i64 0) (w.heap.size + 3) k n (.slice a xs.length cap) W) (CI_own hw1) (CX w) (CX_own hw1)
    (fun c => c ≠ W1.heap.size + 1) (fun c h => h) (AllOf (.mk k n xs) (fun x => M.ownE x.1 = 0)) (OneOf (.mk k n xs) (fun x => M.ownE x.1 = 0)) (fun x => M.ownE x.1 = 0)
    (fun pre x _ _ => GoodEl w (M.flat 0 (.mk k n xs)) pre x) ?seq hI1 (fun pre x a' B => CAx w b 25 (.int .i64 0) (w.heap.size + 3) k n (.slice a xs.length cap) (M.flat 0 (.mk k n xs)) A1 pre x a' B) (fun pre x a' => CAx_own hw1 pre x a') ?assign ?body ?done ?stop
  case seq =>
    intro l J Jx W hzW hJI hJ hY h0
    have HT : TellH w (M.flat 0 (.mk k n xs)) (fun c => c ≠ W1.heap.size + 1) (W1.heap.size + 2) l J Jx (fun x => M.ownE x.1 = 0) :=
      ⟨hJ, fun pre A h => (hJI pre A h).1.below, fun pre A h => (hJI pre A h).2, fun c hc => by omega, fun m pre x A hj hx => yieldAt_any (hY pre x A A hj ⟨rfl, rfl, rfl, Nat.le_refl _, fun _ _ _ => rfl⟩ hx)⟩
    exact within_seq w _ _ l J Jx _ k n xs HT _ a cap hL (by omega) _ W (hJI [] W h0).1.t h0
  case assign =>
    rintro l pre ⟨⟨d, ⟨k', n', us⟩⟩, v⟩ A B K hI hg hG hK'
    obtain ⟨ua, uc, hu, _, _⟩ := hG.1.slice
    replace hu : v = .slice ua us.length uc := hu
    subst hu
    dsimp only [encT]
    have hIB := CI_own (Nat.le_refl w.heap.size) pre _ _ none hI hg (fun r e => by cases e)
    have hzB := hIB.below.size
    have hz3 := (hIB.t.lt')
    have hAX : CAx w b 25 (.int .i64 0) (w.heap.size + 3) k n (.slice a xs.length cap) (M.flat 0 (.mk k n xs)) A1 pre ((d, .mk k' n' us), .slice ua us.length uc) (A1 B.heap.size ((d, .mk k' n' us), .slice ua us.length uc)) (B.alloc (.cells #[.int .i64 k', .int .i64 n', .slice ua us.length uc] 32)) :=
      ⟨B.heap.size, k', n', us, rfl, hG, rfl, CI_own (Nat.le_refl w.heap.size) pre _ _ none hIB (World.grownBy_alloc _ _ _) (fun r e => by cases e), BoxT.new _ _ _ _ _, by omega, by simp⟩
    rw [hA1] at hAX
    gi_wp2
    refine hK' _ _ ((KeepsOthers.alloc B _).from _) (fun c hc _ => Below.heap_alloc _ _ _ (by omega)) ?_
    rw [hA1]
    exact hAX
  case body =>
    rintro l pre ⟨⟨d, ⟨k', n', us⟩⟩, v⟩ a' B ⟨bx, k2, n2, us2, hx, hG, rfl, hI, hBx, h4, h5⟩
    cases hx
    replace hBx : BoxT B bx k' n' v := hBx
    obtain ⟨ua, uc, hu, _, _⟩ := hG.1.slice
    replace hu : v = .slice ua us.length uc := hu
    have hul : us.length ≤ 1100 := by
      have h1 := hG.2.1
      have h2 : d + M.cntT (.mk k' n' us) ≤ 1100 := h1
      rw [M.cntT] at h2
      have h3 := M.length_cntT us
      omega
    subst hu
    rw [hA1]
    dsimp only [M.Ty.k, M.Ty.n]
    have hm := hI.m.cell
    have c0 := hBx.c0
    have c1 := hBx.c1
    have c2 := hBx.c2
    have cr : B.cell? ⟨w.heap.size + 1 + 1, 0, none⟩ = some (.int .i64 0) := hI.r.cell
    have fr : B.frozen? ⟨w.heap.size + 1 + 1, 0, none⟩ = false := hI.r.frozen
    have hlt4 : w.heap.size + 1 + 1 < B.heap.size := by omega
    by_cases hk : k' < 1 ∨ 8 < k'
    · have hlk := (hK.from_ hI.below).miss true k' hk
      simp only [if_true] at hlk
      have hE : M.ownE (d, .mk k' n' us) = 9 := by unfold M.ownE; exact if_pos hk
      have s0 := fun W p => store_f (V := .nilFunc) (.inl rfl) W p
      unfold zeroK at hlk
      gi_wp2_with fail
      have hsz := hI.below.size
      refine ⟨fun h => (by have h' : M.ownE (d, .mk k' n' us) = 0 := h; omega), ((KeepsOthers.setCell _ _ _).trans (KeepsOthers.alloc _ _)).from _, ⟨(hI.below.setCell (p := ⟨w.heap.size + 1 + 1, 0, none⟩) (by simp; omega) _).alloc (by simp [World.setCell]; omega) _, ?_⟩⟩
      rw [hE]
      exact (hI.r.set _).alloc _
    · obtain ⟨j, c, hkj, hj, hH, hlk⟩ := hK.at_ k' (by omega) (by omega)
      have HK := Lib.hid hkj
      clear hkj
      replace hlk := hlk true B hI.below
      simp only [if_true, ent] at hlk
      have s0 := fun W p => store_f (V := hasV c) (.inr ⟨_, _, _, rfl⟩) W p
      have s1 := fun W p => store_f (isF_size (j + 1)) W p
      have s2 := fun W p => store_f (V := .func (.func (faultG (j + 1))) #[] #[]) (.inr ⟨_, _, _, rfl⟩) W p
      have s3 := fun W p => store_f (V := .func (.func (restG (j + 1))) #[] #[]) (.inr ⟨_, _, _, rfl⟩) W p
      have s4 := fun W p => store_f (isF_of (j + 1)) W p
      have hsz := hI.below.size
      have hB2 := hI.below.alloc hsz (.cells #[hasV c, sizeV (j + 1), .func (.func (faultG (j + 1))) #[] #[], .func (.func (restG (j + 1))) #[] #[], ofF (j + 1)] 96)
      have HF := kform j c hj n' us.length (by omega) ua uc _ ((hH.from_ hB2).mono hB2.size)
      rw [← HK.out] at HF
      have HF := Lib.hid HF
      have hEo : M.ownE (d, .mk k' n' us) = if M.formT k' n' us.length = false then 2 else if d = 6 then 7 else 0 := by unfold M.ownE; exact if_neg hk
      generalize M.formT k' n' us.length = q at *
      have HI := Lib.hid hI
      have HE := Lib.hid hEo
      clear hEo hI hk
      gi_wp2_with fail
      refine ⟨trivial, CallsIn.inRound l ((callsIn_wide.2 HF.out).mono ?_)⟩
      rintro e w2 ⟨rfl, hb2⟩
      have hbB : Below B.heap.size B w2 := ((Below.refl _ B).alloc (Nat.le_refl _) _).trans (hb2.mono (by simp))
      have hI2 := Lib.hid (HI.out.go hbB)
      have cr2 : w2.cell? ⟨w.heap.size + 1 + 1, 0, none⟩ = some (.int .i64 0) := hI2.out.r.cell
      have fr2 : w2.frozen? ⟨w.heap.size + 1 + 1, 0, none⟩ = false := hI2.out.r.frozen
      have hko : KeepsOthers B w2 := ⟨hbB.size, fun c o h _ => (hbB.block c (Array.getElem?_eq_some_iff.1 h).1).trans h⟩
      cases q with
      | false =>
        gi_wp2_with fail
        have hE2 : M.ownE (d, .mk k' n' us) = 2 := HE.out
        refine ⟨fun h => (by have h' : M.ownE (d, .mk k' n' us) = 0 := h; omega), (hko.trans (KeepsOthers.setCell _ _ _)).from _, ⟨hI2.out.below.setCell (p := ⟨w.heap.size + 1 + 1, 0, none⟩) (by simp; omega) _, ?_⟩⟩
        rw [hE2]
        exact hI2.out.r.set _
      | true =>
        by_cases hd : d = 6
        · subst hd
          gi_wp2_with fail
          have hE2 : M.ownE (6, .mk k' n' us) = 7 := HE.out
          refine ⟨fun h => (by have h' : M.ownE (6, .mk k' n' us) = 0 := h; omega), (hko.trans (KeepsOthers.setCell _ _ _)).from _, ⟨hI2.out.below.setCell (p := ⟨w.heap.size + 1 + 1, 0, none⟩) (by simp; omega) _, ?_⟩⟩
          rw [hE2]
          exact hI2.out.r.set _
        · have hd' : ((d : Int) == 6) = false := by simp; omega
          have hE2 := HE.out
          rw [if_neg (by decide), if_neg hd] at hE2
          have hE3 := Lib.hid hE2
          clear hE2 hd
          gi_wp2_with fail
          exact ⟨hE3.out, hko.from _, fun c hc _ => hbB.block c hc, hI2.out⟩
  case done =>
    rintro D ys W hD ⟨hys, hon⟩ hI hKd
    have hE : M.chkT 0 (.mk k n xs) = 0 := (M.chk_all (by omega)).2 (by
      intro y hy
      rw [← hys] at hy
      obtain ⟨x, hx, rfl⟩ := List.mem_map.1 hy
      exact hon x hx)
    have cr : W.cell? ⟨w.heap.size + 1 + 1, 0, none⟩ = some (.int .i64 0) := hI.r.cell
    have fr : W.frozen? ⟨w.heap.size + 1 + 1, 0, none⟩ = false := hI.r.frozen
    rw [hE] at hr
    have HR := Lib.hid hr
    have HI := Lib.hid hI
    clear hE hr hI
    gi_wp2
    have hK' := (KeepsOthers.setCell W ⟨w.heap.size + 1 + 1, 0, none⟩ (.int .i64 0)).same D _ hKd rfl
    refine ⟨by simp, .inl ⟨_, _, rfl, run_takeDeferred hK', ?_⟩⟩
    have hc5 := cell_kept (World.cell?_setCell_same' W ⟨w.heap.size + 1 + 1, 0, none⟩ (.int .i64 0) (by rw [cr]; rfl)) (grownBy_putObj' _ D (.deferred none)) (fun r e => by cases e; exact ⟨_, hK', rfl⟩)
    refine ⟨.int .i64 0, ?_, by rw [HR.out]; rfl, (HI.out.below.setCell (p := ⟨w.heap.size + 1 + 1, 0, none⟩) (by simp; omega) _).trans (belowK_b (w := w) (Nat.le_refl _) _ D _ _ (by omega) hK' rfl rfl)⟩
    simp [results, Tryz.f43, go_sem, hc5]
  case stop =>
    rintro D y W hD ⟨ys, zs, hfl, hon, hoff⟩ hX hKd
    have hE : M.chkT 0 (.mk k n xs) = M.ownE y.1 := M.chk_first (by omega) hfl (by
      intro z hz
      obtain ⟨x, hx, rfl⟩ := List.mem_map.1 hz
      exact hon x hx) hoff
    rw [hE] at hr
    have HR := Lib.hid hr
    have HX := Lib.hid hX
    clear hE hr hX
    gi_wp2
    refine ⟨by simp, .inl ⟨_, _, rfl, run_takeDeferred hKd, ?_⟩⟩
    have cr : W.cell? ⟨w.heap.size + 1 + 1, 0, none⟩ = some (.int .i64 (M.ownE y.1 : Nat)) := HX.out.r.cell
    have hc5 := cell_kept cr (grownBy_putObj' _ D (.deferred none)) (fun r e => by cases e; exact ⟨_, hKd, rfl⟩)
    refine ⟨.int .i64 (M.ownE y.1 : Nat), ?_, by rw [HR.out], HX.out.below.trans (belowK_b (w := w) (Nat.le_refl _) W D _ _ (by omega) hKd rfl rfl)⟩
    simp [results, Tryz.f43, go_sem, hc5]
end Go.Proofs.YtaajkbclojmbeaaGreatDoor
namespace Go.Proofs.YtaajkbclojmbeaaGreatDoor
open Go Go.RowKit Go.Shelf
attribute [local go_sem] Oper.semAt_some

/-- A type that has as many bytes itself. -/
def OnF (x : El) : Prop := (1 ≤ x.1.2.k ∧ x.1.2.k ≤ 8) ∧ M.isFix x.1 = true
theorem field_kind (a b c d e : Value) (W : World) : (Instr.field 96 (.agg #[a, b, c, d, e]) 1).run Tryz.prog W = .ok b W := by
  simp [Instr.field, run_underlying Tryz.underlying96, part, isAgg, run_underlying Tryz.underlying91, asAgg, Result.andThen]
theorem eq_func (F : Fn) (xa xb : Array Value) (W : World) : (binOp .eql 91 (.func F xa xb) .nilFunc).run Tryz.prog W = .ok (.bool false) W := by
  simp only [binOp, Op.equal]
  rw [show Op.maxDepth = 9999 + 1 from rfl, Op.equalIn]
  simp [run_underlying Tryz.underlying91, Result.andThen]
theorem eq_nil (W : World) : (binOp .eql 91 .nilFunc .nilFunc).run Tryz.prog W = .ok (.bool true) W := by
  simp only [binOp, Op.equal]
  rw [show Op.maxDepth = 9999 + 1 from rfl, Op.equalIn]
  simp [run_underlying Tryz.underlying91, Result.andThen]
theorem size_nil (j : Nat) (hj : j < 8) : (sizeV (j + 1) = .nilFunc ∧ ((j + 1 : Nat) = 4 ∨ (j + 1 : Nat) = 6 ∨ (j + 1 : Nat) = 8)) ∨ ((∃ F, sizeV (j + 1) = .func F #[] #[]) ∧ ¬ ((j + 1 : Nat) = 4 ∨ (j + 1 : Nat) = 6 ∨ (j + 1 : Nat) = 8)) := by
  match j, hj with
  | 0, _ => exact .inr ⟨⟨_, rfl⟩, by decide⟩
  | 1, _ => exact .inr ⟨⟨_, rfl⟩, by decide⟩
  | 2, _ => exact .inr ⟨⟨_, rfl⟩, by decide⟩
  | 3, _ => exact .inl ⟨rfl, by decide⟩
  | 4, _ => exact .inr ⟨⟨_, rfl⟩, by decide⟩
  | 5, _ => exact .inl ⟨rfl, by decide⟩
  | 6, _ => exact .inr ⟨⟨_, rfl⟩, by decide⟩
  | 7, _ => exact .inl ⟨rfl, by decide⟩

set_option maxRecDepth 100000 in
set_option maxHeartbeats 8000000 in
theorem kfixed_any (k n : Int) (xs : List M.Ty) (a : Option Addr) (cap b : Nat) (cs : List Nat) (w : World) (hL : LayT w w.heap.size xs (.slice a xs.length cap)) (hc : M.cntT (.mk k n xs) ≤ 1000) (hK : Kinds w w.heap.size b cs) :
    Calls Tryz.prog 112 #[.map (some b), tv k n (.slice a xs.length cap)] w fun e w' => e = .returned (.bool (M.fixedT (.mk k n xs))) ∧ Below w.heap.size w w' := by
  have hro : Fence.wide.round = none := rfl
  obtain ⟨r, hr⟩ : ∃ r, r = M.fixedT (.mk k n xs) := ⟨_, rfl⟩
  rw [← hr]
  refine (callsIn_wide (n := 6)).1 ?_
  refine callsIn_of_wp_marks Tryz.func112 rfl trivial ?_ rfl
  simp only [Tryz.ntmps112, List.size_toArray, List.length_cons, List.length_nil, Nat.reduceAdd, Nat.reduceSub, Array.replicate_succ, Array.replicate_zero, List.push_toArray, List.append_toArray, List.nil_append, List.cons_append]
  have hb0 : ∀ o1 o2 o3, Below w.heap.size w (((w.alloc o1).alloc o2).alloc o3) := fun o1 o2 o3 => (((Below.refl _ w).alloc (Nat.le_refl _) o1).alloc (by simp) o2).alloc (by simp; omega) o3
  have HC := Lib.hid (fun W (h : Below w.heap.size w W) => kcheck_any k n xs a cap b cs W ((hL.from_ h).mono h.size) hc ((hK.from_ h).mono h.size))
  gi_wp2_with fail
  refine ⟨trivial, (callsIn_wide.2 (HC.out _ (hb0 _ _ _))).mono ?_⟩
  rintro e w1 ⟨rfl, hb1⟩
  have hz3 := hb1.size
  simp only [World.size_alloc] at hz3
  have hI0 : Hid (CI w b 4 (.bool false) (w.heap.size + 1) k n (.slice a xs.length cap) w1) := by
    refine ⟨(hb0 _ _ _).trans (hb1.mono (by simp; omega)), (hb1.block w.heap.size (by simp; omega)).trans ?_, (hb1.block (w.heap.size + 2) (by simp)).trans ?_, BoxT.from_ (n := w.heap.size + 3) ?_ (by simpa using hb1) (by omega)⟩
    · exact ((Boxed.new w _ _).alloc _).alloc _
    · have := Boxed.new ((w.alloc (.cells #[.map (some b)] 68)).alloc (.cells #[.int .i64 k, .int .i64 n, .slice a xs.length cap] 32)) 4 (.bool false)
      rw [World.size_alloc, World.size_alloc] at this
      exact this
    · have := BoxT.new (w.alloc (.cells #[.map (some b)] 68)) k n (.slice a xs.length cap) 32
      rw [World.size_alloc] at this
      exact this.from_ ((Below.refl _ _).alloc (Nat.le_refl _) _) (by simp)
  have m0 : w1.cell? ⟨w.heap.size, 0, none⟩ = some (.map (some b)) := hI0.out.m.cell
  have t0 : w1.cell? ⟨w.heap.size + 1, 0, none⟩ = some (.int .i64 k) := hI0.out.t.c0
  have t1 : w1.cell? ⟨w.heap.size + 1, 1, none⟩ = some (.int .i64 n) := hI0.out.t.c1
  have t2 : w1.cell? ⟨w.heap.size + 1, 2, none⟩ = some (.slice a xs.length cap) := hI0.out.t.c2
  have cr : w1.cell? ⟨w.heap.size + 1 + 1, 0, none⟩ = some (.bool false) := hI0.out.r.cell
  have fr : w1.frozen? ⟨w.heap.size + 1 + 1, 0, none⟩ = false := hI0.out.r.frozen
  by_cases hchk : M.chkT 0 (.mk k n xs) = 0
  · rw [hchk]
    have hfx : M.fixedT (.mk k n xs) = M.fixT (.mk k n xs) := by rw [M.fixedT, if_pos hchk]
    rw [hfx] at hr
    have HR := Lib.hid hr
    have HCK := Lib.hid hchk
    clear hr hfx hchk
    gi_wp2_with fail
    refine ⟨trivial, (within_in _ k n (.slice a xs.length cap) _).mono ?_⟩
    rintro e w' ⟨rfl, rfl⟩
    generalize hW1 : w1.alloc (.cells #[.int .i64 k, .int .i64 n, .slice a xs.length cap] 32) = W1
    have hz1 : W1.heap.size = w1.heap.size + 1 := by rw [← hW1]; simp
    have hI1 : CI w b 4 (.bool false) w1.heap.size k n (.slice a xs.length cap) W1 := by
      have h1 := hI0.out.go (W2 := W1) (by rw [← hW1]; exact (Below.refl _ _).alloc (Nat.le_refl _) _)
      exact ⟨h1.below, h1.m, h1.r, by rw [← hW1]; exact BoxT.new _ _ _ _ _⟩
    clear hW1 m0 t0 t1 t2 cr fr hb1
    gi_wp2_with fail
    obtain ⟨A1, hA1⟩ : ∃ A1 : Nat → El → Act, A1 = fun bx x => { tmps := #[.map (some b), tv k n (.slice a xs.length cap), .pointer (some ⟨w.heap.size, 0, none⟩), .pointer (some ⟨w.heap.size + 1, 0, none⟩), .pointer (some ⟨w.heap.size + 1 + 1, 0, none⟩), undef, .pointer (some ⟨bx, 0, none⟩), .map (some b),
      .agg #[.int .i64 k, .int .i64 n, .slice a xs.length cap], .int .i64 0, .bool false, .agg #[.int .i64 k, .int .i64 n, .slice a xs.length cap], .func (.func 140) #[] #[.pointer (some ⟨w1.heap.size, 0, none⟩)], .int .i64 (x.1.1 : Nat), tv x.1.2.k x.1.2.n x.2, undef, undef, undef, undef, undef, undef], defers := [] } := ⟨_, rfl⟩
    have hw1 : w.heap.size ≤ W1.heap.size := by omega
    refine range_lw (gf := 140) (lb := #[.pointer (some ⟨w1.heap.size, 0, none⟩)]) (by omega) rfl (enters_of Tryz.func140 (by kernel_rfl) rfl)
      (encs := encT) (fun x => by obtain ⟨⟨d, ⟨k', n', us⟩⟩, v⟩ := x; rfl) (fun _ W => CI w b 4 (.bool false) w1.heap.size k n (.slice a xs.length cap) W) (CI_own hw1) (fun _ W => Below w.heap.size w W ∧ Boxed W (w.heap.size + 2) 4 (.bool false)) (fun _ _ _ _ h hg hrow => ⟨below_kept h.1 hg (fun r e => Nat.le_trans hw1 (hrow r e).1), boxed_kept' h.2 hg (fun r e => (hrow r e).2)⟩)
      (fun c => c ≠ W1.heap.size + 1) (fun c h => h) (AllOf (.mk k n xs) OnF) (OneOf (.mk k n xs) OnF) OnF
      (fun pre x _ _ => GoodEl w (M.flat 0 (.mk k n xs)) pre x) ?seq hI1 (fun pre x a' B => CAx w b 4 (.bool false) w1.heap.size k n (.slice a xs.length cap) (M.flat 0 (.mk k n xs)) A1 pre x a' B) (fun pre x a' => CAx_own hw1 pre x a') ?assign ?body ?done ?stop
    case seq =>
      intro l J Jx W hzW hJI hJ hY h0
      have HT : TellH w (M.flat 0 (.mk k n xs)) (fun c => c ≠ W1.heap.size + 1) (W1.heap.size + 2) l J Jx OnF :=
        ⟨hJ, fun pre A h => (hJI pre A h).1.below, fun pre A h => (hJI pre A h).2, fun c hc => by omega, fun m pre x A hj hx => yieldAt_any (hY pre x A A hj ⟨rfl, rfl, rfl, Nat.le_refl _, fun _ _ _ => rfl⟩ hx)⟩
      exact within_seq w _ _ l J Jx _ k n xs HT _ a cap hL (by omega) _ W (hJI [] W h0).1.t h0
    case assign =>
      rintro l pre ⟨⟨d, ⟨k', n', us⟩⟩, v⟩ A B K hI hg hG hK'
      obtain ⟨ua, uc, hu, _, _⟩ := hG.1.slice
      replace hu : v = .slice ua us.length uc := hu
      subst hu
      dsimp only [encT]
      have hIB := CI_own (Nat.le_refl w.heap.size) pre _ _ none hI hg (fun r e => by cases e)
      have hzB := hIB.below.size
      have hz3 := (hIB.t.lt')
      have hAX : CAx w b 4 (.bool false) w1.heap.size k n (.slice a xs.length cap) (M.flat 0 (.mk k n xs)) A1 pre ((d, .mk k' n' us), .slice ua us.length uc) (A1 B.heap.size ((d, .mk k' n' us), .slice ua us.length uc)) (B.alloc (.cells #[.int .i64 k', .int .i64 n', .slice ua us.length uc] 32)) :=
        ⟨B.heap.size, k', n', us, rfl, hG, rfl, CI_own (Nat.le_refl w.heap.size) pre _ _ none hIB (World.grownBy_alloc _ _ _) (fun r e => by cases e), BoxT.new _ _ _ _ _, by omega, by simp⟩
      rw [hA1] at hAX
      gi_wp2
      refine hK' _ _ ((KeepsOthers.alloc B _).from _) (fun c hc _ => Below.heap_alloc _ _ _ (by omega)) ?_
      rw [hA1]
      exact hAX
    case body =>
      rintro l pre ⟨⟨d, ⟨k', n', us⟩⟩, v⟩ a' B ⟨bx, k2, n2, us2, hx, hG, rfl, hI, hBx, h4, h5⟩
      cases hx
      replace hBx : BoxT B bx k' n' v := hBx
      have hkr : 1 ≤ k' ∧ k' ≤ 8 := by
        obtain ⟨zs, hzs⟩ := hG.2.2
        have h1 := (M.chk_all (t := .mk k n xs) (d := 0) (by omega)).1 HCK.out (d, .mk k' n' us) (by rw [hzs]; simp)
        replace h1 : (if k' < 1 ∨ 8 < k' then 9 else if M.formT k' n' us.length = false then 2 else if d = 6 then 7 else 0) = 0 := h1
        by_cases h2 : k' < 1 ∨ 8 < k'
        · rw [if_pos h2] at h1; cases h1
        · omega
      rw [hA1]
      dsimp only [M.Ty.k, M.Ty.n]
      have hm := hI.m.cell
      have c0 := hBx.c0
      have c1 := hBx.c1
      have c2 := hBx.c2
      have cr : B.cell? ⟨w.heap.size + 1 + 1, 0, none⟩ = some (.bool false) := hI.r.cell
      have fr : B.frozen? ⟨w.heap.size + 1 + 1, 0, none⟩ = false := hI.r.frozen
      obtain ⟨j, c, hkj, hj, hH, hlk⟩ := hK.at_ k' hkr.1 hkr.2
      replace hlk := hlk false B hI.below
      simp only [ent] at hlk
      have HI := Lib.hid hI
      have hfk := field_kind
      have hq1 := eq_func
      have hq2 := eq_nil
      rcases size_nil j hj with ⟨hs, hj4⟩ | ⟨⟨F, hs⟩, hj4⟩
      · rw [hs] at hlk
        have HO : Hid (¬ OnF ((d, .mk k' n' us), v)) := fun h => by
          have h1 := h.2
          unfold M.isFix at h1
          simp only [M.Ty.k, hkj] at h1
          rcases hj4 with e | e | e <;> rw [e] at h1 <;> simp at h1
        clear hkj hI hj4 hkr
        gi_wp2_with fail
        exact ⟨HO.out, (KeepsOthers.setCell _ _ _).from _, HI.out.below.setCell (p := ⟨w.heap.size + 1 + 1, 0, none⟩) (by simp; omega) _, HI.out.r.set _⟩
      · rw [hs] at hlk
        have HO : Hid (OnF ((d, .mk k' n' us), v)) := ⟨hkr, by
          unfold M.isFix
          simp only [M.Ty.k, hkj]
          simp
          omega⟩
        clear hkj hI hj4 hkr
        gi_wp2_with fail
        exact ⟨HO.out, (KeepsOthers.refl _).from _, fun _ _ _ => rfl, HI.out⟩
    case done =>
      rintro D ys W hD ⟨hys, hon⟩ hI hKd
      have hE : M.fixT (.mk k n xs) = true := by
        rw [M.fixT_flat _ 0, ← hys, List.all_eq_true]
        intro y hy
        obtain ⟨x, hx, rfl⟩ := List.mem_map.1 hy
        exact (hon x hx).2
      have cr : W.cell? ⟨w.heap.size + 1 + 1, 0, none⟩ = some (.bool false) := hI.r.cell
      have fr : W.frozen? ⟨w.heap.size + 1 + 1, 0, none⟩ = false := hI.r.frozen
      rw [hE] at HR
      have HI := Lib.hid hI
      clear hE hI
      gi_wp2
      have hK' := (KeepsOthers.setCell W ⟨w.heap.size + 1 + 1, 0, none⟩ (.bool true)).same D _ hKd rfl
      refine ⟨by simp, .inl ⟨_, _, rfl, run_takeDeferred hK', ?_⟩⟩
      have hc5 := cell_kept (World.cell?_setCell_same' W ⟨w.heap.size + 1 + 1, 0, none⟩ (.bool true) (by rw [cr]; rfl)) (grownBy_putObj' _ D (.deferred none)) (fun r e => by cases e; exact ⟨_, hK', rfl⟩)
      refine ⟨.bool true, ?_, by rw [HR.out], (HI.out.below.setCell (p := ⟨w.heap.size + 1 + 1, 0, none⟩) (by simp; omega) _).trans (belowK_b (w := w) (Nat.le_refl _) _ D _ _ (by omega) hK' rfl rfl)⟩
      simp [results, Tryz.f112, go_sem, hc5]
    case stop =>
      rintro D y W hD ⟨ys, zs, hfl, hon, hoff⟩ ⟨hX, hXr⟩ hKd
      have hE : M.fixT (.mk k n xs) = false := by
        rw [M.fixT_flat _ 0, hfl, List.all_append, List.all_cons]
        have h1 := (M.chk_all (t := .mk k n xs) (d := 0) (by omega)).1 HCK.out y.1 (by rw [hfl]; simp)
        have h2 : M.isFix y.1 = false := by
          cases hy : M.isFix y.1 with
          | false => rfl
          | true =>
            refine absurd ⟨?_, hy⟩ hoff
            obtain ⟨⟨d, ⟨k', n', us⟩⟩, v⟩ := y
            replace h1 : (if k' < 1 ∨ 8 < k' then 9 else if M.formT k' n' us.length = false then 2 else if d = 6 then 7 else 0) = 0 := h1
            by_cases h2 : k' < 1 ∨ 8 < k'
            · rw [if_pos h2] at h1; cases h1
            · show 1 ≤ k' ∧ k' ≤ 8
              omega
        rw [h2]
        simp
      rw [hE] at HR
      clear hE
      have HX := Lib.hid hX
      clear hX
      gi_wp2
      refine ⟨by simp, .inl ⟨_, _, rfl, run_takeDeferred hKd, ?_⟩⟩
      have cr : W.cell? ⟨w.heap.size + 1 + 1, 0, none⟩ = some (.bool false) := hXr.cell
      have hc5 := cell_kept cr (grownBy_putObj' _ D (.deferred none)) (fun r e => by cases e; exact ⟨_, hKd, rfl⟩)
      refine ⟨.bool false, ?_, by rw [HR.out], HX.out.trans (belowK_b (w := w) (Nat.le_refl _) W D _ _ (by omega) hKd rfl rfl)⟩
      simp [results, Tryz.f112, go_sem, hc5]
  · have hfx : M.fixedT (.mk k n xs) = false := by rw [M.fixedT, if_neg hchk]
    rw [hfx] at hr
    have HR := Lib.hid hr
    generalize M.chkT 0 (.mk k n xs) = q at *
    have hq : (((q : Nat) : Int) != 0) = true := by simp; omega
    clear hr hfx hchk
    gi_wp2_with fail
    have hc5 := World.cell?_setCell_same' w1 ⟨w.heap.size + 1 + 1, 0, none⟩ (.bool false) (by rw [cr]; rfl)
    refine ⟨.bool false, ?_, by rw [HR.out], hI0.out.below.setCell (p := ⟨w.heap.size + 1 + 1, 0, none⟩) (by simp; omega) _⟩
    simp [results, Tryz.f112, go_sem, hc5]
end Go.Proofs.YtaajkbclojmbeaaGreatDoor
namespace Go.Proofs.YtaajkbclojmbeaaGreatDoor
open Go Go.RowKit

theorem Vl.longs {w : World} {n N : Nat} {bs : List Bool} {us : List M.Va} {ab : Option Addr} {cb : Nat} {au : Option Addr} {cu : Nat} (h : Vl w n N bs us ab cb au cu) : bs.length ≤ 9223372036854775807 ∧ us.length ≤ 9223372036854775807 := by
  obtain ⟨_, _, e, h1, h2⟩ := h.b.slice
  cases e
  obtain ⟨_, _, e, h3, h4⟩ := h.v.slice
  cases e
  simp only [maxLen] at h2 h4
  exact ⟨by omega, by omega⟩

/-- Is all of it zero, or empty? -/
theorem empty_any (N : Nat) (hN : M.In N) (lb lu : Nat) (_hlb : lb ≤ 9223372036854775807) (_hlu : lu ≤ 9223372036854775807) (ab : Option Addr) (cb : Nat) (au : Option Addr) (cu : Nat) (p : Int) (w : World) :
    Calls Tryz.prog 107 #[vv N (.slice ab lb cb) (.slice au lu cu) p] w fun e w' => e = .returned (.bool (N == 0 && lb == 0 && lu == 0 && p == 0)) ∧ Below w.heap.size w w' := by
  have hb0 : Below w.heap.size w (w.alloc (.cells #[.int .u64 (M.pt 0 N), .int .u64 (M.pt 1 N), .int .u64 (M.pt 2 N), .int .u64 (M.pt 3 N), .slice ab lb cb, .slice au lu cu, .int .i64 p] 38)) := by (repeat (first | exact Below.refl _ _ | refine Below.drew ?_ | refine Below.alloc ?_ (by first | omega | (simp; omega) | simp) _ | refine Below.setCell ?_ (by first | omega | (simp; omega) | simp) _))
  have he : ∀ W, (Op.equalIn 10000 34 (wn N) (wd 0 0 0 0)).run Tryz.prog W = .ok (decide (N = 0)) W := fun W => by
    have := eqN hN (show M.In 0 by unfold M.In; omega) W
    rwa [show (wn 0 : Value) = wd 0 0 0 0 by unfold wn; rw [show M.pt 0 0 = 0 by decide +kernel, show M.pt 1 0 = 0 by decide +kernel, show M.pt 2 0 = 0 by decide +kernel, show M.pt 3 0 = 0 by decide +kernel]] at this
  by_cases h1 : N = 0
  · have hh : decide (N = 0) = true := decide_eq_true h1
    rw [hh] at he
    have h1' := Lib.hid h1
    clear h1 hh
    by_cases h2 : lb = 0
    · have g2 : ((lb : Int) == 0) = true := by simp; omega
      have h2' := Lib.hid h2
      clear h2
      by_cases h3 : lu = 0
      · have g3 : ((lu : Int) == 0) = true := by simp; omega
        have h3' := Lib.hid h3
        clear h3
        go_enter Tryz.func107, Tryz.ntmps107
        go_wp2_with fail
        go_ret
        exact ⟨by rw [h1'.out, h2'.out, h3'.out]; simp, hb0⟩
      · have g3 : ((lu : Int) == 0) = false := by simp; omega
        have h3' := Lib.hid h3
        clear h3
        go_enter Tryz.func107, Tryz.ntmps107
        go_wp2_with fail
        go_ret
        exact ⟨by rw [show (lu == 0) = false by have := h3'.out; simp; omega]; simp, hb0⟩
    · have g2 : ((lb : Int) == 0) = false := by simp; omega
      have h2' := Lib.hid h2
      clear h2
      go_enter Tryz.func107, Tryz.ntmps107
      go_wp2_with fail
      go_ret
      exact ⟨by rw [show (lb == 0) = false by have := h2'.out; simp; omega]; simp, hb0⟩
  · have hh : decide (N = 0) = false := decide_eq_false h1
    rw [hh] at he
    have h1' := Lib.hid h1
    clear h1 hh
    go_enter Tryz.func107, Tryz.ntmps107
    go_wp2_with fail
    go_ret
    exact ⟨by rw [show (N == 0) = false by have := h1'.out; simp; omega]; simp, hb0⟩

/-- What a function that takes a kind's parts off must do. -/
def RestC (k : Int) (g : FuncId) : Prop := ∀ (N lb lu : Nat) (p : Int) (ab : Option Addr) (cb : Nat) (au : Option Addr) (cu : Nat) (w : World), M.In N → lb ≤ 9223372036854775807 → lu ≤ 9223372036854775807 →
  Calls Tryz.prog g #[vv N (.slice ab lb cb) (.slice au lu cu) p] w fun e w' => ∃ (N' lb' lu' : Nat) (p' : Int) (ab' : Option Addr) (cb' : Nat) (au' : Option Addr) (cu' : Nat), e = .returned (vv N' (.slice ab' lb' cb') (.slice au' lu' cu') p') ∧
    (N' = (if k = 1 ∨ k = 2 then 0 else N) ∧ lb' = (if k = 5 ∨ k = 6 then 0 else lb) ∧ lu' = (if k = 3 ∨ k = 4 ∨ k = 7 ∨ k = 8 then 0 else lu) ∧ p' = (if k = 8 then 0 else p)) ∧ Below w.heap.size w w'

theorem two_boxes' (w : World) (o o' : Obj) : Below w.heap.size w ((w.alloc o).alloc o') := ((Below.refl _ w).alloc (Nat.le_refl _) o).alloc (by simp) o'
theorem Tryz.valSize : (Tryz.prog.info? 38).map (·.size) = some 7 := by kernel_rfl
/-- The result is a value in the newest block. -/
theorem va_new {fn : Func} {s : Tmp} (hres : fn.results = #[.cell s 38]) (w W : World) (tmps : Array Value) (c0 c1 c2 c3 c4 c5 c6 : Value) (R : Ending → World → Prop) (hp : tmps.getD s undef = .pointer (some ⟨W.heap.size, 0, none⟩)) (hb : Below w.heap.size w W)
    (h : ∀ Z, Below w.heap.size w Z → R (.returned (.agg #[c0, c1, c2, c3, c4, c5, c6])) Z) :
    bodyPost Tryz.prog fn R .ret { tmps := tmps, defers := [] } (W.alloc (.cells #[c0, c1, c2, c3, c4, c5, c6] 38)) := by
  have := results_cell_row (P := Tryz.prog) hres tmps (W.alloc (.cells #[c0, c1, c2, c3, c4, c5, c6] 38)) W.heap.size 38 #[c0, c1, c2, c3, c4, c5, c6] (0, 0) _ hp (heap_alloc_new W _) Tryz.underlying38 rfl Tryz.valSize
  exact bodyPost_ret this rfl (h _ (hb.alloc hb.size _))
theorem Tryz.typeSize' : (Tryz.prog.info? 32).map (·.size) = some 3 := by kernel_rfl
/-- The result is a type in the newest block. -/
theorem ty_new' {fn : Func} {s : Tmp} (hres : fn.results = #[.cell s 32]) (w W : World) (tmps : Array Value) (c0 c1 c2 : Value) (R : Ending → World → Prop) (hp : tmps.getD s undef = .pointer (some ⟨W.heap.size, 0, none⟩)) (hb : Below w.heap.size w W)
    (h : ∀ Z, Below w.heap.size w Z → R (.returned (.agg #[c0, c1, c2])) Z) :
    bodyPost Tryz.prog fn R .ret { tmps := tmps, defers := [] } (W.alloc (.cells #[c0, c1, c2] 32)) := by
  have := results_cell_row (P := Tryz.prog) hres tmps (W.alloc (.cells #[c0, c1, c2] 32)) W.heap.size 32 #[c0, c1, c2] (0, 0) _ hp (heap_alloc_new W _) Tryz.underlying32 rfl Tryz.typeSize'
  exact bodyPost_ret this rfl (h _ (hb.alloc hb.size _))
theorem vv_zero (u v : Value) (p : Int) : vv 0 u v p = .agg #[.int .u64 0, .int .u64 0, .int .u64 0, .int .u64 0, u, v, .int .i64 p] := by
  show Value.agg _ = _
  rw [show M.pt 0 0 = 0 by decide +kernel, show M.pt 1 0 = 0 by decide +kernel, show M.pt 2 0 = 0 by decide +kernel, show M.pt 3 0 = 0 by decide +kernel]

theorem nonum_any (N lb lu : Nat) (p : Int) (ab : Option Addr) (cb : Nat) (au : Option Addr) (cu : Nat) (w : World) :
    Calls Tryz.prog 80 #[vv N (.slice ab lb cb) (.slice au lu cu) p] w fun e w' => e = .returned (.agg #[.int .u64 0, .int .u64 0, .int .u64 0, .int .u64 0, .slice ab lb cb, .slice au lu cu, .int .i64 p]) ∧ Below w.heap.size w w' := by
  go_enter Tryz.func80, Tryz.ntmps80
  go_wp2_with fail
  refine va_new rfl w _ _ _ _ _ _ _ _ _ _ ?_ ((Below.refl _ w).alloc (Nat.le_refl _) _) (fun Z hZ => ⟨rfl, hZ⟩)
  simp
theorem nobits_any (N lb lu : Nat) (p : Int) (ab : Option Addr) (cb : Nat) (au : Option Addr) (cu : Nat) (w : World) :
    Calls Tryz.prog 97 #[vv N (.slice ab lb cb) (.slice au lu cu) p] w fun e w' => e = .returned (.agg #[.int .u64 (M.pt 0 N), .int .u64 (M.pt 1 N), .int .u64 (M.pt 2 N), .int .u64 (M.pt 3 N), .slice none 0 0, .slice au lu cu, .int .i64 p]) ∧ Below w.heap.size w w' := by
  go_enter Tryz.func97, Tryz.ntmps97
  go_wp2_with fail
  refine va_new rfl w _ _ _ _ _ _ _ _ _ _ ?_ ((Below.refl _ w).alloc (Nat.le_refl _) _) (fun Z hZ => ⟨rfl, hZ⟩)
  simp
theorem noitems_any (N lb lu : Nat) (p : Int) (ab : Option Addr) (cb : Nat) (au : Option Addr) (cu : Nat) (w : World) :
    Calls Tryz.prog 90 #[vv N (.slice ab lb cb) (.slice au lu cu) p] w fun e w' => e = .returned (.agg #[.int .u64 (M.pt 0 N), .int .u64 (M.pt 1 N), .int .u64 (M.pt 2 N), .int .u64 (M.pt 3 N), .slice ab lb cb, .slice none 0 0, .int .i64 p]) ∧ Below w.heap.size w w' := by
  go_enter Tryz.func90, Tryz.ntmps90
  go_wp2_with fail
  refine va_new rfl w _ _ _ _ _ _ _ _ _ _ ?_ ((Below.refl _ w).alloc (Nat.le_refl _) _) (fun Z hZ => ⟨rfl, hZ⟩)
  simp
set_option maxRecDepth 100000 in
theorem nopick_any (N lb lu : Nat) (p : Int) (ab : Option Addr) (cb : Nat) (au : Option Addr) (cu : Nat) (w : World) :
    Calls Tryz.prog 104 #[vv N (.slice ab lb cb) (.slice au lu cu) p] w fun e w' => e = .returned (.agg #[.int .u64 (M.pt 0 N), .int .u64 (M.pt 1 N), .int .u64 (M.pt 2 N), .int .u64 (M.pt 3 N), .slice ab lb cb, .slice none 0 0, .int .i64 0]) ∧ Below w.heap.size w w' := by
  have HI := Lib.hid (fun W => noitems_any N lb lu 0 ab cb au cu W)
  go_enter Tryz.func104, Tryz.ntmps104
  go_wp2_with fail
  refine (HI.out _).mono ?_
  rintro e w1 ⟨rfl, hb1⟩
  have c0 : w1.cell? ⟨w.heap.size + 1, 0, none⟩ = some (.int .u64 0) := (hb1.cell (p := ⟨w.heap.size + 1, 0, none⟩) (by simp)).trans (by simp [go_sem])
  have z0 : w1.frozen? ⟨w.heap.size + 1, 0, none⟩ = false := (hb1.frozen (p := ⟨w.heap.size + 1, 0, none⟩) (by simp)).trans (by simp [go_sem])
  have c1 : w1.cell? ⟨w.heap.size + 1, 1, none⟩ = some (.int .u64 0) := (hb1.cell (p := ⟨w.heap.size + 1, 1, none⟩) (by simp)).trans (by simp [go_sem])
  have z1 : w1.frozen? ⟨w.heap.size + 1, 1, none⟩ = false := (hb1.frozen (p := ⟨w.heap.size + 1, 1, none⟩) (by simp)).trans (by simp [go_sem])
  have c2 : w1.cell? ⟨w.heap.size + 1, 2, none⟩ = some (.int .u64 0) := (hb1.cell (p := ⟨w.heap.size + 1, 2, none⟩) (by simp)).trans (by simp [go_sem])
  have z2 : w1.frozen? ⟨w.heap.size + 1, 2, none⟩ = false := (hb1.frozen (p := ⟨w.heap.size + 1, 2, none⟩) (by simp)).trans (by simp [go_sem])
  have c3 : w1.cell? ⟨w.heap.size + 1, 3, none⟩ = some (.int .u64 0) := (hb1.cell (p := ⟨w.heap.size + 1, 3, none⟩) (by simp)).trans (by simp [go_sem])
  have z3 : w1.frozen? ⟨w.heap.size + 1, 3, none⟩ = false := (hb1.frozen (p := ⟨w.heap.size + 1, 3, none⟩) (by simp)).trans (by simp [go_sem])
  have c4 : w1.cell? ⟨w.heap.size + 1, 4, none⟩ = some (.slice none 0 0) := (hb1.cell (p := ⟨w.heap.size + 1, 4, none⟩) (by simp)).trans (by simp [go_sem])
  have z4 : w1.frozen? ⟨w.heap.size + 1, 4, none⟩ = false := (hb1.frozen (p := ⟨w.heap.size + 1, 4, none⟩) (by simp)).trans (by simp [go_sem])
  have c5 : w1.cell? ⟨w.heap.size + 1, 5, none⟩ = some (.slice none 0 0) := (hb1.cell (p := ⟨w.heap.size + 1, 5, none⟩) (by simp)).trans (by simp [go_sem])
  have z5 : w1.frozen? ⟨w.heap.size + 1, 5, none⟩ = false := (hb1.frozen (p := ⟨w.heap.size + 1, 5, none⟩) (by simp)).trans (by simp [go_sem])
  have c6 : w1.cell? ⟨w.heap.size + 1, 6, none⟩ = some (.int .i64 0) := (hb1.cell (p := ⟨w.heap.size + 1, 6, none⟩) (by simp)).trans (by simp [go_sem])
  have z6 : w1.frozen? ⟨w.heap.size + 1, 6, none⟩ = false := (hb1.frozen (p := ⟨w.heap.size + 1, 6, none⟩) (by simp)).trans (by simp [go_sem])
  have hz := hb1.size
  simp only [World.size_alloc] at hz
  replace hb1 := (two_boxes' w _ _).trans (hb1.mono (by simp; omega))
  have HZ := Lib.hid hz
  clear hz
  go_wp2_with fail
  refine bodyPost_ret (v := .agg #[.int .u64 (M.pt 0 N), .int .u64 (M.pt 1 N), .int .u64 (M.pt 2 N), .int .u64 (M.pt 3 N), .slice ab lb cb, .slice none 0 0, .int .i64 0]) ?_ rfl ⟨rfl, ?_⟩
  · simp [results, Tryz.results104, go_sem, c0, c1, c2, c3, c4, c5, c6]
  · have hs : ∀ (W : World) (i : Nat) (u : Value), Below w.heap.size w W → Below w.heap.size w (W.setCell ⟨w.heap.size + 1, i, none⟩ u) := fun W i u h => h.setCell (p := ⟨w.heap.size + 1, i, none⟩) (by simp) u
    exact hs _ _ _ (hs _ _ _ (hs _ _ _ (hs _ _ _ (hs _ _ _ (hs _ _ _ (hs _ _ _ hb1))))))
theorem rest_1 : RestC 1 80 := fun N lb lu p ab cb au cu w _ _ _ => (nonum_any N lb lu p ab cb au cu w).mono fun _ _ ⟨h1, h2⟩ => ⟨0, lb, lu, p, ab, cb, au, cu, h1.trans (by rw [vv_zero]), ⟨by simp, by simp, by simp, by simp⟩, h2⟩
theorem rest_2 : RestC 2 80 := fun N lb lu p ab cb au cu w _ _ _ => (nonum_any N lb lu p ab cb au cu w).mono fun _ _ ⟨h1, h2⟩ => ⟨0, lb, lu, p, ab, cb, au, cu, h1.trans (by rw [vv_zero]), ⟨by simp, by simp, by simp, by simp⟩, h2⟩
theorem rest_3 : RestC 3 90 := fun N lb lu p ab cb au cu w _ _ _ => (noitems_any N lb lu p ab cb au cu w).mono fun _ _ ⟨h1, h2⟩ => ⟨N, lb, 0, p, ab, cb, none, 0, h1.trans (rfl), ⟨by simp, by simp, by simp, by simp⟩, h2⟩
theorem rest_4 : RestC 4 90 := fun N lb lu p ab cb au cu w _ _ _ => (noitems_any N lb lu p ab cb au cu w).mono fun _ _ ⟨h1, h2⟩ => ⟨N, lb, 0, p, ab, cb, none, 0, h1.trans (rfl), ⟨by simp, by simp, by simp, by simp⟩, h2⟩
theorem rest_5 : RestC 5 97 := fun N lb lu p ab cb au cu w _ _ _ => (nobits_any N lb lu p ab cb au cu w).mono fun _ _ ⟨h1, h2⟩ => ⟨N, 0, lu, p, none, 0, au, cu, h1.trans (rfl), ⟨by simp, by simp, by simp, by simp⟩, h2⟩
theorem rest_6 : RestC 6 97 := fun N lb lu p ab cb au cu w _ _ _ => (nobits_any N lb lu p ab cb au cu w).mono fun _ _ ⟨h1, h2⟩ => ⟨N, 0, lu, p, none, 0, au, cu, h1.trans (rfl), ⟨by simp, by simp, by simp, by simp⟩, h2⟩
theorem rest_7 : RestC 7 90 := fun N lb lu p ab cb au cu w _ _ _ => (noitems_any N lb lu p ab cb au cu w).mono fun _ _ ⟨h1, h2⟩ => ⟨N, lb, 0, p, ab, cb, none, 0, h1.trans (rfl), ⟨by simp, by simp, by simp, by simp⟩, h2⟩
theorem rest_8 : RestC 8 104 := fun N lb lu p ab cb au cu w _ _ _ => (nopick_any N lb lu p ab cb au cu w).mono fun _ _ ⟨h1, h2⟩ => ⟨N, lb, 0, 0, ab, cb, none, 0, h1.trans (rfl), ⟨by simp, by simp, by simp, by simp⟩, h2⟩
/-- How many bytes beside those of its items, and how many items of each type. -/
def M.ownI (k n : Int) : Int := if k = 1 then n else if k = 2 then 1 else if k = 5 then (n + 7) / 8 else 0
def M.eachI (k n : Int) : Int := if k = 3 then n else if k = 7 then 1 else 0
def SizeC (k : Int) (g : FuncId) : Prop := ∀ (n : Int) (v : Value) (w : World), 0 ≤ n → n ≤ 512 →
  Calls Tryz.prog g #[tv k n v] w fun e w' => e = .returned (.tuple #[.int .i64 (M.ownI k n), .int .i64 (M.eachI k n)]) ∧ Below w.heap.size w w'
theorem size_1 : SizeC 1 76 := by
  intro n v w h0 h1
  have hb0 : Below w.heap.size w (w.alloc (.cells #[.int .i64 1, .int .i64 n, v] 32)) := by (repeat (first | exact Below.refl _ _ | refine Below.drew ?_ | refine Below.alloc ?_ (by first | omega | (simp; omega) | simp) _ | refine Below.setCell ?_ (by first | omega | (simp; omega) | simp) _))
  go_enter Tryz.func76, Tryz.ntmps76
  go_wp2_with fail
  go_ret2
  exact ⟨by simp [M.ownI, M.eachI], hb0⟩
theorem size_2 : SizeC 2 82 := by
  intro n v w h0 h1
  have hb0 : Below w.heap.size w (w.alloc (.cells #[.int .i64 2, .int .i64 n, v] 32)) := by (repeat (first | exact Below.refl _ _ | refine Below.drew ?_ | refine Below.alloc ?_ (by first | omega | (simp; omega) | simp) _ | refine Below.setCell ?_ (by first | omega | (simp; omega) | simp) _))
  go_enter Tryz.func82, Tryz.ntmps82
  go_wp2_with fail
  go_ret2
  exact ⟨by simp [M.ownI, M.eachI], hb0⟩
theorem size_3 : SizeC 3 87 := by
  intro n v w h0 h1
  have hb0 : Below w.heap.size w (w.alloc (.cells #[.int .i64 3, .int .i64 n, v] 32)) := by (repeat (first | exact Below.refl _ _ | refine Below.drew ?_ | refine Below.alloc ?_ (by first | omega | (simp; omega) | simp) _ | refine Below.setCell ?_ (by first | omega | (simp; omega) | simp) _))
  go_enter Tryz.func87, Tryz.ntmps87
  go_wp2_with fail
  go_quiet (fail)
  go_wp2_with fail
  go_ret2
  exact ⟨by simp [M.ownI, M.eachI], ⟨hb0.os, hb0.tape, hb0.output, hb0.size, hb0.block⟩⟩
theorem size_5 : SizeC 5 94 := by
  intro n v w h0 h1
  have hb0 : Below w.heap.size w (w.alloc (.cells #[.int .i64 5, .int .i64 n, v] 32)) := by (repeat (first | exact Below.refl _ _ | refine Below.drew ?_ | refine Below.alloc ?_ (by first | omega | (simp; omega) | simp) _ | refine Below.setCell ?_ (by first | omega | (simp; omega) | simp) _))
  have h7 : wrap64 (n + 7) = n + 7 := by unfold wrap64; omega
  have h8 : wrap64 ((n + 7).tdiv 8) = (n + 7) / 8 := by rw [Int.tdiv_eq_ediv_of_nonneg (by omega)]; unfold wrap64; omega
  go_enter Tryz.func94, Tryz.ntmps94
  go_wp2_with fail
  go_ret2
  exact ⟨by simp [M.ownI, M.eachI], hb0⟩
theorem size_7 : SizeC 7 100 := by
  intro n v w h0 h1
  have hb0 : Below w.heap.size w (w.alloc (.cells #[.int .i64 7, .int .i64 n, v] 32)) := by (repeat (first | exact Below.refl _ _ | refine Below.drew ?_ | refine Below.alloc ?_ (by first | omega | (simp; omega) | simp) _ | refine Below.setCell ?_ (by first | omega | (simp; omega) | simp) _))
  go_enter Tryz.func100, Tryz.ntmps100
  go_wp2_with fail
  go_ret2
  exact ⟨by simp [M.ownI, M.eachI], hb0⟩
/-- What a function that tells the type of an item must do. -/
def OfC (k : Int) (g : FuncId) : Prop := ∀ (n : Int) (t c b o : Nat) (p : Int) (i j : Nat) (k' m' : Int) (au : Option Addr) (ul cu : Nat) (w : World), j < t → b < w.heap.size → t ≤ 1000 →
  ((k = 7 ∧ i = j) ∨ (k ≠ 7 ∧ k = 8 ∧ p = j) ∨ (k ≠ 7 ∧ k ≠ 8 ∧ j = 0)) →
  w.cell? ⟨b, o + j * 3, none⟩ = some (.int .i64 k') → w.cell? ⟨b, o + j * 3 + 1, none⟩ = some (.int .i64 m') → w.cell? ⟨b, o + j * 3 + 2, none⟩ = some (.slice au ul cu) →
  Calls Tryz.prog g #[tv k n (.slice (some ⟨b, o, none⟩) t c), .int .i64 p, .int .i64 i] w fun e w' => e = .returned (tv k' m' (.slice au ul cu)) ∧ Below w.heap.size w w'
set_option maxRecDepth 100000 in
set_option maxHeartbeats 4000000 in
theorem of_3 : OfC 3 91 := by
  intro n t c b o p i j k' m' au ul cu w hj hbn ht hi e0 e1 e2
  obtain rfl : j = 0 := by omega
  have hb0 : ∀ o o', Below w.heap.size w ((w.alloc o).alloc o') := fun o o' => ((Below.refl _ w).alloc (Nat.le_refl _) o).alloc (by simp) o'
  have g0 := fun o1 o2 => ((hb0 o1 o2).cell (p := ⟨b, o + 0 * 3, none⟩) hbn).trans e0
  have g1 := fun o1 o2 => ((hb0 o1 o2).cell (p := ⟨b, o + 0 * 3 + 1, none⟩) hbn).trans e1
  have g2 := fun o1 o2 => ((hb0 o1 o2).cell (p := ⟨b, o + 0 * 3 + 2, none⟩) hbn).trans e2
  simp only [Nat.zero_mul, Nat.add_zero] at g0 g1 g2
  clear e0 e1 e2 hi
  go_enter Tryz.func91, Tryz.ntmps91
  go_wp2_with fail
  refine ty_new' rfl w _ _ _ _ _ _ ?_ ((Below.refl _ w).alloc (Nat.le_refl _) _) (fun Z hZ => ⟨rfl, hZ⟩)
  simp
set_option maxRecDepth 100000 in
set_option maxHeartbeats 4000000 in
theorem of_4 : OfC 4 91 := by
  intro n t c b o p i j k' m' au ul cu w hj hbn ht hi e0 e1 e2
  obtain rfl : j = 0 := by omega
  have hb0 : ∀ o o', Below w.heap.size w ((w.alloc o).alloc o') := fun o o' => ((Below.refl _ w).alloc (Nat.le_refl _) o).alloc (by simp) o'
  have g0 := fun o1 o2 => ((hb0 o1 o2).cell (p := ⟨b, o + 0 * 3, none⟩) hbn).trans e0
  have g1 := fun o1 o2 => ((hb0 o1 o2).cell (p := ⟨b, o + 0 * 3 + 1, none⟩) hbn).trans e1
  have g2 := fun o1 o2 => ((hb0 o1 o2).cell (p := ⟨b, o + 0 * 3 + 2, none⟩) hbn).trans e2
  simp only [Nat.zero_mul, Nat.add_zero] at g0 g1 g2
  clear e0 e1 e2 hi
  go_enter Tryz.func91, Tryz.ntmps91
  go_wp2_with fail
  refine ty_new' rfl w _ _ _ _ _ _ ?_ ((Below.refl _ w).alloc (Nat.le_refl _) _) (fun Z hZ => ⟨rfl, hZ⟩)
  simp
set_option maxRecDepth 100000 in
set_option maxHeartbeats 4000000 in
theorem of_7 : OfC 7 102 := by
  intro n t c b o p i j k' m' au ul cu w hj hbn ht hi e0 e1 e2
  obtain rfl : i = j := by omega
  have hb0 : ∀ o o', Below w.heap.size w ((w.alloc o).alloc o') := fun o o' => ((Below.refl _ w).alloc (Nat.le_refl _) o).alloc (by simp) o'
  have g0 := fun o1 o2 => ((hb0 o1 o2).cell (p := ⟨b, o + i * 3, none⟩) hbn).trans e0
  have g1 := fun o1 o2 => ((hb0 o1 o2).cell (p := ⟨b, o + i * 3 + 1, none⟩) hbn).trans e1
  have g2 := fun o1 o2 => ((hb0 o1 o2).cell (p := ⟨b, o + i * 3 + 2, none⟩) hbn).trans e2
  clear e0 e1 e2 hi
  go_enter Tryz.func102, Tryz.ntmps102
  go_wp2_with fail
  refine ty_new' rfl w _ _ _ _ _ _ ?_ ((Below.refl _ w).alloc (Nat.le_refl _) _) (fun Z hZ => ⟨rfl, hZ⟩)
  simp
set_option maxRecDepth 100000 in
set_option maxHeartbeats 4000000 in
theorem of_8 : OfC 8 105 := by
  intro n t c b o p i j k' m' au ul cu w hj hbn ht hi e0 e1 e2
  obtain rfl : p = j := by omega
  have hb0 : ∀ o o', Below w.heap.size w ((w.alloc o).alloc o') := fun o o' => ((Below.refl _ w).alloc (Nat.le_refl _) o).alloc (by simp) o'
  have g0 := fun o1 o2 => ((hb0 o1 o2).cell (p := ⟨b, o + j * 3, none⟩) hbn).trans e0
  have g1 := fun o1 o2 => ((hb0 o1 o2).cell (p := ⟨b, o + j * 3 + 1, none⟩) hbn).trans e1
  have g2 := fun o1 o2 => ((hb0 o1 o2).cell (p := ⟨b, o + j * 3 + 2, none⟩) hbn).trans e2
  clear e0 e1 e2 hi
  go_enter Tryz.func105, Tryz.ntmps105
  go_wp2_with fail
  refine ty_new' rfl w _ _ _ _ _ _ ?_ ((Below.refl _ w).alloc (Nat.le_refl _) _) (fun Z hZ => ⟨rfl, hZ⟩)
  simp
end Go.Proofs.YtaajkbclojmbeaaGreatDoor
namespace Go.Proofs.YtaajkbclojmbeaaGreatDoor
open Go Go.RowKit Go.Shelf
attribute [local go_sem] Oper.semAt_some

theorem size_at (j : Nat) (hj : j < 8) (hf : ¬ (j + 1 = 4 ∨ j + 1 = 6 ∨ j + 1 = 8)) : ∃ g, sizeV (j + 1) = .func (.func g) #[] #[] ∧ SizeC ((j + 1 : Nat) : Int) g ∧ ∀ args w, (callFunc g args).run Tryz.prog w = .ok (.enter g args) w := by
  match j, hj with
  | 0, _ => exact ⟨_, rfl, size_1, enters_of Tryz.func76 (by kernel_rfl) rfl⟩
  | 1, _ => exact ⟨_, rfl, size_2, enters_of Tryz.func82 (by kernel_rfl) rfl⟩
  | 2, _ => exact ⟨_, rfl, size_3, enters_of Tryz.func87 (by kernel_rfl) rfl⟩
  | 3, _ => exact absurd (.inl rfl) hf
  | 4, _ => exact ⟨_, rfl, size_5, enters_of Tryz.func94 (by kernel_rfl) rfl⟩
  | 5, _ => exact absurd (.inr (.inl rfl)) hf
  | 6, _ => exact ⟨_, rfl, size_7, enters_of Tryz.func100 (by kernel_rfl) rfl⟩
  | 7, _ => exact absurd (.inr (.inr rfl)) hf
theorem own_each {k n : Int} {ins : List M.Ty} (h : ∃ e, M.chkT e (.mk k n ins) = 0) : M.ownI k n = (M.oneN (.mk k n ins) : Nat) ∧ M.eachI k n = (M.eachN (.mk k n ins) : Nat) ∧ 0 ≤ n ∧ n ≤ 512 := by
  obtain ⟨e, h⟩ := h
  have hk := (M.chkT_ok.1 h).2.1
  have h8 := (M.chkT_ok.1 h).1
  have hn : 0 ≤ n ∧ n ≤ 512 := by
    unfold M.formT at hk
    split at hk
    · simp at hk; omega
    · split at hk
      · simp at hk; omega
      · split at hk
        · simp at hk; omega
        · split at hk
          · simp at hk; omega
          · split at hk
            · simp at hk; omega
            · simp at hk; omega
  refine ⟨?_, ?_, hn⟩
  · unfold M.ownI
    rw [M.oneN]
    split
    · omega
    · split
      · rfl
      · split
        · omega
        · rfl
  · unfold M.eachI
    rw [M.eachN]
    split
    · omega
    · split
      · rfl
      · rfl

/-- Between two rounds: the sum, and how many at each depth. -/
structure SI (w : World) (b bt : Nat) (k n : Int) (v : Value) (st : M.St) (W : World) : Prop where
  below : Below w.heap.size w W
  m : Boxed W w.heap.size 68 (.map (some b))
  t : BoxT W bt k n v
  s : Boxed W (w.heap.size + 2) 3 (.int .i64 (st.1 : Nat))
  mc : ∀ i, i < 7 → W.cell? ⟨w.heap.size + 3, i, none⟩ = some (.int .i64 (st.2 i : Nat))
  mf : ∀ i, i < 7 → W.frozen? ⟨w.heap.size + 3, i, none⟩ = false
theorem SI_own {w : World} {b bt : Nat} {k n : Int} {v : Value} {B : Nat} (hB : w.heap.size ≤ B) : OwnFrom B fun (st : M.St) W => SI w b bt k n v st W := fun _ _ _ _ h hg hrow =>
  have hr := fun r e => (hrow r e).2
  ⟨below_kept h.below hg (fun r e => Nat.le_trans hB (hrow r e).1), boxed_kept' h.m hg hr, boxT_kept h.t hg hr, boxed_kept' h.s hg hr, fun i hi => cell_kept (h.mc i hi) hg hr, fun i hi => (frozen_kept (h.mc i hi) hg hr).trans (h.mf i hi)⟩
theorem SI.go {w B W2 : World} {b bt : Nat} {k n : Int} {v : Value} {st : M.St} (h : SI w b bt k n v st B) (hb : Below B.heap.size B W2) (h3 : w.heap.size + 3 < B.heap.size) : SI w b bt k n v st W2 :=
  ⟨h.below.trans (hb.mono h.below.size), (hb.block _ h.m.lt).trans h.m, h.t.from_ hb h.t.lt', (hb.block _ h.s.lt).trans h.s, fun i hi => (hb.cell (p := ⟨w.heap.size + 3, i, none⟩) h3).trans (h.mc i hi), fun i hi => (hb.frozen (p := ⟨w.heap.size + 3, i, none⟩) h3).trans (h.mf i hi)⟩
def stO (pre : List El) : M.St := (pre.map (·.1)).foldl M.stp M.st0
theorem stO_next (pre : List El) (x : El) : stO (pre ++ [x]) = M.stp (stO pre) x.1 := by unfold stO; rw [List.map_append, List.foldl_append]; rfl
def SAx (w : World) (b bt : Nat) (k0 n0 : Int) (v0 : Value) (L0 : List (Nat × M.Ty)) (A1 : Nat → El → Act) (pre : List El) (x : El) (a' : Act) (B : World) : Prop :=
  ∃ (bx : Nat) (k n : Int) (us : List M.Ty), x.1.2 = .mk k n us ∧ GoodEl w L0 pre x ∧ a' = A1 bx x ∧ SI w b bt k0 n0 v0 (stO pre) B ∧ BoxT B bx k n x.2 ∧ w.heap.size + 5 ≤ bx ∧ bx < B.heap.size
theorem SAx_own {w : World} {b bt B : Nat} {k0 n0 : Int} {v0 : Value} (hB : w.heap.size ≤ B) {L0 : List (Nat × M.Ty)} {A1 : Nat → El → Act} (pre : List El) (x : El) (a' : Act) : OwnFrom B fun (_ : Unit) W => SAx w b bt k0 n0 v0 L0 A1 pre x a' W := by
  rintro _ W W' row ⟨bx, k, n, us, h1, h2, h3, h4, h5, h6, h7⟩ hg hrow
  exact ⟨bx, k, n, us, h1, h2, h3, SI_own hB _ _ _ row h4 hg hrow, boxT_kept h5 hg (fun r e => (hrow r e).2), h6, Nat.lt_of_lt_of_le h7 hg.size⟩

set_option maxRecDepth 100000 in
set_option maxHeartbeats 8000000 in
theorem ksize_any (k n : Int) (xs : List M.Ty) (a : Option Addr) (cap b : Nat) (cs : List Nat) (w : World) (hL : LayT w w.heap.size xs (.slice a xs.length cap)) (hc : M.cntT (.mk k n xs) ≤ 1000) (hK : Kinds w w.heap.size b cs)
    (hchk : M.chkT 0 (.mk k n xs) = 0) (hfix : M.fixT (.mk k n xs) = true) :
    Calls Tryz.prog 113 #[.map (some b), tv k n (.slice a xs.length cap)] w fun e w' => e = .returned (.int .i64 (M.szT (.mk k n xs) : Nat)) ∧ Below w.heap.size w w' := by
  have hro : Fence.wide.round = none := rfl
  obtain ⟨r, hr⟩ : ∃ r, r = M.szT (.mk k n xs) := ⟨_, rfl⟩
  rw [← hr]
  refine (callsIn_wide (n := 6)).1 ?_
  refine callsIn_of_wp_marks Tryz.func113 rfl trivial ?_ rfl
  simp only [Tryz.ntmps113, List.size_toArray, List.length_cons, List.length_nil, Nat.reduceAdd, Nat.reduceSub, Array.replicate_succ, Array.replicate_zero, List.push_toArray, List.append_toArray, List.nil_append, List.cons_append]
  gi_wp2_with fail
  refine ⟨trivial, (within_in _ k n (.slice a xs.length cap) _).mono ?_⟩
  rintro e w' ⟨rfl, rfl⟩
  obtain ⟨W0, hW0⟩ : ∃ W0, (((w.alloc (.cells #[.map (some b)] 68)).alloc (.cells #[.int .i64 k, .int .i64 n, .slice a xs.length cap] 32)).alloc (.cells #[.int .i64 0] 3)).alloc (.cells #[.int .i64 1, .int .i64 0, .int .i64 0, .int .i64 0, .int .i64 0, .int .i64 0, .int .i64 0] 144) = W0 := ⟨_, rfl⟩
  rw [hW0]
  have hz0 : W0.heap.size = w.heap.size + 4 := by rw [← hW0]; simp
  rw [hz0]
  generalize hW1 : W0.alloc (.cells #[.int .i64 k, .int .i64 n, .slice a xs.length cap] 32) = W1
  have hz1 : W1.heap.size = w.heap.size + 5 := by rw [← hW1]; simp; omega
  have hI1 : SI w b (w.heap.size + 4) k n (.slice a xs.length cap) (stO []) W1 := by
    have hb1 : Below w.heap.size w W0 := by rw [← hW0]; (repeat (first | exact Below.refl _ _ | refine Below.drew ?_ | refine Below.alloc ?_ (by first | omega | (simp; omega) | simp) _ | refine Below.setCell ?_ (by first | omega | (simp; omega) | simp) _))
    have h1 : Boxed W0 w.heap.size 68 (.map (some b)) := by rw [← hW0]; exact (((Boxed.new w _ _).alloc _).alloc _).alloc _
    have h2 : Boxed W0 (w.heap.size + 2) 3 (.int .i64 0) := by
      rw [← hW0]
      have := Boxed.new ((w.alloc (.cells #[.map (some b)] 68)).alloc (.cells #[.int .i64 k, .int .i64 n, .slice a xs.length cap] 32)) 3 (.int .i64 0)
      rw [World.size_alloc, World.size_alloc] at this
      exact this.alloc _
    have h3 : W0.heap[w.heap.size + 3]? = some (.cells #[.int .i64 1, .int .i64 0, .int .i64 0, .int .i64 0, .int .i64 0, .int .i64 0, .int .i64 0] 144 (0, 0)) := by
      rw [← hW0]
      have := World.alloc_heap_new (((w.alloc (.cells #[.map (some b)] 68)).alloc (.cells #[.int .i64 k, .int .i64 n, .slice a xs.length cap] 32)).alloc (.cells #[.int .i64 0] 3)) (.cells #[.int .i64 1, .int .i64 0, .int .i64 0, .int .i64 0, .int .i64 0, .int .i64 0, .int .i64 0] 144)
      rw [World.size_alloc, World.size_alloc, World.size_alloc] at this
      exact this
    have hbW : Below W0.heap.size W0 W1 := by rw [← hW1]; exact (Below.refl _ _).alloc (Nat.le_refl _) _
    have h4 : W1.heap[w.heap.size + 3]? = _ := (hbW.block _ (by omega)).trans h3
    refine ⟨hb1.trans (hbW.mono (by omega)), (hbW.block _ h1.lt).trans h1, ?_, (hbW.block _ h2.lt).trans h2, ?_, ?_⟩
    · rw [← hW1]
      have := BoxT.new W0 k n (.slice a xs.length cap) 32
      rw [hz0] at this
      exact this
    · intro i hi
      match i, hi with
      | 0, _ => simp [World.cell?, h4]; rfl
      | 1, _ => simp [World.cell?, h4]; rfl
      | 2, _ => simp [World.cell?, h4]; rfl
      | 3, _ => simp [World.cell?, h4]; rfl
      | 4, _ => simp [World.cell?, h4]; rfl
      | 5, _ => simp [World.cell?, h4]; rfl
      | 6, _ => simp [World.cell?, h4]; rfl
    · intro i hi
      simp [World.frozen?, h4]
  clear hW1 hW0
  gi_wp2_with fail
  obtain ⟨A1, hA1⟩ : ∃ A1 : Nat → El → Act, A1 = fun bx x => { tmps := #[.map (some b), tv k n (.slice a xs.length cap), .pointer (some ⟨w.heap.size, 0, none⟩), .pointer (some ⟨w.heap.size + 1, 0, none⟩), .int .i64 0, .pointer (some ⟨w.heap.size + 1 + 1, 0, none⟩), .pointer (some ⟨w.heap.size + 1 + 1 + 1, 0, none⟩), .int .i64 (x.1.1 : Nat), .pointer (some ⟨bx, 0, none⟩), undef, undef,
    .agg #[.int .i64 1, .int .i64 0, .int .i64 0, .int .i64 0, .int .i64 0, .int .i64 0, .int .i64 0], .agg #[.int .i64 k, .int .i64 n, .slice a xs.length cap], .func (.func 140) #[] #[.pointer (some ⟨w.heap.size + 4, 0, none⟩)], .int .i64 (x.1.1 : Nat), tv x.1.2.k x.1.2.n x.2,
    undef, undef, undef, undef, undef, undef, undef, undef, undef, undef, undef, undef, undef, undef, undef, undef, undef, undef, undef, undef, undef, undef, undef, undef, undef, undef], defers := [] } := ⟨_, rfl⟩
  have hw1 : w.heap.size ≤ W1.heap.size := by omega
  refine range_lw (gf := 140) (lb := #[.pointer (some ⟨w.heap.size + 4, 0, none⟩)]) (by omega) rfl (enters_of Tryz.func140 (by kernel_rfl) rfl)
    (encs := encT) (fun x => by obtain ⟨⟨d, ⟨k', n', us⟩⟩, v⟩ := x; rfl) (fun pre W => SI w b (w.heap.size + 4) k n (.slice a xs.length cap) (stO pre) W) (fun pre => SI_own hw1 (stO pre)) (fun _ _ => False) (fun _ _ _ _ h _ _ => h)
    (fun c => c ≠ W1.heap.size + 1 ∧ c ≠ w.heap.size + 2 ∧ c ≠ w.heap.size + 3) (fun c h => h.1) (AllOf (.mk k n xs) (fun _ => True)) (OneOf (.mk k n xs) (fun _ => True)) (fun _ => True)
    (fun pre x _ _ => GoodEl w (M.flat 0 (.mk k n xs)) pre x) ?seq hI1 (fun pre x a' B => SAx w b (w.heap.size + 4) k n (.slice a xs.length cap) (M.flat 0 (.mk k n xs)) A1 pre x a' B) (fun pre x a' => SAx_own hw1 pre x a') ?assign ?body ?done ?stop
  case seq =>
    intro l J Jx W hzW hJI hJ hY h0
    have HT : TellH w (M.flat 0 (.mk k n xs)) (fun c => c ≠ W1.heap.size + 1 ∧ c ≠ w.heap.size + 2 ∧ c ≠ w.heap.size + 3) (W1.heap.size + 2) l J Jx (fun _ => True) :=
      ⟨hJ, fun pre A h => (hJI pre A h).1.below, fun pre A h => (hJI pre A h).2, fun c hc => by omega, fun m pre x A hj hx => yieldAt_any (hY pre x A A hj ⟨rfl, rfl, rfl, Nat.le_refl _, fun _ _ _ => rfl⟩ hx)⟩
    exact within_seq w _ _ l J Jx _ k n xs HT _ a cap hL (by omega) _ W (hJI [] W h0).1.t h0
  case assign =>
    rintro l pre ⟨⟨d, ⟨k', n', us⟩⟩, v⟩ A B K hI hg hG hK'
    obtain ⟨ua, uc, hu, _, _⟩ := hG.1.slice
    replace hu : v = .slice ua us.length uc := hu
    subst hu
    dsimp only [encT]
    have hIB := SI_own (Nat.le_refl w.heap.size) (stO pre) _ _ none hI hg (fun r e => by cases e)
    have hzB := hIB.below.size
    have hz3 := (hIB.t.lt')
    have hAX : SAx w b (w.heap.size + 4) k n (.slice a xs.length cap) (M.flat 0 (.mk k n xs)) A1 pre ((d, .mk k' n' us), .slice ua us.length uc) (A1 B.heap.size ((d, .mk k' n' us), .slice ua us.length uc)) (B.alloc (.cells #[.int .i64 k', .int .i64 n', .slice ua us.length uc] 32)) :=
      ⟨B.heap.size, k', n', us, rfl, hG, rfl, SI_own (Nat.le_refl w.heap.size) (stO pre) _ _ none hIB (World.grownBy_alloc _ _ _) (fun r e => by cases e), BoxT.new _ _ _ _ _, by omega, by simp⟩
    rw [hA1] at hAX
    gi_wp2
    refine hK' _ _ ((KeepsOthers.alloc B _).from _) (fun c hc _ => Below.heap_alloc _ _ _ (by omega)) ?_
    rw [hA1]
    exact hAX
  case body =>
    rintro l pre ⟨⟨d, ⟨k', n', us⟩⟩, v⟩ a' B ⟨bx, k2, n2, us2, hx, hG, rfl, hI, hBx, h4, h5⟩
    cases hx
    replace hBx : BoxT B bx k' n' v := hBx
    obtain ⟨zs, hzs⟩ := hG.2.2
    obtain ⟨hd6, hex, _, hfx, b1, b2, b3, b4, b5, b6, b7⟩ := M.round_most hchk hfix hzs
    have hkr : 1 ≤ k' ∧ k' ≤ 8 := by obtain ⟨e, he⟩ := hex; exact (M.chkT_ok.1 he).1
    obtain ⟨ho, he, hn0, hn1⟩ := own_each hex
    obtain ⟨j, c, hkj, hj, hH, hlk⟩ := hK.at_ k' hkr.1 hkr.2
    obtain ⟨g, hs, hg, hen⟩ := size_at j hj (fun h => by
      have h1 := hfx
      unfold M.isFix at h1
      simp only [M.Ty.k, hkj] at h1
      rcases h with e | e | e <;> rw [e] at h1 <;> simp at h1)
    replace hlk := hlk false B hI.below
    simp only [ent] at hlk
    rw [hs] at hlk
    rw [← hkj] at hg
    have HG := Lib.hid (fun W => hg n' v W hn0 hn1)
    rw [ho, he] at HG
    have HI := Lib.hid hI
    have cm := hI.m.cell
    have c0 := hBx.c0
    have c1 := hBx.c1
    have c2 := hBx.c2
    have hstn := Lib.hid (stO_next pre ((d, .mk k' n' us), v))
    replace b1 : (stO pre).1 ≤ 1152921504606846976 := b1
    replace b2 : (stO pre).2 d * M.oneN (.mk k' n' us) ≤ 2251799813685248 := b2
    replace b3 : (stO pre).2 d * M.eachN (.mk k' n' us) ≤ 18014398509481984 := b3
    replace b4 : (stO pre).1 + (stO pre).2 d * M.oneN (.mk k' n' us) ≤ 1152921504606846976 := b4
    replace b5 : M.oneN (.mk k' n' us) ≤ 64 := b5
    replace b6 : M.eachN (.mk k' n' us) ≤ 512 := b6
    replace b7 : (stO pre).2 d ≤ 35184372088832 := b7
    replace hd6 : d < 6 := hd6
    have hst1 : Hid ((stO (pre ++ [((d, .mk k' n' us), v)])).1 = (stO pre).1 + (stO pre).2 d * M.oneN (.mk k' n' us)) := by show _ = _; rw [hstn.out]; rfl
    have hst2 : Hid (∀ i, (stO (pre ++ [((d, .mk k' n' us), v)])).2 i = if i = d + 1 then (stO pre).2 d * M.eachN (.mk k' n' us) else (stO pre).2 i) := by show ∀ i, _; intro i; rw [hstn.out]; rfl
    have sB : B.cell? ⟨w.heap.size + 1 + 1, 0, none⟩ = some (.int .i64 ((stO pre).1 : Nat)) := hI.s.cell
    have sF : B.frozen? ⟨w.heap.size + 1 + 1, 0, none⟩ = false := hI.s.frozen
    have mB : B.cell? ⟨w.heap.size + 1 + 1 + 1, d, none⟩ = some (.int .i64 ((stO pre).2 d : Nat)) := hI.mc d (by omega)
    have nB : B.cell? ⟨w.heap.size + 1 + 1 + 1, d + 1, none⟩ = some (.int .i64 ((stO pre).2 (d + 1) : Nat)) := hI.mc (d + 1) (by omega)
    have nF : B.frozen? ⟨w.heap.size + 1 + 1 + 1, d + 1, none⟩ = false := hI.mf (d + 1) (by omega)
    clear hstn
    generalize M.oneN (.mk k' n' us) = on at *
    generalize M.eachN (.mk k' n' us) = en at *
    obtain ⟨T0, hT0⟩ : ∃ q, q = (stO pre).1 := ⟨_, rfl⟩
    obtain ⟨md, hmd⟩ : ∃ q, q = (stO pre).2 d := ⟨_, rfl⟩
    obtain ⟨me, hme⟩ : ∃ q, q = (stO pre).2 (d + 1) := ⟨_, rfl⟩
    rw [← hT0] at sB b1 b4 hst1
    rw [← hmd] at mB b2 b3 b4 b7 hst1
    rw [← hme] at nB
    obtain ⟨P, hP⟩ : ∃ q, q = md * on := ⟨_, rfl⟩
    obtain ⟨Qn, hQ⟩ : ∃ q, q = md * en := ⟨_, rfl⟩
    obtain ⟨S, hS⟩ : ∃ q, q = T0 + P := ⟨_, rfl⟩
    rw [← hP] at b2 b4 hst1
    rw [← hQ] at b3
    rw [← hS] at b4 hst1
    have hst3 : Hid (∀ i, (stO (pre ++ [((d, .mk k' n' us), v)])).2 i = if i = d + 1 then Qn else (stO pre).2 i) := by show ∀ i, _; intro i; rw [hst2.out, ← hmd, ← hQ]
    have hPI : (md : Int) * (on : Int) = (P : Nat) := by rw [hP]; simp
    have hQI : (md : Int) * (en : Int) = (Qn : Nat) := by rw [hQ]; simp
    have k1 : IntKind.i64.wrap ((md : Int) * (on : Int)) = (P : Nat) := by rw [hPI, IntWalk.i64_in _ (by omega)]
    have k2 : IntKind.i64.wrap ((T0 : Int) + (P : Int)) = (S : Nat) := by rw [IntWalk.i64_in _ (by omega)]; omega
    have k3 : wrap64 ((md : Int) * (en : Int)) = (Qn : Nat) := by rw [hQI]; unfold wrap64; omega
    obtain ⟨d1, hd1e⟩ : ∃ d1, d1 = d + 1 := ⟨_, rfl⟩
    have hd1 : (d : Int) + 1 = (d1 : Nat) := by omega
    have hd7 : (d : Int) < 7 := by omega
    have hd8 : (d1 : Int) < 7 := by omega
    rw [← hd1e] at nB nF hst3
    rw [hA1]
    dsimp only [M.Ty.k, M.Ty.n]
    have hfk := field_kind
    clear hst2 hT0 hmd hme hP hQ hS hPI hQI hd1e b1 b2 b3 b4 b5 b6 b7
    clear hkj hI hkr hg hs hex hzs hG hn0 hn1 ho he hfx
    gi_wp2_with fail
    refine ⟨trivial, CallsIn.inRound l ((callsIn_wide.2 (HG.out _)).mono ?_)⟩
    rintro e w2 ⟨rfl, hb2⟩
    have hI2 := Lib.hid (HI.out.go hb2 (by omega))
    have tr := bcell hb2
    have sB2 := (tr.1 _ 0 (by omega : w.heap.size + 1 + 1 < B.heap.size)).trans sB
    have sF2 := (tr.2 _ 0 (by omega : w.heap.size + 1 + 1 < B.heap.size)).trans sF
    have mB2 := (tr.1 _ d (by omega : w.heap.size + 1 + 1 + 1 < B.heap.size)).trans mB
    have nB2 := (tr.1 _ d1 (by omega : w.heap.size + 1 + 1 + 1 < B.heap.size)).trans nB
    have nF2 := (tr.2 _ d1 (by omega : w.heap.size + 1 + 1 + 1 < B.heap.size)).trans nF
    clear tr sB sF mB nB nF cm c0 c1 c2 hlk HG
    have mixed : Tryz.prog.follows .mixedOrders = true := by kernel_rfl
    gi_wp2_with fail
    refine round_still_tail 7 mixed (by kernel_rfl) (by kernel_rfl) ?_
    simp only [List.take_succ_cons, List.take_zero, List.drop_succ_cons, List.drop_zero]
    repeat still_step
    refine wpStill_nil ?_
    change wpList _ _ _ _ _ w2.drew
    go_wp2_with fail
    have hne : ∀ i, (⟨w.heap.size + 1 + 1 + 1, i, none⟩ : Addr) ≠ ⟨w.heap.size + 1 + 1, 0, none⟩ := fun i e => by injection e with h; omega
    obtain ⟨w3, hw3⟩ : ∃ w3, (w2.setCell ⟨w.heap.size + 1 + 1, 0, none⟩ (.int .i64 (S : Nat))).drew = w3 := ⟨_, rfl⟩
    rw [hw3]
    have hko3 : KeepsOthers w2 w3 := by rw [← hw3]; exact (KeepsOthers.setCell _ _ _).trans (KeepsOthers.drew _)
    have hbl3 : ∀ c, c ≠ w.heap.size + 2 → w3.heap[c]? = w2.heap[c]? := fun c hc => by rw [← hw3]; exact Below.heap_setCell _ _ _ _ (by simp; omega)
    have hz3' : w3.heap.size = w2.heap.size := by rw [← hw3]; simp [World.setCell]
    have hBw3 : Below w.heap.size w w3 := by rw [← hw3]; exact (hI2.out.below.setCell (p := ⟨w.heap.size + 1 + 1, 0, none⟩) (by simp; omega) _).drew
    have hs3 : Boxed w3 (w.heap.size + 2) 3 (.int .i64 (S : Nat)) := by rw [← hw3]; exact hI2.out.s.set _
    have hc3 : ∀ i, w3.cell? ⟨w.heap.size + 3, i, none⟩ = w2.cell? ⟨w.heap.size + 3, i, none⟩ := fun i => World.cell?_of_block (a := ⟨w.heap.size + 3, i, none⟩) (hbl3 _ (by simp))
    have hf3 : ∀ i, w3.frozen? ⟨w.heap.size + 3, i, none⟩ = w2.frozen? ⟨w.heap.size + 3, i, none⟩ := fun i => by unfold World.frozen?; rw [hbl3 (w.heap.size + 3) (by omega)]
    have mB3 : w3.cell? ⟨w.heap.size + 1 + 1 + 1, d, none⟩ = some (.int .i64 (md : Nat)) := (hc3 d).trans mB2
    have nB3 : w3.cell? ⟨w.heap.size + 1 + 1 + 1, d1, none⟩ = some (.int .i64 (me : Nat)) := (hc3 d1).trans nB2
    have nF3 : w3.frozen? ⟨w.heap.size + 1 + 1 + 1, d1, none⟩ = false := (hf3 d1).trans nF2
    have HM3 : Hid (∀ i, i < 7 → w3.cell? ⟨w.heap.size + 3, i, none⟩ = some (.int .i64 ((stO pre).2 i : Nat)) ∧ w3.frozen? ⟨w.heap.size + 3, i, none⟩ = false) := fun i hi => ⟨(hc3 i).trans (hI2.out.mc i hi), (hf3 i).trans (hI2.out.mf i hi)⟩
    have HB3 := Lib.hid hbl3
    clear hw3 sB2 sF2 mB2 nB2 nF2 hne hc3 hf3 hbl3
    dsimp only [nrm]
    gi_wp2_with fail
    have hko : KeepsOthers B w2 := ⟨hb2.size, fun c o h _ => (hb2.block c (Array.getElem?_eq_some_iff.1 h).1).trans h⟩
    have hsc : ∀ c, c ≠ w.heap.size + 3 → (w3.setCell ⟨w.heap.size + 1 + 1 + 1, d1, none⟩ (.int .i64 (Qn : Nat))).heap[c]? = w3.heap[c]? := fun c hc => Below.heap_setCell _ _ _ _ (by simp; omega)
    have hall : ∀ c, c ≠ w.heap.size + 2 → c ≠ w.heap.size + 3 → (w3.setCell ⟨w.heap.size + 1 + 1 + 1, d1, none⟩ (.int .i64 (Qn : Nat))).heap[c]? = w2.heap[c]? := fun c h1 h2 => (hsc c h2).trans (HB3.out c h1)
    refine ⟨trivial, ((hko.trans hko3).trans (KeepsOthers.setCell _ _ _)).from _, fun c hc hT => (hall c hT.2.1 hT.2.2).trans (hb2.block c hc), hBw3.setCell (p := ⟨w.heap.size + 1 + 1 + 1, d1, none⟩) (by simp; omega) _, ?_, ?_, ?_, ?_, ?_⟩
    · exact (hall _ (by omega) (by omega)).trans hI2.out.m
    · have ht := hI2.out.t
      have hb := hall (w.heap.size + 4) (by omega) (by omega)
      exact ⟨(World.cell?_of_block (a := ⟨_, 0, none⟩) hb).trans ht.c0, (World.cell?_of_block (a := ⟨_, 1, none⟩) hb).trans ht.c1, (World.cell?_of_block (a := ⟨_, 2, none⟩) hb).trans ht.c2⟩
    · rw [hst1.out]
      exact (hsc _ (by omega)).trans hs3
    · intro i hi
      rw [hst3.out]
      by_cases hid : i = d1
      · rw [if_pos hid, hid]
        exact World.cell?_setCell_same' w3 ⟨w.heap.size + 1 + 1 + 1, d1, none⟩ _ (by rw [nB3]; rfl)
      · rw [if_neg hid]
        rw [← (HM3.out i hi).1]
        simp [go_sem]
    · intro i hi
      rw [← (HM3.out i hi).2]
      simp [go_sem]
  case done =>
    rintro D ys W hD ⟨hys, hon⟩ hI hKd
    have hE : M.szT (.mk k n xs) = (stO ys).1 := by
      rw [← M.flat_size hchk hfix, ← hys]
      rfl
    rw [hE] at hr
    have cs' : W.cell? ⟨w.heap.size + 1 + 1, 0, none⟩ = some (.int .i64 ((stO ys).1 : Nat)) := hI.s.cell
    have HI := Lib.hid hI
    have HR := Lib.hid hr
    clear hE hI hr
    gi_wp2
    refine ⟨by simp, .inl ⟨_, _, rfl, run_takeDeferred hKd, ?_⟩⟩
    refine ⟨.int .i64 ((stO ys).1 : Nat), ?_, by rw [HR.out], HI.out.below.trans (belowK_b (w := w) (Nat.le_refl _) W D _ _ (by omega) hKd rfl rfl)⟩
    simp [results, Tryz.f113, go_sem]
  case stop =>
    rintro D y W hD ⟨ys, zs, hfl, hon, hoff⟩ hX hKd
    exact hX.elim
end Go.Proofs.YtaajkbclojmbeaaGreatDoor
namespace Go.Proofs.YtaajkbclojmbeaaGreatDoor
open Go Go.RowKit

set_option maxRecDepth 100000 in
set_option maxHeartbeats 4000000 in
theorem types_n (n : Nat) : ∀ (l d : Int) (xs : List M.Ty) (a : Option Addr) (cap : Nat) (w : World) (mo : Nat) (dp : Int), SizeOf.sizeOf xs ≤ n → LayT w w.heap.size xs (.slice a xs.length cap) → mo ≤ 1000 → -1 ≤ dp → dp ≤ 16 →
    Calls Tryz.prog 40 #[tv l d (.slice a xs.length cap), .int .i64 (mo : Nat), .int .i64 dp] w fun e w' => (∃ r : Nat, e = .returned (.int .i64 (r : Nat)) ∧ 1 ≤ r ∧ r ≤ mo + 1 ∧ (r ≤ mo → M.cntT (.mk l d xs) ≤ r)) ∧ Below w.heap.size w w' := by
  induction n with
  | zero => intro l d xs a cap w mo dp h; cases xs <;> simp at h
  | succ n ih =>
    intro l d xs a cap w mo dp hs hL hmo hd1 hd2
    by_cases hdp : dp < 0
    · go_enter Tryz.func40, Tryz.ntmps40
      go_wp2_with fail
      go_ret
      refine ⟨⟨mo + 1, by simp, by omega, by omega, by omega⟩, ?_⟩
      (repeat (first | exact Below.refl _ _ | refine Below.drew ?_ | refine Below.alloc ?_ (by first | omega | (simp; omega) | simp) _ | refine Below.setCell ?_ (by first | omega | (simp; omega) | simp) _))
    · have hB := BoxT.new w l d (.slice a xs.length cap) 32
      have hb0 : Below w.heap.size w (w.alloc (.cells #[.int .i64 l, .int .i64 d, .slice a xs.length cap] 32)) := by (repeat (first | exact Below.refl _ _ | refine Below.drew ?_ | refine Below.alloc ?_ (by first | omega | (simp; omega) | simp) _ | refine Below.setCell ?_ (by first | omega | (simp; omega) | simp) _))
      have hdp' : decide (dp < 0) = false := by simp; omega
      go_enter Tryz.func40, Tryz.ntmps40
      go_wp2_with fail
      generalize hw0 : w.alloc (.cells #[.int .i64 l, .int .i64 d, .slice a xs.length cap] 32) = w0 at *
      have hz : w0.heap.size = w.heap.size + 1 := by rw [← hw0]; simp
      clear hw0
      go_loopw [7, 8] (fun m i wr => ∃ k q : Nat, k ≤ xs.length ∧ i = .int .i64 k ∧ m = .int .i64 (q : Nat) ∧ 1 ≤ q ∧ q ≤ mo + 1 ∧ (q ≤ mo → 1 + M.cntTs (xs.take k) ≤ q) ∧ Below w0.heap.size w0 wr) (fun _ i _ => xs.length - (intOf i).toNat)
      case atStart => exact ⟨0, 1, by omega, rfl, rfl, by omega, by omega, fun _ => by simp [M.cntTs], Below.refl _ _⟩
      case round =>
        obtain ⟨k, q, hk, rfl, rfl, hq1, hq2, hq3, hW⟩ := hrel
        have hbx := hB.from_ hW (by omega)
        have hLr := (hL.from_ hb0).from_ (hW.mono (by omega))
        have hsz := hW.size
        have hc2 := hbx.c2
        have hbW : Below w.heap.size w wr := hb0.trans (hW.mono (by omega))
        by_cases hlt : k < xs.length
        · obtain ⟨b, o, l', d', ys, au, cu, rfl, hbn, hxk, e0, e1, e2, hLu⟩ := hLr.at_ hlt
          by_cases hqm : q ≤ mo
          · have hk2 : k < 1000 := by have := hq3 hqm; have h2 := M.length_cntT (xs.take k); rw [List.length_take] at h2; omega
            have hnx := M.cntTs_next hxk
            generalize M.cntTs (xs.take k) = c at *
            have hsx := size_ty hxk
            rw [M.Ty.mk.sizeOf_spec] at hsx
            obtain ⟨r, hr⟩ : ∃ r, r = mo - q := ⟨_, rfl⟩
            have hr2 : (mo : Int) - (q : Int) = (r : Nat) := by omega
            have hr3 : Hid (r + q = mo) := by show _ = _; omega
            have hr4 : r ≤ 1000 := by omega
            clear hr
            have HQ := Lib.hid hq3
            have IH := Lib.hid ih
            have HN := Lib.hid hnx
            clear hq3 ih hnx
            go_wp2_with fail
            refine (IH.out l' d' ys au cu _ r _ (by omega) (hLu.mono (by omega)) (by omega) (by omega) (by omega)).mono ?_
            rintro e w1 ⟨⟨s, rfl, hs1, hs2, hs3⟩, hb1⟩
            have hw1 : Below w0.heap.size w0 w1 := hW.trans (hb1.mono hsz)
            have hqs : q + s ≤ 2000 := by have := hr3.out; omega
            generalize M.cntT (M.Ty.mk l' d' ys) = c2 at *
            have HS := Lib.hid hs3
            clear hs3
            go_wp2_with fail
            go_roundw
            case rel => exact ⟨k + 1, q + s, by omega, by simp, by simp, by omega, by have := hr3.out; omega, fun h => by have := hr3.out; rw [HN.out]; have := HS.out (by omega); have := HQ.out hqm; omega, hw1⟩
            case measure => simp [intOf]; omega
          · go_wp2_with fail
            go_ret
            exact ⟨⟨q, rfl, by omega, by omega, fun h => by omega⟩, hbW⟩
        · obtain rfl : k = xs.length := by omega
          rw [List.take_length] at *
          have HQ := Lib.hid hq3
          clear hq3
          go_wp2_with fail
          go_ret
          exact ⟨⟨q, rfl, by omega, by omega, fun h => by rw [M.cntT]; exact HQ.out h⟩, hbW⟩
end Go.Proofs.YtaajkbclojmbeaaGreatDoor
