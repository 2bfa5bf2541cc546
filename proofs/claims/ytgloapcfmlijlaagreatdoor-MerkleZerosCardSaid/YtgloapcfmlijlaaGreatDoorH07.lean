/- The landed package shape: what a kind's fields are made of: numbers, forms, sizes. The landed package shape: the table of kinds: a map of structs of functions. A range over a function whose body may return: a round that goes on keeps whatever lay there, but for what it says. My own law out of the kit's one for the statement. The landed package shape: a type and those in it, as they are told. -/
import Derived.Test.YtgloapcfmlijlaaGreatDoorH06
import Derived.Test.YtgloapcfmlijlaaGreatDoorH04
import Derived.Maps.OwnIn
import Derived.Maps.Own
import Derived.Maps.OwnOps
import Derived.Test.YtgloapcfmlijlaaGreatDoorH01
import Derived.RangeFuncBound
import Derived.RangeFuncCalls
import Derived.RangeFuncLeaves
import Derived.RangeFuncNested
import Derived.Lib.Hide
import Derived.DefersIn
import Derived.OwnWalkIn
import Derived.TacticsInMore
import Derived.LoopNIn
import Derived.LoopIn
namespace Go.Proofs.YtgloapcfmlijlaaGreatDoor
open Go Go.RowKit

theorem width_any (n : Int) (w : World) : Calls Tryz.prog 108 #[.int .i64 n] w fun e w' => e = .returned (.bool (n == 1 || n == 2 || n == 4 || n == 8 || n == 32)) ∧ w' = w := by
  by_cases h1 : n = 1
  · subst h1
    go_enter Tryz.func108, Tryz.ntmps108
    go_wp2_with fail
    go_ret
    exact ⟨by simp, rfl⟩
  · by_cases h2 : n = 2
    · subst h2
      go_enter Tryz.func108, Tryz.ntmps108
      go_wp2_with fail
      go_ret
      exact ⟨by simp, rfl⟩
    · by_cases h3 : n = 4
      · subst h3
        go_enter Tryz.func108, Tryz.ntmps108
        go_wp2_with fail
        go_ret
        exact ⟨by simp, rfl⟩
      · by_cases h4 : n = 8
        · subst h4
          go_enter Tryz.func108, Tryz.ntmps108
          go_wp2_with fail
          go_ret
          exact ⟨by simp, rfl⟩
        · have e1 : (n == 1) = false := by simp [h1]
          have e2 : (n == 2) = false := by simp [h2]
          have e3 : (n == 4) = false := by simp [h3]
          have e4 : (n == 8) = false := by simp [h4]
          go_enter Tryz.func108, Tryz.ntmps108
          go_wp2_with fail
          go_ret
          exact ⟨by simp [e1, e2, e3, e4], rfl⟩
theorem nought_any (n : Int) (w : World) : Calls Tryz.prog 114 #[.int .i64 n] w fun e w' => e = .returned (.bool (n == 0)) ∧ w' = w := by
  go_enter Tryz.func114, Tryz.ntmps114
  go_wp2_with fail
  go_ret
  exact ⟨by simp, rfl⟩
theorem count_any (n : Int) (w : World) : Calls Tryz.prog 119 #[.int .i64 n] w fun e w' => e = .returned (.bool (decide (1 ≤ n) && decide (n ≤ 512))) ∧ w' = w := by
  by_cases h1 : 1 ≤ n
  · go_enter Tryz.func119, Tryz.ntmps119
    go_wp2_with fail
    go_ret
    exact ⟨by simp [h1], rfl⟩
  · go_enter Tryz.func119, Tryz.ntmps119
    go_wp2_with fail
    go_ret
    exact ⟨by simp; omega, rfl⟩

/-- What 'has' has made: the three captured boxes. -/
structure HasAt (W : World) (n c : Nat) (g : FuncId) (lo hi : Nat) : Prop where
  lt : c + 2 < n
  c0 : W.cell? ⟨c, 0, none⟩ = some (.func (.func g) #[] #[])
  c1 : W.cell? ⟨c + 1, 0, none⟩ = some (.int .i64 lo)
  c2 : W.cell? ⟨c + 2, 0, none⟩ = some (.int .i64 hi)
theorem HasAt.from_ {w W : World} {n c : Nat} {g : FuncId} {lo hi : Nat} (h : HasAt w n c g lo hi) (hb : Below n w W) : HasAt W n c g lo hi :=
  ⟨h.lt, (hb.cell (p := ⟨c, 0, none⟩) (by have := h.lt; simp; omega)).trans h.c0, (hb.cell (p := ⟨c + 1, 0, none⟩) (by have := h.lt; simp; omega)).trans h.c1, (hb.cell (p := ⟨c + 2, 0, none⟩) (by have := h.lt; simp; omega)).trans h.c2⟩
theorem HasAt.mono {w : World} {n m c : Nat} {g : FuncId} {lo hi : Nat} (h : HasAt w n c g lo hi) (hm : n ≤ m) : HasAt w m c g lo hi := ⟨by have := h.lt; omega, h.c0, h.c1, h.c2⟩
/-- The function value. -/
abbrev hasV (c : Nat) : Value := .func (.func 176) #[] #[.pointer (some ⟨c, 0, none⟩), .pointer (some ⟨c + 1, 0, none⟩), .pointer (some ⟨c + 2, 0, none⟩)]

theorem has_any (g : FuncId) (lo hi : Nat) (w : World) : Calls Tryz.prog 107 #[.func (.func g) #[] #[], .int .i64 lo, .int .i64 hi] w fun e w' => e = .returned (hasV w.heap.size) ∧ HasAt w' w'.heap.size w.heap.size g lo hi ∧ Below w.heap.size w w' := by
  have hmf : ∀ (fn : Fn) (first cap : Array Value) (w : World), (Instr.makeFunc fn first cap).run Tryz.prog w = .ok (.func fn first cap) w := fun _ _ _ _ => rfl
  have hb0 : Below w.heap.size w (((w.alloc (.cells #[.func (.func g) #[] #[]] 105)).alloc (.cells #[.int .i64 lo] 3)).alloc (.cells #[.int .i64 hi] 3)) := by (repeat (first | exact Below.refl _ _ | refine Below.drew ?_ | refine Below.alloc ?_ (by first | omega | (simp; omega) | simp) _ | refine Below.setCell ?_ (by first | omega | (simp; omega) | simp) _))
  go_enter Tryz.func107, Tryz.ntmps107
  go_wp2_with fail
  go_ret
  exact ⟨rfl, ⟨by simp, by simp [go_sem], by simp [go_sem], by simp [go_sem]⟩, hb0⟩

set_option maxRecDepth 100000 in
set_option maxHeartbeats 4000000 in
theorem form_any (g : FuncId) (q : Int → Bool) (E1 : ∀ args w, (callFunc g args).run Tryz.prog w = .ok (.enter g args) w) (hg : ∀ n w, Calls Tryz.prog g #[.int .i64 n] w fun e w' => e = .returned (.bool (q n)) ∧ w' = w)
    (c lo hi : Nat) (k n : Int) (m : Nat) (_hm : (m : Int) ≤ 9223372036854775807) (a : Option Addr) (cap : Nat) (w : World) (hH : HasAt w w.heap.size c g lo hi) :
    Calls Tryz.prog 176 #[tv k n (.slice a m cap), .pointer (some ⟨c, 0, none⟩), .pointer (some ⟨c + 1, 0, none⟩), .pointer (some ⟨c + 2, 0, none⟩)] w fun e w' => e = .returned (.bool (q n && decide (lo ≤ m) && decide (m ≤ hi))) ∧ Below w.heap.size w w' := by
  have hb0 : Below w.heap.size w (w.alloc (.cells #[.int .i64 k, .int .i64 n, .slice a m cap] 24)) := by (repeat (first | exact Below.refl _ _ | refine Below.drew ?_ | refine Below.alloc ?_ (by first | omega | (simp; omega) | simp) _ | refine Below.setCell ?_ (by first | omega | (simp; omega) | simp) _))
  have H1 := hH.from_ hb0
  have c0 := H1.c0
  have c1 := H1.c1
  have c2 := H1.c2
  have hlt := hH.lt
  have HG := Lib.hid (hg n)
  clear hg
  generalize q n = b at *
  cases b with
  | false =>
    clear H1 hH
    go_enter Tryz.func176, Tryz.ntmps176
    go_wp2_with fail
    refine (HG.out _).mono ?_
    rintro e w1 ⟨rfl, rfl⟩
    go_wp2_with fail
    go_ret
    exact ⟨by simp, hb0⟩
  | true =>
    by_cases h1 : lo ≤ m
    · have h1' : (lo : Int) ≤ m := by omega
      by_cases h2 : m ≤ hi
      · have h2' : (m : Int) ≤ hi := by omega
        rw [show (true && decide (lo ≤ m) && decide (m ≤ hi)) = true by simp [h1, h2]]
        clear H1 hH h1 h2
        go_enter Tryz.func176, Tryz.ntmps176
        go_wp2_with fail
        refine (HG.out _).mono ?_
        rintro e w1 ⟨rfl, rfl⟩
        go_wp2_with fail
        go_ret
        exact ⟨rfl, hb0⟩
      · have h2' : ¬ (m : Int) ≤ hi := by omega
        rw [show (true && decide (lo ≤ m) && decide (m ≤ hi)) = false by simp [h1, h2]]
        have h3 := Lib.hid h2
        clear H1 hH h1 h2
        go_enter Tryz.func176, Tryz.ntmps176
        go_wp2_with fail
        refine (HG.out _).mono ?_
        rintro e w1 ⟨rfl, rfl⟩
        go_wp2_with fail
        go_ret
        exact ⟨by have := h3.out; simp; omega, hb0⟩
    · have h1' : ¬ (lo : Int) ≤ m := by omega
      rw [show (true && decide (lo ≤ m) && decide (m ≤ hi)) = false by simp [h1]]
      clear H1 hH h1
      go_enter Tryz.func176, Tryz.ntmps176
      go_wp2_with fail
      refine (HG.out _).mono ?_
      rintro e w1 ⟨rfl, rfl⟩
      go_wp2_with fail
      go_ret
      exact ⟨rfl, hb0⟩
end Go.Proofs.YtgloapcfmlijlaaGreatDoor
namespace Go.Proofs.YtgloapcfmlijlaaGreatDoor
open Go Go.RowKit
open Go.Maps (Keyed)

/-- How an entry reads: as itself. -/
def Rv (v : Value) : Option (DataW Value × List MemPlace) := some (.held v, [])
def sizeV (k : Nat) : Value := match k with
  | 1 => .func (.func 109) #[] #[]
  | 2 => .func (.func 115) #[] #[]
  | 3 => .func (.func 120) #[] #[]
  | 5 => .func (.func 127) #[] #[]
  | 7 => .func (.func 133) #[] #[]
  | _ => .nilFunc
def faultG (k : Nat) : FuncId := match k with
  | 1 => 110
  | 2 => 116
  | 3 => 121
  | 4 => 125
  | 5 => 128
  | 6 => 131
  | 7 => 134
  | _ => 136
def restG (k : Nat) : FuncId := match k with
  | 1 => 113
  | 2 => 113
  | 3 => 123
  | 4 => 123
  | 5 => 130
  | 6 => 130
  | 7 => 123
  | _ => 137
def ofF (k : Nat) : Value := match k with
  | 3 => .func (.func 124) #[] #[]
  | 4 => .func (.func 124) #[] #[]
  | 7 => .func (.func 135) #[] #[]
  | 8 => .func (.func 138) #[] #[]
  | _ => .nilFunc
def numG (k : Nat) : FuncId := match k with
  | 1 => 108
  | 2 => 114
  | 3 => 119
  | 4 => 119
  | 5 => 119
  | 6 => 119
  | _ => 114
def loN (k : Nat) : Nat := match k with
  | 3 => 1
  | 4 => 1
  | 7 => 1
  | 8 => 1
  | _ => 0
def hiN (k : Nat) : Nat := match k with
  | 3 => 1
  | 4 => 1
  | 7 => 16
  | 8 => 8
  | _ => 0
/-- What is under a kind. -/
def ent (c k : Nat) : Value := .agg #[hasV c, sizeV k, .func (.func (faultG k)) #[] #[], .func (.func (restG k)) #[] #[], ofF k]
def put8 (D : DataW Value) (c k : Nat) : DataW Value := D.put (.int .i64 (k : Nat)) (.held (ent c k))
def DM (cs : List Nat) : DataW Value := (cs.zipIdx.foldl (fun D p => put8 D p.1 (p.2 + 1)) (.map []))

theorem own_at {w W : World} {b n : Nat} {D : DataW Value} (h : w.ownsMap Tryz.prog 3 Rv b n D) (he : W.heap[b]? = w.heap[b]?) : W.ownsMap Tryz.prog 3 Rv b n D := by
  obtain ⟨es, clock, hb, F, hs, hD⟩ := h
  exact ⟨es, clock, he.trans hb, F, hs, hD⟩
theorem wpList_insert_own {w : World} {ops : Array Oper} {rest : List Oper} {o : Oper} {a : Act} {Q : Exit → Act → World → Prop}
    (hg : o.guard = none) (m x v : Operand) (t : TypeId) (hop : o.op = Op.insert t m x v)
    (k e : TypeId) (K : Keyed Tryz.prog k) (ht : Tryz.prog.underlying t = some (.map k e)) (R : Value → Option (DataW Value × List MemPlace)) (b n : Nat) (D : DataW Value)
    (hm : a.eval m = .map (some b)) (hown : w.ownsMap Tryz.prog k R b n D) (hn : n < maxLen) (key val : Value) (kl : Lit) (hx : a.eval x = key) (hv : a.eval v = val) (hkey : keyOf Tryz.prog k key = some kl)
    (d : DataW Value) (ps : List MemPlace) (hval : R val = some (d, ps))
    (hK : ∀ w', w'.ownsMap Tryz.prog k R b (n + 1) (D.put kl d) → w.grownBy w' (some b) → wpList Tryz.prog ops Q rest (a.put o.dst undef) w') :
    wpList Tryz.prog ops Q (o :: rest) a w := by
  refine wpList_plain hg fun K' hK' => ?_
  obtain ⟨w', hrun, r1, r2⟩ := hown.update K ht hn hkey hval
  unfold Oper.wp
  simp [execOp, hop, hm, hx, hv, hrun, Result.andThen]
  exact hK' _ _ (hK w' r1 r2)

theorem HasAt.grow {w W : World} {c b : Nat} {g : FuncId} {lo hi : Nat} (h : HasAt w w.heap.size c g lo hi) (hg : w.grownBy W (some b)) (hc : b < c) : HasAt W W.heap.size c g lo hi := by
  have hlt := h.lt
  have hz := hg.size
  have key : ∀ i, i < 3 → W.cell? ⟨c + i, 0, none⟩ = w.cell? ⟨c + i, 0, none⟩ := fun i hi => World.cell?_of_block (a := ⟨c + i, 0, none⟩) (hg.block (c + i) (by omega) (fun e => by cases e; omega))
  exact ⟨by omega, (key 0 (by omega)).trans h.c0, (key 1 (by omega)).trans h.c1, (key 2 (by omega)).trans h.c2⟩
theorem Below.grow {w W W2 : World} {b : Nat} (h : Below w.heap.size w W) (hg : W.grownBy W2 (some b)) (hb : w.heap.size ≤ b) : Below w.heap.size w W2 :=
  ⟨hg.os.trans h.os, hg.tape.trans h.tape, hg.output.trans h.output, Nat.le_trans h.size hg.size, fun i hi => (hg.block i (Nat.lt_of_lt_of_le hi h.size) (fun e => by cases e; omega)).trans (h.block i hi)⟩

/-- While the table is made. -/
structure TS (w W : World) (j : Nat) (cs : List Nat) (D : DataW Value) : Prop where
  own : W.ownsMap Tryz.prog 3 Rv w.heap.size j D
  len : cs.length = j
  has : ∀ i c, cs[i]? = some c → HasAt W W.heap.size c (numG (i + 1)) (loN (i + 1)) (hiN (i + 1)) ∧ w.heap.size < c
  below : Below w.heap.size w W
theorem TS.next {w W w1 w2 : World} {j : Nat} {cs : List Nat} {D D2 : DataW Value} (h : TS w W j cs D) (hH : HasAt w1 w1.heap.size W.heap.size (numG (j + 1)) (loN (j + 1)) (hiN (j + 1))) (hb : Below W.heap.size W w1)
    (ho : w2.ownsMap Tryz.prog 3 Rv w.heap.size (j + 1) D2) (hg : w1.grownBy w2 (some w.heap.size)) : TS w w2 (j + 1) (cs ++ [W.heap.size]) D2 := by
  have hlt := h.own.lt
  have hz := hb.size
  refine ⟨ho, by rw [List.length_append, h.len]; rfl, fun i c e => ?_, Below.grow (h.below.trans (hb.mono h.below.size)) hg (Nat.le_refl _)⟩
  rw [List.getElem?_append] at e
  split at e
  · obtain ⟨h1, h2⟩ := h.has i c e
    exact ⟨((h1.from_ hb).mono hz).grow hg h2, h2⟩
  · rename_i hi
    have hj := h.len
    have : i - cs.length = 0 := by
      rcases Nat.eq_zero_or_pos (i - cs.length) with h0 | h0
      · exact h0
      · rw [List.getElem?_eq_none (by simp; omega)] at e; cases e
    rw [this] at e
    cases e
    obtain rfl : i = j := by omega
    exact ⟨hH.grow hg hlt, hlt⟩

/-- The table of kinds, in block b, with all that it leads to in the first n blocks. -/
structure Kinds (W : World) (n b : Nat) (cs : List Nat) : Prop where
  lt : b < n
  own : W.ownsMap Tryz.prog 3 Rv b 8 (DM cs)
  len : cs.length = 8
  has : ∀ i c, cs[i]? = some c → HasAt W n c (numG (i + 1)) (loN (i + 1)) (hiN (i + 1))
theorem Kinds.from_ {w W : World} {n b : Nat} {cs : List Nat} (h : Kinds w n b cs) (hb : Below n w W) : Kinds W n b cs :=
  ⟨h.lt, own_at h.own (hb.block b h.lt), h.len, fun i c e => (h.has i c e).from_ hb⟩
theorem Kinds.mono {w : World} {n m b : Nat} {cs : List Nat} (h : Kinds w n b cs) (hm : n ≤ m) : Kinds w m b cs :=
  ⟨Nat.lt_of_lt_of_le h.lt hm, h.own, h.len, fun i c e => (h.has i c e).mono hm⟩

theorem keyI (k : Int) (h : (Lit.int .i64 k).wf = true) : keyOf Tryz.prog 3 (.int .i64 k) = some (.int .i64 k) := Go.Maps.keyOf_int_mk Tryz.underlying3 h
theorem intKeyed : Keyed Tryz.prog 3 := Go.Maps.int_keyed Tryz.underlying3

set_option maxRecDepth 100000 in
set_option maxHeartbeats 8000000 in
theorem table_any (w : World) : Calls Tryz.prog 53 #[] w fun e w' => e = .returned (.map (some w.heap.size)) ∧ (∃ cs, Kinds w' w'.heap.size w.heap.size cs) ∧ Below w.heap.size w w' := by
  have hmm := @run_makeMap Tryz.prog
  have HH := Lib.hid has_any
  have T0 : Hid (TS w (w.alloc (.map #[] 0)) 0 [] (.map [])) := ⟨World.ownsMap_made _ _ _ _, rfl, fun i c e => by simp at e, (Below.refl _ _).alloc (Nat.le_refl _) _⟩
  obtain ⟨W0, hW0⟩ : ∃ W0, w.alloc (.map #[] 0) = W0 := ⟨_, rfl⟩
  rw [hW0] at T0
  have HW0 := Lib.hid hW0
  clear hW0
  go_enter Tryz.func53, Tryz.ntmps53
  go_wp2_with fail
  rw [HW0.out]
  refine (HH.out _ _ _ _).mono ?_
  rintro e u1 ⟨rfl, hH, hb⟩
  have ho := own_at T0.out.own (hb.block _ T0.out.own.lt)
  go_wp2_with (refine wpList_insert_own rfl _ _ _ _ rfl 3 112 intKeyed Tryz.underlying78 Rv w.heap.size 0 _ rfl ho (by decide) (.int .i64 1) (ent W0.heap.size 1) (.int .i64 1) rfl rfl (keyI 1 (by decide)) _ _ rfl ?_; intro W1 ho1 hg1)
  have T1 := Lib.hid (T0.out.next hH hb ho1 hg1)
  clear T0 hH hb ho ho1 hg1
  refine (HH.out _ _ _ _).mono ?_
  rintro e u2 ⟨rfl, hH, hb⟩
  have ho := own_at T1.out.own (hb.block _ T1.out.own.lt)
  go_wp2_with (refine wpList_insert_own rfl _ _ _ _ rfl 3 112 intKeyed Tryz.underlying78 Rv w.heap.size 1 _ rfl ho (by decide) (.int .i64 2) (ent W1.heap.size 2) (.int .i64 2) rfl rfl (keyI 2 (by decide)) _ _ rfl ?_; intro W2 ho2 hg2)
  have T2 := Lib.hid (T1.out.next hH hb ho2 hg2)
  clear T1 hH hb ho ho2 hg2
  refine (HH.out _ _ _ _).mono ?_
  rintro e u3 ⟨rfl, hH, hb⟩
  have ho := own_at T2.out.own (hb.block _ T2.out.own.lt)
  go_wp2_with (refine wpList_insert_own rfl _ _ _ _ rfl 3 112 intKeyed Tryz.underlying78 Rv w.heap.size 2 _ rfl ho (by decide) (.int .i64 3) (ent W2.heap.size 3) (.int .i64 3) rfl rfl (keyI 3 (by decide)) _ _ rfl ?_; intro W3 ho3 hg3)
  have T3 := Lib.hid (T2.out.next hH hb ho3 hg3)
  clear T2 hH hb ho ho3 hg3
  refine (HH.out _ _ _ _).mono ?_
  rintro e u4 ⟨rfl, hH, hb⟩
  have ho := own_at T3.out.own (hb.block _ T3.out.own.lt)
  go_wp2_with (refine wpList_insert_own rfl _ _ _ _ rfl 3 112 intKeyed Tryz.underlying78 Rv w.heap.size 3 _ rfl ho (by decide) (.int .i64 4) (ent W3.heap.size 4) (.int .i64 4) rfl rfl (keyI 4 (by decide)) _ _ rfl ?_; intro W4 ho4 hg4)
  have T4 := Lib.hid (T3.out.next hH hb ho4 hg4)
  clear T3 hH hb ho ho4 hg4
  refine (HH.out _ _ _ _).mono ?_
  rintro e u5 ⟨rfl, hH, hb⟩
  have ho := own_at T4.out.own (hb.block _ T4.out.own.lt)
  go_wp2_with (refine wpList_insert_own rfl _ _ _ _ rfl 3 112 intKeyed Tryz.underlying78 Rv w.heap.size 4 _ rfl ho (by decide) (.int .i64 5) (ent W4.heap.size 5) (.int .i64 5) rfl rfl (keyI 5 (by decide)) _ _ rfl ?_; intro W5 ho5 hg5)
  have T5 := Lib.hid (T4.out.next hH hb ho5 hg5)
  clear T4 hH hb ho ho5 hg5
  refine (HH.out _ _ _ _).mono ?_
  rintro e u6 ⟨rfl, hH, hb⟩
  have ho := own_at T5.out.own (hb.block _ T5.out.own.lt)
  go_wp2_with (refine wpList_insert_own rfl _ _ _ _ rfl 3 112 intKeyed Tryz.underlying78 Rv w.heap.size 5 _ rfl ho (by decide) (.int .i64 6) (ent W5.heap.size 6) (.int .i64 6) rfl rfl (keyI 6 (by decide)) _ _ rfl ?_; intro W6 ho6 hg6)
  have T6 := Lib.hid (T5.out.next hH hb ho6 hg6)
  clear T5 hH hb ho ho6 hg6
  refine (HH.out _ _ _ _).mono ?_
  rintro e u7 ⟨rfl, hH, hb⟩
  have ho := own_at T6.out.own (hb.block _ T6.out.own.lt)
  go_wp2_with (refine wpList_insert_own rfl _ _ _ _ rfl 3 112 intKeyed Tryz.underlying78 Rv w.heap.size 6 _ rfl ho (by decide) (.int .i64 7) (ent W6.heap.size 7) (.int .i64 7) rfl rfl (keyI 7 (by decide)) _ _ rfl ?_; intro W7 ho7 hg7)
  have T7 := Lib.hid (T6.out.next hH hb ho7 hg7)
  clear T6 hH hb ho ho7 hg7
  refine (HH.out _ _ _ _).mono ?_
  rintro e u8 ⟨rfl, hH, hb⟩
  have ho := own_at T7.out.own (hb.block _ T7.out.own.lt)
  go_wp2_with (refine wpList_insert_own rfl _ _ _ _ rfl 3 112 intKeyed Tryz.underlying78 Rv w.heap.size 7 _ rfl ho (by decide) (.int .i64 8) (ent W7.heap.size 8) (.int .i64 8) rfl rfl (keyI 8 (by decide)) _ _ rfl ?_; intro W8 ho8 hg8)
  have T8 := Lib.hid (T7.out.next hH hb ho8 hg8)
  clear T7 hH hb ho ho8 hg8
  go_ret
  exact ⟨rfl, ⟨[W0.heap.size, W1.heap.size, W2.heap.size, W3.heap.size, W4.heap.size, W5.heap.size, W6.heap.size, W7.heap.size], ⟨T8.out.own.lt, T8.out.own, T8.out.len, fun i c e => (T8.out.has i c e).1⟩⟩, T8.out.below⟩
theorem isMap_put {D : DataW Value} (h : Go.Maps.IsMap D) (k : Lit) (d : DataW Value) : Go.Maps.IsMap (D.put k d) := by
  obtain ⟨es, rfl⟩ := h
  exact ⟨_, rfl⟩
theorem isMap_fold (l : List (Nat × Nat)) : ∀ D, Go.Maps.IsMap D → Go.Maps.IsMap (l.foldl (fun D p => put8 D p.1 (p.2 + 1)) D) := by
  induction l with
  | nil => exact fun D h => h
  | cons p l ih => exact fun D h => ih _ (isMap_put h _ _)
/-- What is under a key. -/
theorem atKey_fold (kl : Lit) (z : DataW Value) (l : List (Nat × Nat)) : ∀ D, Go.Maps.IsMap D → (∀ p ∈ l, kl ≠ .int .i64 ((p.2 + 1 : Nat) : Int)) → (l.foldl (fun D p => put8 D p.1 (p.2 + 1)) D).atKey kl z = D.atKey kl z := by
  induction l with
  | nil => exact fun D _ _ => rfl
  | cons p l ih =>
    intro D hD hp
    rw [List.foldl_cons, ih (put8 D p.1 (p.2 + 1)) (isMap_put hD _ _) (fun q hq => hp q (by simp [hq]))]
    exact Go.Maps.atKey_put_other (hp p (by simp)) _ _
theorem DM_at (cs : List Nat) (i c : Nat) (hi : cs[i]? = some c) (z : DataW Value) : (DM cs).atKey (.int .i64 ((i + 1 : Nat) : Int)) z = .held (ent c (i + 1)) := by
  have hlt := (List.getElem?_eq_some_iff.1 hi).1
  have hz : cs.zipIdx = (cs.zipIdx.take i) ++ (c, i) :: (cs.zipIdx.drop (i + 1)) := by
    have h1 : cs.zipIdx[i]? = some (c, i) := by rw [List.getElem?_zipIdx, hi]; simp
    have h2 := List.getElem?_eq_some_iff.1 h1
    rw [← h2.2, ← List.drop_eq_getElem_cons h2.1, List.take_append_drop]
  unfold DM
  rw [hz, List.foldl_append, List.foldl_cons, atKey_fold]
  · exact Go.Maps.atKey_put_same (isMap_fold _ _ ⟨_, rfl⟩) (by simp [WideAt.IsKeyLit]) _ _
  · exact isMap_put (isMap_fold _ _ ⟨_, rfl⟩) _ _
  · intro p hp e
    obtain ⟨j, hj⟩ := List.mem_iff_getElem?.1 hp
    rw [List.getElem?_drop, List.getElem?_zipIdx] at hj
    cases hc : cs[i + 1 + j]? with
    | none => rw [hc] at hj; simp at hj
    | some d =>
      rw [hc] at hj
      simp at hj
      rw [← hj] at e
      simp at e
      omega
theorem DM_not (cs : List Nat) (k : Int) (hk : k < 1 ∨ cs.length < k) (z : DataW Value) : (DM cs).atKey (.int .i64 k) z = z := by
  unfold DM
  rw [atKey_fold]
  · rfl
  · exact ⟨_, rfl⟩
  · intro p hp e
    obtain ⟨j, hj⟩ := List.mem_iff_getElem?.1 hp
    rw [List.getElem?_zipIdx] at hj
    cases hc : cs[j]? with
    | none => rw [hc] at hj; simp at hj
    | some d =>
      have hlt := (List.getElem?_eq_some_iff.1 hc).1
      rw [hc] at hj
      simp at hj
      rw [← hj] at e
      simp at e
      omega

def zeroK : Value := .agg #[.nilFunc, .nilFunc, .nilFunc, .nilFunc, .nilFunc]
theorem zero_kind (w : World) : (zeroValue 112).run Tryz.prog w = .ok zeroK w := by go_simp; rfl
theorem Kinds.look {W : World} {n b : Nat} {cs : List Nat} (h : Kinds W n b cs) (ok : Bool) (i c : Nat) (hi : cs[i]? = some c) (hw : (Lit.int .i64 ((i + 1 : Nat) : Int)).wf = true) :
    (Instr.lookup 78 (.map (some b)) (.int .i64 ((i + 1 : Nat) : Int)) ok).run Tryz.prog W = .ok (if ok then .tuple #[ent c (i + 1), .bool true] else ent c (i + 1)) W := by
  have hlt := (List.getElem?_eq_some_iff.1 hi).1
  have h8 := h.len
  obtain ⟨es, clock, hb, F, _, hD⟩ := h.own
  have hat := DM_at cs i c hi
  rw [hD] at hat
  rcases Maps.fit_look (R := Rv) ok intKeyed Tryz.underlying78 (zero_kind W) hb F (keyI ((i + 1 : Nat) : Int) hw) with ⟨_, _, h3⟩ | ⟨e0, y, _, _, h3, h4, h5, _⟩
  · have h1 := (h3 .nil).symm.trans (hat .nil)
    cases h1
  · have h1 := (h5 .nil).symm.trans (hat .nil)
    cases h4
    rw [h3, DataW.held.inj h1]
theorem findNow_none (k : Int) : ∀ (es : List MapEntry) (i : Nat), (∀ e ∈ es, ∃ a, e.key = .int .i64 a ∧ a ≠ k) → Instr.findNow (.int .i64) (.int .i64 k) es i = some none
  | [], _, _ => rfl
  | e :: es, i, h => by
    obtain ⟨a, h1, h2⟩ := h e (by simp)
    rw [Instr.findNow, h1]
    have : Instr.sameNow (.int .i64) (.int .i64 k) (.int .i64 a) = some false := by simp [Instr.sameNow, Ne.symm h2]
    rw [this]
    exact findNow_none k es (i + 1) fun x hx => h x (by simp [hx])
theorem check_int (em : Bool) (k : Int) (w : World) : (Instr.checkKey em 10000 3 (.int .i64 k)).run Tryz.prog w = .ok () w := by
  rw [show (10000 : Nat) = 9999 + 1 from rfl, Instr.checkKey]
  simp [run_underlying Tryz.underlying3, Result.andThen]
theorem Kinds.miss {W : World} {n b : Nat} {cs : List Nat} (h : Kinds W n b cs) (ok : Bool) (k : Int) (hk : k < 1 ∨ 8 < k) :
    (Instr.lookup 78 (.map (some b)) (.int .i64 k) ok).run Tryz.prog W = .ok (if ok then .tuple #[zeroK, .bool false] else zeroK) W := by
  obtain ⟨es, clock, hb, F, _, hD⟩ := h.own
  by_cases hw : (Lit.int .i64 k).wf = true
  · have hat := DM_not cs k (by rw [h.len]; exact hk)
    rw [hD] at hat
    rcases Maps.fit_look (R := Rv) ok intKeyed Tryz.underlying78 (zero_kind W) hb F (keyI k hw) with ⟨h2, _, h3⟩ | ⟨e0, y, _, _, h3, h4, h5, _⟩
    · exact h2
    · have h1 := (h5 .nil).symm.trans (hat .nil)
      cases h4
      exact absurd h1 (by simp)
  · have hkeys : ∀ e ∈ es.toList, ∃ a, e.key = .int .i64 a ∧ a ≠ k := by
      intro e he
      obtain ⟨l, hl⟩ := F.keys e he
      generalize e.key = v at *
      cases v <;> simp [keyOf, mapKey, Tryz.underlying3] at hl
      obtain ⟨⟨rfl, hwf⟩, _⟩ := hl
      exact ⟨_, rfl, fun e => hw (e ▸ hwf)⟩
    have hf := findNow_none k es.toList 0 hkeys
    simp [Instr.lookup, run_underlying Tryz.underlying78, MapKept.run_getObj_map hb, check_int, Instr.findKey, run_underlying Tryz.underlying3, hf, Result.andThen]
    rfl
theorem Kinds.at_ {W : World} {n b : Nat} {cs : List Nat} (h : Kinds W n b cs) (k : Int) (h1 : 1 ≤ k) (h2 : k ≤ 8) : ∃ (j c : Nat), k = ((j + 1 : Nat) : Int) ∧ j < 8 ∧ HasAt W n c (numG (j + 1)) (loN (j + 1)) (hiN (j + 1)) ∧
    ∀ (ok : Bool) (W' : World), Below n W W' → (Instr.lookup 78 (.map (some b)) (.int .i64 k) ok).run Tryz.prog W' = .ok (if ok then .tuple #[ent c (j + 1), .bool true] else ent c (j + 1)) W' := by
  obtain ⟨j, rfl⟩ : ∃ j : Nat, k = ((j + 1 : Nat) : Int) := ⟨(k - 1).toNat, by omega⟩
  have hj : j < 8 := by omega
  have hlt : j < cs.length := by rw [h.len]; exact hj
  refine ⟨j, cs[j], rfl, hj, h.has j _ (List.getElem?_eq_getElem hlt), fun ok W' hb => (h.from_ hb).look ok j _ (List.getElem?_eq_getElem hlt) ?_⟩
  match j, hj with
  | 0, _ => decide
  | 1, _ => decide
  | 2, _ => decide
  | 3, _ => decide
  | 4, _ => decide
  | 5, _ => decide
  | 6, _ => decide
  | 7, _ => decide
end Go.Proofs.YtgloapcfmlijlaaGreatDoor
namespace Go.Proofs.YtgloapcfmlijlaaGreatDoor
open Go Go.RowKit

/-- How the body of a round may be left. -/
def lwPost {α : Type} (On : α → Prop) (B : Nat) (T : Nat → Prop) (I : List α → World → Prop) (Ix : α → World → Prop) (xs : List α) (x : α) (W : World) : Exit → Act → World → Prop
  | .normal, _, W' => On x ∧ KeepsFrom B W W' ∧ (∀ b, b < W.heap.size → T b → W'.heap[b]? = W.heap[b]?) ∧ I xs W'
  | .ret, _, W' => ¬ On x ∧ KeepsFrom B W W' ∧ Ix x W'
  | _, _, _ => False

theorem range_lw {α : Type} {P : Program} {n : Nat} {g : Operand} {ps : Array Tmp} {assign body : Code} {Q : Exit → Act → World → Prop} {a : Act} {w : World} (h1 : 1 ≤ n)
    {gf : Nat} {lb : Array Value} (hg : a.eval g = .func (.func gf) #[] lb) (eg : ∀ args w, (callFunc gf args).run P w = .ok (.enter gf args) w)
    {encs : α → Array Value} (hps : ∀ x, (encs x).size = ps.size) (I : List α → World → Prop) (hI : OwnFrom w.heap.size I) (Ix : α → World → Prop) (hIx : OwnFrom w.heap.size Ix)
    (T : Nat → Prop) (hT : ∀ b, T b → b ≠ w.heap.size + 1) (S : List α → Prop) (Sx On : α → Prop)
    (G : List α → α → World → World → Prop)
    (hseq : ∀ (l : Nat) (J : List α → World → Prop) (Jx : α → World → Prop) (W : World), w.heap.size + 2 ≤ W.heap.size → (∀ pre A, J pre A → I pre A ∧ w.heap.size + 2 ≤ A.heap.size) →
      (∀ pre A B, J pre A → A.grownBy B none → J pre B) →
      (∀ pre x A B, J pre A → A.grownBy B none → G pre x A B → YieldAt Fence.wide (n - 1 - 1) P l (encs x) B fun e W' =>
        (e = .returned (.bool true) ∧ On x ∧ J (pre ++ [x]) W' ∧ B.heap.size ≤ W'.heap.size ∧ ∀ b, b < B.heap.size → T b → W'.heap[b]? = B.heap[b]?) ∨ (e = .returned (.bool false) ∧ ¬ On x ∧ Jx x W')) →
      J [] W → CallsIn Fence.wide (n - 1) P gf (#[.func (.yield l) #[] #[]] ++ lb) W fun e W' => (∃ v, e = .returned v) ∧ ((∃ xs, S xs ∧ J xs W') ∨ ∃ x, Sx x ∧ Jx x W'))
    (h0 : I [] w) (Ax : List α → α → Act → World → Prop) (hAx : ∀ pre x a', OwnFrom w.heap.size fun (_ : Unit) W => Ax pre x a' W)
    (hassign : ∀ (l : Nat) (pre : List α) (x : α) (A B : World) (K : Act → World → Prop), I pre A → A.grownBy B none → G pre x A B → (∀ a' B', KeepsFrom w.heap.size B B' → (∀ b, b < B.heap.size → T b → B'.heap[b]? = B.heap[b]?) → Ax pre x a' B' → K a' B') →
      assign.wpIn (Fence.wide.inRound l) (n - 1 - 1) P (Exit.then K (fun _ _ _ => False)) { tmps := (ps.zip (encs x)).foldl (fun t (p, v) => t.setIfInBounds p v) a.tmps, defers := [] } B)
    (hbody : ∀ (l : Nat) (pre : List α) (x : α) (a' : Act) (B : World), Ax pre x a' B →
      body.wpIn (Fence.wide.inRound l) (n - 1 - 1) P (lwPost On w.heap.size T I Ix (pre ++ [x]) x B) a' B)
    (hdone : ∀ (D : Nat) (xs : List α) (W : World), w.heap.size ≤ D → S xs → I xs W → W.heap[D]? = some (.deferred (some [])) → Q .normal { a with defers := { target := .collected D, args := #[] } :: a.defers } W)
    (hstop : ∀ (D : Nat) (x : α) (W : World), w.heap.size ≤ D → Sx x → Ix x W → W.heap[D]? = some (.deferred (some [])) → Code.ret.wpIn Fence.wide n P Q { a with defers := { target := .collected D, args := #[] } :: a.defers } W) :
    (Code.rangeFunc g ps assign body).wpIn Fence.wide n P Q a w := by
  refine wpIn_rangeFunc ?_
  intro fn hfn
  have hro : Fence.wide.round = none := rfl
  rw [hro]
  obtain ⟨rec, hrec⟩ : ∃ rec : LoopState → Option Code → Loop, rec = fun st pe => { state := st, pending := pe, fn, tmps := a.tmps, params := ps, assign, body, defers := w.heap.size } := ⟨_, rfl⟩
  obtain ⟨W1, hW1⟩ : ∃ W1, (w.alloc (.deferred (some []))).alloc (.loop (rec .ready none)) = W1 := ⟨_, rfl⟩
  have hL1 : W1.heap[w.heap.size + 1]? = some (.loop (rec .ready none)) := by
    rw [← hW1]; have := World.alloc_heap_new (w.alloc (.deferred (some []))) (.loop (rec .ready none)); rwa [World.size_alloc] at this
  have hK1 : W1.heap[w.heap.size]? = some (.deferred (some [])) := by
    rw [← hW1]; exact (Below.heap_alloc _ _ _ (by simp)).trans (World.alloc_heap_new w _)
  have hI1 : I [] W1 := by rw [← hW1]; exact hI.alloc _ (hI.alloc _ h0)
  have hb1 : Below w.heap.size w W1 := by rw [← hW1]; exact ((Below.refl _ w).alloc (Nat.le_refl _) _).alloc (by simp) _
  refine ⟨w.heap.size + 1, [{ target := .collected w.heap.size, args := #[] }], W1, { target := .fn (.func gf) lb, args := #[.func (.yield (w.heap.size + 1)) #[] #[]] }, W1, gf,
    #[.func (.yield (w.heap.size + 1)) #[] #[]] ++ lb, W1, ?_, ?_, fun _ _ => trivial, ?_, fun _ => h1, ?_⟩
  · rw [← hW1, hrec]; exact run_enterLoop_outer _ _ _ _ _
  · simp only [resolve, hg]
    simp [go_sem]
  · simp [invoke, go_sem, eg]
  · refine (hseq (w.heap.size + 1)
      (fun pre W => I pre W ∧ W.heap[w.heap.size + 1]? = some (.loop (rec .ready none)) ∧ W.heap[w.heap.size]? = some (.deferred (some [])))
      (fun x W => Ix x W ∧ W.heap[w.heap.size + 1]? = some (.loop (rec .done (some .ret))) ∧ W.heap[w.heap.size]? = some (.deferred (some [])))
      W1 (by rw [← hW1]; simp) (fun _ A h => ⟨h.1, (Array.getElem?_eq_some_iff.1 h.2.1).1⟩)
      (fun pre A B hs hg' => ⟨hI pre A B none hs.1 hg' (fun r e => by cases e), (hg'.block _ (Array.getElem?_eq_some_iff.1 hs.2.1).1 (by simp)).trans hs.2.1, (hg'.block _ (Array.getElem?_eq_some_iff.1 hs.2.2).1 (by simp)).trans hs.2.2⟩)
      ?_ ⟨hI1, hL1, hK1⟩).mono ?_
    · rintro pre x A W ⟨hi, hlA, hkA⟩ hgr hgx
      have hl : W.heap[w.heap.size + 1]? = some (.loop (rec .ready none)) := (hgr.block _ (Array.getElem?_eq_some_iff.1 hlA).1 (by simp)).trans hlA
      have hk : W.heap[w.heap.size]? = some (.deferred (some [])) := (hgr.block _ (Array.getElem?_eq_some_iff.1 hkA).1 (by simp)).trans hkA
      have hlt : w.heap.size + 1 < W.heap.size := (Array.getElem?_eq_some_iff.1 hl).1
      have hltA : w.heap.size + 1 < A.heap.size := (Array.getElem?_eq_some_iff.1 hlA).1
      have hy := run_yield (P := P) (args := encs x) hl (by rw [hrec]; exact hps x)
      rw [hrec] at hy
      refine ⟨fn, _, assign, body, hy, roundIn_of_wpIn hfn (hassign _ pre x A W _ hi hgr hgx ?_)⟩
      intro a' W' hk1 hT1 hax
      have hl1 := hk1.same _ _ (by omega) hl rfl
      have hd1 := hk1.same _ _ (Nat.le_refl _) hk rfl
      have hlt1 : w.heap.size + 1 < W'.heap.size := (Array.getElem?_eq_some_iff.1 hl1).1
      refine ⟨_, run_beginRound hl1 (by rw [hrec]), ?_⟩
      have hl2 : (W'.putObj (w.heap.size + 1) (.loop { rec .ready none with state := .busy })).heap[w.heap.size + 1]? = some (.loop { rec .ready none with state := .busy }) := World.putObj_heap_same hlt1
      have hk2 : (W'.putObj (w.heap.size + 1) (.loop { rec .ready none with state := .busy })).heap[w.heap.size]? = some (.deferred (some [])) := (World.putObj_heap_other (by omega)).trans hd1
      refine wpIn_mono (hbody _ pre x a' _ ((hAx pre x a').putObj (s := ()) _ hax (by omega) hl1 rfl)) ?_
      have fin : ∀ (jump : Option Code) (W3 : World), KeepsFrom w.heap.size (W'.putObj (w.heap.size + 1) (.loop { rec .ready none with state := .busy })) W3 →
          (Instr.endRound (w.heap.size + 1) jump).run P W3 = .ok (.bool jump.isNone) (W3.putObj (w.heap.size + 1) (.loop (rec (if jump.isNone then .ready else .done) jump))) ∧
          W3.heap[w.heap.size + 1]? = some (.loop { rec .ready none with state := .busy }) ∧
          (W3.putObj (w.heap.size + 1) (.loop (rec (if jump.isNone then .ready else .done) jump))).heap[w.heap.size + 1]? = some (.loop (rec (if jump.isNone then .ready else .done) jump)) ∧
          (W3.putObj (w.heap.size + 1) (.loop (rec (if jump.isNone then .ready else .done) jump))).heap[w.heap.size]? = some (.deferred (some [])) := fun jump W3 hk3 => by
        have hl3 := hk3.same _ _ (by omega) hl2 rfl
        have := run_endRound (P := P) jump hl3
        rw [hrec] at this ⊢
        exact ⟨this, by rw [hrec] at hl3; exact hl3, World.putObj_heap_same (Array.getElem?_eq_some_iff.1 hl3).1, (World.putObj_heap_other (by omega)).trans (hk3.same _ _ (Nat.le_refl _) hk2 rfl)⟩
      rintro e a3 W3 hp
      cases e with
      | normal =>
        obtain ⟨hon, hk3, hkp3, hi3⟩ := hp
        obtain ⟨hr, hl3, hl4, hk4⟩ := fin none W3 hk3
        have hs1 := hk1.size
        have hs3 := hk3.size
        have hp : ∀ (W : World) (l : Nat) (o : Obj), (W.putObj l o).heap.size = W.heap.size := fun W l o => by simp [World.putObj]
        rw [hp] at hs3
        refine ⟨_, _, hr, .inl ⟨rfl, hon, ⟨hI.putObj _ hi3 (by omega) hl3 rfl, hl4, hk4⟩, by rw [hp]; omega, fun b hlt hb => ?_⟩⟩
        have := hT b hb
        rw [World.putObj_heap_other (by omega), hkp3 b (by rw [hp]; omega) hb, World.putObj_heap_other (by omega), hT1 b hlt hb]
      | ret =>
        obtain ⟨hon, hk3, hi3⟩ := hp
        obtain ⟨hr, hl3, hl4, hk4⟩ := fin (some .ret) W3 hk3
        exact ⟨_, _, hr, .inr ⟨rfl, hon, hIx.putObj _ hi3 (by omega) hl3 rfl, hl4, hk4⟩⟩
      | exit id => exact hp.elim
      | goto t => exact hp.elim
      | panic ch => exact hp.elim
      | outgrown => exact hp.elim
    · rintro e W2 ⟨⟨v, rfl⟩, (⟨xs, hS, hi, hl, hk⟩ | ⟨x, hSx, hi, hl, hk⟩)⟩
      · exact ⟨none, _, by have := run_endLoop (P := P) hl (by rw [hrec]; simp); rw [hrec] at this; exact this, hdone _ xs _ (Nat.le_refl _) hS (hI.putObj _ hi (by omega) hl rfl) ((World.putObj_heap_other (by omega)).trans hk)⟩
      · exact ⟨some .ret, _, by have := run_endLoop (P := P) hl (by rw [hrec]; simp); rw [hrec] at this; exact this, hstop _ x _ (Nat.le_refl _) hSx (hIx.putObj _ hi (by omega) hl rfl) ((World.putObj_heap_other (by omega)).trans hk)⟩

end Go.Proofs.YtgloapcfmlijlaaGreatDoor
namespace Go.Proofs.YtgloapcfmlijlaaGreatDoor
open Go Go.RowKit
attribute [local go_sem] Oper.semAt_some

theorem yieldAt_any {m m' : Nat} {P : Program} {l : Nat} {args : Array Value} {W : World} {R : Ending → World → Prop} (h : YieldAt Fence.wide m P l args W R) : YieldAt Fence.wide m' P l args W R := by
  obtain ⟨fn, tmps, assign, body, hy, h1, h2⟩ := h
  exact ⟨fn, tmps, assign, body, hy, h1, fun c cs _ => h2 c cs (room_wide _)⟩

/-- What comes each time: in how many types it stands, a type, the value of those in it. -/
abbrev El := (Nat × M.Ty) × Value
def encT (x : El) : Array Value := match x.1.2 with | .mk k n _ => #[.int .i64 (x.1.1 : Nat), tv k n x.2]
def GoodEl (w0 : World) (L0 : List (Nat × M.Ty)) (pre : List El) (x : El) : Prop := LayT w0 w0.heap.size x.1.2.ins x.2 ∧ x.1.1 + M.cntT x.1.2 ≤ 1100 ∧ ∃ zs, L0 = pre.map (·.1) ++ x.1 :: zs

/-- What the rounds do, for the function that calls them. -/
structure TellH (w0 : World) (L0 : List (Nat × M.Ty)) (T : Nat → Prop) (N0 l : Nat) (J : List El → World → Prop) (Jx : El → World → Prop) (On : El → Prop) : Prop where
  grow : ∀ pre A B, J pre A → A.grownBy B none → J pre B
  low : ∀ pre A, J pre A → Below w0.heap.size w0 A
  new : ∀ pre A, J pre A → N0 ≤ A.heap.size
  tn : ∀ b, N0 ≤ b → T b
  y : ∀ m pre x A, J pre A → GoodEl w0 L0 pre x → YieldAt Fence.wide m Tryz.prog l (encT x) A fun e W' =>
    (e = .returned (.bool true) ∧ On x ∧ J (pre ++ [x]) W' ∧ A.heap.size ≤ W'.heap.size ∧ ∀ b, b < A.heap.size → T b → W'.heap[b]? = A.heap[b]?) ∨ (e = .returned (.bool false) ∧ ¬ On x ∧ Jx x W')

def TellP (T : Nat → Prop) (J : List El → World → Prop) (Jx : El → World → Prop) (On : El → Prop) (pre : List El) (L : List (Nat × M.Ty)) (W : World) (e : Ending) (W' : World) : Prop :=
  (e = .returned (.bool true) ∧ ∃ ys : List El, ys.map (·.1) = L ∧ (∀ y ∈ ys, On y) ∧ J (pre ++ ys) W' ∧ W.heap.size ≤ W'.heap.size ∧ ∀ b, b < W.heap.size → T b → W'.heap[b]? = W.heap[b]?) ∨
  (e = .returned (.bool false) ∧ ∃ (ys : List El) (y : El) (zs : List (Nat × M.Ty)), L = ys.map (·.1) ++ y.1 :: zs ∧ (∀ z ∈ ys, On z) ∧ ¬ On y ∧ Jx y W')

set_option maxRecDepth 100000 in
set_option maxHeartbeats 8000000 in
theorem tell_n (w0 : World) (L0 : List (Nat × M.Ty)) (T : Nat → Prop) (N0 l : Nat) (J : List El → World → Prop) (Jx : El → World → Prop) (On : El → Prop) (H : TellH w0 L0 T N0 l J Jx On) (z : Nat) :
    ∀ (d : Nat) (k n : Int) (xs : List M.Ty) (a : Option Addr) (cap : Nat) (pre : List El) (W : World), SizeOf.sizeOf xs ≤ z → LayT w0 w0.heap.size xs (.slice a xs.length cap) → d + M.cntT (.mk k n xs) ≤ 1100 → (∃ zs, L0 = pre.map (·.1) ++ M.flat d (.mk k n xs) ++ zs) → J pre W →
    Calls Tryz.prog 181 #[.int .i64 (d : Nat), tv k n (.slice a xs.length cap), .func (.yield l) #[] #[]] W (TellP T J Jx On pre (M.flat d (.mk k n xs)) W) := by
  have hro : Fence.wide.round = none := rfl
  induction z with
  | zero => intro d k n xs a cap pre W h; cases xs <;> simp at h
  | succ z ih =>
    intro d k n xs a cap pre W hs hL hd hp h0
    obtain ⟨x, hx⟩ : ∃ x : El, x = ((d, .mk k n xs), .slice a xs.length cap) := ⟨_, rfl⟩
    have hcx : M.cntTs xs + 1 + d ≤ 1100 := by rw [M.cntT] at hd; omega
    have hlen := M.length_cntT xs
    obtain ⟨d1, hd1e⟩ : ∃ d1, d1 = d + 1 := ⟨_, rfl⟩
    have hd1 : (d : Int) + 1 = (d1 : Nat) := by omega
    have hd1c : M.cntTs xs + d1 ≤ 1100 := by omega
    obtain ⟨W1, hW1⟩ : ∃ W1, W.alloc (.cells #[.int .i64 k, .int .i64 n, .slice a xs.length cap] 24) = W1 := ⟨_, rfl⟩
    have hg1 : W.grownBy W1 none := by rw [← hW1]; exact World.grownBy_alloc _ _ _
    have hz1 : W1.heap.size = W.heap.size + 1 := by rw [← hW1]; simp
    have hB1 : BoxT W1 W.heap.size k n (.slice a xs.length cap) := by rw [← hW1]; exact BoxT.new _ _ _ _ _
    have hJ1 := H.grow _ _ _ h0 hg1
    have hnew := H.new _ _ h0
    obtain ⟨fn, tmps, assign, body, hy, hR⟩ := H.y 7 pre x W1 hJ1 ⟨by rw [hx]; exact hL, by rw [hx]; exact hd, by obtain ⟨zs, hzs⟩ := hp; rw [hx]; exact ⟨M.flats (d + 1) xs ++ zs, by rw [hzs, M.flat]; simp⟩⟩
    have hy' := hy
    rw [hx] at hy'
    dsimp only [encT] at hy'
    have HW1 := Lib.hid hW1
    have hflat : Hid (M.flat d (.mk k n xs) = (d, .mk k n xs) :: M.flats d1 xs) := by show _ = _; rw [M.flat, hd1e]
    rw [hflat.out]
    rw [← hW1] at hy'
    rw [hflat.out] at hp
    have HPP := Lib.hid hp
    clear hp
    clear hW1 hy hd hd1e
    refine (callsIn_wide (n := 8)).1 ?_
    refine callsIn_of_wp Tryz.func181 rfl trivial ?_ rfl
    simp only [Tryz.ntmps181, List.size_toArray, List.length_cons, List.length_nil, Nat.reduceAdd, Nat.reduceSub, Array.replicate_succ, Array.replicate_zero, List.push_toArray, List.append_toArray, List.nil_append, List.cons_append]
    gi_wp2
    rw [HW1.out]
    refine hR.mono ?_
    clear hy' hR
    rintro e W2 (⟨rfl, hon, hj2, hz2, hk2⟩ | ⟨rfl, hoff, hjx⟩)
    · have hB2 : BoxT W2 W.heap.size k n (.slice a xs.length cap) := by
        have hb := hk2 W.heap.size (by omega) (H.tn _ hnew)
        exact ⟨(World.cell?_of_block (a := ⟨W.heap.size, 0, none⟩) hb).trans hB1.c0, (World.cell?_of_block (a := ⟨W.heap.size, 1, none⟩) hb).trans hB1.c1, (World.cell?_of_block (a := ⟨W.heap.size, 2, none⟩) hb).trans hB1.c2⟩
      have c2 := hB2.c2
      gi_wp2
      gi_loopw [17] (fun i wr => ∃ (j : Nat) (ys : List El), j ≤ xs.length ∧ i = .int .i64 (j : Nat) ∧ ys.map (·.1) = M.flats d1 (xs.take j) ∧ (∀ y ∈ ys, On y) ∧ J (pre ++ [x] ++ ys) wr ∧ W2.heap.size ≤ wr.heap.size ∧ ∀ b, b < W2.heap.size → T b → wr.heap[b]? = W2.heap[b]?)
        (fun i _ => xs.length - (intOf i).toNat)
      case atStart => exact ⟨0, [], by omega, rfl, by simp [M.flats], by simp, by simpa using hj2, Nat.le_refl _, fun _ _ _ => rfl⟩
      case round =>
        obtain ⟨j, ys, hj, rfl, hys, hons, hjr, hzr, hkr⟩ := hrel
        by_cases hlt : j < xs.length
        · obtain ⟨b, o, k', m', us, au, cu, rfl, hbn, hxk, e0, e1, e2, hLu⟩ := hL.at_ hlt
          have hsx := size_ty hxk
          rw [M.Ty.mk.sizeOf_spec] at hsx
          have hlow := H.low _ _ hjr
          have g0 := (hlow.cell (p := ⟨b, o + j * 3, none⟩) hbn).trans e0
          have g1 := (hlow.cell (p := ⟨b, o + j * 3 + 1, none⟩) hbn).trans e1
          have g2 := (hlow.cell (p := ⟨b, o + j * 3 + 2, none⟩) hbn).trans e2
          have hcx := M.cntT_part (List.mem_of_getElem? hxk)
          obtain ⟨WB, hWB⟩ : ∃ WB, wr.alloc (.cells #[.int .i64 k', .int .i64 m', .slice au us.length cu] 24) = WB := ⟨_, rfl⟩
          have hgB : wr.grownBy WB none := by rw [← hWB]; exact World.grownBy_alloc _ _ _
          have HI : Hid (Calls Tryz.prog 181 #[.int .i64 (d1 : Nat), tv k' m' (.slice au us.length cu), .func (.yield l) #[] #[]] (wr.alloc (.cells #[.int .i64 k', .int .i64 m', .slice au us.length cu] 24)) (TellP T J Jx On (pre ++ [x] ++ ys) (M.flat d1 (.mk k' m' us)) (wr.alloc (.cells #[.int .i64 k', .int .i64 m', .slice au us.length cu] 24)))) :=
            ih d1 k' m' us au cu _ _ (by omega) hLu (by omega) (by
              obtain ⟨q1, hq1⟩ := HPP.out
              obtain ⟨q2, hq2⟩ := M.flats_part (d := d1) hxk
              refine ⟨q2 ++ q1, ?_⟩
              rw [hq1, hq2, hx, ← hys]
              simp) (by rw [hWB]; exact H.grow _ _ _ hjr hgB)
          have HN := Lib.hid (M.flats_next (d := d1) hxk)
          have HP := Lib.hid (M.flats_part (d := d1) hxk)
          have HWB := Lib.hid hWB
          clear hWB ih hd1c hcx hlow hL hLu hk2 e0 e1 e2 hsx
          gi_wp2_with fail
          refine ⟨trivial, (callsIn_wide.2 HI.out).mono ?_⟩
          rintro e W3 (⟨rfl, zs, hzs, honz, hj3, hz3, hk3⟩ | ⟨rfl, zs, y, ts, hzs, honz, hoff, hjx⟩)
          · clear HI
            gi_wp2
            go_roundw
            case rel =>
              refine ⟨j + 1, ys ++ zs, by omega, by simp, by rw [List.map_append, hys, hzs, HN.out], fun y hy => (List.mem_append.1 hy).elim (hons y) (honz y), by rw [← List.append_assoc]; exact hj3, by simp at hz3; omega, fun c hc hTc => ?_⟩
              have hzw := hgB.size
              exact ((hk3 c (by simp; omega) hTc).trans (by rw [HWB.out]; exact hgB.block c (by omega) (by simp))).trans (hkr c hc hTc)
            case measure => simp [intOf]; omega
          · have HX := Lib.hid hjx
            clear HI hjx
            gi_wp2
            go_ret
            obtain ⟨vs, hvs⟩ := HP.out
            refine .inr ⟨rfl, x :: (ys ++ zs), y, ts ++ vs, ?_, ?_, hoff, HX.out⟩
            · rw [hvs, hzs, ← hys, hx]
              simp
            · intro q hq
              rcases List.mem_cons.1 hq with rfl | hq
              · exact hon
              · exact (List.mem_append.1 hq).elim (hons q) (honz q)
        · obtain rfl : j = xs.length := by omega
          rw [List.take_length] at hys
          have HJ := Lib.hid hjr
          have HK := Lib.hid hkr
          clear hjr hkr
          gi_wp2
          go_ret
          refine .inl ⟨rfl, x :: ys, by rw [List.map_cons, hys, hx], ?_, by have := HJ.out; simpa using this, by omega, fun c hc hTc => ?_⟩
          · intro q hq
            rcases List.mem_cons.1 hq with rfl | hq
            · exact hon
            · exact hons q hq
          · exact (HK.out c (by omega) hTc).trans ((hk2 c (by omega) hTc).trans (hg1.block c hc (by simp)))
    · have HX := Lib.hid hjx
      clear hjx
      gi_wp2
      go_ret
      exact .inr ⟨rfl, [], x, M.flats d1 xs, by rw [hx]; rfl, by simp, hoff, HX.out⟩

theorem within_in (n : Nat) (k m : Int) (v : Value) (w : World) :
    CallsIn Fence.wide n Tryz.prog 139 #[tv k m v] w fun e w' =>
      e = .returned (.func (.func 180) #[] #[.pointer (some ⟨w.heap.size, 0, none⟩)]) ∧ w' = w.alloc (.cells #[.int .i64 k, .int .i64 m, v] 24) := by
  have hmf : ∀ (fn : Fn) (first cap : Array Value) (w : World), (Instr.makeFunc fn first cap).run Tryz.prog w = .ok (.func fn first cap) w := fun _ _ _ _ => rfl
  refine callsIn_of_wp Tryz.func139 rfl trivial ?_ rfl
  simp only [Tryz.ntmps139, List.size_toArray, List.length_cons, List.length_nil, Nat.reduceAdd, Nat.reduceSub, Array.replicate_succ, Array.replicate_zero, List.push_toArray, List.append_toArray, List.nil_append, List.cons_append]
  gi_wp2
  go_ret
  exact ⟨rfl, rfl⟩

/-- All of them are told; or one that ends it, and those ahead of it. -/
def AllOf (t : M.Ty) (On : El → Prop) (xs : List El) : Prop := xs.map (·.1) = M.flat 0 t ∧ ∀ y ∈ xs, On y
def OneOf (t : M.Ty) (On : El → Prop) (y : El) : Prop := ∃ (ys : List El) (zs : List (Nat × M.Ty)), M.flat 0 t = ys.map (·.1) ++ y.1 :: zs ∧ (∀ z ∈ ys, On z) ∧ ¬ On y

theorem within_seq (w0 : World) (T : Nat → Prop) (N0 l : Nat) (J : List El → World → Prop) (Jx : El → World → Prop) (On : El → Prop) (k n : Int) (xs : List M.Ty) (H : TellH w0 (M.flat 0 (.mk k n xs)) T N0 l J Jx On) (m : Nat)
    (a : Option Addr) (cap : Nat) (hL : LayT w0 w0.heap.size xs (.slice a xs.length cap)) (hd : M.cntT (.mk k n xs) ≤ 1100) (bx : Nat) (W : World) (hB : BoxT W bx k n (.slice a xs.length cap)) (h0 : J [] W) :
    CallsIn Fence.wide m Tryz.prog 180 #[.func (.yield l) #[] #[], .pointer (some ⟨bx, 0, none⟩)] W fun e W' =>
      (∃ v, e = .returned v) ∧ ((∃ ys, AllOf (.mk k n xs) On ys ∧ J ys W') ∨ ∃ y, OneOf (.mk k n xs) On y ∧ Jx y W') := by
  have hro : Fence.wide.round = none := rfl
  have HT := Lib.hid (tell_n w0 _ T N0 l J Jx On H _ 0 k n xs a cap [] W (Nat.le_refl _) hL (by omega) ⟨[], by simp⟩ h0)
  have c0 := hB.c0
  have c1 := hB.c1
  have c2 := hB.c2
  refine callsIn_of_wp Tryz.func180 rfl trivial ?_ rfl
  simp only [Tryz.ntmps180, List.size_toArray, List.length_cons, List.length_nil, Nat.reduceAdd, Nat.reduceSub, Array.replicate_succ, Array.replicate_zero, List.push_toArray, List.append_toArray, List.nil_append, List.cons_append]
  gi_wp2_with fail
  refine ⟨trivial, fun h => (by cases h), (callsIn_wide.2 HT.out).mono ?_⟩
  rintro e W3 (⟨rfl, zs, hzs, honz, hj3, hz3, hk3⟩ | ⟨rfl, zs, y, ts, hzs, honz, hoff, hjx⟩)
  · have HJ := Lib.hid hj3
    clear hj3
    gi_wp2
    go_end0
    exact ⟨⟨_, rfl⟩, .inl ⟨zs, ⟨hzs, honz⟩, by simpa using HJ.out⟩⟩
  · have HJ := Lib.hid hjx
    clear hjx
    gi_wp2
    go_end0
    exact ⟨⟨_, rfl⟩, .inr ⟨y, ⟨zs, ts, hzs, honz, hoff⟩, HJ.out⟩⟩
end Go.Proofs.YtgloapcfmlijlaaGreatDoor
