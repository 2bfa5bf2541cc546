/- Package receipt: the kind that the first byte tells. Package receipt: Form, the number of what is wrong. errors.As at a target of type *api.Errno: what it asks of the types. errors.As at a target of type *api.Errno: a fault is read as the number that it wraps. numberOf: the number that a fault wraps. Plain arithmetic: numbers and their bytes, the lowest one first; a number's bytes without zeros ahead, as bytes of 64 bits. Plain arithmetic: how many digits a number has. Plain arithmetic: what is read of digits by 128. Plain arithmetic: what is written is read again, and nothing else. Plain arithmetic: what the statements of layer 4 lean on. -/
import Derived.Test.YtebjhbeaknokkaaGreatDoorH04
import Derived.WalkKit
import Derived.LaidEql
import Derived.Stop.Asserts
import Derived.RowKitTokens
import Derived.Test.YtebjhbeaknokkaaGreatDoorH01
import Derived.Lib.Strings
namespace Go.Proofs.YtebjhbeaknokkaaGreatDoor
open Go Go.RowKit Go.Lib Go.Shelf
attribute [local go_sem] Oper.semAt_some

/-- The kind that bytes tell, and the number of what is wrong. -/
def kdOf (s : List UInt8) : Nat × Nat :=
  match s with
  | [] => (0, 3)
  | c :: _ => if 192 ≤ c.toNat then (0, 0) else if c.toNat = 1 ∨ c.toNat = 2 ∨ c.toNat = 4 ∨ c.toNat = 126 then (c.toNat, 0) else (0, 9)
set_option maxRecDepth 100000 in
set_option maxHeartbeats 2000000 in
theorem kindOf_any (s : List UInt8) (w : World) : Calls Tryz.prog 57 #[.string ⟨s.toArray⟩] w fun e w' =>
    e = .returned (.tuple #[.int .i64 ((kdOf s).1 : Nat), .int .i64 ((kdOf s).2 : Nat)]) ∧ Below w.heap.size w w' := by
  cases s with
  | nil =>
    go_enter Tryz.func57, Tryz.ntmps57
    go_wp2_with fail
    exact bodyPost_ret (results_tmp2 rfl _ _ _) rfl ⟨rfl, Below.refl _ _⟩
  | cons c r =>
    have hne : ((⟨(c :: r).toArray⟩ : ByteArray) == ⟨#[]⟩) = false := by rfl
    have hb := wrap_byte c
    have hc := c.toNat_lt
    have hix : ∀ hk : 0 < (⟨(c :: r).toArray⟩ : ByteArray).size, (⟨(c :: r).toArray⟩ : ByteArray)[0]'hk = c := idx_at (by rfl)
    by_cases h1 : 192 ≤ c.toNat
    · have hp : kdOf (c :: r) = (0, 0) := by rw [kdOf, if_pos h1]
      rw [hp]
      have h1' : (192 : Int) ≤ ((c.toNat : Nat) : Int) := by omega
      go_enter Tryz.func57, Tryz.ntmps57
      go_wp2_with fail
      exact bodyPost_ret (results_tmp2 rfl _ _ _) rfl ⟨rfl, Below.refl _ _⟩
    · have h1' : ¬ (192 : Int) ≤ ((c.toNat : Nat) : Int) := by omega
      by_cases h2 : isKd (c.toNat : Nat)
      · have H := Lib.hid (isKind_yes (c.toNat : Nat) w h2)
        by_cases h3 : c.toNat = 0
        · have hp : kdOf (c :: r) = (0, 9) := by rw [kdOf, if_neg h1, if_neg (by omega)]
          rw [hp]
          have H2 := Lib.hid (fun W => rhead_nil W)
          rw [h3] at H
          clear h1 h2
          go_enter Tryz.func57, Tryz.ntmps57
          go_wp2_with fail
          refine H.out.mono ?_
          rintro e W ⟨rfl, hb1⟩
          go_wp2_with fail
          refine (H2.out _).mono ?_
          rintro e W' ⟨rfl, hb2⟩
          go_wp2_with fail
          exact bodyPost_ret (results_tmp2 rfl _ _ _) rfl ⟨rfl, hb1.trans (hb2.mono hb1.size)⟩
        · have hp : kdOf (c :: r) = (c.toNat, 0) := by unfold isKd at h2; rw [kdOf, if_neg h1, if_pos (by omega)]
          rw [hp]
          have H2 := Lib.hid (fun W => rhead_any c.toNat W (by omega) hc)
          clear h1 h2
          have hne2 : ((⟨#[UInt8.ofNat c.toNat]⟩ : ByteArray) == ⟨#[]⟩) = false := by rfl
          go_enter Tryz.func57, Tryz.ntmps57
          go_wp2_with fail
          refine H.out.mono ?_
          rintro e W ⟨rfl, hb1⟩
          go_wp2_with fail
          refine (H2.out _).mono ?_
          rintro e W' ⟨rfl, hb2⟩
          go_wp2_with fail
          exact bodyPost_ret (results_tmp2 rfl _ _ _) rfl ⟨rfl, hb1.trans (hb2.mono hb1.size)⟩
      · have hp : kdOf (c :: r) = (0, 9) := by unfold isKd at h2; rw [kdOf, if_neg h1, if_neg (by omega)]
        rw [hp]
        have H := Lib.hid (isKind_no (c.toNat : Nat) w h2)
        clear h1 h2
        go_enter Tryz.func57, Tryz.ntmps57
        go_wp2_with fail
        refine H.out.mono ?_
        rintro e W ⟨rfl, hb1⟩
        go_wp2_with fail
        exact bodyPost_ret (results_tmp2 rfl _ _ _) rfl ⟨rfl, hb1⟩
end Go.Proofs.YtebjhbeaknokkaaGreatDoor
namespace Go.Proofs.YtebjhbeaknokkaaGreatDoor
open Go Go.RowKit Go.Lib Go.Shelf
attribute [local go_sem] Oper.semAt_some

theorem form_any (k g n v : Int) (st full : Bool) (ls : Value) (w : World) : Calls Tryz.prog 13 #[.agg #[.int .i64 k, .bool st, .int .u64 g, ls, .bool full, .int .u64 n, .int .u64 v]] w fun e w' =>
    e = .returned (.int .i64 (if full then if v = 0 then 1 else 2 else 0)) ∧ Below w.heap.size w w' := by
  have r1 : (w.alloc (.cells #[.int .i64 k, .bool st, .int .u64 g, ls, .bool full, .int .u64 n, .int .u64 v] 25)).heap[w.heap.size]? = some (.cells #[.int .i64 k, .bool st, .int .u64 g, ls, .bool full, .int .u64 n, .int .u64 v] 25 (0, 0)) := heap_alloc_new _ _
  have hb : Below w.heap.size w (w.alloc (.cells #[.int .i64 k, .bool st, .int .u64 g, ls, .bool full, .int .u64 n, .int .u64 v] 25)) := (Below.refl _ _).alloc (Nat.le_refl _) _
  cases full with
  | false =>
    go_enter Tryz.func13, Tryz.ntmps13
    go_wp2_with fail
    go_ret
    exact ⟨rfl, hb⟩
  | true =>
    by_cases hv : v = 0
    · subst hv
      go_enter Tryz.func13, Tryz.ntmps13
      go_wp2_with fail
      go_ret
      exact ⟨rfl, hb⟩
    · have hv1 : (v == 0) = false := by simpa using hv
      go_enter Tryz.func13, Tryz.ntmps13
      go_wp2_with fail
      go_ret
      exact ⟨by simp [], hb⟩
theorem as_nil (t : Value) (w : World) : Calls Tryz.prog 69 #[.nilIface, t] w fun e w' => e = .returned (.bool false) ∧ w' = w := by
  go_enter Tryz.func69, Tryz.ntmps69
  go_wp2_with fail
  go_ret
  exact ⟨rfl, rfl⟩
theorem numberOf_nil (w : World) : Calls Tryz.prog 35 #[.nilIface] w fun e w' => e = .returned (.int .i64 0) ∧ Below w.heap.size w w' := by
  have H := Lib.hid (fun (t : Value) (W : World) => as_nil t W)
  go_enter Tryz.func35, Tryz.ntmps35
  go_wp2_with (refine (H.out _ _).mono ?_; rintro e W ⟨rfl, rfl⟩)
  go_ret
  exact ⟨rfl, (Below.refl _ _).alloc (Nat.le_refl _) _⟩
end Go.Proofs.YtebjhbeaknokkaaGreatDoor
namespace Go.Proofs.YtebjhbeaknokkaaGreatDoor
open Go Go.RowKit Go.Lib Go.Extern.Stop Go.Stop Go.Extern

theorem rl_valueOf_p (t : Addr) (w : World) : (ReflectliteValue.unpack (.iface 106 (.pointer (some t)))).run Tryz.prog w
    = .ok (.agg #[.pointer (some ⟨4, 106, none⟩), .pointer (some ⟨w.heap.size, 0, none⟩), .int .u64 150]) (w.alloc (.cells #[.pointer (some t)] 106)) := by kernel_rfl
theorem rl_type_p (a : Addr) (w : World) : (ReflectliteValue.methodAny (ReflectliteValue.valueError "reflectlite.Value.Type" 0) (fun t _ _ _ => ReflectliteType.toType t) #[.agg #[.pointer (some ⟨4, 106, none⟩), .pointer (some a), .int .u64 150]]).run Tryz.prog w
    = .ok (.iface 238 (.agg #[.pointer (some ⟨4, 106, none⟩)])) w := by kernel_rfl
theorem rl_kind_p (w : World) : ((ReflectliteType.abiMethod fun t => (fun a : Nat => Value.int IntKind.u8 (a : Int)) <$> Rtype.kind t) #[.pointer (some ⟨4, 106, none⟩)]).run Tryz.prog w = .ok (.int .u8 22) w := by kernel_rfl
theorem rl_kind_e (w : World) : ((ReflectliteType.abiMethod fun t => (fun a : Nat => Value.int IntKind.u8 (a : Int)) <$> Rtype.kind t) #[.pointer (some ⟨4, 28, none⟩)]).run Tryz.prog w = .ok (.int .u8 2) w := by kernel_rfl
theorem rl_parts_p (a : Addr) (w : World) : (ReflectliteValue.parts (.agg #[.pointer (some ⟨4, 106, none⟩), .pointer (some a), .int .u64 150])).run Tryz.prog w = .ok (some (106, a, 150)) w := by kernel_rfl
theorem rl_method (z : Sem Value) (f : TypeId → Addr → Nat → Nat → Sem Value) (v : Value) :
    ReflectliteValue.method z f #[v] = (do match ← ReflectliteValue.parts v with | none => z | some (t, a, fl) => f t a fl (fl % 32)) := rfl
theorem rl_isNil_p (a p : Addr) (W : World) (ha : W.cell? a = some (.pointer (some p))) :
    (ReflectliteValue.method (ReflectliteValue.valueError "reflectlite.Value.IsNil" 0) ReflectliteValue.isNil #[.agg #[.pointer (some ⟨4, 106, none⟩), .pointer (some a), .int .u64 150]]).run Tryz.prog W = .ok (.bool false) W := by
  rw [rl_method]
  simp only [Sem.run_bind, rl_parts_p, Result.andThen]
  simp [ReflectliteValue.isNil, loadVar, isAgg, underlying, Tryz.underlying106, ha, Result.andThen]
theorem rl_elem_p (w : World) : (ReflectliteType.method ReflectliteType.elem #[.agg #[.pointer (some ⟨4, 106, none⟩)]]).run Tryz.prog w = .ok (.iface 238 (.agg #[.pointer (some ⟨4, 28, none⟩)])) w := by kernel_rfl
theorem rl_implements_e (w : World) : (ReflectliteType.relation "Implements" ReflectliteType.implements_ #[.agg #[.pointer (some ⟨4, 28, none⟩)], .iface 238 (.agg #[.pointer (some ⟨4, 60, none⟩)])]).run Tryz.prog w = .ok (.bool true) w := by kernel_rfl
theorem rl_typeOf_e (v : Value) (w : World) : (ReflectliteType.typeOf #[.iface 28 v]).run Tryz.prog w = .ok (.iface 238 (.agg #[.pointer (some ⟨4, 28, none⟩)])) w := by kernel_rfl
theorem rl_typeOf_f (v : Value) (w : World) : (ReflectliteType.typeOf #[.iface 137 v]).run Tryz.prog w = .ok (.iface 238 (.agg #[.pointer (some ⟨4, 137, none⟩)])) w := by kernel_rfl
theorem rl_assign_e (w : World) : (ReflectliteType.relation "AssignableTo" ReflectliteType.assignableTo #[.agg #[.pointer (some ⟨4, 28, none⟩)], .iface 238 (.agg #[.pointer (some ⟨4, 28, none⟩)])]).run Tryz.prog w = .ok (.bool true) w := by kernel_rfl
theorem rl_assign_f (w : World) : (ReflectliteType.relation "AssignableTo" ReflectliteType.assignableTo #[.agg #[.pointer (some ⟨4, 137, none⟩)], .iface 238 (.agg #[.pointer (some ⟨4, 28, none⟩)])]).run Tryz.prog w = .ok (.bool false) w := by kernel_rfl
theorem rl_valueOf_e (n : Int) (w : World) : (ReflectliteValue.unpack (.iface 28 (.int .i64 n))).run Tryz.prog w
    = .ok (.agg #[.pointer (some ⟨4, 28, none⟩), .pointer (some ⟨w.heap.size, 0, none⟩), .int .u64 130]) (w.alloc (.cells #[.int .i64 n] 28)) := by kernel_rfl
theorem rl_elemOf_p (w : World) : (Rtype.elem? 106).run Tryz.prog w = .ok (some 28) w := by kernel_rfl
theorem rl_mk_e (p : Addr) (w : World) : (ReflectliteValue.mk 28 p ReflectliteValue.flagAddr).run Tryz.prog w = .ok (.agg #[.pointer (some ⟨4, 28, none⟩), .pointer (some p), .int .u64 386]) w := by kernel_rfl
theorem rl_elemV_p (a p : Addr) (W : World) (ha : W.cell? a = some (.pointer (some p))) :
    (ReflectliteValue.method (ReflectliteValue.valueError "reflectlite.Value.Elem" 0) ReflectliteValue.elem #[.agg #[.pointer (some ⟨4, 106, none⟩), .pointer (some a), .int .u64 150]]).run Tryz.prog W
      = .ok (.agg #[.pointer (some ⟨4, 28, none⟩), .pointer (some p), .int .u64 386]) W := by
  rw [rl_method]
  simp only [Sem.run_bind, rl_parts_p, Result.andThen]
  simp [ReflectliteValue.elem, loadVar, isAgg, underlying, Tryz.underlying106, ha, Result.andThen, rl_elemOf_p, rl_mk_e]
theorem rl_parts_ea (a : Addr) (w : World) : (ReflectliteValue.parts (.agg #[.pointer (some ⟨4, 28, none⟩), .pointer (some a), .int .u64 386])).run Tryz.prog w = .ok (some (28, a, 386)) w := by kernel_rfl
theorem rl_parts_e (a : Addr) (w : World) : (ReflectliteValue.parts (.agg #[.pointer (some ⟨4, 28, none⟩), .pointer (some a), .int .u64 130])).run Tryz.prog w = .ok (some (28, a, 130)) w := by kernel_rfl
theorem rl_direct_e (w : World) : (Rtype.directlyAssignable 28 28).run Tryz.prog w = .ok true w := by kernel_rfl
theorem rl_set (v x : Value) : ReflectliteValue.set #[v, x] = (do
    let (some (dst, a, fl), some (src, b, _)) := (← ReflectliteValue.parts v, ← ReflectliteValue.parts x)
      | unsupported (.noEntry "extern/(internal/reflectlite.Value).Set.zeroValue")
    if fl / ReflectliteValue.flagAddr % 2 == 0 then unsupported (.noEntry "extern/(internal/reflectlite.Value).Set.unaddressable")
    let val ← loadVar src b
    if ← Rtype.directlyAssignable dst src then storeVar dst a val
    else if ← Rtype.implements dst src then
      if (← Rtype.kind src) == 20 then
        match val with
        | .nilIface => unsupported (.noEntry "extern/reflectlite: a nil value of one interface type handed on as a value of another")
        | _ => storeVar dst a val
      else storeVar dst a (.iface src val)
    else panicString ("reflectlite.Set: value of type " ++ (← Rtype.spelt src) ++ " is not assignable to type " ++ (← Rtype.spelt dst))
    pure (.tuple #[])) := rfl
theorem rl_set_e (ta b : Addr) (n : Int) (old : Value) (W : World) (hb : W.cell? b = some (.int .i64 n)) (ht : W.cell? ta = some old) (hf : W.frozen? ta = false) :
    (ReflectliteValue.set #[.agg #[.pointer (some ⟨4, 28, none⟩), .pointer (some ta), .int .u64 386], .agg #[.pointer (some ⟨4, 28, none⟩), .pointer (some b), .int .u64 130]]).run Tryz.prog W
      = .ok (.tuple #[]) (W.setCell ta (.int .i64 n)) := by
  rw [rl_set]
  simp only [Sem.run_bind, rl_parts_ea, rl_parts_e, Result.andThen]
  simp [ReflectliteValue.flagAddr, loadVar, isAgg, underlying, Tryz.underlying28, hb, Result.andThen, rl_direct_e, storeVar, Value.cells, storeCells, Addr.add]
  rw [run_store Tryz.prog W ta _ _ (by rfl)]
  simp [ht, hf]
end Go.Proofs.YtebjhbeaknokkaaGreatDoor
namespace Go.Proofs.YtebjhbeaknokkaaGreatDoor
open Go Go.RowKit Go.Lib Go.Extern.Stop Go.Stop Go.Extern
attribute [local go_sem] Oper.semAt_some

set_option maxRecDepth 100000 in
theorem unwrap_any (s : ByteArray) (n : Int) (w : World) : Calls Tryz.prog 310 #[.agg #[.string s, .int .i64 n]] w fun e w' => e = .returned (.iface 28 (.int .i64 n)) ∧ Below w.heap.size w w' := by
  have hb : Below w.heap.size w (w.alloc (.cells #[.string s, .int .i64 n] 137)) := (Below.refl _ _).alloc (Nat.le_refl _) _
  go_enter Tryz.func310, Tryz.ntmps310
  go_wp2_with fail
  go_ret
  exact ⟨rfl, hb⟩
theorem rl_mA (h : Value) (w : World) : (Go.method 456 238 (.agg #[h]) "AssignableTo").run Tryz.prog w = .ok (316, .agg #[h]) w := by kernel_rfl
theorem rl_mU (s : ByteArray) (n : Int) (w : World) : (Go.method 456 137 (.agg #[.string s, .int .i64 n]) "Unwrap").run Tryz.prog w = .ok (310, .agg #[.string s, .int .i64 n]) w := by kernel_rfl
theorem rl_ta_as (v : Value) (w : World) : (Instr.typeAssert (.iface 137 v) 60 243 true).run Tryz.prog w = .ok (.tuple #[.nilIface, .bool false]) w := run_typeAssert_lacksB Tryz.underlying243 (by kernel_rfl) (by kernel_rfl) v _ w
theorem rl_ta_un (v : Value) (w : World) : (Instr.typeAssert (.iface 137 v) 60 246 true).run Tryz.prog w = .ok (.tuple #[.iface 137 v, .bool true]) w := by kernel_rfl
theorem addr_lt {w : World} {p : Addr} {v : Value} (h : w.cell? p = some v) : p.block < w.heap.size := by
  rcases Nat.lt_or_ge p.block w.heap.size with h1 | h1
  · exact h1
  · simp [World.cell?, Array.getElem?_eq_none h1] at h
set_option maxRecDepth 100000 in
set_option maxHeartbeats 4000000 in
theorem as_rounds (s : ByteArray) (n : Int) (t q : Addr) (old : Value) (w : World) (hq : w.cell? q = some (.pointer (some t))) (ht : w.cell? t = some old) (hf : w.frozen? t = false) :
    Calls Tryz.prog 114 #[.iface 137 (.agg #[.string s, .int .i64 n]), .iface 106 (.pointer (some t)), .agg #[.pointer (some ⟨4, 106, none⟩), .pointer (some q), .int .u64 150], .iface 238 (.agg #[.pointer (some ⟨4, 28, none⟩)])] w
      fun e w' => e = .returned (.bool true) ∧ ∃ W, Below w.heap.size w W ∧ w' = W.setCell t (.int .i64 n) := by
  have h189 := @run_callFunc_extern Tryz.prog 186 _ ReflectliteType.typeOf Tryz.func186 (by kernel_rfl) (by kernel_rfl) (by kernel_rfl) (by kernel_rfl)
  have h319 := @run_callFunc_extern Tryz.prog 316 _ (ReflectliteType.relation "AssignableTo" ReflectliteType.assignableTo) Tryz.func316 (by kernel_rfl) (by kernel_rfl) (by kernel_rfl) (by kernel_rfl)
  have h190 := @run_callFunc_extern Tryz.prog 187 _ (ReflectliteValue.method (ReflectliteValue.valueError "reflectlite.Value.Elem" 0) ReflectliteValue.elem) Tryz.func187 (by kernel_rfl) (by kernel_rfl) (by kernel_rfl) (by kernel_rfl)
  have h114 := @run_callFunc_extern Tryz.prog 111 _ (fun args => ReflectliteValue.unpack (args.getD 0 (.tuple #[]))) Tryz.func111 (by kernel_rfl) (by kernel_rfl) (by kernel_rfl) (by kernel_rfl)
  have h191 := @run_callFunc_extern Tryz.prog 188 _ ReflectliteValue.set Tryz.func188 (by kernel_rfl) (by kernel_rfl) (by kernel_rfl) (by kernel_rfl)
  have tE := rl_typeOf_e
  have tF := rl_typeOf_f
  have aE := rl_assign_e
  have aF := rl_assign_f
  have vE := rl_valueOf_e
  have mA := rl_mA
  have mU := rl_mU
  have tA := rl_ta_as
  have tU := rl_ta_un
  have HU := Lib.hid (fun W => unwrap_any s n W)
  have hql := addr_lt hq
  have htl := addr_lt ht
  have r0 : (w.alloc (.cells #[.pointer (some ⟨4, 106, none⟩), .pointer (some q), .int .u64 150] 154)).heap[w.heap.size]? = some (.cells #[.pointer (some ⟨4, 106, none⟩), .pointer (some q), .int .u64 150] 154 (0, 0)) := heap_alloc_new _ _
  have hb0 : Below w.heap.size w (w.alloc (.cells #[.pointer (some ⟨4, 106, none⟩), .pointer (some q), .int .u64 150] 154)) := (Below.refl _ _).alloc (Nat.le_refl _) _
  obtain ⟨w0, hw0⟩ : ∃ w0, w.alloc (.cells #[.pointer (some ⟨4, 106, none⟩), .pointer (some q), .int .u64 150] 154) = w0 := ⟨_, rfl⟩
  have HW := Lib.hid hw0
  rw [hw0] at r0 hb0
  clear hw0
  go_enter Tryz.func114, Tryz.ntmps114
  go_wp2_with fail
  rw [HW.out]
  refine wp_loop_rounds 2 ?_
  rw [rounds_succ]
  go_wp2_with fail
  refine (HU.out _).mono ?_
  rintro e W ⟨rfl, hb⟩
  go_wp2_with fail
  have hq0 := (hb0.cell hql).trans hq
  have ht0 := (hb0.cell htl).trans ht
  have hf0 := (hb0.frozen htl).trans hf
  have hq1 := (hb.cell (Nat.lt_of_lt_of_le hql hb0.size)).trans hq0
  have ht1 := (hb.cell (Nat.lt_of_lt_of_le htl hb0.size)).trans ht0
  have hf1 := (hb.frozen (Nat.lt_of_lt_of_le htl hb0.size)).trans hf0
  have htW := addr_lt ht1
  have r1 := (hb.block _ (Array.getElem?_eq_some_iff.1 r0).1).trans r0
  have eV := rl_elemV_p q t W hq1
  have sV := rl_set_e t ⟨W.heap.size, 0, none⟩ n old (W.alloc (.cells #[.int .i64 n] 28)) (by rw [World.cell?_alloc_at _ _ _ _ (by simp)]; rfl) (by rw [World.cell?_alloc_lt _ _ t htW]; exact ht1) (by rw [World.frozen?_alloc_old _ _ t (Nat.ne_of_lt htW)]; exact hf1)
  have hbW : Below w.heap.size w (W.alloc (.cells #[.int .i64 n] 28)) := (hb0.trans (hb.mono hb0.size)).alloc (Nat.le_trans hb0.size hb.size) _
  clear hq0 ht0 hf0 hq1 ht1 hf1 htW hb hb0 hq ht hf hql htl mU tA tU tF aF HU
  rw [rounds_succ]
  go_wp2_with (refine wpList_load_row rfl _ _ rfl _ rfl _ _ (0, 0) _ r1 Tryz.underlying154 rfl (by kernel_rfl) ?_)
  go_ret
  exact ⟨rfl, _, hbW, rfl⟩
end Go.Proofs.YtebjhbeaknokkaaGreatDoor
namespace Go.Proofs.YtebjhbeaknokkaaGreatDoor
open Go Go.RowKit Go.Lib Go.Extern.Stop Go.Stop Go.Extern
attribute [local go_sem] Oper.semAt_some

theorem rl_mK (h : Value) (w : World) : (Go.method 456 238 (.agg #[h]) "Kind").run Tryz.prog w = .ok (304, h) w := by kernel_rfl
theorem rl_mE (h : Value) (w : World) : (Go.method 456 238 (.agg #[h]) "Elem").run Tryz.prog w = .ok (318, .agg #[h]) w := by kernel_rfl
theorem rl_mI (h : Value) (w : World) : (Go.method 456 238 (.agg #[h]) "Implements").run Tryz.prog w = .ok (319, .agg #[h]) w := by kernel_rfl
set_option maxRecDepth 100000 in
set_option maxHeartbeats 4000000 in
theorem as_fault (s : ByteArray) (n : Int) (t : Addr) (old : Value) (w : World) (hg : w.cell? ⟨0, 0, none⟩ = some (.iface 238 (.agg #[.pointer (some ⟨4, 60, none⟩)]))) (ht : w.cell? t = some old) (hf : w.frozen? t = false) :
    Calls Tryz.prog 69 #[.iface 137 (.agg #[.string s, .int .i64 n]), .iface 106 (.pointer (some t))] w fun e w' => e = .returned (.bool true) ∧ ∃ W, Below w.heap.size w W ∧ w' = W.setCell t (.int .i64 n) := by
  have h114 := @run_callFunc_extern Tryz.prog 111 _ (fun args => ReflectliteValue.unpack (args.getD 0 (.tuple #[]))) Tryz.func111 (by kernel_rfl) (by kernel_rfl) (by kernel_rfl) (by kernel_rfl)
  have h115 := @run_callFunc_extern Tryz.prog 112 _ (ReflectliteValue.methodAny (ReflectliteValue.valueError "reflectlite.Value.Type" 0) (fun t _ _ _ => ReflectliteType.toType t)) Tryz.func112 (by kernel_rfl) (by kernel_rfl) (by kernel_rfl) (by kernel_rfl)
  have h116 := @run_callFunc_extern Tryz.prog 113 _ (ReflectliteValue.method (ReflectliteValue.valueError "reflectlite.Value.IsNil" 0) ReflectliteValue.isNil) Tryz.func113 (by kernel_rfl) (by kernel_rfl) (by kernel_rfl) (by kernel_rfl)
  have h307 := @run_callFunc_extern Tryz.prog 304 _ (ReflectliteType.abiMethod fun t => do pure (.int .u8 (← Rtype.kind t))) Tryz.func304 (by kernel_rfl) (by kernel_rfl) (by kernel_rfl) (by kernel_rfl)
  have h321 := @run_callFunc_extern Tryz.prog 318 _ (ReflectliteType.method ReflectliteType.elem) Tryz.func318 (by kernel_rfl) (by kernel_rfl) (by kernel_rfl) (by kernel_rfl)
  have h322 := @run_callFunc_extern Tryz.prog 319 _ (ReflectliteType.relation "Implements" ReflectliteType.implements_) Tryz.func319 (by kernel_rfl) (by kernel_rfl) (by kernel_rfl) (by kernel_rfl)
  have f6 := rl_valueOf_p
  have f7 := rl_type_p
  have mK := rl_mK
  have mE := rl_mE
  have mI := rl_mI
  have k27 := rl_kind_p
  have k25 := rl_kind_e
  have e27 := rl_elem_p
  have i25 := rl_implements_e
  have hlt : 0 < w.heap.size := addr_lt hg
  have htl := addr_lt ht
  have n8 := rl_isNil_p ⟨w.heap.size, 0, none⟩ t ((w.alloc (.cells #[.pointer (some t)] 106)).alloc (.cells #[.pointer (some ⟨4, 106, none⟩), .pointer (some ⟨w.heap.size, 0, none⟩), .int .u64 150] 154)) (by simp)
  have hg2 : ((w.alloc (.cells #[.pointer (some t)] 106)).alloc (.cells #[.pointer (some ⟨4, 106, none⟩), .pointer (some ⟨w.heap.size, 0, none⟩), .int .u64 150] 154)).cell? ⟨0, 0, none⟩ = some (.iface 238 (.agg #[.pointer (some ⟨4, 60, none⟩)])) := by
    rw [World.cell?_alloc_lt _ _ ⟨0, 0, none⟩ (by simp), World.cell?_alloc_lt _ _ ⟨0, 0, none⟩ hlt]; exact hg
  have HS := Lib.hid (as_rounds s n t ⟨w.heap.size, 0, none⟩ old ((w.alloc (.cells #[.pointer (some t)] 106)).alloc (.cells #[.pointer (some ⟨4, 106, none⟩), .pointer (some ⟨w.heap.size, 0, none⟩), .int .u64 150] 154))
    (by simp) (by rw [World.cell?_alloc_lt _ _ t (by simp; omega), World.cell?_alloc_lt _ _ t htl]; exact ht) (by rw [World.frozen?_alloc_old _ _ t (by simp; omega), World.frozen?_alloc_old _ _ t (Nat.ne_of_lt htl)]; exact hf))
  have hb : Below w.heap.size w ((w.alloc (.cells #[.pointer (some t)] 106)).alloc (.cells #[.pointer (some ⟨4, 106, none⟩), .pointer (some ⟨w.heap.size, 0, none⟩), .int .u64 150] 154)) := ((Below.refl _ _).alloc (Nat.le_refl _) _).alloc (by simp) _
  go_enter Tryz.func69, Tryz.ntmps69
  go_wp2_with (refine HS.out.mono ?_; rintro e w1 ⟨rfl, W, hW, rfl⟩)
  go_ret
  exact ⟨rfl, W, hb.trans (hW.mono hb.size), rfl⟩
set_option maxRecDepth 100000 in
theorem numberOf_fault (s : ByteArray) (n : Int) (w : World) (hg : w.cell? ⟨0, 0, none⟩ = some (.iface 238 (.agg #[.pointer (some ⟨4, 60, none⟩)]))) :
    Calls Tryz.prog 35 #[.iface 137 (.agg #[.string s, .int .i64 n])] w fun e w' => e = .returned (.int .i64 n) ∧ Below w.heap.size w w' := by
  have hlt : 0 < w.heap.size := addr_lt hg
  have HA := Lib.hid (as_fault s n ⟨w.heap.size, 0, none⟩ (.int .i64 0) (w.alloc (.cells #[.int .i64 0] 28)) (by rw [World.cell?_alloc_lt _ _ ⟨0, 0, none⟩ hlt]; exact hg) (by simp) (by simp))
  have r1 : (w.alloc (.cells #[.int .i64 0] 28)).heap[w.heap.size]? = some (.cells #[.int .i64 0] 28 (0, 0)) := heap_alloc_new _ _
  have hb : Below w.heap.size w (w.alloc (.cells #[.int .i64 0] 28)) := (Below.refl _ _).alloc (Nat.le_refl _) _
  go_enter Tryz.func35, Tryz.ntmps35
  have c0 : (w.alloc (.cells #[.int .i64 0] 28)).cell? ⟨w.heap.size, 0, none⟩ = some (.int .i64 0) := by simp
  go_wp2_with (refine HA.out.mono ?_; rintro e w1 ⟨rfl, W, hW, rfl⟩; have c1 := (hW.cell (p := ⟨w.heap.size, 0, none⟩) (by simp)).trans c0)
  go_ret
  exact ⟨rfl, (hb.trans (hW.mono hb.size)).setCell (Nat.le_refl _) _⟩
end Go.Proofs.YtebjhbeaknokkaaGreatDoor
namespace Go.Proofs.YtebjhbeaknokkaaGreatDoor.M
open Go

/-- k bytes of a number, the lowest one first. -/
def le : Nat → Nat → List UInt8
  | 0, _ => []
  | k + 1, N => UInt8.ofNat (N % 256) :: le k (N / 256)
/-- What is read of at most 8 bytes: the number, and the error's. -/
def ub (l : List UInt8) : Nat × Nat := if 8 < l.length then (0, 5) else if Lib.hasPrefix l [0] then (0, 8) else (dg l, 0)
theorem dg_lt8 {l : List UInt8} (h : l.length ≤ 8) : dg l < 18446744073709551616 :=
  Nat.lt_of_lt_of_le (dg_lt l) (show 256 ^ l.length ≤ 256 ^ 8 from Nat.pow_le_pow_right (by omega) h)
theorem ub_lt (l : List UInt8) : (ub l).1 < 18446744073709551616 := by
  unfold ub
  split
  · simp
  · split
    · simp
    · exact dg_lt8 (by omega)
end Go.Proofs.YtebjhbeaknokkaaGreatDoor.M
namespace Go.Proofs.YtebjhbeaknokkaaGreatDoor.M

end Go.Proofs.YtebjhbeaknokkaaGreatDoor.M
namespace Go.Proofs.YtebjhbeaknokkaaGreatDoor.M

/-- How many digits there are from place i on, and what is wrong behind them. -/
def kc : Nat → List UInt8 → Nat × Nat
  | _, [] => (0, 3)
  | i, c :: r => if i = 9 ∧ 1 < c.toNat then (0, 5) else if 0 < i ∧ c.toNat = 0 then (0, 8) else if c.toNat < 128 then (1, 0) else ((kc (i + 1) r).1 + 1, (kc (i + 1) r).2)
end Go.Proofs.YtebjhbeaknokkaaGreatDoor.M
namespace Go.Proofs.YtebjhbeaknokkaaGreatDoor.M
open Go

theorem pre0' {l : List UInt8} (h : Lib.hasPrefix l [0] = false) : ∀ c r, l = c :: r → c ≠ 0 := by
  rintro c r rfl rfl
  simp [Lib.hasPrefix, List.isPrefixOf] at h

theorem be_ub {l : List UInt8} (h : (ub l).2 = 0) : tr (f32 (ub l).1) = l := by
  unfold ub at h ⊢
  by_cases h8 : 8 < l.length
  · rw [if_pos h8] at h; simp at h
  · rw [if_neg h8] at h ⊢
    by_cases hp : Lib.hasPrefix l [0] = true
    · rw [if_pos hp] at h; simp at h
    · rw [if_neg hp]
      show tr (f32 (dg l)) = l
      rw [← dg_zeros (32 - l.length) l, f32_dg (by simp; omega)]
      exact tr_zeros _ l (pre0' (by simpa using hp))

theorem ofNat_toNat {n : Nat} (h : n < 256) : (UInt8.ofNat n).toNat = n := by
  simp
  omega

end Go.Proofs.YtebjhbeaknokkaaGreatDoor.M
namespace Go.Proofs.YtebjhbeaknokkaaGreatDoor.M

end Go.Proofs.YtebjhbeaknokkaaGreatDoor.M
