/- errors.As at a target of type *api.Errno: a fault is read as the number that it wraps. numberOf: the number that a fault wraps. Plain arithmetic: numbers and their bytes, the lowest one first; a number's bytes without zeros ahead, as bytes of 64 bits. Plain arithmetic: how many digits a number has. Plain arithmetic: what is read of digits by 128. -/
import Derived.Test.YtihiacbhdcahkaaGreatDoorTXHg
import Derived.Test.YtihiacbhdcahkaaGreatDoorH01
import Derived.Lib.Strings
namespace Go.Proofs.YtihiacbhdcahkaaGreatDoor
open Go Go.RowKit Go.Lib Go.Extern.Stop Go.Stop Go.Extern
attribute [local go_sem] Oper.semAt_some

set_option maxRecDepth 100000 in
theorem unwrap_any (s : ByteArray) (n : Int) (w : World) : Calls Tryz.prog 313 #[.agg #[.string s, .int .i64 n]] w fun e w' => e = .returned (.iface 28 (.int .i64 n)) ∧ Below w.heap.size w w' := by
  have hb : Below w.heap.size w (w.alloc (.cells #[.string s, .int .i64 n] 138)) := (Below.refl _ _).alloc (Nat.le_refl _) _
  go_enter Tryz.func313, Tryz.ntmps313
  go_wp2_with fail
  go_ret
  exact ⟨rfl, hb⟩
theorem rl_mA (h : Value) (w : World) : (Go.method 457 239 (.agg #[h]) "AssignableTo").run Tryz.prog w = .ok (319, .agg #[h]) w := by kernel_rfl
theorem rl_mU (s : ByteArray) (n : Int) (w : World) : (Go.method 457 138 (.agg #[.string s, .int .i64 n]) "Unwrap").run Tryz.prog w = .ok (313, .agg #[.string s, .int .i64 n]) w := by kernel_rfl
theorem rl_ta_as (v : Value) (w : World) : (Instr.typeAssert (.iface 138 v) 61 244 true).run Tryz.prog w = .ok (.tuple #[.nilIface, .bool false]) w := run_typeAssert_lacksB Tryz.underlying244 (by kernel_rfl) (by kernel_rfl) v _ w
theorem rl_ta_un (v : Value) (w : World) : (Instr.typeAssert (.iface 138 v) 61 247 true).run Tryz.prog w = .ok (.tuple #[.iface 138 v, .bool true]) w := by kernel_rfl
theorem addr_lt {w : World} {p : Addr} {v : Value} (h : w.cell? p = some v) : p.block < w.heap.size := by
  rcases Nat.lt_or_ge p.block w.heap.size with h1 | h1
  · exact h1
  · simp [World.cell?, Array.getElem?_eq_none h1] at h
set_option maxRecDepth 100000 in
set_option maxHeartbeats 4000000 in
theorem as_rounds (s : ByteArray) (n : Int) (t q : Addr) (old : Value) (w : World) (hq : w.cell? q = some (.pointer (some t))) (ht : w.cell? t = some old) (hf : w.frozen? t = false) :
    Calls Tryz.prog 117 #[.iface 138 (.agg #[.string s, .int .i64 n]), .iface 107 (.pointer (some t)), .agg #[.pointer (some ⟨4, 107, none⟩), .pointer (some q), .int .u64 150], .iface 239 (.agg #[.pointer (some ⟨4, 28, none⟩)])] w
      fun e w' => e = .returned (.bool true) ∧ ∃ W, Below w.heap.size w W ∧ w' = W.setCell t (.int .i64 n) := by
  have h189 := @run_callFunc_extern Tryz.prog 189 _ ReflectliteType.typeOf Tryz.func189 (by kernel_rfl) (by kernel_rfl) (by kernel_rfl) (by kernel_rfl)
  have h319 := @run_callFunc_extern Tryz.prog 319 _ (ReflectliteType.relation "AssignableTo" ReflectliteType.assignableTo) Tryz.func319 (by kernel_rfl) (by kernel_rfl) (by kernel_rfl) (by kernel_rfl)
  have h190 := @run_callFunc_extern Tryz.prog 190 _ (ReflectliteValue.method (ReflectliteValue.valueError "reflectlite.Value.Elem" 0) ReflectliteValue.elem) Tryz.func190 (by kernel_rfl) (by kernel_rfl) (by kernel_rfl) (by kernel_rfl)
  have h114 := @run_callFunc_extern Tryz.prog 114 _ (fun args => ReflectliteValue.unpack (args.getD 0 (.tuple #[]))) Tryz.func114 (by kernel_rfl) (by kernel_rfl) (by kernel_rfl) (by kernel_rfl)
  have h191 := @run_callFunc_extern Tryz.prog 191 _ ReflectliteValue.set Tryz.func191 (by kernel_rfl) (by kernel_rfl) (by kernel_rfl) (by kernel_rfl)
  have tE := rl_typeOf_e
  have tF := rl_typeOf_f
  have aE := rl_assign_e
  have aF := rl_assign_f
  have vE := rl_valueOf_e
  have mA := rl_mA
  have mU := rl_mU
  have tA := rl_ta_as
  have tU := rl_ta_un
  have HU := Lib.hid (fun W => unwrap_any s n W)
  have hql := addr_lt hq
  have htl := addr_lt ht
  have r0 : (w.alloc (.cells #[.pointer (some ⟨4, 107, none⟩), .pointer (some q), .int .u64 150] 155)).heap[w.heap.size]? = some (.cells #[.pointer (some ⟨4, 107, none⟩), .pointer (some q), .int .u64 150] 155 (0, 0)) := heap_alloc_new _ _
  have hb0 : Below w.heap.size w (w.alloc (.cells #[.pointer (some ⟨4, 107, none⟩), .pointer (some q), .int .u64 150] 155)) := (Below.refl _ _).alloc (Nat.le_refl _) _
  obtain ⟨w0, hw0⟩ : ∃ w0, w.alloc (.cells #[.pointer (some ⟨4, 107, none⟩), .pointer (some q), .int .u64 150] 155) = w0 := ⟨_, rfl⟩
  have HW := Lib.hid hw0
  rw [hw0] at r0 hb0
  clear hw0
  go_enter Tryz.func117, Tryz.ntmps117
  go_wp2_with fail
  rw [HW.out]
  refine wp_loop_rounds 2 ?_
  rw [rounds_succ]
  go_wp2_with fail
  refine (HU.out _).mono ?_
  rintro e W ⟨rfl, hb⟩
  go_wp2_with fail
  have hq0 := (hb0.cell hql).trans hq
  have ht0 := (hb0.cell htl).trans ht
  have hf0 := (hb0.frozen htl).trans hf
  have hq1 := (hb.cell (Nat.lt_of_lt_of_le hql hb0.size)).trans hq0
  have ht1 := (hb.cell (Nat.lt_of_lt_of_le htl hb0.size)).trans ht0
  have hf1 := (hb.frozen (Nat.lt_of_lt_of_le htl hb0.size)).trans hf0
  have htW := addr_lt ht1
  have r1 := (hb.block _ (Array.getElem?_eq_some_iff.1 r0).1).trans r0
  have eV := rl_elemV_p q t W hq1
  have sV := rl_set_e t ⟨W.heap.size, 0, none⟩ n old (W.alloc (.cells #[.int .i64 n] 28)) (by rw [World.cell?_alloc_at _ _ _ _ (by simp)]; rfl) (by rw [World.cell?_alloc_lt _ _ t htW]; exact ht1) (by rw [World.frozen?_alloc_old _ _ t (Nat.ne_of_lt htW)]; exact hf1)
  have hbW : Below w.heap.size w (W.alloc (.cells #[.int .i64 n] 28)) := (hb0.trans (hb.mono hb0.size)).alloc (Nat.le_trans hb0.size hb.size) _
  clear hq0 ht0 hf0 hq1 ht1 hf1 htW hb hb0 hq ht hf hql htl mU tA tU tF aF HU
  rw [rounds_succ]
  go_wp2_with (refine wpList_load_row rfl _ _ rfl _ rfl _ _ (0, 0) _ r1 Tryz.underlying155 rfl (by kernel_rfl) ?_)
  go_ret
  exact ⟨rfl, _, hbW, rfl⟩
end Go.Proofs.YtihiacbhdcahkaaGreatDoor
namespace Go.Proofs.YtihiacbhdcahkaaGreatDoor
open Go Go.RowKit Go.Lib Go.Extern.Stop Go.Stop Go.Extern
attribute [local go_sem] Oper.semAt_some

theorem rl_mK (h : Value) (w : World) : (Go.method 457 239 (.agg #[h]) "Kind").run Tryz.prog w = .ok (307, h) w := by kernel_rfl
theorem rl_mE (h : Value) (w : World) : (Go.method 457 239 (.agg #[h]) "Elem").run Tryz.prog w = .ok (321, .agg #[h]) w := by kernel_rfl
theorem rl_mI (h : Value) (w : World) : (Go.method 457 239 (.agg #[h]) "Implements").run Tryz.prog w = .ok (322, .agg #[h]) w := by kernel_rfl
set_option maxRecDepth 100000 in
set_option maxHeartbeats 4000000 in
theorem as_fault (s : ByteArray) (n : Int) (t : Addr) (old : Value) (w : World) (hg : w.cell? ⟨0, 0, none⟩ = some (.iface 239 (.agg #[.pointer (some ⟨4, 61, none⟩)]))) (ht : w.cell? t = some old) (hf : w.frozen? t = false) :
    Calls Tryz.prog 72 #[.iface 138 (.agg #[.string s, .int .i64 n]), .iface 107 (.pointer (some t))] w fun e w' => e = .returned (.bool true) ∧ ∃ W, Below w.heap.size w W ∧ w' = W.setCell t (.int .i64 n) := by
  have h114 := @run_callFunc_extern Tryz.prog 114 _ (fun args => ReflectliteValue.unpack (args.getD 0 (.tuple #[]))) Tryz.func114 (by kernel_rfl) (by kernel_rfl) (by kernel_rfl) (by kernel_rfl)
  have h115 := @run_callFunc_extern Tryz.prog 115 _ (ReflectliteValue.methodAny (ReflectliteValue.valueError "reflectlite.Value.Type" 0) (fun t _ _ _ => ReflectliteType.toType t)) Tryz.func115 (by kernel_rfl) (by kernel_rfl) (by kernel_rfl) (by kernel_rfl)
  have h116 := @run_callFunc_extern Tryz.prog 116 _ (ReflectliteValue.method (ReflectliteValue.valueError "reflectlite.Value.IsNil" 0) ReflectliteValue.isNil) Tryz.func116 (by kernel_rfl) (by kernel_rfl) (by kernel_rfl) (by kernel_rfl)
  have h307 := @run_callFunc_extern Tryz.prog 307 _ (ReflectliteType.abiMethod fun t => do pure (.int .u8 (← Rtype.kind t))) Tryz.func307 (by kernel_rfl) (by kernel_rfl) (by kernel_rfl) (by kernel_rfl)
  have h321 := @run_callFunc_extern Tryz.prog 321 _ (ReflectliteType.method ReflectliteType.elem) Tryz.func321 (by kernel_rfl) (by kernel_rfl) (by kernel_rfl) (by kernel_rfl)
  have h322 := @run_callFunc_extern Tryz.prog 322 _ (ReflectliteType.relation "Implements" ReflectliteType.implements_) Tryz.func322 (by kernel_rfl) (by kernel_rfl) (by kernel_rfl) (by kernel_rfl)
  have f6 := rl_valueOf_p
  have f7 := rl_type_p
  have mK := rl_mK
  have mE := rl_mE
  have mI := rl_mI
  have k27 := rl_kind_p
  have k25 := rl_kind_e
  have e27 := rl_elem_p
  have i25 := rl_implements_e
  have hlt : 0 < w.heap.size := addr_lt hg
  have htl := addr_lt ht
  have n8 := rl_isNil_p ⟨w.heap.size, 0, none⟩ t ((w.alloc (.cells #[.pointer (some t)] 107)).alloc (.cells #[.pointer (some ⟨4, 107, none⟩), .pointer (some ⟨w.heap.size, 0, none⟩), .int .u64 150] 155)) (by simp)
  have hg2 : ((w.alloc (.cells #[.pointer (some t)] 107)).alloc (.cells #[.pointer (some ⟨4, 107, none⟩), .pointer (some ⟨w.heap.size, 0, none⟩), .int .u64 150] 155)).cell? ⟨0, 0, none⟩ = some (.iface 239 (.agg #[.pointer (some ⟨4, 61, none⟩)])) := by
    rw [World.cell?_alloc_lt _ _ ⟨0, 0, none⟩ (by simp), World.cell?_alloc_lt _ _ ⟨0, 0, none⟩ hlt]; exact hg
  have HS := Lib.hid (as_rounds s n t ⟨w.heap.size, 0, none⟩ old ((w.alloc (.cells #[.pointer (some t)] 107)).alloc (.cells #[.pointer (some ⟨4, 107, none⟩), .pointer (some ⟨w.heap.size, 0, none⟩), .int .u64 150] 155))
    (by simp) (by rw [World.cell?_alloc_lt _ _ t (by simp; omega), World.cell?_alloc_lt _ _ t htl]; exact ht) (by rw [World.frozen?_alloc_old _ _ t (by simp; omega), World.frozen?_alloc_old _ _ t (Nat.ne_of_lt htl)]; exact hf))
  have hb : Below w.heap.size w ((w.alloc (.cells #[.pointer (some t)] 107)).alloc (.cells #[.pointer (some ⟨4, 107, none⟩), .pointer (some ⟨w.heap.size, 0, none⟩), .int .u64 150] 155)) := ((Below.refl _ _).alloc (Nat.le_refl _) _).alloc (by simp) _
  go_enter Tryz.func72, Tryz.ntmps72
  go_wp2_with (refine HS.out.mono ?_; rintro e w1 ⟨rfl, W, hW, rfl⟩)
  go_ret
  exact ⟨rfl, W, hb.trans (hW.mono hb.size), rfl⟩
set_option maxRecDepth 100000 in
theorem numberOf_fault (s : ByteArray) (n : Int) (w : World) (hg : w.cell? ⟨0, 0, none⟩ = some (.iface 239 (.agg #[.pointer (some ⟨4, 61, none⟩)]))) :
    Calls Tryz.prog 38 #[.iface 138 (.agg #[.string s, .int .i64 n])] w fun e w' => e = .returned (.int .i64 n) ∧ Below w.heap.size w w' := by
  have hlt : 0 < w.heap.size := addr_lt hg
  have HA := Lib.hid (as_fault s n ⟨w.heap.size, 0, none⟩ (.int .i64 0) (w.alloc (.cells #[.int .i64 0] 28)) (by rw [World.cell?_alloc_lt _ _ ⟨0, 0, none⟩ hlt]; exact hg) (by simp) (by simp))
  have r1 : (w.alloc (.cells #[.int .i64 0] 28)).heap[w.heap.size]? = some (.cells #[.int .i64 0] 28 (0, 0)) := heap_alloc_new _ _
  have hb : Below w.heap.size w (w.alloc (.cells #[.int .i64 0] 28)) := (Below.refl _ _).alloc (Nat.le_refl _) _
  go_enter Tryz.func38, Tryz.ntmps38
  have c0 : (w.alloc (.cells #[.int .i64 0] 28)).cell? ⟨w.heap.size, 0, none⟩ = some (.int .i64 0) := by simp
  go_wp2_with (refine HA.out.mono ?_; rintro e w1 ⟨rfl, W, hW, rfl⟩; have c1 := (hW.cell (p := ⟨w.heap.size, 0, none⟩) (by simp)).trans c0)
  go_ret
  exact ⟨rfl, (hb.trans (hW.mono hb.size)).setCell (Nat.le_refl _) _⟩
end Go.Proofs.YtihiacbhdcahkaaGreatDoor
namespace Go.Proofs.YtihiacbhdcahkaaGreatDoor.M
open Go

/-- k bytes of a number, the lowest one first. -/
def le : Nat → Nat → List UInt8
  | 0, _ => []
  | k + 1, N => UInt8.ofNat (N % 256) :: le k (N / 256)
/-- What is read of at most 8 bytes: the number, and the error's. -/
def ub (l : List UInt8) : Nat × Nat := if 8 < l.length then (0, 5) else if Lib.hasPrefix l [0] then (0, 8) else (dg l, 0)
theorem dg_lt8 {l : List UInt8} (h : l.length ≤ 8) : dg l < 18446744073709551616 :=
  Nat.lt_of_lt_of_le (dg_lt l) (show 256 ^ l.length ≤ 256 ^ 8 from Nat.pow_le_pow_right (by omega) h)
theorem ub_lt (l : List UInt8) : (ub l).1 < 18446744073709551616 := by
  unfold ub
  split
  · simp
  · split
    · simp
    · exact dg_lt8 (by omega)
end Go.Proofs.YtihiacbhdcahkaaGreatDoor.M
namespace Go.Proofs.YtihiacbhdcahkaaGreatDoor.M

end Go.Proofs.YtihiacbhdcahkaaGreatDoor.M
namespace Go.Proofs.YtihiacbhdcahkaaGreatDoor.M

end Go.Proofs.YtihiacbhdcahkaaGreatDoor.M
