/- Package receipt: a part that is read, or none. -/
import Derived.Test.YtihiacbhdcahkaaGreatDoorH14
namespace Go.Proofs.YtihiacbhdcahkaaGreatDoor
open Go Go.RowKit Go.Lib
attribute [local go_sem] Oper.semAt_some

/-- After a part: where e is 0 nothing of what was has turned, else the reader at block b holds the fault. -/
def RdPost (b : Nat) (part : ByteArray) (e : Nat) (w w' : World) : Prop :=
  (e = 0 ∧ Below w.heap.size w w') ∨ (e ≠ 0 ∧ ∃ W, Below w.heap.size w W ∧ w' = W.setCell ⟨b, 0, none⟩ (.iface 138 (.agg #[.string part, .int .i64 e])))
set_option maxRecDepth 100000 in
set_option maxHeartbeats 2000000 in
theorem read_int (b : Nat) (part : ByteArray) (x v : Value) (n : Nat) (g : FuncId) (caps : Array Value) (w : World) (hw : w.cell? ⟨b, 0, none⟩ = some .nilIface) (hfz : w.frozen? ⟨b, 0, none⟩ = false)
    (E1 : ∀ args W, (callFunc g args).run Tryz.prog W = .ok (.enter g args) W)
    (HG : Hid (Calls Tryz.prog g (#[x] ++ caps) w fun e w' => e = .returned (.tuple #[v, .int .i64 n]) ∧ Below w.heap.size w w')) :
    Calls Tryz.prog 59 #[.pointer (some ⟨b, 0, none⟩), .string part, x, .func (.func g) #[] caps] w fun e w' => e = .returned v ∧ RdPost b part n w w' := by
  have hbl := addr_lt hw
  by_cases hn : n = 0
  · subst hn
    go_enter Tryz.func59, Tryz.ntmps59
    go_wp2_with fail
    refine HG.out.mono ?_
    rintro e W ⟨rfl, hb⟩
    go_wp2_with fail
    go_ret
    exact ⟨rfl, .inl ⟨rfl, hb⟩⟩
  · have hn1 : ((n : Int) == 0) = false := by simp [hn]
    have hnx : ¬ (n : Int) = 0 := by omega
    go_enter Tryz.func59, Tryz.ntmps59
    go_wp2_with fail
    refine HG.out.mono ?_
    rintro e W ⟨rfl, hb⟩
    have hw1 := (hb.cell (p := ⟨b, 0, none⟩) hbl).trans hw
    have hf1 := (hb.frozen (p := ⟨b, 0, none⟩) hbl).trans hfz
    go_wp2_with fail
    go_ret
    exact ⟨rfl, .inr ⟨hn, W, hb, rfl⟩⟩
set_option maxRecDepth 100000 in
set_option maxHeartbeats 2000000 in
theorem readw_bool (b : Nat) (part s : ByteArray) (m : Int) (l : Bool) (d : List UInt8) (a : Option Addr) (k cap : Nat) (g : Value) (w : World) (hw : w.cell? ⟨b, 0, none⟩ = some (.iface 138 (.agg #[.string s, .int .i64 m]))) :
    Calls Tryz.prog 65 #[.pointer (some ⟨b, 0, none⟩), .string part, .agg #[.bool l, .string ⟨d.toArray⟩, .slice a k cap], g] w fun e w' => e = .returned (.bool false) ∧ Below w.heap.size w w' := by
  have hbl := addr_lt hw
  have hw0 : ∀ o, (w.alloc o).cell? ⟨b, 0, none⟩ = some (.iface 138 (.agg #[.string s, .int .i64 m])) := fun o => by rw [World.cell?_alloc_lt _ _ ⟨b, 0, none⟩ hbl]; exact hw
  have hb0 := (Below.refl w.heap.size w).alloc (Nat.le_refl _) (.cells #[.bool l, .string ⟨d.toArray⟩, .slice a k cap] 45)
  go_enter Tryz.func65, Tryz.ntmps65
  go_wp2_with fail
  go_ret
  exact ⟨rfl, hb0⟩
set_option maxRecDepth 100000 in
set_option maxHeartbeats 2000000 in
theorem read_bool (b : Nat) (part : ByteArray) (l : Bool) (d : List UInt8) (a : Option Addr) (k cap : Nat) (v : Value) (n : Nat) (g : FuncId) (caps : Array Value) (w : World) (hw : w.cell? ⟨b, 0, none⟩ = some .nilIface) (hfz : w.frozen? ⟨b, 0, none⟩ = false)
    (E1 : ∀ args W, (callFunc g args).run Tryz.prog W = .ok (.enter g args) W)
    (HG : Hid (∀ W, Below w.heap.size w W → Calls Tryz.prog g (#[.agg #[.bool l, .string ⟨d.toArray⟩, .slice a k cap]] ++ caps) W fun e w' => e = .returned (.tuple #[v, .int .i64 n]) ∧ Below W.heap.size W w')) :
    Calls Tryz.prog 65 #[.pointer (some ⟨b, 0, none⟩), .string part, .agg #[.bool l, .string ⟨d.toArray⟩, .slice a k cap], .func (.func g) #[] caps] w fun e w' => e = .returned v ∧ RdPost b part n w w' := by
  have hbl := addr_lt hw
  have hw0 : ∀ o, (w.alloc o).cell? ⟨b, 0, none⟩ = some .nilIface := fun o => by rw [World.cell?_alloc_lt _ _ ⟨b, 0, none⟩ hbl]; exact hw
  have hb0 := (Below.refl w.heap.size w).alloc (Nat.le_refl _) (.cells #[.bool l, .string ⟨d.toArray⟩, .slice a k cap] 45)
  by_cases hn : n = 0
  · subst hn
    go_enter Tryz.func65, Tryz.ntmps65
    go_wp2_with fail
    refine (HG.out _ hb0).mono ?_
    rintro e W ⟨rfl, hb⟩
    go_wp2_with fail
    go_ret
    exact ⟨rfl, .inl ⟨rfl, hb0.trans (hb.mono hb0.size)⟩⟩
  · have hn1 : ((n : Int) == 0) = false := by simp [hn]
    have hnx : ¬ (n : Int) = 0 := by omega
    go_enter Tryz.func65, Tryz.ntmps65
    go_wp2_with fail
    refine (HG.out _ hb0).mono ?_
    rintro e W ⟨rfl, hb⟩
    have hbb := hb0.trans (hb.mono hb0.size)
    have hw1 := (hbb.cell (p := ⟨b, 0, none⟩) hbl).trans hw
    have hf1 := (hbb.frozen (p := ⟨b, 0, none⟩) hbl).trans hfz
    clear hb
    go_wp2_with fail
    go_ret
    exact ⟨rfl, .inr ⟨hn, W, hbb, rfl⟩⟩
set_option maxRecDepth 100000 in
set_option maxHeartbeats 2000000 in
theorem readw_u64 (b : Nat) (part s : ByteArray) (m : Int) (l : Bool) (d : List UInt8) (a : Option Addr) (k cap : Nat) (g : Value) (w : World) (hw : w.cell? ⟨b, 0, none⟩ = some (.iface 138 (.agg #[.string s, .int .i64 m]))) :
    Calls Tryz.prog 67 #[.pointer (some ⟨b, 0, none⟩), .string part, .agg #[.bool l, .string ⟨d.toArray⟩, .slice a k cap], g] w fun e w' => e = .returned (.int .u64 0) ∧ Below w.heap.size w w' := by
  have hbl := addr_lt hw
  have hw0 : ∀ o, (w.alloc o).cell? ⟨b, 0, none⟩ = some (.iface 138 (.agg #[.string s, .int .i64 m])) := fun o => by rw [World.cell?_alloc_lt _ _ ⟨b, 0, none⟩ hbl]; exact hw
  have hb0 := (Below.refl w.heap.size w).alloc (Nat.le_refl _) (.cells #[.bool l, .string ⟨d.toArray⟩, .slice a k cap] 45)
  go_enter Tryz.func67, Tryz.ntmps67
  go_wp2_with fail
  go_ret
  exact ⟨rfl, hb0⟩
set_option maxRecDepth 100000 in
set_option maxHeartbeats 2000000 in
theorem read_u64 (b : Nat) (part : ByteArray) (l : Bool) (d : List UInt8) (a : Option Addr) (k cap : Nat) (v : Value) (n : Nat) (g : FuncId) (caps : Array Value) (w : World) (hw : w.cell? ⟨b, 0, none⟩ = some .nilIface) (hfz : w.frozen? ⟨b, 0, none⟩ = false)
    (E1 : ∀ args W, (callFunc g args).run Tryz.prog W = .ok (.enter g args) W)
    (HG : Hid (∀ W, Below w.heap.size w W → Calls Tryz.prog g (#[.agg #[.bool l, .string ⟨d.toArray⟩, .slice a k cap]] ++ caps) W fun e w' => e = .returned (.tuple #[v, .int .i64 n]) ∧ Below W.heap.size W w')) :
    Calls Tryz.prog 67 #[.pointer (some ⟨b, 0, none⟩), .string part, .agg #[.bool l, .string ⟨d.toArray⟩, .slice a k cap], .func (.func g) #[] caps] w fun e w' => e = .returned v ∧ RdPost b part n w w' := by
  have hbl := addr_lt hw
  have hw0 : ∀ o, (w.alloc o).cell? ⟨b, 0, none⟩ = some .nilIface := fun o => by rw [World.cell?_alloc_lt _ _ ⟨b, 0, none⟩ hbl]; exact hw
  have hb0 := (Below.refl w.heap.size w).alloc (Nat.le_refl _) (.cells #[.bool l, .string ⟨d.toArray⟩, .slice a k cap] 45)
  by_cases hn : n = 0
  · subst hn
    go_enter Tryz.func67, Tryz.ntmps67
    go_wp2_with fail
    refine (HG.out _ hb0).mono ?_
    rintro e W ⟨rfl, hb⟩
    go_wp2_with fail
    go_ret
    exact ⟨rfl, .inl ⟨rfl, hb0.trans (hb.mono hb0.size)⟩⟩
  · have hn1 : ((n : Int) == 0) = false := by simp [hn]
    have hnx : ¬ (n : Int) = 0 := by omega
    go_enter Tryz.func67, Tryz.ntmps67
    go_wp2_with fail
    refine (HG.out _ hb0).mono ?_
    rintro e W ⟨rfl, hb⟩
    have hbb := hb0.trans (hb.mono hb0.size)
    have hw1 := (hbb.cell (p := ⟨b, 0, none⟩) hbl).trans hw
    have hf1 := (hbb.frozen (p := ⟨b, 0, none⟩) hbl).trans hfz
    clear hb
    go_wp2_with fail
    go_ret
    exact ⟨rfl, .inr ⟨hn, W, hbb, rfl⟩⟩
set_option maxRecDepth 100000 in
set_option maxHeartbeats 2000000 in
theorem readw_str (b : Nat) (part s : ByteArray) (m : Int) (l : Bool) (d : List UInt8) (a : Option Addr) (k cap : Nat) (g : Value) (w : World) (hw : w.cell? ⟨b, 0, none⟩ = some (.iface 138 (.agg #[.string s, .int .i64 m]))) :
    Calls Tryz.prog 109 #[.pointer (some ⟨b, 0, none⟩), .string part, .agg #[.bool l, .string ⟨d.toArray⟩, .slice a k cap], g] w fun e w' => e = .returned (.string ⟨#[]⟩) ∧ Below w.heap.size w w' := by
  have hbl := addr_lt hw
  have hw0 : ∀ o, (w.alloc o).cell? ⟨b, 0, none⟩ = some (.iface 138 (.agg #[.string s, .int .i64 m])) := fun o => by rw [World.cell?_alloc_lt _ _ ⟨b, 0, none⟩ hbl]; exact hw
  have hb0 := (Below.refl w.heap.size w).alloc (Nat.le_refl _) (.cells #[.bool l, .string ⟨d.toArray⟩, .slice a k cap] 45)
  go_enter Tryz.func109, Tryz.ntmps109
  go_wp2_with fail
  go_ret
  exact ⟨rfl, hb0⟩
set_option maxRecDepth 100000 in
set_option maxHeartbeats 2000000 in
theorem read_str (b : Nat) (part : ByteArray) (l : Bool) (d : List UInt8) (a : Option Addr) (k cap : Nat) (v : Value) (n : Nat) (g : FuncId) (caps : Array Value) (w : World) (hw : w.cell? ⟨b, 0, none⟩ = some .nilIface) (hfz : w.frozen? ⟨b, 0, none⟩ = false)
    (E1 : ∀ args W, (callFunc g args).run Tryz.prog W = .ok (.enter g args) W)
    (HG : Hid (∀ W, Below w.heap.size w W → Calls Tryz.prog g (#[.agg #[.bool l, .string ⟨d.toArray⟩, .slice a k cap]] ++ caps) W fun e w' => e = .returned (.tuple #[v, .int .i64 n]) ∧ Below W.heap.size W w')) :
    Calls Tryz.prog 109 #[.pointer (some ⟨b, 0, none⟩), .string part, .agg #[.bool l, .string ⟨d.toArray⟩, .slice a k cap], .func (.func g) #[] caps] w fun e w' => e = .returned v ∧ RdPost b part n w w' := by
  have hbl := addr_lt hw
  have hw0 : ∀ o, (w.alloc o).cell? ⟨b, 0, none⟩ = some .nilIface := fun o => by rw [World.cell?_alloc_lt _ _ ⟨b, 0, none⟩ hbl]; exact hw
  have hb0 := (Below.refl w.heap.size w).alloc (Nat.le_refl _) (.cells #[.bool l, .string ⟨d.toArray⟩, .slice a k cap] 45)
  by_cases hn : n = 0
  · subst hn
    go_enter Tryz.func109, Tryz.ntmps109
    go_wp2_with fail
    refine (HG.out _ hb0).mono ?_
    rintro e W ⟨rfl, hb⟩
    go_wp2_with fail
    go_ret
    exact ⟨rfl, .inl ⟨rfl, hb0.trans (hb.mono hb0.size)⟩⟩
  · have hn1 : ((n : Int) == 0) = false := by simp [hn]
    have hnx : ¬ (n : Int) = 0 := by omega
    go_enter Tryz.func109, Tryz.ntmps109
    go_wp2_with fail
    refine (HG.out _ hb0).mono ?_
    rintro e W ⟨rfl, hb⟩
    have hbb := hb0.trans (hb.mono hb0.size)
    have hw1 := (hbb.cell (p := ⟨b, 0, none⟩) hbl).trans hw
    have hf1 := (hbb.frozen (p := ⟨b, 0, none⟩) hbl).trans hfz
    clear hb
    go_wp2_with fail
    go_ret
    exact ⟨rfl, .inr ⟨hn, W, hbb, rfl⟩⟩
set_option maxRecDepth 100000 in
set_option maxHeartbeats 2000000 in
theorem readw_list (b : Nat) (part s : ByteArray) (m : Int) (l : Bool) (d : List UInt8) (a : Option Addr) (k cap : Nat) (g : Value) (w : World) (hw : w.cell? ⟨b, 0, none⟩ = some (.iface 138 (.agg #[.string s, .int .i64 m]))) :
    Calls Tryz.prog 102 #[.pointer (some ⟨b, 0, none⟩), .string part, .agg #[.bool l, .string ⟨d.toArray⟩, .slice a k cap], g] w fun e w' => e = .returned (.slice none 0 0) ∧ Below w.heap.size w w' := by
  have hbl := addr_lt hw
  have hw0 : ∀ o, (w.alloc o).cell? ⟨b, 0, none⟩ = some (.iface 138 (.agg #[.string s, .int .i64 m])) := fun o => by rw [World.cell?_alloc_lt _ _ ⟨b, 0, none⟩ hbl]; exact hw
  have hb0 := (Below.refl w.heap.size w).alloc (Nat.le_refl _) (.cells #[.bool l, .string ⟨d.toArray⟩, .slice a k cap] 45)
  go_enter Tryz.func102, Tryz.ntmps102
  go_wp2_with fail
  go_ret
  exact ⟨rfl, hb0⟩
end Go.Proofs.YtihiacbhdcahkaaGreatDoor
