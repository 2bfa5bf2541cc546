/- Package receipt: what is read of one item. Package receipt: a part that is read, or none. Receipts, plainly and in memory. Package receipt: whether a log is one, whether it is too long; in rows of them. Package receipt: Check. Rows of items that a call makes by appending: what they lead to lies in the call's own blocks. The landed package field: items copied. The landed package field: copied, of items that are bytes; List, GetList. -/
import Derived.Test.YtebjhbeaknokkaaGreatDoorH05
import Derived.Test.YtebjhbeaknokkaaGreatDoorH07
import Derived.Test.YtebjhbeaknokkaaGreatDoorH06
import Derived.Shelf.Abstract
import Derived.Test.YtebjhbeaknokkaaGreatDoorH01
import Derived.Laws.AppendOwn
import Derived.Lib.SliceRun
namespace Go.Proofs.YtebjhbeaknokkaaGreatDoor
open Go Go.RowKit Go.Lib
attribute [local go_sem] Oper.semAt_some

theorem Rd.kept {w W : World} {l : Bool} {d : List UInt8} {xs : List M.It} {a : Option Addr} {cap : Nat} (h : Rd w l d xs a cap) (hb : Below w.heap.size w W) : Rd W l d xs a cap := ⟨(h.1.from_ hb).mono hb.size, h.2⟩
/-- Text of one length, or of no form. -/
def rText (n : Int) (x : M.It) : List UInt8 × Nat := if (M.getText n n x).2 = 0 then ((M.getText n n x).1, 0) else ([], 2)
/-- A version that is told. -/
def rVersion (x : M.It) : Nat × Nat := if (M.getNumber x).2 = 0 ∧ (M.getNumber x).1 ≠ 1 then (0, 2) else M.getNumber x
set_option maxRecDepth 100000 in
set_option maxHeartbeats 2000000 in
theorem rtext_any (l : Bool) (d : List UInt8) (xs : List M.It) (a : Option Addr) (cap : Nat) (n : Int) (w : World) (hR : Rd w l d xs a cap) : Calls Tryz.prog 183 #[iv l d (.slice a xs.length cap), .int .i64 n] w fun e w' =>
    e = .returned (.tuple #[.string ⟨(rText n (.mk l d xs)).1.toArray⟩, .int .i64 ((rText n (.mk l d xs)).2 : Nat)]) ∧ Below w.heap.size w w' := by
  have HU := Lib.hid (fun W (h : Below w.heap.size w W) => get_text l d xs a cap n n W (hR.kept h))
  have hb0 := (Below.refl w.heap.size w).alloc (Nat.le_refl _) (.cells #[.bool l, .string ⟨d.toArray⟩, .slice a xs.length cap] 44)
  have hp : rText n (.mk l d xs) = if (M.getText n n (.mk l d xs)).2 = 0 then ((M.getText n n (.mk l d xs)).1, 0) else ([], 2) := rfl
  rw [hp]
  clear hR hp
  generalize M.getText n n (.mk l d xs) = r at *
  obtain ⟨r1, r2⟩ := r
  by_cases hr : r2 = 0
  · subst hr
    go_enter Tryz.func183, Tryz.ntmps183
    go_wp2_with fail
    refine (HU.out _ hb0).mono ?_
    rintro e W ⟨rfl, hb⟩
    go_wp2_with fail
    go_ret2
    exact ⟨rfl, hb0.trans (hb.mono hb0.size)⟩
  · have hr1 : ((r2 : Int) == 0) = false := by simp [hr]
    rw [if_neg hr]
    go_enter Tryz.func183, Tryz.ntmps183
    go_wp2_with fail
    refine (HU.out _ hb0).mono ?_
    rintro e W ⟨rfl, hb⟩
    go_wp2_with fail
    go_ret2
    exact ⟨rfl, hb0.trans (hb.mono hb0.size)⟩
set_option maxRecDepth 100000 in
set_option maxHeartbeats 2000000 in
theorem raddr_any (l : Bool) (d : List UInt8) (xs : List M.It) (a : Option Addr) (cap : Nat) (w : World) (hR : Rd w l d xs a cap) : Calls Tryz.prog 107 #[iv l d (.slice a xs.length cap)] w fun e w' =>
    e = .returned (.tuple #[.string ⟨(rText 20 (.mk l d xs)).1.toArray⟩, .int .i64 ((rText 20 (.mk l d xs)).2 : Nat)]) ∧ Below w.heap.size w w' := by
  have HU := Lib.hid (fun W (h : Below w.heap.size w W) => rtext_any l d xs a cap 20 W (hR.kept h))
  have hb0 := (Below.refl w.heap.size w).alloc (Nat.le_refl _) (.cells #[.bool l, .string ⟨d.toArray⟩, .slice a xs.length cap] 44)
  clear hR
  generalize rText 20 (.mk l d xs) = r at *
  go_enter Tryz.func107, Tryz.ntmps107
  go_wp2_with fail
  refine (HU.out _ hb0).mono ?_
  rintro e W ⟨rfl, hb⟩
  go_wp2_with fail
  go_ret2
  exact ⟨rfl, hb0.trans (hb.mono hb0.size)⟩
set_option maxRecDepth 100000 in
set_option maxHeartbeats 2000000 in
theorem rtopic_any (l : Bool) (d : List UInt8) (xs : List M.It) (a : Option Addr) (cap : Nat) (w : World) (hR : Rd w l d xs a cap) : Calls Tryz.prog 184 #[iv l d (.slice a xs.length cap)] w fun e w' =>
    e = .returned (.tuple #[.string ⟨(rText 32 (.mk l d xs)).1.toArray⟩, .int .i64 ((rText 32 (.mk l d xs)).2 : Nat)]) ∧ Below w.heap.size w w' := by
  have HU := Lib.hid (fun W (h : Below w.heap.size w W) => rtext_any l d xs a cap 32 W (hR.kept h))
  have hb0 := (Below.refl w.heap.size w).alloc (Nat.le_refl _) (.cells #[.bool l, .string ⟨d.toArray⟩, .slice a xs.length cap] 44)
  clear hR
  generalize rText 32 (.mk l d xs) = r at *
  go_enter Tryz.func184, Tryz.ntmps184
  go_wp2_with fail
  refine (HU.out _ hb0).mono ?_
  rintro e W ⟨rfl, hb⟩
  go_wp2_with fail
  go_ret2
  exact ⟨rfl, hb0.trans (hb.mono hb0.size)⟩
set_option maxRecDepth 100000 in
set_option maxHeartbeats 2000000 in
theorem rdata_any (l : Bool) (d : List UInt8) (xs : List M.It) (a : Option Addr) (cap : Nat) (w : World) (hR : Rd w l d xs a cap) : Calls Tryz.prog 110 #[iv l d (.slice a xs.length cap)] w fun e w' =>
    e = .returned (.tuple #[.string ⟨(M.getText 0 4096 (.mk l d xs)).1.toArray⟩, .int .i64 ((M.getText 0 4096 (.mk l d xs)).2 : Nat)]) ∧ Below w.heap.size w w' := by
  have HU := Lib.hid (fun W (h : Below w.heap.size w W) => get_text l d xs a cap 0 4096 W (hR.kept h))
  have hb0 := (Below.refl w.heap.size w).alloc (Nat.le_refl _) (.cells #[.bool l, .string ⟨d.toArray⟩, .slice a xs.length cap] 44)
  clear hR
  generalize M.getText 0 4096 (.mk l d xs) = r at *
  go_enter Tryz.func110, Tryz.ntmps110
  go_wp2_with fail
  refine (HU.out _ hb0).mono ?_
  rintro e W ⟨rfl, hb⟩
  go_wp2_with fail
  go_ret2
  exact ⟨rfl, hb0.trans (hb.mono hb0.size)⟩
set_option maxRecDepth 100000 in
set_option maxHeartbeats 2000000 in
theorem rversion_any (l : Bool) (d : List UInt8) (xs : List M.It) (a : Option Addr) (cap : Nat) (w : World) (hR : Rd w l d xs a cap) : Calls Tryz.prog 68 #[iv l d (.slice a xs.length cap)] w fun e w' =>
    e = .returned (.tuple #[.int .u64 ((rVersion (.mk l d xs)).1 : Nat), .int .i64 ((rVersion (.mk l d xs)).2 : Nat)]) ∧ Below w.heap.size w w' := by
  have HU := Lib.hid (fun W (h : Below w.heap.size w W) => get_number l d xs a cap W (hR.kept h))
  have hb0 := (Below.refl w.heap.size w).alloc (Nat.le_refl _) (.cells #[.bool l, .string ⟨d.toArray⟩, .slice a xs.length cap] 44)
  have hp : rVersion (.mk l d xs) = if (M.getNumber (.mk l d xs)).2 = 0 ∧ (M.getNumber (.mk l d xs)).1 ≠ 1 then (0, 2) else M.getNumber (.mk l d xs) := rfl
  rw [hp]
  clear hR hp
  generalize M.getNumber (.mk l d xs) = r at *
  obtain ⟨r1, r2⟩ := r
  by_cases hr : r2 = 0
  · subst hr
    by_cases h1 : r1 = 1
    · subst h1
      go_enter Tryz.func68, Tryz.ntmps68
      go_wp2_with fail
      refine (HU.out _ hb0).mono ?_
      rintro e W ⟨rfl, hb⟩
      go_wp2_with fail
      go_ret2
      exact ⟨rfl, hb0.trans (hb.mono hb0.size)⟩
    · have h1' : ((r1 : Int) == 1) = false := by simp; omega
      have h1n : ((r1 : Int) != 1) = true := by simp; omega
      have h1x : ¬ (r1 : Int) = 1 := by omega
      rw [if_pos ⟨rfl, h1⟩]
      go_enter Tryz.func68, Tryz.ntmps68
      go_wp2_with fail
      refine (HU.out _ hb0).mono ?_
      rintro e W ⟨rfl, hb⟩
      go_wp2_with fail
      go_ret2
      exact ⟨rfl, hb0.trans (hb.mono hb0.size)⟩
  · have hr1 : ((r2 : Int) == 0) = false := by simp [hr]
    have hrx : ¬ (r2 : Int) = 0 := by omega
    rw [if_neg (fun h => hr h.1)]
    go_enter Tryz.func68, Tryz.ntmps68
    go_wp2_with fail
    refine (HU.out _ hb0).mono ?_
    rintro e W ⟨rfl, hb⟩
    go_wp2_with fail
    go_ret2
    exact ⟨rfl, hb0.trans (hb.mono hb0.size)⟩
end Go.Proofs.YtebjhbeaknokkaaGreatDoor
namespace Go.Proofs.YtebjhbeaknokkaaGreatDoor
open Go Go.RowKit Go.Lib
attribute [local go_sem] Oper.semAt_some

/-- After a part: where e is 0 nothing of what was has turned, else the reader at block b holds the fault. -/
def RdPost (b : Nat) (part : ByteArray) (e : Nat) (w w' : World) : Prop :=
  (e = 0 ∧ Below w.heap.size w w') ∨ (e ≠ 0 ∧ ∃ W, Below w.heap.size w W ∧ w' = W.setCell ⟨b, 0, none⟩ (.iface 137 (.agg #[.string part, .int .i64 e])))
set_option maxRecDepth 100000 in
set_option maxHeartbeats 2000000 in
theorem read_int (b : Nat) (part : ByteArray) (x v : Value) (n : Nat) (g : FuncId) (caps : Array Value) (w : World) (hw : w.cell? ⟨b, 0, none⟩ = some .nilIface) (hfz : w.frozen? ⟨b, 0, none⟩ = false)
    (E1 : ∀ args W, (callFunc g args).run Tryz.prog W = .ok (.enter g args) W)
    (HG : Hid (Calls Tryz.prog g (#[x] ++ caps) w fun e w' => e = .returned (.tuple #[v, .int .i64 n]) ∧ Below w.heap.size w w')) :
    Calls Tryz.prog 56 #[.pointer (some ⟨b, 0, none⟩), .string part, x, .func (.func g) #[] caps] w fun e w' => e = .returned v ∧ RdPost b part n w w' := by
  have hbl := addr_lt hw
  by_cases hn : n = 0
  · subst hn
    go_enter Tryz.func56, Tryz.ntmps56
    go_wp2_with fail
    refine HG.out.mono ?_
    rintro e W ⟨rfl, hb⟩
    go_wp2_with fail
    go_ret
    exact ⟨rfl, .inl ⟨rfl, hb⟩⟩
  · have hn1 : ((n : Int) == 0) = false := by simp [hn]
    have hnx : ¬ (n : Int) = 0 := by omega
    go_enter Tryz.func56, Tryz.ntmps56
    go_wp2_with fail
    refine HG.out.mono ?_
    rintro e W ⟨rfl, hb⟩
    have hw1 := (hb.cell (p := ⟨b, 0, none⟩) hbl).trans hw
    have hf1 := (hb.frozen (p := ⟨b, 0, none⟩) hbl).trans hfz
    go_wp2_with fail
    go_ret
    exact ⟨rfl, .inr ⟨hn, W, hb, rfl⟩⟩
set_option maxRecDepth 100000 in
set_option maxHeartbeats 2000000 in
theorem readw_bool (b : Nat) (part s : ByteArray) (m : Int) (l : Bool) (d : List UInt8) (a : Option Addr) (k cap : Nat) (g : Value) (w : World) (hw : w.cell? ⟨b, 0, none⟩ = some (.iface 137 (.agg #[.string s, .int .i64 m]))) :
    Calls Tryz.prog 62 #[.pointer (some ⟨b, 0, none⟩), .string part, .agg #[.bool l, .string ⟨d.toArray⟩, .slice a k cap], g] w fun e w' => e = .returned (.bool false) ∧ Below w.heap.size w w' := by
  have hbl := addr_lt hw
  have hw0 : ∀ o, (w.alloc o).cell? ⟨b, 0, none⟩ = some (.iface 137 (.agg #[.string s, .int .i64 m])) := fun o => by rw [World.cell?_alloc_lt _ _ ⟨b, 0, none⟩ hbl]; exact hw
  have hb0 := (Below.refl w.heap.size w).alloc (Nat.le_refl _) (.cells #[.bool l, .string ⟨d.toArray⟩, .slice a k cap] 44)
  go_enter Tryz.func62, Tryz.ntmps62
  go_wp2_with fail
  go_ret
  exact ⟨rfl, hb0⟩
set_option maxRecDepth 100000 in
set_option maxHeartbeats 2000000 in
theorem read_bool (b : Nat) (part : ByteArray) (l : Bool) (d : List UInt8) (a : Option Addr) (k cap : Nat) (v : Value) (n : Nat) (g : FuncId) (caps : Array Value) (w : World) (hw : w.cell? ⟨b, 0, none⟩ = some .nilIface) (hfz : w.frozen? ⟨b, 0, none⟩ = false)
    (E1 : ∀ args W, (callFunc g args).run Tryz.prog W = .ok (.enter g args) W)
    (HG : Hid (∀ W, Below w.heap.size w W → Calls Tryz.prog g (#[.agg #[.bool l, .string ⟨d.toArray⟩, .slice a k cap]] ++ caps) W fun e w' => e = .returned (.tuple #[v, .int .i64 n]) ∧ Below W.heap.size W w')) :
    Calls Tryz.prog 62 #[.pointer (some ⟨b, 0, none⟩), .string part, .agg #[.bool l, .string ⟨d.toArray⟩, .slice a k cap], .func (.func g) #[] caps] w fun e w' => e = .returned v ∧ RdPost b part n w w' := by
  have hbl := addr_lt hw
  have hw0 : ∀ o, (w.alloc o).cell? ⟨b, 0, none⟩ = some .nilIface := fun o => by rw [World.cell?_alloc_lt _ _ ⟨b, 0, none⟩ hbl]; exact hw
  have hb0 := (Below.refl w.heap.size w).alloc (Nat.le_refl _) (.cells #[.bool l, .string ⟨d.toArray⟩, .slice a k cap] 44)
  by_cases hn : n = 0
  · subst hn
    go_enter Tryz.func62, Tryz.ntmps62
    go_wp2_with fail
    refine (HG.out _ hb0).mono ?_
    rintro e W ⟨rfl, hb⟩
    go_wp2_with fail
    go_ret
    exact ⟨rfl, .inl ⟨rfl, hb0.trans (hb.mono hb0.size)⟩⟩
  · have hn1 : ((n : Int) == 0) = false := by simp [hn]
    have hnx : ¬ (n : Int) = 0 := by omega
    go_enter Tryz.func62, Tryz.ntmps62
    go_wp2_with fail
    refine (HG.out _ hb0).mono ?_
    rintro e W ⟨rfl, hb⟩
    have hbb := hb0.trans (hb.mono hb0.size)
    have hw1 := (hbb.cell (p := ⟨b, 0, none⟩) hbl).trans hw
    have hf1 := (hbb.frozen (p := ⟨b, 0, none⟩) hbl).trans hfz
    clear hb
    go_wp2_with fail
    go_ret
    exact ⟨rfl, .inr ⟨hn, W, hbb, rfl⟩⟩
set_option maxRecDepth 100000 in
set_option maxHeartbeats 2000000 in
theorem readw_u64 (b : Nat) (part s : ByteArray) (m : Int) (l : Bool) (d : List UInt8) (a : Option Addr) (k cap : Nat) (g : Value) (w : World) (hw : w.cell? ⟨b, 0, none⟩ = some (.iface 137 (.agg #[.string s, .int .i64 m]))) :
    Calls Tryz.prog 64 #[.pointer (some ⟨b, 0, none⟩), .string part, .agg #[.bool l, .string ⟨d.toArray⟩, .slice a k cap], g] w fun e w' => e = .returned (.int .u64 0) ∧ Below w.heap.size w w' := by
  have hbl := addr_lt hw
  have hw0 : ∀ o, (w.alloc o).cell? ⟨b, 0, none⟩ = some (.iface 137 (.agg #[.string s, .int .i64 m])) := fun o => by rw [World.cell?_alloc_lt _ _ ⟨b, 0, none⟩ hbl]; exact hw
  have hb0 := (Below.refl w.heap.size w).alloc (Nat.le_refl _) (.cells #[.bool l, .string ⟨d.toArray⟩, .slice a k cap] 44)
  go_enter Tryz.func64, Tryz.ntmps64
  go_wp2_with fail
  go_ret
  exact ⟨rfl, hb0⟩
set_option maxRecDepth 100000 in
set_option maxHeartbeats 2000000 in
theorem read_u64 (b : Nat) (part : ByteArray) (l : Bool) (d : List UInt8) (a : Option Addr) (k cap : Nat) (v : Value) (n : Nat) (g : FuncId) (caps : Array Value) (w : World) (hw : w.cell? ⟨b, 0, none⟩ = some .nilIface) (hfz : w.frozen? ⟨b, 0, none⟩ = false)
    (E1 : ∀ args W, (callFunc g args).run Tryz.prog W = .ok (.enter g args) W)
    (HG : Hid (∀ W, Below w.heap.size w W → Calls Tryz.prog g (#[.agg #[.bool l, .string ⟨d.toArray⟩, .slice a k cap]] ++ caps) W fun e w' => e = .returned (.tuple #[v, .int .i64 n]) ∧ Below W.heap.size W w')) :
    Calls Tryz.prog 64 #[.pointer (some ⟨b, 0, none⟩), .string part, .agg #[.bool l, .string ⟨d.toArray⟩, .slice a k cap], .func (.func g) #[] caps] w fun e w' => e = .returned v ∧ RdPost b part n w w' := by
  have hbl := addr_lt hw
  have hw0 : ∀ o, (w.alloc o).cell? ⟨b, 0, none⟩ = some .nilIface := fun o => by rw [World.cell?_alloc_lt _ _ ⟨b, 0, none⟩ hbl]; exact hw
  have hb0 := (Below.refl w.heap.size w).alloc (Nat.le_refl _) (.cells #[.bool l, .string ⟨d.toArray⟩, .slice a k cap] 44)
  by_cases hn : n = 0
  · subst hn
    go_enter Tryz.func64, Tryz.ntmps64
    go_wp2_with fail
    refine (HG.out _ hb0).mono ?_
    rintro e W ⟨rfl, hb⟩
    go_wp2_with fail
    go_ret
    exact ⟨rfl, .inl ⟨rfl, hb0.trans (hb.mono hb0.size)⟩⟩
  · have hn1 : ((n : Int) == 0) = false := by simp [hn]
    have hnx : ¬ (n : Int) = 0 := by omega
    go_enter Tryz.func64, Tryz.ntmps64
    go_wp2_with fail
    refine (HG.out _ hb0).mono ?_
    rintro e W ⟨rfl, hb⟩
    have hbb := hb0.trans (hb.mono hb0.size)
    have hw1 := (hbb.cell (p := ⟨b, 0, none⟩) hbl).trans hw
    have hf1 := (hbb.frozen (p := ⟨b, 0, none⟩) hbl).trans hfz
    clear hb
    go_wp2_with fail
    go_ret
    exact ⟨rfl, .inr ⟨hn, W, hbb, rfl⟩⟩
set_option maxRecDepth 100000 in
set_option maxHeartbeats 2000000 in
theorem readw_str (b : Nat) (part s : ByteArray) (m : Int) (l : Bool) (d : List UInt8) (a : Option Addr) (k cap : Nat) (g : Value) (w : World) (hw : w.cell? ⟨b, 0, none⟩ = some (.iface 137 (.agg #[.string s, .int .i64 m]))) :
    Calls Tryz.prog 106 #[.pointer (some ⟨b, 0, none⟩), .string part, .agg #[.bool l, .string ⟨d.toArray⟩, .slice a k cap], g] w fun e w' => e = .returned (.string ⟨#[]⟩) ∧ Below w.heap.size w w' := by
  have hbl := addr_lt hw
  have hw0 : ∀ o, (w.alloc o).cell? ⟨b, 0, none⟩ = some (.iface 137 (.agg #[.string s, .int .i64 m])) := fun o => by rw [World.cell?_alloc_lt _ _ ⟨b, 0, none⟩ hbl]; exact hw
  have hb0 := (Below.refl w.heap.size w).alloc (Nat.le_refl _) (.cells #[.bool l, .string ⟨d.toArray⟩, .slice a k cap] 44)
  go_enter Tryz.func106, Tryz.ntmps106
  go_wp2_with fail
  go_ret
  exact ⟨rfl, hb0⟩
set_option maxRecDepth 100000 in
set_option maxHeartbeats 2000000 in
theorem read_str (b : Nat) (part : ByteArray) (l : Bool) (d : List UInt8) (a : Option Addr) (k cap : Nat) (v : Value) (n : Nat) (g : FuncId) (caps : Array Value) (w : World) (hw : w.cell? ⟨b, 0, none⟩ = some .nilIface) (hfz : w.frozen? ⟨b, 0, none⟩ = false)
    (E1 : ∀ args W, (callFunc g args).run Tryz.prog W = .ok (.enter g args) W)
    (HG : Hid (∀ W, Below w.heap.size w W → Calls Tryz.prog g (#[.agg #[.bool l, .string ⟨d.toArray⟩, .slice a k cap]] ++ caps) W fun e w' => e = .returned (.tuple #[v, .int .i64 n]) ∧ Below W.heap.size W w')) :
    Calls Tryz.prog 106 #[.pointer (some ⟨b, 0, none⟩), .string part, .agg #[.bool l, .string ⟨d.toArray⟩, .slice a k cap], .func (.func g) #[] caps] w fun e w' => e = .returned v ∧ RdPost b part n w w' := by
  have hbl := addr_lt hw
  have hw0 : ∀ o, (w.alloc o).cell? ⟨b, 0, none⟩ = some .nilIface := fun o => by rw [World.cell?_alloc_lt _ _ ⟨b, 0, none⟩ hbl]; exact hw
  have hb0 := (Below.refl w.heap.size w).alloc (Nat.le_refl _) (.cells #[.bool l, .string ⟨d.toArray⟩, .slice a k cap] 44)
  by_cases hn : n = 0
  · subst hn
    go_enter Tryz.func106, Tryz.ntmps106
    go_wp2_with fail
    refine (HG.out _ hb0).mono ?_
    rintro e W ⟨rfl, hb⟩
    go_wp2_with fail
    go_ret
    exact ⟨rfl, .inl ⟨rfl, hb0.trans (hb.mono hb0.size)⟩⟩
  · have hn1 : ((n : Int) == 0) = false := by simp [hn]
    have hnx : ¬ (n : Int) = 0 := by omega
    go_enter Tryz.func106, Tryz.ntmps106
    go_wp2_with fail
    refine (HG.out _ hb0).mono ?_
    rintro e W ⟨rfl, hb⟩
    have hbb := hb0.trans (hb.mono hb0.size)
    have hw1 := (hbb.cell (p := ⟨b, 0, none⟩) hbl).trans hw
    have hf1 := (hbb.frozen (p := ⟨b, 0, none⟩) hbl).trans hfz
    clear hb
    go_wp2_with fail
    go_ret
    exact ⟨rfl, .inr ⟨hn, W, hbb, rfl⟩⟩
set_option maxRecDepth 100000 in
set_option maxHeartbeats 2000000 in
theorem readw_list (b : Nat) (part s : ByteArray) (m : Int) (l : Bool) (d : List UInt8) (a : Option Addr) (k cap : Nat) (g : Value) (w : World) (hw : w.cell? ⟨b, 0, none⟩ = some (.iface 137 (.agg #[.string s, .int .i64 m]))) :
    Calls Tryz.prog 99 #[.pointer (some ⟨b, 0, none⟩), .string part, .agg #[.bool l, .string ⟨d.toArray⟩, .slice a k cap], g] w fun e w' => e = .returned (.slice none 0 0) ∧ Below w.heap.size w w' := by
  have hbl := addr_lt hw
  have hw0 : ∀ o, (w.alloc o).cell? ⟨b, 0, none⟩ = some (.iface 137 (.agg #[.string s, .int .i64 m])) := fun o => by rw [World.cell?_alloc_lt _ _ ⟨b, 0, none⟩ hbl]; exact hw
  have hb0 := (Below.refl w.heap.size w).alloc (Nat.le_refl _) (.cells #[.bool l, .string ⟨d.toArray⟩, .slice a k cap] 44)
  go_enter Tryz.func99, Tryz.ntmps99
  go_wp2_with fail
  go_ret
  exact ⟨rfl, hb0⟩
end Go.Proofs.YtebjhbeaknokkaaGreatDoor
namespace Go.Proofs.YtebjhbeaknokkaaGreatDoor
open Go Go.RowKit
namespace M
/-- A log; a receipt. -/
structure Lg where
  addr : List UInt8
  topics : List (List UInt8)
  data : List UInt8
structure Rc where
  kind : Int
  st : Bool
  gas : Nat
  logs : List Lg
  full : Bool
  nonce : Nat
  ver : Nat
/-- Is it of no form? Is it too long? -/
def noLog (g : Lg) : Bool := (g.addr.length != 20) || g.topics.any fun t => t.length != 32
def longLog (g : Lg) : Bool := decide (4 < g.topics.length) || decide (4096 < g.data.length)
def formedR (x : Rc) : Bool := !(x.full && (x.kind != 126 || decide (1 < x.ver))) && (!(!x.full && (x.nonce != 0 || x.ver != 0)) && !x.logs.any noLog)
def longR (x : Rc) : Bool := decide (16 < x.logs.length) || x.logs.any longLog
def kdB (k : Int) : Bool := k == 0 || k == 1 || k == 2 || k == 4 || k == 126
/-- What is wrong with a receipt. -/
def chkR (x : Rc) : Nat := if kdB x.kind then if formedR x then if longR x then 5 else 0 else 2 else 9
def formR (x : Rc) : Nat := if x.full then if x.ver = 0 then 1 else 2 else 0
end M
/-- A log as a value; a receipt as a value. -/
abbrev lgv (g : M.Lg) (v : Value) : Value := .agg #[.string ⟨g.addr.toArray⟩, v, .string ⟨g.data.toArray⟩]
abbrev rcv (x : M.Rc) (v : Value) : Value := .agg #[.int .i64 x.kind, .bool x.st, .int .u64 (x.gas : Nat), v, .bool x.full, .int .u64 (x.nonce : Nat), .int .u64 (x.ver : Nat)]
/-- What a slice of logs leads to. -/
inductive Ls (w : World) (n : Nat) : List M.Lg → Value → Prop
  | nil_ {a : Option Addr} {cap : Nat} (hm : cap ≤ maxLen) : Ls w n [] (.slice a 0 cap)
  | row {ls : List M.Lg} {b o cap : Nat} (V : Nat → Value) (hb : b < n) (hc : ls.length ≤ cap) (hm : cap ≤ maxLen)
      (c0 : ∀ i g, ls[i]? = some g → w.cell? ⟨b, o + i * 3, none⟩ = some (.string ⟨g.addr.toArray⟩))
      (c1 : ∀ i g, ls[i]? = some g → w.cell? ⟨b, o + i * 3 + 1, none⟩ = some (V i))
      (c2 : ∀ i g, ls[i]? = some g → w.cell? ⟨b, o + i * 3 + 2, none⟩ = some (.string ⟨g.data.toArray⟩))
      (r : ∀ i g, ls[i]? = some g → Ts w n g.topics (V i)) : Ls w n ls (.slice (some ⟨b, o, none⟩) ls.length cap)
theorem Ls.from_ {w W : World} {n : Nat} {ls : List M.Lg} {v : Value} (h : Ls w n ls v) (hb : Below n w W) : Ls W n ls v := by
  cases h with
  | nil_ hm => exact .nil_ hm
  | row V hlt hc hm c0 c1 c2 r =>
    exact .row V hlt hc hm (fun i g e => (hb.cell (p := ⟨_, _, _⟩) hlt).trans (c0 i g e)) (fun i g e => (hb.cell (p := ⟨_, _, _⟩) hlt).trans (c1 i g e)) (fun i g e => (hb.cell (p := ⟨_, _, _⟩) hlt).trans (c2 i g e)) fun i g e => (r i g e).from_ hb
theorem Ls.mono {w : World} {n m : Nat} {ls : List M.Lg} {v : Value} (h : Ls w n ls v) (hnm : n ≤ m) : Ls w m ls v := by
  cases h with
  | nil_ hm => exact .nil_ hm
  | row V hlt hc hm c0 c1 c2 r => exact .row V (by omega) hc hm c0 c1 c2 fun i g e => (r i g e).mono hnm
theorem Ls.kept {w W : World} {ls : List M.Lg} {v : Value} (h : Ls w w.heap.size ls v) (hb : Below w.heap.size w W) : Ls W W.heap.size ls v := (h.from_ hb).mono hb.size
theorem Ls.slice {w : World} {n : Nat} {ls : List M.Lg} {v : Value} (h : Ls w n ls v) : ∃ a cap, v = .slice a ls.length cap ∧ ls.length ≤ cap ∧ cap ≤ maxLen := by
  cases h with
  | nil_ hm => exact ⟨_, _, rfl, Nat.zero_le _, hm⟩
  | row V hlt hc hm c0 c1 c2 r => exact ⟨_, _, rfl, hc, hm⟩
/-- One log of a slice. -/
theorem Ls.at_ {w : World} {n i : Nat} {ls : List M.Lg} {a : Option Addr} {m cap : Nat} (h : Ls w n ls (.slice a m cap)) (hi : i < ls.length) : ∃ b o g at_ ct, a = some ⟨b, o, none⟩ ∧ b < n ∧ ls[i]? = some g ∧
    w.cell? ⟨b, o + i * 3, none⟩ = some (.string ⟨g.addr.toArray⟩) ∧ w.cell? ⟨b, o + i * 3 + 1, none⟩ = some (.slice at_ g.topics.length ct) ∧ w.cell? ⟨b, o + i * 3 + 2, none⟩ = some (.string ⟨g.data.toArray⟩) ∧ Ts w n g.topics (.slice at_ g.topics.length ct) := by
  cases h with
  | nil_ hm => simp at hi
  | row V hlt hc hm c0 c1 c2 r =>
    have e := List.getElem?_eq_getElem hi
    obtain ⟨at_, ct, hV, _, _⟩ := (r i _ e).slice
    exact ⟨_, _, ls[i], at_, ct, rfl, hlt, e, c0 i _ e, hV ▸ c1 i _ e, c2 i _ e, hV ▸ r i _ e⟩
theorem Ts.kept_ {w W : World} {ls : List (List UInt8)} {v : Value} (h : Ts w w.heap.size ls v) (hb : Below w.heap.size w W) : Ts W W.heap.size ls v := (h.from_ hb).mono hb.size
/-- The box of a receipt; of a log. -/
structure RcBox (W : World) (S : Nat) (x : M.Rc) (v : Value) : Prop where
  c0 : W.cell? ⟨S, 0, none⟩ = some (.int .i64 x.kind)
  c1 : W.cell? ⟨S, 1, none⟩ = some (.bool x.st)
  c2 : W.cell? ⟨S, 2, none⟩ = some (.int .u64 (x.gas : Nat))
  c3 : W.cell? ⟨S, 3, none⟩ = some v
  c4 : W.cell? ⟨S, 4, none⟩ = some (.bool x.full)
  c5 : W.cell? ⟨S, 5, none⟩ = some (.int .u64 (x.nonce : Nat))
  c6 : W.cell? ⟨S, 6, none⟩ = some (.int .u64 (x.ver : Nat))
theorem RcBox.new (w : World) (x : M.Rc) (v : Value) (t : TypeId) : RcBox (w.alloc (.cells #[.int .i64 x.kind, .bool x.st, .int .u64 (x.gas : Nat), v, .bool x.full, .int .u64 (x.nonce : Nat), .int .u64 (x.ver : Nat)] t)) w.heap.size x v :=
  ⟨by simp [go_sem], by simp [go_sem], by simp [go_sem], by simp [go_sem], by simp [go_sem], by simp [go_sem], by simp [go_sem]⟩
theorem RcBox.from_ {w W : World} {S n : Nat} {x : M.Rc} {v : Value} (h : RcBox w S x v) (hb : Below n w W) (hS : S < n) : RcBox W S x v :=
  ⟨(hb.cell (p := ⟨S, 0, none⟩) hS).trans h.c0, (hb.cell (p := ⟨S, 1, none⟩) hS).trans h.c1, (hb.cell (p := ⟨S, 2, none⟩) hS).trans h.c2, (hb.cell (p := ⟨S, 3, none⟩) hS).trans h.c3, (hb.cell (p := ⟨S, 4, none⟩) hS).trans h.c4, (hb.cell (p := ⟨S, 5, none⟩) hS).trans h.c5, (hb.cell (p := ⟨S, 6, none⟩) hS).trans h.c6⟩
structure LgBox (W : World) (S : Nat) (g : M.Lg) (v : Value) : Prop where
  c0 : W.cell? ⟨S, 0, none⟩ = some (.string ⟨g.addr.toArray⟩)
  c1 : W.cell? ⟨S, 1, none⟩ = some v
  c2 : W.cell? ⟨S, 2, none⟩ = some (.string ⟨g.data.toArray⟩)
theorem LgBox.new (w : World) (g : M.Lg) (v : Value) (t : TypeId) : LgBox (w.alloc (.cells #[.string ⟨g.addr.toArray⟩, v, .string ⟨g.data.toArray⟩] t)) w.heap.size g v := ⟨by simp [go_sem], by simp [go_sem], by simp [go_sem]⟩
theorem LgBox.from_ {w W : World} {S n : Nat} {g : M.Lg} {v : Value} (h : LgBox w S g v) (hb : Below n w W) (hS : S < n) : LgBox W S g v :=
  ⟨(hb.cell (p := ⟨S, 0, none⟩) hS).trans h.c0, (hb.cell (p := ⟨S, 1, none⟩) hS).trans h.c1, (hb.cell (p := ⟨S, 2, none⟩) hS).trans h.c2⟩
end Go.Proofs.YtebjhbeaknokkaaGreatDoor
namespace Go.Proofs.YtebjhbeaknokkaaGreatDoor
open Go Go.RowKit Go.Lib Go.Shelf
attribute [local go_sem] Oper.semAt_some

theorem noTopic_any (s : List UInt8) (w : World) : Calls Tryz.prog 97 #[.string ⟨s.toArray⟩] w fun e w' => e = .returned (.bool (s.length != 32)) ∧ Below w.heap.size w w' := by
  by_cases h : s.length = 32
  · have hi : (s.length : Int) = 32 := by omega
    have e : (s.length != 32) = false := by simp [h]
    rw [e]
    go_enter Tryz.func97, Tryz.ntmps97
    go_wp2_with fail
    go_ret
    exact ⟨by simp, Below.refl _ _⟩
  · have hi : ¬ (s.length : Int) = 32 := by omega
    have e : (s.length != 32) = true := by simp [h]
    rw [e]
    go_enter Tryz.func97, Tryz.ntmps97
    go_wp2_with fail
    go_ret
    exact ⟨by simpa using hi, Below.refl _ _⟩

set_option maxRecDepth 100000 in
set_option maxHeartbeats 4000000 in
theorem indexS_any (p : List UInt8 → Bool) (g : FuncId) (ls : List (List UInt8)) (a : Option Addr) (cap : Nat) (w : World) (hT : Ts w w.heap.size ls (.slice a ls.length cap)) (hl : ls.length ≤ 4000)
    (E1 : ∀ args W, (callFunc g args).run Tryz.prog W = .ok (.enter g args) W)
    (HP : ∀ s W, Calls Tryz.prog g #[.string ⟨s.toArray⟩] W fun e w' => e = .returned (.bool (p s)) ∧ Below W.heap.size W w') :
    Calls Tryz.prog 175 #[.slice a ls.length cap, .func (.func g) #[] #[]] w fun e w' => (∃ j : Int, e = .returned (.int .i64 j) ∧ (ls.any p = false → j = -1) ∧ (ls.any p = true → 0 ≤ j)) ∧ Below w.heap.size w w' := by
  have HT := Lib.hid hT
  have HF := Lib.hid HP
  have HALL : Hid (∀ j, j ≤ ls.length → (ls.take j).any p = false → j = ls.length → ls.any p = false) := fun j _ h e => by rw [e, List.take_length] at h; exact h
  obtain ⟨q, hq⟩ : ∃ q, ls.any p = q := ⟨_, rfl⟩
  rw [hq]
  have HQ := Lib.hid hq
  clear hT hq HP
  go_enter Tryz.func175, Tryz.ntmps175
  go_wp2_with fail
  go_loopw [8] (fun i wr => ∃ j : Nat, j ≤ ls.length ∧ i = .int .i64 (j : Nat) ∧ (ls.take j).any p = false ∧ Below w.heap.size w wr) (fun i _ => ls.length - (RowKit.intOf i).toNat)
  case atStart => exact ⟨0, Nat.zero_le _, rfl, rfl, Below.refl _ _⟩
  case round =>
    obtain ⟨j, hj, rfl, hall, hW⟩ := hrel
    by_cases hlt : j < ls.length
    · obtain ⟨b, o, s, rfl, hbn, hs, hc0⟩ := HT.out.at_ hlt
      have hc := (hW.cell (p := ⟨b, o + j, none⟩) hbn).trans hc0
      have HN := Lib.hid (HF.out s wr)
      have hj9 : j < 4000 := by omega
      have hlti : (j : Int) < ls.length := by omega
      have HALLJ := Lib.hid hall
      have HS := Lib.hid hs
      clear hall hs hc0
      cases hcs : p s with
      | false =>
        rw [hcs] at HN
        have HCS := Lib.hid hcs
        clear hcs
        go_wp2_with fail
        refine HN.out.mono ?_
        rintro e w1 ⟨rfl, hb1⟩
        go_wp2_with fail
        exact ⟨⟨j + 1, by omega, by simp, by rw [List.take_add_one, HS.out]; simp [HALLJ.out, HCS.out], hW.trans (hb1.mono hW.size)⟩, by simp [RowKit.intOf]; omega⟩
      | true =>
        rw [hcs] at HN
        have HCS := Lib.hid hcs
        clear hcs
        go_wp2_with fail
        refine HN.out.mono ?_
        rintro e w1 ⟨rfl, hb1⟩
        go_wp2_with fail
        go_ret
        refine ⟨⟨j, rfl, fun h => ?_, fun _ => by omega⟩, hW.trans (hb1.mono hW.size)⟩
        have := List.any_eq_false.1 (HQ.out.trans h) s (List.mem_of_getElem? HS.out)
        exact absurd HCS.out this
    · obtain rfl : j = ls.length := by omega
      go_wp2_with fail
      go_ret
      refine ⟨⟨-1, rfl, fun _ => rfl, fun h => ?_⟩, hW⟩
      have := HALL.out _ (Nat.le_refl _) hall rfl
      rw [HQ.out, h] at this
      cases this
set_option maxRecDepth 100000 in
theorem containsS_any (p : List UInt8 → Bool) (g : FuncId) (ls : List (List UInt8)) (a : Option Addr) (cap : Nat) (w : World) (hT : Ts w w.heap.size ls (.slice a ls.length cap)) (hl : ls.length ≤ 4000)
    (E1 : ∀ args W, (callFunc g args).run Tryz.prog W = .ok (.enter g args) W)
    (HP : ∀ s W, Calls Tryz.prog g #[.string ⟨s.toArray⟩] W fun e w' => e = .returned (.bool (p s)) ∧ Below W.heap.size W w') :
    Calls Tryz.prog 96 #[.slice a ls.length cap, .func (.func g) #[] #[]] w fun e w' => e = .returned (.bool (ls.any p)) ∧ Below w.heap.size w w' := by
  have HI := Lib.hid (indexS_any p g ls a cap w hT hl E1 HP)
  obtain ⟨q, hq⟩ : ∃ q, ls.any p = q := ⟨_, rfl⟩
  rw [hq] at HI ⊢
  clear hq hT HP
  go_enter Tryz.func96, Tryz.ntmps96
  go_wp2_with fail
  refine HI.out.mono ?_
  rintro e w1 ⟨⟨j, rfl, h1, h2⟩, hb1⟩
  cases q with
  | false =>
    obtain rfl := h1 rfl
    go_wp2_with fail
    go_ret
    exact ⟨rfl, hb1⟩
  | true =>
    have h3 : (0 : Int) ≤ j := h2 rfl
    go_wp2_with fail
    go_ret
    exact ⟨by simp, hb1⟩

set_option maxRecDepth 100000 in
set_option maxHeartbeats 4000000 in
theorem indexL_any (p : M.Lg → Bool) (f : FuncId) (ls : List M.Lg) (a : Option Addr) (cap : Nat) (w : World) (hT : Ls w w.heap.size ls (.slice a ls.length cap)) (hl : ls.length ≤ 4000)
    (E1 : ∀ args W, (callFunc f args).run Tryz.prog W = .ok (.enter f args) W)
    (HP : ∀ g at_ ct W, g ∈ ls → Ts W W.heap.size g.topics (.slice at_ g.topics.length ct) → Calls Tryz.prog f #[lgv g (.slice at_ g.topics.length ct)] W fun e w' => e = .returned (.bool (p g)) ∧ Below W.heap.size W w') :
    Calls Tryz.prog 95 #[.slice a ls.length cap, .func (.func f) #[] #[]] w fun e w' => (∃ j : Int, e = .returned (.int .i64 j) ∧ (ls.any p = false → j = -1) ∧ (ls.any p = true → 0 ≤ j)) ∧ Below w.heap.size w w' := by
  have HT := Lib.hid hT
  have HF := Lib.hid HP
  have HALL : Hid (∀ j, j ≤ ls.length → (ls.take j).any p = false → j = ls.length → ls.any p = false) := fun j _ h e => by rw [e, List.take_length] at h; exact h
  obtain ⟨q, hq⟩ : ∃ q, ls.any p = q := ⟨_, rfl⟩
  rw [hq]
  have HQ := Lib.hid hq
  clear hT hq HP
  go_enter Tryz.func95, Tryz.ntmps95
  go_wp2_with fail
  go_loopw [8] (fun i wr => ∃ j : Nat, j ≤ ls.length ∧ i = .int .i64 (j : Nat) ∧ (ls.take j).any p = false ∧ Below w.heap.size w wr) (fun i _ => ls.length - (RowKit.intOf i).toNat)
  case atStart => exact ⟨0, Nat.zero_le _, rfl, rfl, Below.refl _ _⟩
  case round =>
    obtain ⟨j, hj, rfl, hall, hW⟩ := hrel
    by_cases hlt : j < ls.length
    · obtain ⟨b, o, g, at_, ct, rfl, hbn, hs, h0, h1, h2, hTs⟩ := HT.out.at_ hlt
      have c0 := (hW.cell (p := ⟨b, o + j * 3, none⟩) hbn).trans h0
      have c1 := (hW.cell (p := ⟨b, o + j * 3 + 1, none⟩) hbn).trans h1
      have c2 := (hW.cell (p := ⟨b, o + j * 3 + 2, none⟩) hbn).trans h2
      have HN := Lib.hid (HF.out g at_ ct wr (List.mem_of_getElem? hs) (hTs.kept_ hW))
      have hj9 : j < 4000 := by omega
      have hlti : (j : Int) < ls.length := by omega
      have HALLJ := Lib.hid hall
      have HS := Lib.hid hs
      clear hall hs h0 h1 h2 hTs
      cases hcs : p g with
      | false =>
        rw [hcs] at HN
        have HCS := Lib.hid hcs
        clear hcs
        go_wp2_with fail
        refine HN.out.mono ?_
        rintro e w1 ⟨rfl, hb1⟩
        clear c0 c1 c2
        go_wp2_with fail
        exact ⟨⟨j + 1, by omega, by simp, by rw [List.take_add_one, HS.out]; simp [HALLJ.out, HCS.out], hW.trans (hb1.mono hW.size)⟩, by simp [RowKit.intOf]; omega⟩
      | true =>
        rw [hcs] at HN
        have HCS := Lib.hid hcs
        clear hcs
        go_wp2_with fail
        refine HN.out.mono ?_
        rintro e w1 ⟨rfl, hb1⟩
        clear c0 c1 c2
        go_wp2_with fail
        go_ret
        refine ⟨⟨j, rfl, fun h => ?_, fun _ => by omega⟩, hW.trans (hb1.mono hW.size)⟩
        have := List.any_eq_false.1 (HQ.out.trans h) g (List.mem_of_getElem? HS.out)
        exact absurd HCS.out this
    · obtain rfl : j = ls.length := by omega
      go_wp2_with fail
      go_ret
      refine ⟨⟨-1, rfl, fun _ => rfl, fun h => ?_⟩, hW⟩
      have := HALL.out _ (Nat.le_refl _) hall rfl
      rw [HQ.out, h] at this
      cases this
set_option maxRecDepth 100000 in
theorem containsL_any (p : M.Lg → Bool) (f : FuncId) (ls : List M.Lg) (a : Option Addr) (cap : Nat) (w : World) (hT : Ls w w.heap.size ls (.slice a ls.length cap)) (hl : ls.length ≤ 4000)
    (E1 : ∀ args W, (callFunc f args).run Tryz.prog W = .ok (.enter f args) W)
    (HP : ∀ g at_ ct W, g ∈ ls → Ts W W.heap.size g.topics (.slice at_ g.topics.length ct) → Calls Tryz.prog f #[lgv g (.slice at_ g.topics.length ct)] W fun e w' => e = .returned (.bool (p g)) ∧ Below W.heap.size W w') :
    Calls Tryz.prog 52 #[.slice a ls.length cap, .func (.func f) #[] #[]] w fun e w' => e = .returned (.bool (ls.any p)) ∧ Below w.heap.size w w' := by
  have HI := Lib.hid (indexL_any p f ls a cap w hT hl E1 HP)
  obtain ⟨q, hq⟩ : ∃ q, ls.any p = q := ⟨_, rfl⟩
  rw [hq] at HI ⊢
  clear hq hT HP
  go_enter Tryz.func52, Tryz.ntmps52
  go_wp2_with fail
  refine HI.out.mono ?_
  rintro e w1 ⟨⟨j, rfl, h1, h2⟩, hb1⟩
  cases q with
  | false =>
    obtain rfl := h1 rfl
    go_wp2_with fail
    go_ret
    exact ⟨rfl, hb1⟩
  | true =>
    have h3 : (0 : Int) ≤ j := h2 rfl
    go_wp2_with fail
    go_ret
    exact ⟨by simp, hb1⟩

set_option maxRecDepth 100000 in
set_option maxHeartbeats 4000000 in
theorem noLog_any (g : M.Lg) (at_ : Option Addr) (ct : Nat) (w : World) (hl : g.topics.length ≤ 4000) (hT : Ts w w.heap.size g.topics (.slice at_ g.topics.length ct)) :
    Calls Tryz.prog 53 #[lgv g (.slice at_ g.topics.length ct)] w fun e w' => e = .returned (.bool (M.noLog g)) ∧ Below w.heap.size w w' := by
  have E1 : ∀ args w, (callFunc 97 args).run Tryz.prog w = .ok (.enter 97 args) w := enters_of Tryz.func97 (by kernel_rfl) rfl
  obtain ⟨w0, hw0⟩ : ∃ w0, w.alloc (.cells #[.string ⟨g.addr.toArray⟩, .slice at_ g.topics.length ct, .string ⟨g.data.toArray⟩] 39) = w0 := ⟨_, rfl⟩
  have hb0 : Below w.heap.size w w0 := by rw [← hw0]; exact (Below.refl _ _).alloc (Nat.le_refl _) _
  have HC := Lib.hid (containsS_any (fun t => t.length != 32) 97 g.topics at_ ct w0 (hT.kept_ hb0) hl E1 noTopic_any)
  have HW := Lib.hid hw0
  have HB := Lib.hid hb0
  obtain ⟨q, hq⟩ : ∃ q, (g.topics.any fun t => t.length != 32) = q := ⟨_, rfl⟩
  have hM : M.noLog g = ((g.addr.length != 20) || q) := by rw [← hq]; rfl
  rw [hM]
  rw [hq] at HC
  clear hw0 hb0 hq hM hT
  by_cases h : g.addr.length = 20
  · have e1 : (g.addr.length != 20) = false := by simp [h]
    have hi : ((g.addr.length : Int) != 20) = false := by simp; omega
    rw [e1, Bool.false_or]
    clear h e1
    go_enter Tryz.func53, Tryz.ntmps53
    go_wp2_with fail
    rw [HW.out]
    refine HC.out.mono ?_
    rintro e w1 ⟨rfl, hb1⟩
    go_wp2_with fail
    go_ret
    exact ⟨by simp, HB.out.trans (hb1.mono HB.out.size)⟩
  · have e1 : (g.addr.length != 20) = true := by simp [h]
    have hi : ((g.addr.length : Int) != 20) = true := by simp; omega
    rw [e1, Bool.true_or]
    clear h e1
    go_enter Tryz.func53, Tryz.ntmps53
    go_wp2_with fail
    try rw [HW.out]
    go_ret
    exact ⟨by simp, HB.out⟩
set_option maxRecDepth 100000 in
set_option maxHeartbeats 4000000 in
theorem longLog_any (g : M.Lg) (at_ : Option Addr) (ct : Nat) (w : World) :
    Calls Tryz.prog 54 #[lgv g (.slice at_ g.topics.length ct)] w fun e w' => e = .returned (.bool (M.longLog g)) ∧ Below w.heap.size w w' := by
  have hM : M.longLog g = (decide ((4 : Int) < g.topics.length) || decide ((4096 : Int) < g.data.length)) := by
    unfold M.longLog
    congr 1
    · exact decide_eq_decide.2 (by omega)
    · exact decide_eq_decide.2 (by omega)
  rw [hM]
  by_cases h : (4 : Int) < g.topics.length
  · go_enter Tryz.func54, Tryz.ntmps54
    go_wp2_with fail
    go_ret
    exact ⟨by simp [h], (Below.refl _ _).alloc (Nat.le_refl _) _⟩
  · go_enter Tryz.func54, Tryz.ntmps54
    go_wp2_with fail
    go_ret
    exact ⟨by simp; omega, (Below.refl _ _).alloc (Nat.le_refl _) _⟩
end Go.Proofs.YtebjhbeaknokkaaGreatDoor
namespace Go.Proofs.YtebjhbeaknokkaaGreatDoor
open Go Go.RowKit Go.Lib Go.Shelf
attribute [local go_sem] Oper.semAt_some

/-- The bounds that the checks' loops lean on. -/
def FewL (ls : List M.Lg) : Prop := ls.length ≤ 4000 ∧ ∀ g ∈ ls, g.topics.length ≤ 4000
set_option maxRecDepth 100000 in
set_option maxHeartbeats 4000000 in
theorem formed_any (x : M.Rc) (a : Option Addr) (cap : Nat) (w : World) (hF : FewL x.logs) (hT : Ls w w.heap.size x.logs (.slice a x.logs.length cap)) :
    Calls Tryz.prog 30 #[rcv x (.slice a x.logs.length cap)] w fun e w' => e = .returned (.bool (M.formedR x)) ∧ Below w.heap.size w w' := by
  have E1 : ∀ args w, (callFunc 53 args).run Tryz.prog w = .ok (.enter 53 args) w := enters_of Tryz.func53 (by kernel_rfl) rfl
  obtain ⟨k, st, ga, ls, fu, no, ve⟩ := x
  obtain ⟨w0, hw0⟩ : ∃ w0, w.alloc (.cells #[.int .i64 k, .bool st, .int .u64 (ga : Nat), .slice a ls.length cap, .bool fu, .int .u64 (no : Nat), .int .u64 (ve : Nat)] 25) = w0 := ⟨_, rfl⟩
  have hb0 : Below w.heap.size w w0 := by rw [← hw0]; exact (Below.refl _ _).alloc (Nat.le_refl _) _
  have HC := Lib.hid (containsL_any M.noLog 53 ls a cap w0 (hT.kept hb0) hF.1 E1 (fun g at_ ct W hg hTs => noLog_any g at_ ct W (hF.2 g hg) hTs))
  have HW := Lib.hid hw0
  have HB := Lib.hid hb0
  obtain ⟨q, hq⟩ : ∃ q, ls.any M.noLog = q := ⟨_, rfl⟩
  have hM : M.formedR ⟨k, st, ga, ls, fu, no, ve⟩ = (!(fu && (k != 126 || decide (1 < ve))) && (!(!fu && (no != 0 || ve != 0)) && !q)) := by rw [← hq]; rfl
  rw [hM]
  rw [hq] at HC
  clear hw0 hb0 hq hM hT hF
  cases fu with
  | true =>
    by_cases hk : k = 126
    · subst hk
      by_cases hv : 1 < ve
      · have hvi : (1 : Int) < (ve : Int) := by omega
        have e1 : decide (1 < ve) = true := decide_eq_true hv
        rw [e1]
        clear hv e1
        go_enter Tryz.func30, Tryz.ntmps30
        go_wp2_with fail
        try rw [HW.out]
        go_ret
        exact ⟨by simp, HB.out⟩
      · have hvi : ¬ (1 : Int) < (ve : Int) := by omega
        have e1 : decide (1 < ve) = false := decide_eq_false hv
        rw [e1]
        clear hv e1
        go_enter Tryz.func30, Tryz.ntmps30
        go_wp2_with fail
        rw [HW.out]
        refine HC.out.mono ?_
        rintro e w1 ⟨rfl, hb1⟩
        go_wp2_with fail
        go_ret
        exact ⟨by simp, HB.out.trans (hb1.mono HB.out.size)⟩
    · have hki : (k != 126) = true := bne_iff_ne.2 hk
      rw [hki]
      clear hk
      go_enter Tryz.func30, Tryz.ntmps30
      go_wp2_with fail
      try rw [HW.out]
      go_ret
      exact ⟨by simp, HB.out⟩
  | false =>
    by_cases hn : no = 0
    · have hn0 : ((no : Int) != 0) = false := by simp; omega
      have e0 : (no != 0) = false := by simp [hn]
      rw [e0]
      clear hn e0
      by_cases hv : ve = 0
      · have hv0 : ((ve : Int) != 0) = false := by simp; omega
        have e0 : (ve != 0) = false := by simp [hv]
        rw [e0]
        clear hv e0
        go_enter Tryz.func30, Tryz.ntmps30
        go_wp2_with fail
        rw [HW.out]
        refine HC.out.mono ?_
        rintro e w1 ⟨rfl, hb1⟩
        go_wp2_with fail
        go_ret
        exact ⟨by simp, HB.out.trans (hb1.mono HB.out.size)⟩
      · have hvi : ((ve : Int) != 0) = true := by simp; omega
        have e1 : (ve != 0) = true := bne_iff_ne.2 hv
        rw [e1]
        clear hv e1
        go_enter Tryz.func30, Tryz.ntmps30
        go_wp2_with fail
        try rw [HW.out]
        go_ret
        exact ⟨by simp, HB.out⟩
    · have hni : ((no : Int) != 0) = true := by simp; omega
      have e1 : (no != 0) = true := bne_iff_ne.2 hn
      rw [e1]
      clear hn e1
      go_enter Tryz.func30, Tryz.ntmps30
      go_wp2_with fail
      try rw [HW.out]
      go_ret
      exact ⟨by simp, HB.out⟩

set_option maxRecDepth 100000 in
set_option maxHeartbeats 4000000 in
theorem tooLong_any (x : M.Rc) (a : Option Addr) (cap : Nat) (w : World) (hF : FewL x.logs) (hT : Ls w w.heap.size x.logs (.slice a x.logs.length cap)) :
    Calls Tryz.prog 31 #[rcv x (.slice a x.logs.length cap)] w fun e w' => e = .returned (.bool (M.longR x)) ∧ Below w.heap.size w w' := by
  have E1 : ∀ args w, (callFunc 54 args).run Tryz.prog w = .ok (.enter 54 args) w := enters_of Tryz.func54 (by kernel_rfl) rfl
  obtain ⟨k, st, ga, ls, fu, no, ve⟩ := x
  obtain ⟨w0, hw0⟩ : ∃ w0, w.alloc (.cells #[.int .i64 k, .bool st, .int .u64 (ga : Nat), .slice a ls.length cap, .bool fu, .int .u64 (no : Nat), .int .u64 (ve : Nat)] 25) = w0 := ⟨_, rfl⟩
  have hb0 : Below w.heap.size w w0 := by rw [← hw0]; exact (Below.refl _ _).alloc (Nat.le_refl _) _
  have HC := Lib.hid (containsL_any M.longLog 54 ls a cap w0 (hT.kept hb0) hF.1 E1 (fun g at_ ct W _ _ => longLog_any g at_ ct W))
  have HW := Lib.hid hw0
  have HB := Lib.hid hb0
  obtain ⟨q, hq⟩ : ∃ q, ls.any M.longLog = q := ⟨_, rfl⟩
  have hM : M.longR ⟨k, st, ga, ls, fu, no, ve⟩ = (decide (16 < ls.length) || q) := by rw [← hq]; rfl
  rw [hM]
  rw [hq] at HC
  clear hw0 hb0 hq hM hT hF
  by_cases h : 16 < ls.length
  · have hi : (16 : Int) < (ls.length : Int) := by omega
    have e1 : decide (16 < ls.length) = true := decide_eq_true h
    rw [e1]
    clear h e1
    go_enter Tryz.func31, Tryz.ntmps31
    go_wp2_with fail
    try rw [HW.out]
    go_ret
    exact ⟨by simp, HB.out⟩
  · have hi : ¬ (16 : Int) < (ls.length : Int) := by omega
    have e1 : decide (16 < ls.length) = false := decide_eq_false h
    rw [e1]
    clear h e1
    go_enter Tryz.func31, Tryz.ntmps31
    go_wp2_with fail
    rw [HW.out]
    refine HC.out.mono ?_
    rintro e w1 ⟨rfl, hb1⟩
    go_wp2_with fail
    go_ret
    exact ⟨by simp, HB.out.trans (hb1.mono HB.out.size)⟩

theorem kdB_iff (k : Int) : M.kdB k = decide (isKd k) := by
  unfold M.kdB isKd
  by_cases h0 : k = 0 <;> by_cases h1 : k = 1 <;> by_cases h2 : k = 2 <;> by_cases h4 : k = 4 <;> by_cases h5 : k = 126 <;> simp_all
set_option maxRecDepth 100000 in
set_option maxHeartbeats 4000000 in
theorem pcheck_any (x : M.Rc) (a : Option Addr) (cap : Nat) (w : World) (hF : FewL x.logs) (hT : Ls w w.heap.size x.logs (.slice a x.logs.length cap)) :
    Calls Tryz.prog 12 #[rcv x (.slice a x.logs.length cap)] w fun e w' => e = .returned (.int .i64 (M.chkR x : Nat)) ∧ Below w.heap.size w w' := by
  have HK := Lib.hid (fun W => isKind_any x.kind W)
  obtain ⟨w0, hw0⟩ : ∃ w0, w.alloc (.cells #[.int .i64 x.kind, .bool x.st, .int .u64 (x.gas : Nat), .slice a x.logs.length cap, .bool x.full, .int .u64 (x.nonce : Nat), .int .u64 (x.ver : Nat)] 25) = w0 := ⟨_, rfl⟩
  have hb0 : Below w.heap.size w w0 := by rw [← hw0]; exact (Below.refl _ _).alloc (Nat.le_refl _) _
  have hz0 : w0.heap.size = w.heap.size + 1 := by rw [← hw0]; simp
  have hr0 : RcBox w0 w.heap.size x (.slice a x.logs.length cap) := by rw [← hw0]; exact RcBox.new w x _ _
  have HR := Lib.hid (fun W (h : Below w0.heap.size w0 W) => hr0.from_ h (by omega))
  have HFo := Lib.hid (fun W (h : Below w0.heap.size w0 W) => formed_any x a cap W hF (hT.kept (hb0.trans (h.mono hb0.size))))
  have HTo := Lib.hid (fun W (h : Below w0.heap.size w0 W) => tooLong_any x a cap W hF (hT.kept (hb0.trans (h.mono hb0.size))))
  have HW := Lib.hid hw0
  have HB := Lib.hid hb0
  have hM : M.chkR x = if decide (isKd x.kind) then if M.formedR x then if M.longR x then 5 else 0 else 2 else 9 := by unfold M.chkR; rw [kdB_iff]
  rw [hM]
  clear hw0 hb0 hr0 hz0 hM hT hF
  generalize decide (isKd x.kind) = q1 at *
  generalize M.formedR x = q2 at *
  generalize M.longR x = q3 at *
  cases q1 with
  | false =>
    go_enter Tryz.func12, Tryz.ntmps12
    go_wp2_with fail
    rw [HW.out]
    refine (HK.out _).mono ?_
    rintro e w1 ⟨rfl, hb1⟩
    go_wp2_with fail
    go_ret
    exact ⟨rfl, HB.out.trans (hb1.mono HB.out.size)⟩
  | true =>
    go_enter Tryz.func12, Tryz.ntmps12
    go_wp2_with fail
    rw [HW.out]
    refine (HK.out _).mono ?_
    rintro e w1 ⟨rfl, hb1⟩
    obtain ⟨a0, a1, a2, a3, a4, a5, a6⟩ := HR.out _ hb1
    go_wp2_with fail
    refine (HFo.out _ hb1).mono ?_
    rintro e w2 ⟨rfl, hb2⟩
    have B2 := hb1.trans (hb2.mono hb1.size)
    clear a0 a1 a2 a3 a4 a5 a6
    obtain ⟨a0, a1, a2, a3, a4, a5, a6⟩ := HR.out _ B2
    cases q2 with
    | false =>
      go_wp2_with fail
      go_ret
      exact ⟨rfl, HB.out.trans (B2.mono HB.out.size)⟩
    | true =>
      go_wp2_with fail
      refine (HTo.out _ B2).mono ?_
      rintro e w3 ⟨rfl, hb3⟩
      have B3 := B2.trans (hb3.mono B2.size)
      cases q3 with
      | false =>
        go_wp2_with fail
        go_ret
        exact ⟨rfl, HB.out.trans (B3.mono HB.out.size)⟩
      | true =>
        go_wp2_with fail
        go_ret
        exact ⟨rfl, HB.out.trans (B3.mono HB.out.size)⟩
end Go.Proofs.YtebjhbeaknokkaaGreatDoor
namespace Go.Proofs.YtebjhbeaknokkaaGreatDoor
open Go Go.RowKit

/-- What a slice of items leads to, in the blocks of a set. -/
inductive LayS (w : World) (S : Nat → Prop) : List M.It → Value → Prop
  | nil_ {a : Option Addr} {cap : Nat} (hm : cap ≤ maxLen) : LayS w S [] (.slice a 0 cap)
  | row {xs : List M.It} {b o cap : Nat} (V : Nat → Value) (hb : S b) (hc : xs.length ≤ cap) (hm : cap ≤ maxLen)
      (c0 : ∀ i l d ys, xs[i]? = some (.mk l d ys) → w.cell? ⟨b, o + i * 3, none⟩ = some (.bool l))
      (c1 : ∀ i l d ys, xs[i]? = some (.mk l d ys) → w.cell? ⟨b, o + i * 3 + 1, none⟩ = some (.string ⟨d.toArray⟩))
      (c2 : ∀ i l d ys, xs[i]? = some (.mk l d ys) → w.cell? ⟨b, o + i * 3 + 2, none⟩ = some (V i))
      (r : ∀ i l d ys, xs[i]? = some (.mk l d ys) → LayS w S ys (V i)) : LayS w S xs (.slice (some ⟨b, o, none⟩) xs.length cap)

theorem LayS.keep {w W : World} {S T : Nat → Prop} {xs : List M.It} {v : Value} (h : LayS w S xs v) (hST : ∀ b, S b → T b ∧ W.heap[b]? = w.heap[b]?) : LayS W T xs v := by
  induction h with
  | nil_ hm => exact .nil_ hm
  | row V hb hc hm c0 c1 c2 _ ih =>
    obtain ⟨hT, he⟩ := hST _ hb
    exact .row V hT hc hm (fun i l d ys e => (World.cell?_of_block (a := ⟨_, _, _⟩) he).trans (c0 i l d ys e)) (fun i l d ys e => (World.cell?_of_block (a := ⟨_, _, _⟩) he).trans (c1 i l d ys e)) (fun i l d ys e => (World.cell?_of_block (a := ⟨_, _, _⟩) he).trans (c2 i l d ys e)) ih
theorem LayS.lay {w : World} {S : Nat → Prop} {n : Nat} {xs : List M.It} {v : Value} (h : LayS w S xs v) (hS : ∀ b, S b → b < n) : Lay w n xs v := by
  induction h with
  | nil_ hm => exact .nil_ hm
  | row V hb hc hm c0 c1 c2 _ ih => exact .row V (hS _ hb) hc hm c0 c1 c2 ih

/-- What a call has made itself: in blocks from B on. -/
def Fresh (B : Nat) (w : World) (xs : List M.It) (v : Value) : Prop := LayS w (fun b => B ≤ b ∧ b < w.heap.size) xs v
theorem Fresh.lay {B : Nat} {w : World} {xs : List M.It} {v : Value} (h : Fresh B w xs v) : Lay w w.heap.size xs v := LayS.lay h fun _ h => h.2
theorem Fresh.from_ {B : Nat} {w W : World} {xs : List M.It} {v : Value} (h : Fresh B w xs v) (hb : Below w.heap.size w W) : Fresh B W xs v :=
  LayS.keep h fun b ⟨h1, h2⟩ => ⟨⟨h1, Nat.lt_of_lt_of_le h2 hb.size⟩, hb.block b h2⟩
theorem Fresh.mono {A B : Nat} {w : World} {xs : List M.It} {v : Value} (h : Fresh B w xs v) (hAB : A ≤ B) : Fresh A w xs v :=
  LayS.keep h fun _ ⟨h1, h2⟩ => ⟨⟨Nat.le_trans hAB h1, h2⟩, rfl⟩
theorem Fresh.nil (B : Nat) (w : World) (a : Option Addr) : Fresh B w [] (.slice a 0 0) := .nil_ (by decide)

/-- The three cells of an item. -/
def c3 (p : M.It × Value) : List Value := match p.1 with | .mk l d _ => [.bool l, .string ⟨d.toArray⟩, p.2]
/-- What an item leads to. -/
def kids : M.It → List M.It | .mk _ _ ys => ys

theorem flat_at : ∀ (L : List (M.It × Value)) (i : Nat) (l : Bool) (d : List UInt8) (ys : List M.It) (u : Value), L[i]? = some (.mk l d ys, u) →
    (L.flatMap c3)[i * 3]? = some (.bool l) ∧ (L.flatMap c3)[i * 3 + 1]? = some (.string ⟨d.toArray⟩) ∧ (L.flatMap c3)[i * 3 + 2]? = some u
  | [], i, l, d, ys, u, h => by simp at h
  | (.mk l0 d0 ys0, u0) :: L, 0, l, d, ys, u, h => by
    simp at h
    obtain ⟨⟨rfl, rfl, rfl⟩, rfl⟩ := h
    simp [c3]
  | (.mk l0 d0 ys0, u0) :: L, i + 1, l, d, ys, u, h => by
    simp at h
    obtain ⟨e0, e1, e2⟩ := flat_at L i l d ys u h
    rw [show (i + 1) * 3 = i * 3 + 3 by omega]
    simpa [c3] using ⟨e0, e1, e2⟩

/-- A row of items that a call owns. -/
structure ItRow (B : Nat) (w : World) (L : List (M.It × Value)) (v : Value) : Prop where
  own : w.ownsRow B 44 3 v L.length (L.flatMap c3)
  kid : ∀ p ∈ L, LayS w (fun b => B ≤ b ∧ b < w.heap.size ∧ some b ≠ v.ownBlock) (kids p.1) p.2

theorem ItRow.nil (B : Nat) (w : World) : ItRow B w [] (.slice none 0 0) := ⟨World.ownsRow_nil _ _ _ _, fun _ h => by cases h⟩
theorem ItRow.from_ {B : Nat} {w W : World} {L : List (M.It × Value)} {v : Value} (h : ItRow B w L v) (hb : Below w.heap.size w W) : ItRow B W L v := by
  refine ⟨⟨h.own.1, ?_⟩, fun p hp => (h.kid p hp).keep fun b ⟨h1, h2, h3⟩ => ⟨⟨h1, Nat.lt_of_lt_of_le h2 hb.size, h3⟩, hb.block b h2⟩⟩
  rcases h.own.2 with h0 | ⟨g, cap, cur, hv, hB, hg, h1⟩
  · exact .inl h0
  · exact .inr ⟨g, cap, cur, hv, hB, (hb.block g (Array.getElem?_eq_some_iff.1 hg).1).trans hg, h1⟩
theorem addr_add (b o i : Nat) : (⟨b, o, none⟩ : Addr).add i = ⟨b, o + i, none⟩ := by
  unfold Addr.add
  by_cases h : i = 0
  · subst h; simp
  · simp [h]
theorem ItRow.fresh {B : Nat} {w : World} {L : List (M.It × Value)} {v : Value} (h : ItRow B w L v) : Fresh B w (L.map (·.1)) v := by
  rcases h.own.2 with ⟨hv, h0⟩ | ⟨g, cap, cur, hv, hB, hg, hc, hm, h1⟩
  · obtain rfl := List.eq_nil_of_length_eq_zero h0
    subst hv
    exact .nil_ (by decide)
  · have hcell := h.own.cells (g := g) (by rw [hv]; rfl)
    have hat : ∀ i l d ys, (L.map (·.1))[i]? = some (M.It.mk l d ys) → ∃ u, L[i]? = some (M.It.mk l d ys, u) := fun i l d ys e => by
      rw [List.getElem?_map] at e
      cases hl : L[i]? with
      | none => rw [hl] at e; cases e
      | some p =>
        rw [hl] at e
        obtain ⟨x, u⟩ := p
        simp at e
        subst e
        exact ⟨u, hl⟩
    have key := LayS.row (w := w) (S := fun b => B ≤ b ∧ b < w.heap.size) (xs := L.map (·.1)) (b := g) (o := 0) (cap := cap) (fun i => ((L[i]?).map (·.2)).getD Go.undef) ⟨hB, (Array.getElem?_eq_some_iff.1 hg).1⟩ (by simpa using hc) hm
      (fun i l d ys e => by
        obtain ⟨u, hu⟩ := hat i l d ys e
        have := hcell _ _ (flat_at L i l d ys u hu).1
        rw [addr_add] at this
        simpa using this)
      (fun i l d ys e => by
        obtain ⟨u, hu⟩ := hat i l d ys e
        have := hcell _ _ (flat_at L i l d ys u hu).2.1
        rw [addr_add] at this
        simpa [Nat.add_assoc] using this)
      (fun i l d ys e => by
        obtain ⟨u, hu⟩ := hat i l d ys e
        have := hcell _ _ (flat_at L i l d ys u hu).2.2
        rw [addr_add] at this
        simpa [Nat.add_assoc, hu] using this)
      (fun i l d ys e => by
        obtain ⟨u, hu⟩ := hat i l d ys e
        have := (h.kid _ (List.mem_of_getElem? hu)).keep (T := fun b => B ≤ b ∧ b < w.heap.size) (W := w) fun b ⟨h1, h2, _⟩ => ⟨⟨h1, h2⟩, rfl⟩
        simpa [hu, kids] using this)
    rw [hv]
    rw [List.length_map] at key
    exact key

/-- A store below the row's base: into the box that holds the slice. -/
theorem ItRow.above {B : Nat} {w W : World} {L : List (M.It × Value)} {v : Value} (h : ItRow B w L v) (hz : w.heap.size ≤ W.heap.size) (hb : ∀ b, B ≤ b → b < w.heap.size → W.heap[b]? = w.heap[b]?) : ItRow B W L v := by
  refine ⟨⟨h.own.1, ?_⟩, fun p hp => (h.kid p hp).keep fun b ⟨h1, h2, h3⟩ => ⟨⟨h1, Nat.lt_of_lt_of_le h2 hz, h3⟩, hb b h1 h2⟩⟩
  rcases h.own.2 with h0 | ⟨g, cap, cur, hv, hB, hg, h1⟩
  · exact .inl h0
  · exact .inr ⟨g, cap, cur, hv, hB, (hb g hB (Array.getElem?_eq_some_iff.1 hg).1).trans hg, h1⟩
theorem ItRow.setCell {B : Nat} {w : World} {L : List (M.It × Value)} {v : Value} (h : ItRow B w L v) (a : Addr) (x : Value) (ha : a.block < B) : ItRow B (w.setCell a x) L v :=
  h.above (by simp [World.setCell]) fun b h1 _ => Below.heap_setCell w a x b (by omega)
/-- What a call made after the row was there stands in other blocks. -/
theorem ItRow.other {B : Nat} {w W : World} {L : List (M.It × Value)} {v : Value} {ys : List M.It} {u : Value} (h : ItRow B w L v) (hB : B ≤ w.heap.size) (hF : Fresh w.heap.size W ys u) : LayS W (fun b => B ≤ b ∧ b < W.heap.size ∧ some b ≠ v.ownBlock) ys u :=
  LayS.keep hF fun b ⟨h1, h2⟩ => ⟨⟨Nat.le_trans hB h1, h2, fun e => by have := (World.ownsRow.lt h.own b e.symm).2; omega⟩, rfl⟩
theorem LayS.slice {w : World} {S : Nat → Prop} {xs : List M.It} {v : Value} (h : LayS w S xs v) : ∃ a cap, v = .slice a xs.length cap := by
  cases h with
  | nil_ hm => exact ⟨_, _, rfl⟩
  | row V hb hc hm c0 c1 c2 r => exact ⟨_, _, rfl⟩
theorem LayS.one {w : World} {S : Nat → Prop} {xs : List M.It} {v : Value} (h : LayS w S xs v) : v.oneCell' = true := by
  obtain ⟨a, cap, rfl⟩ := h.slice
  rfl
/-- The slice of a row. -/
theorem ItRow.slice {B : Nat} {w : World} {L : List (M.It × Value)} {v : Value} (h : ItRow B w L v) : ∃ a cap, v = .slice a L.length cap := by
  rcases h.own.2 with ⟨hv, h0⟩ | ⟨g, cap, cur, hv, _⟩
  · exact ⟨none, 0, by rw [hv, h0]⟩
  · exact ⟨_, _, hv⟩

theorem Tryz.ofItem : (Tryz.prog.info? 44).map (fun i => (i.zero, i.size, i.bytes)) = some (some (.agg #[.bool false, .string ⟨#[]⟩, .slice none 0 0]), 3, 48) := by kernel_rfl

/-- One item more, out of three cells: the row is its own block or a new one. -/
theorem item_append {B : Nat} {w : World} {L : List (M.It × Value)} {v : Value} (hL : ItRow B w L v) (hB : B ≤ w.heap.size) (hlen : L.length ≤ 100000) (ty : TypeId) (ad : Addr) (c : Nat) (l : Bool) (d : List UInt8) (ys : List M.It) (u : Value)
    (hnews : ∀ j x, ([.bool l, .string ⟨d.toArray⟩, u] : List Value)[j]? = some x → w.cell? (ad.add j) = some x) (hu : u.oneCell' = true) (hk : LayS w (fun b => B ≤ b ∧ b < w.heap.size ∧ some b ≠ v.ownBlock) ys u) :
    ∃ v' w', (Builtin.append_ #[42, 42] ty #[v, .slice (some ad) 1 c]).run Tryz.prog w = .ok v' w' ∧ ItRow B w' (L ++ [(.mk l d ys, u)]) v' ∧ w.grownBy w' v.ownBlock ∧ (v'.ownBlock = v.ownBlock ∨ v'.ownBlock = some w.heap.size) := by
  obtain ⟨i, hi, hz0, hz1, hz2⟩ := info_parts Tryz.ofItem
  have h1 : ∀ x ∈ ([.bool l, .string ⟨d.toArray⟩, u] : List Value), x.oneCell' = true := by
    intro x hx
    simp only [List.mem_cons, List.not_mem_nil, or_false] at hx
    rcases hx with rfl | rfl | rfl
    · rfl
    · rfl
    · exact hu
  obtain ⟨v', w', hr, ho, hg, _⟩ := run_append_own (P := Tryz.prog) w B 42 ty 44 i _ 3 48 Tryz.underlying42 hi hz0 hz1 hz2 rfl (by omega) v L.length _ hL.own ad 1 c [.bool l, .string ⟨d.toArray⟩, u] rfl hnews h1 (by simp only [maxLen]; omega) (by omega) hB
  have hblk : v'.ownBlock = v.ownBlock ∨ v'.ownBlock = some w.heap.size := by
    rcases hL.own.2 with ⟨rfl, h0⟩ | ⟨g, cap, cur, rfl, hbg, hgc, hnc, hcm, hcs, htake⟩
    · have h2 := run_append_nil (P := Tryz.prog) w 42 ty 44 i _ Tryz.underlying42 hi hz0 ad 1 c [.bool l, .string ⟨d.toArray⟩, u] (by rw [hz1]; rfl) hnews (by omega) (by omega) (by rw [hz2]; omega)
      rw [h2] at hr
      cases hr
      exact .inr rfl
    · by_cases hroom : L.length + 1 ≤ cap
      · have h2 := run_append_room (P := Tryz.prog) w 42 ty 44 i Tryz.underlying42 hi g L.length cap cur hgc ad 1 c [.bool l, .string ⟨d.toArray⟩, u] (by rw [hz1]; rfl) hnews h1 hroom (by rw [hz1, hcs]; show L.length * 3 + 3 ≤ cap * 3; omega)
        rw [h2] at hr
        cases hr
        exact .inl rfl
      · have h2 := run_append_grow (P := Tryz.prog) w 42 ty 44 i _ Tryz.underlying42 hi hz0 ⟨g, 0, none⟩ L.length cap _ (by rw [hz1]; exact hL.own.1) (hL.own.cells (g := g) rfl) ad 1 c [.bool l, .string ⟨d.toArray⟩, u] (by rw [hz1]; rfl) hnews (by omega) (by omega) (growslice_fits (by omega) (by rw [hz2]; omega))
        rw [h2] at hr
        cases hr
        exact .inr rfl
  refine ⟨v', w', hr, ⟨?_, ?_⟩, hg, hblk⟩
  · rw [List.flatMap_append, List.length_append]
    simpa [c3] using ho
  · have hS : ∀ b, (B ≤ b ∧ b < w.heap.size ∧ some b ≠ v.ownBlock) → (B ≤ b ∧ b < w'.heap.size ∧ some b ≠ v'.ownBlock) ∧ w'.heap[b]? = w.heap[b]? := fun b ⟨k1, k2, k3⟩ => by
      refine ⟨⟨k1, Nat.lt_of_lt_of_le k2 hg.size, ?_⟩, hg.block b k2 k3⟩
      rcases hblk with e | e
      · rw [e]; exact k3
      · rw [e]; intro h; cases h; omega
    intro p hp
    rcases List.mem_append.1 hp with h | h
    · exact (hL.kid p h).keep hS
    · simp only [List.mem_singleton] at h
      subst h
      exact hk.keep hS

section
variable {ops : Array Oper} {rest : List Oper} {o : Oper} {a : Act} {Q : Exit → Act → World → Prop}
/-- The append of an item, in a list of operations. -/
theorem wpList_append_item (hgd : o.guard = none) (s x : Operand) (ho : o.op = .call { callee := .builtin .append, args := #[s, x], argTypes := #[42, 42] })
    {B : Nat} {w : World} {L : List (M.It × Value)} {v : Value} (hs : a.eval s = v) (hL : ItRow B w L v) (hB : B ≤ w.heap.size) (hlen : L.length ≤ 100000) (ad : Addr) (c : Nat) (hx : a.eval x = .slice (some ad) 1 c) (l : Bool) (d : List UInt8) (ys : List M.It) (u : Value)
    (hnews : ∀ j x, ([.bool l, .string ⟨d.toArray⟩, u] : List Value)[j]? = some x → w.cell? (ad.add j) = some x) (hu : u.oneCell' = true) (hk : LayS w (fun b => B ≤ b ∧ b < w.heap.size ∧ some b ≠ v.ownBlock) ys u)
    (h : ∀ v' w', ItRow B w' (L ++ [(.mk l d ys, u)]) v' → w.grownBy w' v.ownBlock → wpList Tryz.prog ops Q rest (a.put o.dst v') w') : wpList Tryz.prog ops Q (o :: rest) a w := by
  obtain ⟨v', w', hr, h2, h3, _⟩ := item_append hL hB hlen o.type ad c l d ys u hnews hu hk
  refine wpList_plain hgd fun _ hK => ?_
  unfold Oper.wp execOp
  simp only [ho, resolve, invoke, builtin, Sem.run_bind, Sem.run_pure, Result.andThen_ok, List.map_toArray, List.map_cons, List.map_nil, hs, hx, hr]
  exact hK _ _ (h v' w' h2 h3)
end
end Go.Proofs.YtebjhbeaknokkaaGreatDoor
namespace Go.Proofs.YtebjhbeaknokkaaGreatDoor
open Go Go.RowKit

theorem wpList_append_run {P : Program} {ops : Array Oper} {rest : List Oper} {o : Oper} {a : Act} {w w' : World} {Q : Exit → Act → World → Prop} (hgd : o.guard = none) (s x : Operand) (ats : Array TypeId)
    (ho : o.op = .call { callee := .builtin .append, args := #[s, x], argTypes := ats }) (v u v' : Value) (hs : a.eval s = v) (hx : a.eval x = u) (hr : (Builtin.append_ ats o.type #[v, u]).run P w = .ok v' w')
    (h : wpList P ops Q rest (a.put o.dst v') w') : wpList P ops Q (o :: rest) a w := by
  refine wpList_plain hgd fun _ hK => ?_
  unfold Oper.wp execOp
  simp only [ho, resolve, invoke, builtin, Sem.run_bind, Sem.run_pure, Result.andThen_ok, List.map_toArray, List.map_cons, List.map_nil, hs, hx, hr]
  exact hK _ _ h

/-- What lies in cells: items that are bytes. -/
def Tx (cur : Array Value) (ls : List (List UInt8)) : Prop := ∀ i s, ls[i]? = some s → cur[i * 3]? = some (.bool false) ∧ cur[i * 3 + 1]? = some (.string ⟨s.toArray⟩) ∧ ∃ a cap, cur[i * 3 + 2]? = some (.slice a 0 cap) ∧ cap ≤ maxLen

theorem nil_is (w : World) (a : Option Addr) (n c : Nat) : (binOp .eql 42 (.slice a n c) (.slice none 0 0)).run Tryz.prog w = .ok (.bool a.isNone) w :=
  Lib.run_eql_slice_nil w 42 44 a n c 0 0 Tryz.underlying42

set_option maxRecDepth 100000 in
set_option maxHeartbeats 4000000 in
theorem clone_none (a : Option Addr) (cap : Nat) (w : World) : Calls Tryz.prog 129 #[.slice a 0 cap] w fun e w' => (∃ a' cap', e = .returned (.slice a' 0 cap') ∧ cap' ≤ maxLen) ∧ Below w.heap.size w w' := by
  cases a with
  | none =>
    have HE := fun W => nil_is W none 0 cap
    simp only [Option.isNone] at HE
    go_enter Tryz.func129, Tryz.ntmps129
    go_wp2_with fail
    go_ret
    exact ⟨⟨_, _, rfl, by decide⟩, Below.refl _ _⟩
  | some b =>
    have HE := fun W => nil_is W (some b) 0 cap
    simp only [Option.isNone] at HE
    go_enter Tryz.func129, Tryz.ntmps129
    go_wp2_with fail
    go_ret
    exact ⟨⟨_, _, rfl, by decide⟩, (Below.refl _ w).alloc (Nat.le_refl _) _⟩

theorem three {P : Nat → Prop} {n : Nat} (h : ∀ i, i < n → P (i * 3) ∧ P (i * 3 + 1) ∧ P (i * 3 + 2)) : ∀ j, j < n * 3 → P j := by
  intro j hj
  obtain ⟨h0, h1, h2⟩ := h (j / 3) (by omega)
  have : j % 3 = 0 ∨ j % 3 = 1 ∨ j % 3 = 2 := by omega
  rcases this with e | e | e
  · rw [show j = j / 3 * 3 by omega]; exact h0
  · rw [show j = j / 3 * 3 + 1 by omega]; exact h1
  · rw [show j = j / 3 * 3 + 2 by omega]; exact h2

/-- Cells one behind the other. -/
def seg (w : World) (b o m : Nat) : List Value := (List.range m).map fun j => (w.cell? ⟨b, o + j, none⟩).getD undef
theorem seg_length (w : World) (b o m : Nat) : (seg w b o m).length = m := by simp [seg]
theorem seg_at {w : World} {b o m j : Nat} (hj : j < m) {v : Value} (h : w.cell? ⟨b, o + j, none⟩ = some v) : (seg w b o m)[j]? = some v := by simp [seg, hj, h]
theorem seg_all {w : World} {b o m : Nat} (h : ∀ j, j < m → ∃ v, w.cell? ⟨b, o + j, none⟩ = some v) (j : Nat) (v : Value) (hv : (seg w b o m)[j]? = some v) : w.cell? ((⟨b, o, none⟩ : Addr).add j) = some v := by
  have hj : j < m := by
    have := (List.getElem?_eq_some_iff.1 hv).1
    rwa [seg_length] at this
  obtain ⟨u, hu⟩ := h j hj
  rw [seg_at hj hu] at hv
  cases hv
  rw [addr_add]
  exact hu

end Go.Proofs.YtebjhbeaknokkaaGreatDoor
namespace Go.Proofs.YtebjhbeaknokkaaGreatDoor
open Go Go.RowKit

set_option maxRecDepth 100000 in
set_option maxHeartbeats 4000000 in
theorem copied_none (a : Option Addr) (cap : Nat) (w : World) : Calls Tryz.prog 86 #[.slice a 0 cap] w fun e w' => (∃ a' cap', e = .returned (.slice a' 0 cap') ∧ cap' ≤ maxLen) ∧ Below w.heap.size w w' := by
  have HC := Lib.hid (fun W => clone_none a cap W)
  go_enter Tryz.func86, Tryz.ntmps86
  go_wp2_with fail
  refine (HC.out _).mono ?_
  rintro e w1 ⟨⟨a', cap', rfl, hm⟩, hb1⟩
  go_wp2_with fail
  go_loopw [10] (fun i wr => i = .int .i64 0 ∧ wr = w1) (fun _ _ => 0)
  case atStart => exact ⟨rfl, rfl⟩
  case round =>
    obtain ⟨rfl, rfl⟩ := hrel
    go_wp2_with fail
    go_ret
    exact ⟨⟨_, _, rfl, hm⟩, hb1⟩

theorem Tx.set1 {cur : Array Value} {ls : List (List UInt8)} {k : Nat} {s : List UInt8} (h : Tx cur ls) (hk : ls[k]? = some s) : Tx (cur.setIfInBounds (k * 3 + 1) (.string ⟨s.toArray⟩)) ls := fun i t hi => by
  obtain ⟨c0, c1, a, cap, c2, hm⟩ := h i t hi
  refine ⟨by rw [Array.getElem?_setIfInBounds_ne (by omega)]; exact c0, ?_, a, cap, by rw [Array.getElem?_setIfInBounds_ne (by omega)]; exact c2, hm⟩
  by_cases e : i = k
  · subst e
    rw [hk] at hi
    cases hi
    have := (Array.getElem?_eq_some_iff.1 c1).1
    rw [Array.getElem?_setIfInBounds_self_of_lt this]
  · rw [Array.getElem?_setIfInBounds_ne (by omega)]
    exact c1
theorem Tx.set2 {cur : Array Value} {ls : List (List UInt8)} {k : Nat} (h : Tx cur ls) (a : Option Addr) (cap : Nat) (hm : cap ≤ maxLen) : Tx (cur.setIfInBounds (k * 3 + 2) (.slice a 0 cap)) ls := fun i t hi => by
  obtain ⟨c0, c1, a', cap', c2, hm'⟩ := h i t hi
  refine ⟨by rw [Array.getElem?_setIfInBounds_ne (by omega)]; exact c0, by rw [Array.getElem?_setIfInBounds_ne (by omega)]; exact c1, ?_⟩
  by_cases e : i = k
  · subst e
    have := (Array.getElem?_eq_some_iff.1 c2).1
    exact ⟨a, cap, by rw [Array.getElem?_setIfInBounds_self_of_lt this], hm⟩
  · exact ⟨a', cap', by rw [Array.getElem?_setIfInBounds_ne (by omega)]; exact c2, hm'⟩
theorem Tx.lay {W : World} {S : Nat → Prop} {g cap : Nat} {cur : Array Value} {ls : List (List UInt8)} (h : Tx cur ls) (hrow : W.heap[g]? = some (.cells cur 44 (0, 0))) (hg : S g) (hc : ls.length ≤ cap) (hm : cap ≤ maxLen) : LayS W S (ls.map M.textI) (.slice (some ⟨g, 0, none⟩) ls.length cap) := by
  have hat : ∀ j v, cur[j]? = some v → W.cell? ⟨g, 0 + j, none⟩ = some v := fun j v hv => by simp [World.cell?, hrow, hv]
  have hx : ∀ i l d ys, (ls.map M.textI)[i]? = some (M.It.mk l d ys) → ∃ s, ls[i]? = some s ∧ l = false ∧ d = s ∧ ys = [] := fun i l d ys e => by
    rw [List.getElem?_map] at e
    cases hs : ls[i]? with
    | none => rw [hs] at e; cases e
    | some s =>
      rw [hs] at e
      simp only [Option.map_some, Option.some.injEq, M.textI, M.It.mk.injEq] at e
      exact ⟨s, hs, e.1.symm, e.2.1.symm, e.2.2.symm⟩
  have key := LayS.row (w := W) (S := S) (xs := ls.map M.textI) (b := g) (o := 0) (cap := cap) (fun i => (cur[i * 3 + 2]?).getD undef) hg (by rw [List.length_map]; exact hc) hm
    (fun i l d ys e => by
      obtain ⟨s, hs, rfl, rfl, rfl⟩ := hx i l d ys e
      exact hat _ _ (h i _ hs).1)
    (fun i l d ys e => by
      obtain ⟨s, hs, rfl, rfl, rfl⟩ := hx i l d ys e
      have := hat _ _ (h i _ hs).2.1
      rwa [← Nat.add_assoc] at this)
    (fun i l d ys e => by
      obtain ⟨s, hs, rfl, rfl, rfl⟩ := hx i l d ys e
      obtain ⟨a, c, c2, _⟩ := (h i _ hs).2.2
      have := hat _ _ c2
      rw [← Nat.add_assoc] at this
      rw [this, c2, Option.getD_some])
    (fun i l d ys e => by
      obtain ⟨s, hs, rfl, rfl, rfl⟩ := hx i l d ys e
      obtain ⟨a, c, c2, hm⟩ := (h i _ hs).2.2
      rw [c2, Option.getD_some]
      exact .nil_ hm)
  rwa [List.length_map] at key

end Go.Proofs.YtebjhbeaknokkaaGreatDoor
