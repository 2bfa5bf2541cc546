/- What the calls of package field must do; the example of layer 6. The reference's Texts: are two rows of texts the same?. The reference's digits of a word. Four cells of a block: what a word in memory is. The reference's bytes of a word: Fixed, Bytes, Small. -/
import Derived.Test.YtihiacbhdcahkaaGreatDoorH09
import Derived.Test.YtihiacbhdcahkaaGreatDoorH02
import Derived.Test.YtihiacbhdcahkaaGreatDoorH01
import Derived.Lib.Hide
import Derived.Deep.DeepCutAuto
import Derived.Laws.IdiomStrings
import Derived.Laws.BytesArg
import Derived.Maps.AppendAt
import Derived.Deep.RegionHeld3
namespace Go.Proofs.YtihiacbhdcahkaaGreatDoor
open Go Go.RowKit

def FNumberOk : Prop := ∀ (n : Nat) (W : World), n < 18446744073709551616 → Calls Tryz.prog 23 #[.int .u64 n] W fun e w' => e = .returned (iv false (M.ben n) (.slice none 0 0)) ∧ Below W.heap.size W w'
def FWordOk : Prop := ∀ (N : Nat) (W : World), M.In N → Calls Tryz.prog 140 #[wn N] W fun e w' => e = .returned (iv false (M.tr (M.f32 N)) (.slice none 0 0)) ∧ Below W.heap.size W w'
def FTextOk : Prop := ∀ (s : List UInt8) (W : World), s.length ≤ longS → Calls Tryz.prog 42 #[.string ⟨s.toArray⟩] W fun e w' => e = .returned (iv false s (.slice none 0 0)) ∧ Below W.heap.size W w'
def FBoolOk : Prop := ∀ (v : Bool) (W : World), Calls Tryz.prog 22 #[.bool v] W fun e w' => e = .returned (iv false (if v then [1] else []) (.slice none 0 0)) ∧ Below W.heap.size W w'
def FListOk : Prop := ∀ (ls : List (List UInt8)) (a : Option Addr) (cap : Nat) (W : World), Lay W W.heap.size (ls.map M.textI) (.slice a ls.length cap) → ls.length ≤ 600 → (∀ s ∈ ls, s.length ≤ longS) → Calls Tryz.prog 47 #[.slice a ls.length cap] W fun e w' =>
  (∃ a' cap', e = .returned (iv true [] (.slice a' ls.length cap')) ∧ Lay w' w'.heap.size (ls.map M.textI) (.slice a' ls.length cap')) ∧ Below W.heap.size W w'
def FTextsOk : Prop := ∀ (ls : List (List UInt8)) (a : Option Addr) (cap : Nat) (W : World), Ts W W.heap.size ls (.slice a ls.length cap) → ls.length ≤ 600 → (∀ s ∈ ls, s.length ≤ longS) → Calls Tryz.prog 48 #[.slice a ls.length cap] W fun e w' =>
  (∃ a' cap', e = .returned (iv true [] (.slice a' ls.length cap')) ∧ Lay w' w'.heap.size (ls.map M.textI) (.slice a' ls.length cap')) ∧ Below W.heap.size W w'
/-- An item that is read: laid out, and no bytes longer than a text may be. -/
def Rd (W : World) (l : Bool) (d : List UInt8) (xs : List M.It) (a : Option Addr) (cap : Nat) : Prop := Lay W W.heap.size xs (.slice a xs.length cap) ∧ M.smI (.mk l d xs) ∧ M.cntIs xs ≤ 4000 ∧ M.formI 0 (.mk l d xs) = 0
def GNumberOk : Prop := ∀ (l : Bool) (d : List UInt8) (xs : List M.It) (a : Option Addr) (cap : Nat) (W : World), Rd W l d xs a cap → Calls Tryz.prog 68 #[iv l d (.slice a xs.length cap)] W fun e w' =>
  e = .returned (.tuple #[.int .u64 ((M.getNumber (.mk l d xs)).1 : Nat), .int .i64 ((M.getNumber (.mk l d xs)).2 : Nat)]) ∧ Below W.heap.size W w'
def GWordOk : Prop := ∀ (l : Bool) (d : List UInt8) (xs : List M.It) (a : Option Addr) (cap : Nat) (W : World), Rd W l d xs a cap → Calls Tryz.prog 215 #[iv l d (.slice a xs.length cap)] W fun e w' =>
  e = .returned (.tuple #[wn (M.getWord (.mk l d xs)).1, .int .i64 ((M.getWord (.mk l d xs)).2 : Nat)]) ∧ Below W.heap.size W w'
def GTextOk : Prop := ∀ (l : Bool) (d : List UInt8) (xs : List M.It) (a : Option Addr) (cap : Nat) (least most : Int) (W : World), Rd W l d xs a cap → Calls Tryz.prog 188 #[iv l d (.slice a xs.length cap), .int .i64 least, .int .i64 most] W fun e w' =>
  e = .returned (.tuple #[.string ⟨(M.getText least most (.mk l d xs)).1.toArray⟩, .int .i64 ((M.getText least most (.mk l d xs)).2 : Nat)]) ∧ Below W.heap.size W w'
def GBoolOk : Prop := ∀ (l : Bool) (d : List UInt8) (xs : List M.It) (a : Option Addr) (cap : Nat) (W : World), Rd W l d xs a cap → Calls Tryz.prog 66 #[iv l d (.slice a xs.length cap)] W fun e w' =>
  e = .returned (.tuple #[.bool (M.getBool (.mk l d xs)).1, .int .i64 ((M.getBool (.mk l d xs)).2 : Nat)]) ∧ Below W.heap.size W w'
def GAddrOk : Prop := ∀ (l : Bool) (d : List UInt8) (xs : List M.It) (a : Option Addr) (cap : Nat) (W : World), Rd W l d xs a cap → Calls Tryz.prog 220 #[iv l d (.slice a xs.length cap)] W fun e w' =>
  e = .returned (.tuple #[.string ⟨(M.getAddr (.mk l d xs)).1.toArray⟩, .int .i64 ((M.getAddr (.mk l d xs)).2 : Nat)]) ∧ Below W.heap.size W w'
/-- Of a list of bytes: how many there are. -/
def GListOk : Prop := ∀ (ls : List (List UInt8)) (a : Option Addr) (cap : Nat) (W : World), Lay W W.heap.size (ls.map M.textI) (.slice a ls.length cap) → ls.length ≤ 600 → (∀ s ∈ ls, s.length ≤ longS) → Calls Tryz.prog 104 #[iv true [] (.slice a ls.length cap), .int .i64 ls.length, .int .i64 ls.length] W fun e w' =>
  (∃ a' cap', e = .returned (.tuple #[.slice a' ls.length cap', .int .i64 0])) ∧ Below W.heap.size W w'
theorem Rd.text (W : World) (s : List UInt8) (hs : s.length ≤ longS) : Rd W false s [] none 0 := ⟨.nil_ (by decide), ⟨by unfold longS at hs; omega, trivial⟩, by decide, by simp [M.formI]⟩
end Go.Proofs.YtihiacbhdcahkaaGreatDoor
namespace Go.Proofs.YtihiacbhdcahkaaGreatDoor
open Go Go.RowKit

end Go.Proofs.YtihiacbhdcahkaaGreatDoor
namespace Go.Proofs.YtihiacbhdcahkaaGreatDoor
open Go Go.RowKit

end Go.Proofs.YtihiacbhdcahkaaGreatDoor
namespace Go.Proofs.YtihiacbhdcahkaaGreatDoor
open Go Go.RowKit

/-- Four cells of a block that lies in a world. -/
structure W4 (W : World) (b : Nat) (a0 a1 a2 a3 : Int) : Prop where
  c0 : W.cell? ⟨b, 0, none⟩ = some (.int .u64 a0)
  c1 : W.cell? ⟨b, 1, none⟩ = some (.int .u64 a1)
  c2 : W.cell? ⟨b, 2, none⟩ = some (.int .u64 a2)
  c3 : W.cell? ⟨b, 3, none⟩ = some (.int .u64 a3)
  lt : b < W.heap.size

theorem W4.below {W W' : World} {b : Nat} {a0 a1 a2 a3 : Int} (h : W4 W b a0 a1 a2 a3) (hb : Below W.heap.size W W') : W4 W' b a0 a1 a2 a3 :=
  ⟨(hb.cell (p := ⟨b, 0, none⟩) h.lt).trans h.c0, (hb.cell (p := ⟨b, 1, none⟩) h.lt).trans h.c1, (hb.cell (p := ⟨b, 2, none⟩) h.lt).trans h.c2, (hb.cell (p := ⟨b, 3, none⟩) h.lt).trans h.c3, Nat.lt_of_lt_of_le h.lt hb.size⟩

theorem W4.new (W : World) (a0 a1 a2 a3 : Int) (t : Nat) : W4 (W.alloc (.cells #[.int .u64 a0, .int .u64 a1, .int .u64 a2, .int .u64 a3] t)) W.heap.size a0 a1 a2 a3 :=
  ⟨by simp [go_sem], by simp [go_sem], by simp [go_sem], by simp [go_sem], by simp⟩

theorem W4.put {W : World} {b : Nat} {x0 x1 x2 x3 a0 a1 a2 a3 : Int} (h : W4 W b x0 x1 x2 x3) : W4 ((((W.setCell ⟨b, 0, none⟩ (.int .u64 a0)).setCell ⟨b, 1, none⟩ (.int .u64 a1)).setCell ⟨b, 2, none⟩ (.int .u64 a2)).setCell ⟨b, 3, none⟩ (.int .u64 a3)) b a0 a1 a2 a3 := by
  obtain ⟨c0, c1, c2, c3, lt⟩ := h
  have d0 : (W.setCell ⟨b, 0, none⟩ (.int .u64 a0)).cell? ⟨b, 0, none⟩ = some (.int .u64 a0) := by simp [go_sem, c0]
  have d1 : (W.setCell ⟨b, 0, none⟩ (.int .u64 a0)).cell? ⟨b, 1, none⟩ = some (.int .u64 x1) := by simp [go_sem, c1]
  have d2 : (W.setCell ⟨b, 0, none⟩ (.int .u64 a0)).cell? ⟨b, 2, none⟩ = some (.int .u64 x2) := by simp [go_sem, c2]
  have d3 : (W.setCell ⟨b, 0, none⟩ (.int .u64 a0)).cell? ⟨b, 3, none⟩ = some (.int .u64 x3) := by simp [go_sem, c3]
  have l1 : b < (W.setCell ⟨b, 0, none⟩ (.int .u64 a0)).heap.size := by simpa using lt
  generalize W.setCell ⟨b, 0, none⟩ (.int .u64 a0) = W1 at *
  have e0 : (W1.setCell ⟨b, 1, none⟩ (.int .u64 a1)).cell? ⟨b, 0, none⟩ = some (.int .u64 a0) := by simp [go_sem, d0]
  have e1 : (W1.setCell ⟨b, 1, none⟩ (.int .u64 a1)).cell? ⟨b, 1, none⟩ = some (.int .u64 a1) := by simp [go_sem, d1]
  have e2 : (W1.setCell ⟨b, 1, none⟩ (.int .u64 a1)).cell? ⟨b, 2, none⟩ = some (.int .u64 x2) := by simp [go_sem, d2]
  have e3 : (W1.setCell ⟨b, 1, none⟩ (.int .u64 a1)).cell? ⟨b, 3, none⟩ = some (.int .u64 x3) := by simp [go_sem, d3]
  have l2 : b < (W1.setCell ⟨b, 1, none⟩ (.int .u64 a1)).heap.size := by simpa using l1
  generalize W1.setCell ⟨b, 1, none⟩ (.int .u64 a1) = W2 at *
  have f0 : (W2.setCell ⟨b, 2, none⟩ (.int .u64 a2)).cell? ⟨b, 0, none⟩ = some (.int .u64 a0) := by simp [go_sem, e0]
  have f1 : (W2.setCell ⟨b, 2, none⟩ (.int .u64 a2)).cell? ⟨b, 1, none⟩ = some (.int .u64 a1) := by simp [go_sem, e1]
  have f2 : (W2.setCell ⟨b, 2, none⟩ (.int .u64 a2)).cell? ⟨b, 2, none⟩ = some (.int .u64 a2) := by simp [go_sem, e2]
  have f3 : (W2.setCell ⟨b, 2, none⟩ (.int .u64 a2)).cell? ⟨b, 3, none⟩ = some (.int .u64 x3) := by simp [go_sem, e3]
  have l3 : b < (W2.setCell ⟨b, 2, none⟩ (.int .u64 a2)).heap.size := by simpa using l2
  generalize W2.setCell ⟨b, 2, none⟩ (.int .u64 a2) = W3 at *
  exact ⟨by simp [go_sem, f0], by simp [go_sem, f1], by simp [go_sem, f2], by simp [go_sem, f3], by simpa using l3⟩

end Go.Proofs.YtihiacbhdcahkaaGreatDoor
namespace Go.Proofs.YtihiacbhdcahkaaGreatDoor
open Go Go.RowKit

end Go.Proofs.YtihiacbhdcahkaaGreatDoor
