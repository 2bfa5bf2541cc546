/- What the calls of package field must do; the example of layer 6. -/
import Derived.Test.YtebkmlbpngpmdaaDoorMM
import Derived.Test.YtebkmlbpngpmdaaDoorC0g
import Derived.Test.YtebkmlbpngpmdaaDoorW1g
namespace Go.Proofs.YtebkmlbpngpmdaaDoor
open Go Go.RowKit

/-- What a slice of texts leads to. -/
inductive Ts (w : World) (n : Nat) : List (List UInt8) → Value → Prop
  | nil_ {a : Option Addr} {cap : Nat} (hm : cap ≤ maxLen) : Ts w n [] (.slice a 0 cap)
  | row {ls : List (List UInt8)} {b o cap : Nat} (hb : b < n) (hc : ls.length ≤ cap) (hm : cap ≤ maxLen)
      (c : ∀ i s, ls[i]? = some s → w.cell? ⟨b, o + i, none⟩ = some (.string ⟨s.toArray⟩)) : Ts w n ls (.slice (some ⟨b, o, none⟩) ls.length cap)
theorem Ts.from_ {w W : World} {n : Nat} {ls : List (List UInt8)} {v : Value} (h : Ts w n ls v) (hb : Below n w W) : Ts W n ls v := by
  cases h with
  | nil_ hm => exact .nil_ hm
  | row hbn hc hm c => exact .row hbn hc hm fun i s e => (hb.cell (p := ⟨_, _, none⟩) hbn).trans (c i s e)
theorem Ts.mono {w : World} {m n : Nat} {ls : List (List UInt8)} {v : Value} (h : Ts w m ls v) (hmn : m ≤ n) : Ts w n ls v := by
  cases h with
  | nil_ hm => exact .nil_ hm
  | row hbn hc hm c => exact .row (Nat.lt_of_lt_of_le hbn hmn) hc hm c
theorem Ts.slice {w : World} {n : Nat} {ls : List (List UInt8)} {v : Value} (h : Ts w n ls v) : ∃ a cap, v = .slice a ls.length cap ∧ ls.length ≤ cap ∧ cap ≤ maxLen := by
  cases h with
  | nil_ hm => exact ⟨_, _, rfl, Nat.zero_le _, hm⟩
  | row hbn hc hm c => exact ⟨_, _, rfl, hc, hm⟩
theorem Ts.at_ {w : World} {n : Nat} {ls : List (List UInt8)} {a : Option Addr} {m cap i : Nat} (h : Ts w n ls (.slice a m cap)) (hi : i < ls.length) : ∃ b o s, a = some ⟨b, o, none⟩ ∧ b < n ∧ ls[i]? = some s ∧ w.cell? ⟨b, o + i, none⟩ = some (.string ⟨s.toArray⟩) := by
  cases h with
  | nil_ hm => simp at hi
  | row hbn hc hm c => exact ⟨_, _, ls[i], rfl, hbn, List.getElem?_eq_getElem hi, c i _ (List.getElem?_eq_getElem hi)⟩

/-- How long a text may be. -/
abbrev longS : Nat := 140737488355328
def FNumberOk : Prop := ∀ (n : Nat) (W : World), n < 18446744073709551616 → Calls Tryd.prog 8 #[.int .u64 n] W fun e w' => e = .returned (iv false (M.ben n) (.slice none 0 0)) ∧ Below W.heap.size W w'
def FWordOk : Prop := ∀ (N : Nat) (W : World), M.In N → Calls Tryd.prog 10 #[wn N] W fun e w' => e = .returned (iv false (M.tr (M.f32 N)) (.slice none 0 0)) ∧ Below W.heap.size W w'
def FTextOk : Prop := ∀ (s : List UInt8) (W : World), s.length ≤ longS → Calls Tryd.prog 12 #[.string ⟨s.toArray⟩] W fun e w' => e = .returned (iv false s (.slice none 0 0)) ∧ Below W.heap.size W w'
def FBoolOk : Prop := ∀ (v : Bool) (W : World), Calls Tryd.prog 14 #[.bool v] W fun e w' => e = .returned (iv false (if v then [1] else []) (.slice none 0 0)) ∧ Below W.heap.size W w'
def FListOk : Prop := ∀ (ls : List (List UInt8)) (a : Option Addr) (cap : Nat) (W : World), Lay W W.heap.size (ls.map M.textI) (.slice a ls.length cap) → ls.length ≤ 600 → (∀ s ∈ ls, s.length ≤ longS) → Calls Tryd.prog 18 #[.slice a ls.length cap] W fun e w' =>
  (∃ a' cap', e = .returned (iv true [] (.slice a' ls.length cap')) ∧ Lay w' w'.heap.size (ls.map M.textI) (.slice a' ls.length cap')) ∧ Below W.heap.size W w'
def FTextsOk : Prop := ∀ (ls : List (List UInt8)) (a : Option Addr) (cap : Nat) (W : World), Ts W W.heap.size ls (.slice a ls.length cap) → ls.length ≤ 600 → (∀ s ∈ ls, s.length ≤ longS) → Calls Tryd.prog 16 #[.slice a ls.length cap] W fun e w' =>
  (∃ a' cap', e = .returned (iv true [] (.slice a' ls.length cap')) ∧ Lay w' w'.heap.size (ls.map M.textI) (.slice a' ls.length cap')) ∧ Below W.heap.size W w'
/-- An item that is read: laid out, and no bytes longer than a text may be. -/
def Rd (W : World) (l : Bool) (d : List UInt8) (xs : List M.It) (a : Option Addr) (cap : Nat) : Prop := Lay W W.heap.size xs (.slice a xs.length cap) ∧ M.smI (.mk l d xs) ∧ M.cntIs xs ≤ 4000 ∧ M.formI 0 (.mk l d xs) = 0
def GNumberOk : Prop := ∀ (l : Bool) (d : List UInt8) (xs : List M.It) (a : Option Addr) (cap : Nat) (W : World), Rd W l d xs a cap → Calls Tryd.prog 20 #[iv l d (.slice a xs.length cap)] W fun e w' =>
  e = .returned (.tuple #[.int .u64 ((M.getNumber (.mk l d xs)).1 : Nat), .int .i64 ((M.getNumber (.mk l d xs)).2 : Nat)]) ∧ Below W.heap.size W w'
def GWordOk : Prop := ∀ (l : Bool) (d : List UInt8) (xs : List M.It) (a : Option Addr) (cap : Nat) (W : World), Rd W l d xs a cap → Calls Tryd.prog 21 #[iv l d (.slice a xs.length cap)] W fun e w' =>
  e = .returned (.tuple #[wn (M.getWord (.mk l d xs)).1, .int .i64 ((M.getWord (.mk l d xs)).2 : Nat)]) ∧ Below W.heap.size W w'
def GTextOk : Prop := ∀ (l : Bool) (d : List UInt8) (xs : List M.It) (a : Option Addr) (cap : Nat) (least most : Int) (W : World), Rd W l d xs a cap → Calls Tryd.prog 22 #[iv l d (.slice a xs.length cap), .int .i64 least, .int .i64 most] W fun e w' =>
  e = .returned (.tuple #[.string ⟨(M.getText least most (.mk l d xs)).1.toArray⟩, .int .i64 ((M.getText least most (.mk l d xs)).2 : Nat)]) ∧ Below W.heap.size W w'
def GBoolOk : Prop := ∀ (l : Bool) (d : List UInt8) (xs : List M.It) (a : Option Addr) (cap : Nat) (W : World), Rd W l d xs a cap → Calls Tryd.prog 23 #[iv l d (.slice a xs.length cap)] W fun e w' =>
  e = .returned (.tuple #[.bool (M.getBool (.mk l d xs)).1, .int .i64 ((M.getBool (.mk l d xs)).2 : Nat)]) ∧ Below W.heap.size W w'
def GAddrOk : Prop := ∀ (l : Bool) (d : List UInt8) (xs : List M.It) (a : Option Addr) (cap : Nat) (W : World), Rd W l d xs a cap → Calls Tryd.prog 29 #[iv l d (.slice a xs.length cap)] W fun e w' =>
  e = .returned (.tuple #[.string ⟨(M.getAddr (.mk l d xs)).1.toArray⟩, .int .i64 ((M.getAddr (.mk l d xs)).2 : Nat)]) ∧ Below W.heap.size W w'
/-- Of a list of bytes: how many there are. -/
def GListOk : Prop := ∀ (ls : List (List UInt8)) (a : Option Addr) (cap : Nat) (W : World), Lay W W.heap.size (ls.map M.textI) (.slice a ls.length cap) → ls.length ≤ 600 → (∀ s ∈ ls, s.length ≤ longS) → Calls Tryd.prog 30 #[iv true [] (.slice a ls.length cap), .int .i64 ls.length, .int .i64 ls.length] W fun e w' =>
  (∃ a' cap', e = .returned (.tuple #[.slice a' ls.length cap', .int .i64 0])) ∧ Below W.heap.size W w'
def GTextsOk : Prop := ∀ (l : Bool) (d : List UInt8) (xs : List M.It) (a : Option Addr) (cap : Nat) (many least most : Int) (W : World), Rd W l d xs a cap → Calls Tryd.prog 24 #[iv l d (.slice a xs.length cap), .int .i64 many, .int .i64 least, .int .i64 most] W fun e w' =>
  (∃ a' cap', e = .returned (.tuple #[.slice a' (M.getTexts many least most (.mk l d xs)).1.length cap', .int .i64 ((M.getTexts many least most (.mk l d xs)).2 : Nat)]) ∧ Ts w' w'.heap.size (M.getTexts many least most (.mk l d xs)).1 (.slice a' (M.getTexts many least most (.mk l d xs)).1.length cap')) ∧ Below W.heap.size W w'
structure Fields : Prop where
  number : FNumberOk
  word : FWordOk
  text : FTextOk
  bool_ : FBoolOk
  list : FListOk
  texts : FTextsOk
  gNumber : GNumberOk
  gWord : GWordOk
  gText : GTextOk
  gBool : GBoolOk
  gAddr : GAddrOk
  gList : GListOk
  gTexts : GTextsOk
theorem Rd.text (W : World) (s : List UInt8) (hs : s.length ≤ longS) : Rd W false s [] none 0 := ⟨.nil_ (by decide), ⟨by unfold longS at hs; omega, trivial⟩, by decide, by simp [M.formI]⟩
end Go.Proofs.YtebkmlbpngpmdaaDoor
