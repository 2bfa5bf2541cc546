/- How many items come to how many bytes. Plain arithmetic: what an item's fields are. Words as values. Appending to rows of one's own: in which block what comes of it stands. Rows of texts: what comes in, and what a call owns. -/
import Derived.Test.YtihiacbhdcahkaaGreatDoorH08
import Derived.Test.YtihiacbhdcahkaaGreatDoorH01
import Derived.Test.YtihiacbhdcahkaaGreatDoorH02
import Derived.Test.YtihiacbhdcahkaaGreatDoorH04
namespace Go.Proofs.YtihiacbhdcahkaaGreatDoor
namespace M
mutual
theorem cnt_le : ∀ (x : It) (d : Nat), formI d x = 0 → cntI x ≤ (bytesI x).length
  | .mk true b xs, d, h => by
    obtain ⟨_, _, _, h4⟩ := (formI_ok h).1 rfl
    have := cnts_le xs (d + 1) h4
    have h1 := bytesI_ne (.mk true b xs)
    rw [cntI]
    rw [bytesI] at h1 ⊢
    by_cases hz : (bytesIs xs).length = 0
    · have := Nat.pos_of_ne_zero h1
      omega
    · have h2 : 1 ≤ (hdL (bytesIs xs).length 192).length := by
        unfold hdL
        split <;> simp
      rw [List.length_append]
      omega
  | .mk false b xs, d, h => by
    have := (formI_ok h).2 rfl
    subst this
    have h1 := Nat.pos_of_ne_zero fun h => bytesI_ne (.mk false b []) h
    rw [cntI, cntIs]
    omega
theorem cnts_le : ∀ (xs : List It) (d : Nat), formIs d xs = 0 → cntIs xs ≤ (bytesIs xs).length
  | [], _, _ => by simp [cntIs]
  | x :: xs, d, h => by
    obtain ⟨h1, h2⟩ := formIs_ok h
    have e1 := cnt_le x d h1
    have e2 := cnts_le xs d h2
    rw [cntIs, bytesIs, List.length_append]
    omega
end
end M
end Go.Proofs.YtihiacbhdcahkaaGreatDoor
namespace Go.Proofs.YtihiacbhdcahkaaGreatDoor.M
open Go

/-- A word read of bytes. -/
def pw (l : List UInt8) : Nat × Nat := if 32 < l.length then (0, 5) else if Lib.hasPrefix l [0] then (0, 8) else (dg l, 0)
def textI (s : List UInt8) : It := .mk false s []
def boolI (v : Bool) : It := textI (if v then [1] else [])
def textsI (ls : List (List UInt8)) : It := .mk true [] (ls.map textI)
def listI (xs : List It) : It := .mk true [] xs
/-- What is read of bytes, and of a list. -/
def ofBytes {α : Type} (z : α) (f : List UInt8 → α × Nat) : It → α × Nat
  | .mk true _ _ => (z, 2)
  | .mk false d _ => f d
def within (n : Nat) (least most : Int) : Nat := if (n : Int) < least then 3 else if most < n then 5 else 0
def gText (least most : Int) (d : List UInt8) : List UInt8 × Nat := if within d.length least most ≠ 0 then ([], within d.length least most) else (d, 0)
def gBool (d : List UInt8) : Bool × Nat := if d = [] then (false, 0) else if d = [1] then (true, 0) else (false, 2)
def gAddr (d : List UInt8) : List UInt8 × Nat := if d = [] ∨ d.length = 20 then (d, 0) else ([], 2)
def getNumber : It → Nat × Nat := ofBytes 0 ub
def getWord : It → Nat × Nat := ofBytes 0 pw
def getText (least most : Int) : It → List UInt8 × Nat := ofBytes [] (gText least most)
def getBool : It → Bool × Nat := ofBytes false gBool
def getAddr : It → List UInt8 × Nat := ofBytes [] gAddr
def getList (least most : Int) : It → List It × Nat
  | .mk false _ _ => ([], 2)
  | .mk true _ xs => if within xs.length least most ≠ 0 then ([], within xs.length least most) else (xs, 0)
def getEach (least most : Int) : List It → List (List UInt8) × Nat
  | [] => ([], 0)
  | x :: xs => if (getText least most x).2 ≠ 0 then ([], (getText least most x).2) else if (getEach least most xs).2 ≠ 0 then ([], (getEach least most xs).2) else ((getText least most x).1 :: (getEach least most xs).1, 0)
def getTexts (many least most : Int) (x : It) : List (List UInt8) × Nat :=
  if (getList 0 many x).2 ≠ 0 then ([], (getList 0 many x).2) else getEach least most (getList 0 many x).1

/-! What is read of an item that is one is written just so. -/
theorem number_only {x : It} (hx : formI 0 x = 0) (h : (getNumber x).2 = 0) : textI (ben (getNumber x).1) = x := by
  match x with
  | .mk true _ _ => cases h
  | .mk false d xs =>
    obtain rfl := (formI_ok hx).2 rfl
    exact congrArg (fun b => It.mk false b []) (be_ub (l := d) h)
theorem gText_ok {least most : Int} {d : List UInt8} (h : (gText least most d).2 = 0) : (gText least most d).1 = d := by
  unfold gText at h ⊢
  by_cases h1 : within d.length least most ≠ 0
  · rw [if_pos h1] at h; exact absurd h h1
  · rw [if_neg h1]
theorem text_only {x : It} {least most : Int} (hx : formI 0 x = 0) (h : (getText least most x).2 = 0) : textI (getText least most x).1 = x := by
  match x with
  | .mk true _ _ => cases h
  | .mk false d xs =>
    obtain rfl := (formI_ok hx).2 rfl
    exact congrArg (fun b => It.mk false b []) (gText_ok (d := d) h)
theorem bool_only {x : It} (hx : formI 0 x = 0) (h : (getBool x).2 = 0) : boolI (getBool x).1 = x := by
  match x with
  | .mk true _ _ => cases h
  | .mk false d xs =>
    obtain rfl := (formI_ok hx).2 rfl
    change (gBool d).2 = 0 at h
    show boolI (gBool d).1 = _
    unfold gBool at h ⊢
    by_cases h1 : d = []
    · rw [if_pos h1, h1]; rfl
    · rw [if_neg h1] at h ⊢
      by_cases h2 : d = [1]
      · rw [if_pos h2, h2]; rfl
      · rw [if_neg h2] at h; cases h
theorem getList_ok {least most : Int} {x : It} (h : (getList least most x).2 = 0) : ∃ b xs, x = .mk true b xs ∧ (getList least most x).1 = xs := by
  match x with
  | .mk false _ _ => cases h
  | .mk true b xs =>
    refine ⟨b, xs, rfl, ?_⟩
    rw [getList] at h ⊢
    by_cases h1 : within xs.length least most ≠ 0
    · rw [if_pos h1] at h; exact absurd h h1
    · rw [if_neg h1]
end Go.Proofs.YtihiacbhdcahkaaGreatDoor.M
namespace Go.Proofs.YtihiacbhdcahkaaGreatDoor
open Go Go.RowKit

/-- A word as a value. -/
abbrev wd (a b c d : Int) : Value := .agg #[.int .u64 a, .int .u64 b, .int .u64 c, .int .u64 d]

/-- A number's word. -/
abbrev wn (N : Nat) : Value := wd (M.pt 0 N) (M.pt 1 N) (M.pt 2 N) (M.pt 3 N)

end Go.Proofs.YtihiacbhdcahkaaGreatDoor
namespace Go.Proofs.YtihiacbhdcahkaaGreatDoor
open Go Go.RowKit Go.Lib

/-- Bytes that may be read, in a block no older than B. -/
def SrB (B : Nat) (l : List UInt8) (v : Value) (w : World) : Prop := (v = .slice none 0 0 ∧ l = []) ∨ ∃ ad c, v = .slice (some ad) l.length c ∧ B ≤ ad.block ∧ ad.block < w.heap.size ∧ ∀ j u, (bc l)[j]? = some u → w.cell? (ad.add j) = some u
theorem SrB.sr {B : Nat} {l : List UInt8} {v : Value} {w : World} (h : SrB B l v w) : Sr l v w := by
  rcases h with h | ⟨ad, c, rfl, _, _, hc⟩
  · exact .inl h
  · exact .inr ⟨ad, c, rfl, hc⟩
theorem SrB.slice {B : Nat} {l : List UInt8} {v : Value} {w : World} (h : SrB B l v w) : ∃ a cap, v = .slice a l.length cap := by
  rcases h with ⟨rfl, rfl⟩ | ⟨ad, c, rfl, _, _, _⟩
  · exact ⟨none, 0, rfl⟩
  · exact ⟨_, _, rfl⟩
theorem SrB.mono {A B : Nat} {l : List UInt8} {v : Value} {w : World} (h : SrB B l v w) (hAB : A ≤ B) : SrB A l v w := by
  rcases h with h | ⟨ad, c, rfl, h1, h2, hc⟩
  · exact .inl h
  · exact .inr ⟨ad, c, rfl, Nat.le_trans hAB h1, h2, hc⟩
/-- A block below is changed. -/
theorem SrB.grown {B : Nat} {l : List UInt8} {v : Value} {w W : World} {row : Option Nat} (h : SrB B l v w) (hg : w.grownBy W row) (hr : ∀ g, row = some g → g < B) : SrB B l v W := by
  rcases h with h | ⟨ad, c, rfl, h1, h2, hc⟩
  · exact .inl h
  · refine .inr ⟨ad, c, rfl, h1, Nat.lt_of_lt_of_le h2 hg.size, fun j u hj => ?_⟩
    have e : (ad.add j).block = ad.block := by unfold Addr.add; split <;> rfl
    exact hg.cell (hc j u hj) (fun e' => by have := hr ad.block (by rw [← e']; rw [e]); omega)
theorem SrB.from_ {B : Nat} {l : List UInt8} {v : Value} {w W : World} (h : SrB B l v w) (hb : Below w.heap.size w W) : SrB B l v W :=
  h.grown (row := none) ⟨hb.os, hb.tape, hb.output, hb.size, fun i hi _ => hb.block i hi⟩ (fun g e => by cases e)
/-- Bytes of one's own, where another block is changed. -/
theorem Ow.grown {B : Nat} {l : List UInt8} {v : Value} {w W : World} {row : Option Nat} (h : Ow B l v w) (hg : w.grownBy W row) (hr : ∀ g, v.ownBlock = some g → row ≠ some g) : Ow B l v W := by
  refine ⟨h.1, ?_⟩
  rcases h.2 with h0 | ⟨g, cap, cur, hv, hB, hgc, h1⟩
  · exact .inl h0
  · exact .inr ⟨g, cap, cur, hv, hB, (hg.block g (Array.getElem?_eq_some_iff.1 hgc).1 (fun e => hr g (by rw [hv]; rfl) e.symm)).trans hgc, h1⟩
theorem Ow.lt {B : Nat} {l : List UInt8} {v : Value} {w : World} (h : Ow B l v w) : ∀ k, v.ownBlock = some k → B ≤ k ∧ k < w.heap.size := World.ownsRow.lt h
end Go.Proofs.YtihiacbhdcahkaaGreatDoor
namespace Go.Proofs.YtihiacbhdcahkaaGreatDoor
open Go Go.RowKit Go.Lib

/-- How long a text may be. -/
abbrev longS : Nat := 140737488355328
/-- What a slice of texts leads to. -/
inductive Ts (w : World) (n : Nat) : List (List UInt8) → Value → Prop
  | nil_ {a : Option Addr} {cap : Nat} (hm : cap ≤ maxLen) : Ts w n [] (.slice a 0 cap)
  | row {ls : List (List UInt8)} {b o cap : Nat} (hb : b < n) (hc : ls.length ≤ cap) (hm : cap ≤ maxLen)
      (c : ∀ i s, ls[i]? = some s → w.cell? ⟨b, o + i, none⟩ = some (.string ⟨s.toArray⟩)) : Ts w n ls (.slice (some ⟨b, o, none⟩) ls.length cap)
theorem Ts.from_ {w W : World} {n : Nat} {ls : List (List UInt8)} {v : Value} (h : Ts w n ls v) (hb : Below n w W) : Ts W n ls v := by
  cases h with
  | nil_ hm => exact .nil_ hm
  | row hbn hc hm c => exact .row hbn hc hm fun i s e => (hb.cell (p := ⟨_, _, none⟩) hbn).trans (c i s e)
theorem Ts.mono {w : World} {m n : Nat} {ls : List (List UInt8)} {v : Value} (h : Ts w m ls v) (hmn : m ≤ n) : Ts w n ls v := by
  cases h with
  | nil_ hm => exact .nil_ hm
  | row hbn hc hm c => exact .row (Nat.lt_of_lt_of_le hbn hmn) hc hm c
theorem Ts.slice {w : World} {n : Nat} {ls : List (List UInt8)} {v : Value} (h : Ts w n ls v) : ∃ a cap, v = .slice a ls.length cap ∧ ls.length ≤ cap ∧ cap ≤ maxLen := by
  cases h with
  | nil_ hm => exact ⟨_, _, rfl, Nat.zero_le _, hm⟩
  | row hbn hc hm c => exact ⟨_, _, rfl, hc, hm⟩
theorem Ts.at_ {w : World} {n : Nat} {ls : List (List UInt8)} {a : Option Addr} {m cap i : Nat} (h : Ts w n ls (.slice a m cap)) (hi : i < ls.length) : ∃ b o s, a = some ⟨b, o, none⟩ ∧ b < n ∧ ls[i]? = some s ∧ w.cell? ⟨b, o + i, none⟩ = some (.string ⟨s.toArray⟩) := by
  cases h with
  | nil_ hm => simp at hi
  | row hbn hc hm c => exact ⟨_, _, ls[i], rfl, hbn, List.getElem?_eq_getElem hi, c i _ (List.getElem?_eq_getElem hi)⟩

/-- Texts as cells. -/
def tc (l : List (List UInt8)) : List Value := l.map fun s => Value.string ⟨s.toArray⟩
/-- A row of texts of one's own. -/
def OwS (B : Nat) (l : List (List UInt8)) (v : Value) (w : World) : Prop := w.ownsRow B 9 1 v l.length (tc l)
theorem OwS.nil (B : Nat) (w : World) : OwS B [] (.slice none 0 0) w := World.ownsRow_nil _ _ _ _
theorem OwS.mono {A B : Nat} {l : List (List UInt8)} {v : Value} {w : World} (h : OwS B l v w) (hAB : A ≤ B) : OwS A l v w := by
  refine ⟨h.1, ?_⟩
  rcases h.2 with h0 | ⟨g, cap, cur, hv, hb, h1⟩
  · exact .inl h0
  · exact .inr ⟨g, cap, cur, hv, by omega, h1⟩
theorem OwS.lt {B : Nat} {l : List (List UInt8)} {v : Value} {w : World} (h : OwS B l v w) : ∀ k, v.ownBlock = some k → B ≤ k ∧ k < w.heap.size := World.ownsRow.lt h
theorem OwS.len {B : Nat} {l : List (List UInt8)} {v : Value} {w : World} (h : OwS B l v w) : ∃ a cap, v = .slice a l.length cap := by
  rcases h.2 with ⟨h0, h1⟩ | ⟨g, cap, cur, rfl, hB, hg, h1⟩
  · exact ⟨none, 0, by rw [h0, h1]⟩
  · exact ⟨_, _, rfl⟩
/-- Where a row that is not empty stands, and its cells. -/
theorem OwS.row {B : Nat} {l : List (List UInt8)} {v : Value} {w : World} (h : OwS B l v w) (hl : 0 < l.length) : ∃ g cap, v = .slice (some ⟨g, 0, none⟩) l.length cap ∧ B ≤ g ∧ g < w.heap.size ∧ ∀ j n, l[j]? = some n → w.cell? ⟨g, j, none⟩ = some (.string ⟨n.toArray⟩) := by
  rcases id h.2 with ⟨_, h0⟩ | ⟨g, cap, cur, rfl, hB, hg, hnc, hcm, hcs, htake⟩
  · omega
  · refine ⟨g, cap, rfl, hB, (Array.getElem?_eq_some_iff.1 hg).1, fun j n hj => ?_⟩
    have hi := (List.getElem?_eq_some_iff.1 hj).1
    have := World.ownsRow.cellAt h j (by omega)
    rw [this]
    simp [tc, hj]
theorem OwS.grown {B : Nat} {l : List (List UInt8)} {v : Value} {w W : World} {row : Option Nat} (h : OwS B l v w) (hg : w.grownBy W row) (hr : ∀ g, v.ownBlock = some g → row ≠ some g) : OwS B l v W := by
  refine ⟨h.1, ?_⟩
  rcases h.2 with h0 | ⟨g, cap, cur, hv, hB, hgc, h1⟩
  · exact .inl h0
  · exact .inr ⟨g, cap, cur, hv, hB, (hg.block g (Array.getElem?_eq_some_iff.1 hgc).1 (fun e => hr g (by rw [hv]; rfl) e.symm)).trans hgc, h1⟩
theorem OwS.from_ {B : Nat} {l : List (List UInt8)} {v : Value} {w W : World} (h : OwS B l v w) (hb : Below w.heap.size w W) : OwS B l v W :=
  h.grown (row := none) ⟨hb.os, hb.tape, hb.output, hb.size, fun i hi _ => hb.block i hi⟩ (fun g _ e => by cases e)
theorem Tryz.ofTxt : (Tryz.prog.info? 9).map (fun i => (i.zero, i.size, i.bytes)) = some (some (.string ⟨#[]⟩), 1, 16) := by kernel_rfl
/-- What a row of one's own leads to. -/
theorem OwS.ts {B : Nat} {l : List (List UInt8)} {v : Value} {w : World} (h : OwS B l v w) : Ts w w.heap.size l v := by
  rcases id h.2 with ⟨h0, h1⟩ | ⟨g, cap, cur, rfl, hB, hg, hnc, hcm, hcs, htake⟩
  · obtain rfl := List.eq_nil_of_length_eq_zero h1
    cases h0
    exact .nil_ (by decide)
  · refine .row (Array.getElem?_eq_some_iff.1 hg).1 hnc hcm fun i s e => ?_
    have hi := (List.getElem?_eq_some_iff.1 e).1
    rw [Nat.zero_add, World.ownsRow.cellAt h i (by omega)]
    simp [tc, e]
end Go.Proofs.YtihiacbhdcahkaaGreatDoor
