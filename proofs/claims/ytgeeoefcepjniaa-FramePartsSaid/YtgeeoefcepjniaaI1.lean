/- Rows of items that a call makes by appending: what they lead to lies in the call's own blocks. -/
import Derived.Test.YtgeeoefcepjniaaC1
import Derived.Laws.AppendOwn
namespace Go.Proofs.Ytgeeoefcepjniaa
open Go Go.RowKit

/-- What a slice of items leads to, in the blocks of a set. -/
inductive LayS (w : World) (S : Nat → Prop) : List M.It → Value → Prop
  | nil_ {a : Option Addr} {cap : Nat} (hm : cap ≤ maxLen) : LayS w S [] (.slice a 0 cap)
  | row {xs : List M.It} {b o cap : Nat} (V : Nat → Value) (hb : S b) (hc : xs.length ≤ cap) (hm : cap ≤ maxLen)
      (c0 : ∀ i l d ys, xs[i]? = some (.mk l d ys) → w.cell? ⟨b, o + i * 3, none⟩ = some (.bool l))
      (c1 : ∀ i l d ys, xs[i]? = some (.mk l d ys) → w.cell? ⟨b, o + i * 3 + 1, none⟩ = some (.string ⟨d.toArray⟩))
      (c2 : ∀ i l d ys, xs[i]? = some (.mk l d ys) → w.cell? ⟨b, o + i * 3 + 2, none⟩ = some (V i))
      (r : ∀ i l d ys, xs[i]? = some (.mk l d ys) → LayS w S ys (V i)) : LayS w S xs (.slice (some ⟨b, o, none⟩) xs.length cap)

theorem LayS.keep {w W : World} {S T : Nat → Prop} {xs : List M.It} {v : Value} (h : LayS w S xs v) (hST : ∀ b, S b → T b ∧ W.heap[b]? = w.heap[b]?) : LayS W T xs v := by
  induction h with
  | nil_ hm => exact .nil_ hm
  | row V hb hc hm c0 c1 c2 _ ih =>
    obtain ⟨hT, he⟩ := hST _ hb
    exact .row V hT hc hm (fun i l d ys e => (World.cell?_of_block (a := ⟨_, _, _⟩) he).trans (c0 i l d ys e)) (fun i l d ys e => (World.cell?_of_block (a := ⟨_, _, _⟩) he).trans (c1 i l d ys e)) (fun i l d ys e => (World.cell?_of_block (a := ⟨_, _, _⟩) he).trans (c2 i l d ys e)) ih
theorem LayS.lay {w : World} {S : Nat → Prop} {n : Nat} {xs : List M.It} {v : Value} (h : LayS w S xs v) (hS : ∀ b, S b → b < n) : Lay w n xs v := by
  induction h with
  | nil_ hm => exact .nil_ hm
  | row V hb hc hm c0 c1 c2 _ ih => exact .row V (hS _ hb) hc hm c0 c1 c2 ih

/-- What a call has made itself: in blocks from B on. -/
def Fresh (B : Nat) (w : World) (xs : List M.It) (v : Value) : Prop := LayS w (fun b => B ≤ b ∧ b < w.heap.size) xs v
theorem Fresh.lay {B : Nat} {w : World} {xs : List M.It} {v : Value} (h : Fresh B w xs v) : Lay w w.heap.size xs v := LayS.lay h fun _ h => h.2
theorem Fresh.from_ {B : Nat} {w W : World} {xs : List M.It} {v : Value} (h : Fresh B w xs v) (hb : Below w.heap.size w W) : Fresh B W xs v :=
  LayS.keep h fun b ⟨h1, h2⟩ => ⟨⟨h1, Nat.lt_of_lt_of_le h2 hb.size⟩, hb.block b h2⟩
theorem Fresh.mono {A B : Nat} {w : World} {xs : List M.It} {v : Value} (h : Fresh B w xs v) (hAB : A ≤ B) : Fresh A w xs v :=
  LayS.keep h fun _ ⟨h1, h2⟩ => ⟨⟨Nat.le_trans hAB h1, h2⟩, rfl⟩
theorem Fresh.nil (B : Nat) (w : World) (a : Option Addr) : Fresh B w [] (.slice a 0 0) := .nil_ (by decide)

/-- The three cells of an item. -/
def c3 (p : M.It × Value) : List Value := match p.1 with | .mk l d _ => [.bool l, .string ⟨d.toArray⟩, p.2]
/-- What an item leads to. -/
def kids : M.It → List M.It | .mk _ _ ys => ys

theorem flat_at : ∀ (L : List (M.It × Value)) (i : Nat) (l : Bool) (d : List UInt8) (ys : List M.It) (u : Value), L[i]? = some (.mk l d ys, u) →
    (L.flatMap c3)[i * 3]? = some (.bool l) ∧ (L.flatMap c3)[i * 3 + 1]? = some (.string ⟨d.toArray⟩) ∧ (L.flatMap c3)[i * 3 + 2]? = some u
  | [], i, l, d, ys, u, h => by simp at h
  | (.mk l0 d0 ys0, u0) :: L, 0, l, d, ys, u, h => by
    simp at h
    obtain ⟨⟨rfl, rfl, rfl⟩, rfl⟩ := h
    simp [c3]
  | (.mk l0 d0 ys0, u0) :: L, i + 1, l, d, ys, u, h => by
    simp at h
    obtain ⟨e0, e1, e2⟩ := flat_at L i l d ys u h
    rw [show (i + 1) * 3 = i * 3 + 3 by omega]
    simpa [c3] using ⟨e0, e1, e2⟩

theorem addr_add (b o i : Nat) : (⟨b, o, none⟩ : Addr).add i = ⟨b, o + i, none⟩ := by
  unfold Addr.add
  by_cases h : i = 0
  · subst h; simp
  · simp [h]
theorem LayS.slice {w : World} {S : Nat → Prop} {xs : List M.It} {v : Value} (h : LayS w S xs v) : ∃ a cap, v = .slice a xs.length cap := by
  cases h with
  | nil_ hm => exact ⟨_, _, rfl⟩
  | row V hb hc hm c0 c1 c2 r => exact ⟨_, _, rfl⟩
theorem LayS.one {w : World} {S : Nat → Prop} {xs : List M.It} {v : Value} (h : LayS w S xs v) : v.oneCell' = true := by
  obtain ⟨a, cap, rfl⟩ := h.slice
  rfl
section
variable {ops : Array Oper} {rest : List Oper} {o : Oper} {a : Act} {Q : Exit → Act → World → Prop}
end
end Go.Proofs.Ytgeeoefcepjniaa
