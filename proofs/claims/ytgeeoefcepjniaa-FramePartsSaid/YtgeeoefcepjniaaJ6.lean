/- unrlp.items: the items that stand one behind the other, as a reader reads them. -/
import Derived.Test.YtgeeoefcepjniaaJ2
import Derived.Test.YtgeeoefcepjniaaJ3
import Derived.Test.YtgeeoefcepjniaaJ5
import Derived.DefersIn
import Derived.OwnWalkIn
import Derived.TacticsInMore
import Derived.LoopNIn
import Derived.LoopIn
namespace Go.Proofs.Ytgeeoefcepjniaa
open Go Go.RowKit
attribute [local go_sem] Oper.semAt_some

/-- What comes each time: an item, the value of its parts, what is wrong. -/
abbrev El := (M.It × Value) × Nat
def encE (x : El) : Array Value := match x.1.1 with | .mk l d _ => #[iv l d x.1.2, .int .i64 (x.2 : Nat)]

def comb (xs : List M.It) (r : List M.It × Nat) : List M.It × Nat := if r.2 ≠ 0 then ([], r.2) else (xs ++ r.1, 0)
theorem comb_nil (n : Nat) (t : List UInt8) (d k : Nat) : comb [] (M.itemsT n t d k) = M.itemsT n t d k := by
  unfold comb
  by_cases h : (M.itemsT n t d k).2 = 0
  · rw [if_neg (by omega), List.nil_append, ← h]
  · rw [if_pos h]
    cases n with
    | zero => rw [M.itemsT]
    | succ n =>
      rw [M.itemsT] at h ⊢
      by_cases h1 : t = []
      · rw [if_pos h1] at h; exact absurd rfl h
      · rw [if_neg h1] at h ⊢
        by_cases h2 : 512 ≤ k
        · rw [if_pos h2]
        · rw [if_neg h2] at h ⊢
          by_cases h3 : (M.readT n t d).2.2 ≠ 0
          · rw [if_pos h3]
          · rw [if_neg h3] at h ⊢
            by_cases h4 : (M.itemsT n (M.readT n t d).2.1 d (k + 1)).2 ≠ 0
            · rw [if_pos h4]
            · rw [if_neg h4] at h; exact absurd rfl h
theorem comb_end (xs : List M.It) (n d k : Nat) : comb xs (M.itemsT (n + 1) [] d k) = (xs, 0) := by
  rw [M.itemsT, if_pos rfl, comb, if_neg (by simp), List.append_nil]
theorem comb_many (xs : List M.It) (n d k : Nat) (t : List UInt8) (ht : t ≠ []) (hk : 512 ≤ k) : comb xs (M.itemsT (n + 1) t d k) = ([], 5) := by
  rw [M.itemsT, if_neg ht, if_pos hk, comb, if_pos (by simp)]
theorem comb_bad (xs : List M.It) (n d k : Nat) (t : List UInt8) (ht : t ≠ []) (hk : ¬ 512 ≤ k) (hr : (M.readT n t d).2.2 ≠ 0) : comb xs (M.itemsT (n + 1) t d k) = ([], (M.readT n t d).2.2) := by
  rw [M.itemsT, if_neg ht, if_neg hk, if_pos hr, comb, if_pos hr]
theorem comb_next (xs : List M.It) (n d k : Nat) (t : List UInt8) (ht : t ≠ []) (hk : ¬ 512 ≤ k) (hr : (M.readT n t d).2.2 = 0) :
    comb xs (M.itemsT (n + 1) t d k) = comb (xs ++ [(M.readT n t d).1]) (M.itemsT n (M.readT n t d).2.1 d (k + 1)) := by
  rw [M.itemsT, if_neg ht, if_neg hk, if_neg (by omega)]
  by_cases h4 : (M.itemsT n (M.readT n t d).2.1 d (k + 1)).2 ≠ 0
  · rw [if_pos h4, comb, if_pos h4, comb, if_pos h4]
  · rw [if_neg h4, comb, if_neg (by simp), comb, if_neg h4, List.append_assoc, List.singleton_append]

end Go.Proofs.Ytgeeoefcepjniaa
