/- An item more in a row of a call's own, kept in a box: the statement 'l = append(l, it)', in whatever order. -/
import Derived.Test.YtcjhgnepehnjjaaJ1
import Derived.Test.YtcjhgnepehnjjaaF0
import Derived.OrdersHeld
import Derived.Deep.RegionHeld
namespace Go.Proofs.Ytcjhgnepehnjjaa
open Go Go.RowKit

/-- The last item of a row is stored anew. -/
theorem ItRow.last {B : Nat} {w : World} {L : List (M.It × Value)} {z : M.It} {uz : Value} {v : Value} (h : ItRow B w (L ++ [(z, uz)]) v) (l : Bool) (d : List UInt8) (ys : List M.It) (u : Value) (hu : u.oneCell' = true)
    (hk : LayS w (fun b => B ≤ b ∧ b < w.heap.size ∧ some b ≠ v.ownBlock) ys u) :
    ∃ g cap w', v = .slice (some ⟨g, 0, none⟩) (L.length + 1) cap ∧ (storeVar 30 ⟨g, L.length * 3, none⟩ (.agg #[.bool l, .string ⟨d.toArray⟩, u])).run Try.prog w = .ok () w' ∧ ItRow B w' (L ++ [(.mk l d ys, u)]) v ∧ w.grownBy w' (some g) ∧ B ≤ g := by
  obtain ⟨hlen, hown⟩ := h.own
  rcases hown with ⟨_, h0⟩ | ⟨g, cap, cur, hv, hB, hg, hc, hm, hcs, htake⟩
  · simp at h0
  · rw [List.length_append, List.length_singleton] at hv hc htake
    obtain ⟨i, hi, hz0, hz1, hz2⟩ := info_parts Try.ofItem
    have h1 : ∀ x ∈ ([.bool l, .string ⟨d.toArray⟩, u] : List Value), x.oneCell' = true := by
      intro x hx
      simp only [List.mem_cons, List.not_mem_nil, or_false] at hx
      rcases hx with rfl | rfl | rfl
      · rfl
      · rfl
      · exact hu
    have hst := run_storeCells_at Try.prog g (L.length * 3) 30 [.bool l, .string ⟨d.toArray⟩, u] 0 cur w hg (by simp; omega) h1
    simp only [Nat.add_zero, List.length_cons, List.length_nil, Nat.zero_add, Nat.reduceAdd] at hst
    have hbk : v.ownBlock = some g := by rw [hv]; rfl
    obtain ⟨cur', hcur'⟩ : ∃ cur', cur' = (cur.toList.take (L.length * 3) ++ [.bool l, .string ⟨d.toArray⟩, u] ++ cur.toList.drop (L.length * 3 + 3)).toArray := ⟨_, rfl⟩
    rw [← hcur'] at hst
    have hgrow : w.grownBy (w.setRow g cur') (some g) := ⟨rfl, rfl, rfl, by simp, fun k _ hk => setRow_other w g k _ (fun e => hk (by simp [e]))⟩
    have hLl : (L.flatMap c3).length = L.length * 3 := by
      rw [List.flatMap_append, List.length_append] at hlen
      have e3 : ([(z, uz)].flatMap c3).length = 3 := by
        obtain ⟨zl, zd, zs⟩ := z
        rfl
      rw [e3, List.length_append, List.length_singleton] at hlen
      omega
    refine ⟨g, cap, w.setRow g cur', hv, ?_, ⟨⟨?_, .inr ⟨g, cap, cur', ?_, hB, setRow_heap w g cur cur' 30 (0, 0) hg, ?_, hm, ?_, ?_⟩⟩, ?_⟩, hgrow, hB⟩
    · simp [storeVar, sizeOf, typeInfo, hi, hz1, Value.cells, hst]
    · rw [List.flatMap_append, List.length_append, hLl, List.length_append, List.length_singleton]
      show _ + 3 = _
      omega
    · rw [List.length_append, List.length_singleton]; exact hv
    · rw [List.length_append, List.length_singleton]; exact hc
    · rw [hcur', List.size_toArray]
      simp only [List.length_append, List.length_take, List.length_drop, List.length_cons, List.length_nil, Array.length_toList]
      omega
    · rw [List.length_append, List.length_singleton, hcur', List.toList_toArray, List.flatMap_append]
      have ht1 : cur.toList.take (L.length * 3) = L.flatMap c3 := by
        have := congrArg (List.take (L.length * 3)) htake
        rw [List.take_take, show min (L.length * 3) ((L.length + 1) * 3) = L.length * 3 by omega, List.flatMap_append, ← hLl, List.take_left] at this
        rw [hLl] at this
        exact this
      rw [ht1]
      have e3 : [((M.It.mk l d ys), u)].flatMap c3 = [.bool l, .string ⟨d.toArray⟩, u] := rfl
      rw [e3, show (L.length + 1) * 3 = (L.flatMap c3 ++ [.bool l, .string ⟨d.toArray⟩, u]).length by rw [List.length_append, hLl]; simp; omega, List.take_left]
    · have hS : ∀ b, (B ≤ b ∧ b < w.heap.size ∧ some b ≠ v.ownBlock) → (B ≤ b ∧ b < (w.setRow g cur').heap.size ∧ some b ≠ v.ownBlock) ∧ (w.setRow g cur').heap[b]? = w.heap[b]? := fun b ⟨k1, k2, k3⟩ =>
        ⟨⟨k1, Nat.lt_of_lt_of_le k2 hgrow.size, k3⟩, hgrow.block b k2 (by rw [← hbk]; exact k3)⟩
      intro p hp
      rcases List.mem_append.1 hp with h2 | h2
      · exact (h.kid p (List.mem_append_left _ h2)).keep hS
      · simp only [List.mem_singleton] at h2
        subst h2
        exact hk.keep hS
end Go.Proofs.Ytcjhgnepehnjjaa
