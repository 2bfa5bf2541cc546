/- A range over num.digits: what the body does with one digit, and what holds when all have come. -/
import Derived.Test.YtmcchfgblecgoaaDoorN3
import Derived.Test.YtmcchfgblecgoaaDoorM4
namespace Go.Proofs.YtmcchfgblecgoaaDoor
open Go Go.RowKit Go.Shelf

theorem range_cut {m i : Nat} (h : i < m) : ∃ post, List.range m = List.range i ++ i :: post := by
  obtain ⟨k, rfl⟩ : ∃ k, m = i + (k + 1) := ⟨m - i - 1, by omega⟩
  refine ⟨(List.range k).map (fun x => i + (x + 1)), ?_⟩
  rw [List.range_add, List.range_succ_eq_map]
  simp [List.map_map, Function.comp_def]

theorem range_part {m x : Nat} {pre post : List Nat} (h : List.range m = pre ++ x :: post) : pre = List.range pre.length ∧ x = pre.length ∧ pre.length < m := by
  have hl := congrArg List.length h
  simp at hl
  have hx : (List.range m)[pre.length]? = some x := by rw [h]; simp
  rw [List.getElem?_range (by omega)] at hx
  have ht : (List.range m).take pre.length = pre := by rw [h]; simp
  rw [List.take_range, Nat.min_eq_left (by omega)] at ht
  exact ⟨ht.symm, (Option.some.inj hx).symm, by omega⟩

theorem range_digits {S N : Nat} {s : Int} (hs : s = S) (hS : S = 7 ∨ S = 8) (hN : N < 18446744073709551616) {m : Nat} (hm1 : 1 ≤ m) (hm : m ≤ 10) (hne : ∀ i, 1 ≤ i → i < m → N / 2 ^ (S * i) ≠ 0) (hz : N / 2 ^ (S * m) = 0)
    {g : Operand} {ps : Array Tmp} {assign body : Code} {Q : Exit → Act → World → Prop} {a : Act} {w : World} {bn bs : Nat}
    (hg : a.eval g = .func (.func 26) #[] #[.pointer (some ⟨bn, 0, none⟩), .pointer (some ⟨bs, 0, none⟩)]) (hps : ps.size = 2)
    (I : Nat → World → Prop) (hI : OwnFrom w.heap.size I) (hc : ∀ i W, I i W → W.cell? ⟨bn, 0, none⟩ = some (.int .u64 N) ∧ W.cell? ⟨bs, 0, none⟩ = some (.int .i64 s)) (h0 : I 0 w) (f : Nat → Array Value → Array Value)
    (hassign : ∀ (l x : Nat) (W : World) (K : Act → World → Prop), K { tmps := f x a.tmps, defers := [] } W →
      assign.wpIn (Fence.wide.inRound l) 2 Tryd.prog (Exit.then K (fun _ _ _ => False)) { tmps := (ps.zip #[.int .i64 x, .int .u8 ((digN S N x : Nat) : Int)]).foldl (fun t (p, v) => t.setIfInBounds p v) a.tmps, defers := [] } W)
    (hbody : ∀ (l i : Nat) (W : World), i < m → I i W → body.wpIn (Fence.wide.inRound l) 2 Tryd.prog (fun e _ W' => e = .normal ∧ KeepsOthers W W' ∧ I (i + 1) W') { tmps := f i a.tmps, defers := [] } W)
    (hdone : ∀ (D : Nat) (W : World), w.heap.size ≤ D → I m W → W.heap[D]? = some (.deferred (some [])) → Q .normal { a with defers := { target := .collected D, args := #[] } :: a.defers } W) :
    (Code.rangeFunc g ps assign body).wpIn Fence.wide 4 Tryd.prog Q a w := by
  refine range_all (n := 4) (by omega) hg (enters_of Tryd.func26 (by kernel_rfl) rfl) (encs := fun x : Nat => #[.int .i64 x, .int .u8 ((digN S N x : Nat) : Int)]) (fun _ => hps.symm) (List.range m)
    (fun pre W => I pre.length W) (fun pre => hI pre.length) (fun A B => A = B) (fun _ W => I m W) (fun _ => hI m) (fun A B hA e => ⟨e ▸ KeepsOthers.refl _, by rw [← e]; simpa using hA⟩) ?_ h0 (fun x => { tmps := f x a.tmps, defers := [] }) hassign ?_ hdone
  · intro l J W hJI hd hY hJ0
    refine (digits_run 2 N m S s hs hS hN hm1 hm hne hz l bn bs J (fun pre W h => hc _ _ (hJI pre W h)) hd ?_ W hJ0).mono ?_
    · intro i W1 hi hJ1
      obtain ⟨post, hp⟩ := range_cut hi
      have := hY _ i post W1 hp hJ1
      rwa [← List.range_succ] at this
    · rintro e W' ⟨hv, hj⟩
      exact ⟨hv, W', hj, rfl⟩
  · intro l pre x post W hx hi
    obtain ⟨h1, h2, h3⟩ := range_part hx
    subst h2
    rw [List.length_append, List.length_singleton]
    exact hbody l pre.length W h3 hi
end Go.Proofs.YtmcchfgblecgoaaDoor
