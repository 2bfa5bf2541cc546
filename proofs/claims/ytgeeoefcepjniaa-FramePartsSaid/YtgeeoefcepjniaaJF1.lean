/- Frames in memory: rows that come in, rows of one's own. -/
import Derived.Test.YtgeeoefcepjniaaJFM
import Derived.Test.YtgeeoefcepjniaaD0
import Derived.Laws.AppendOwn
import Derived.Lib.Hide
import Derived.RangeFuncOwn
import Derived.OwnWalkIn
namespace Go.Proofs.Ytgeeoefcepjniaa
open Go Go.RowKit

/-- A frame as a value, and as cells. -/
abbrev frv (f : M.Fr) : Value := .agg #[.string ⟨f.id.toArray⟩, .int .i64 f.num, .string ⟨f.data.toArray⟩, .bool f.last]
def c4f (f : M.Fr) : List Value := [.string ⟨f.id.toArray⟩, .int .i64 f.num, .string ⟨f.data.toArray⟩, .bool f.last]
/-- What a slice of frames leads to. -/
inductive Fs (w : World) (n : Nat) : List M.Fr → Value → Prop
  | nil_ {a : Option Addr} {cap : Nat} (hm : cap ≤ maxLen) : Fs w n [] (.slice a 0 cap)
  | row {ls : List M.Fr} {b o cap : Nat} (hb : b < n) (hc : ls.length ≤ cap) (hm : cap ≤ maxLen)
      (c0 : ∀ i f, ls[i]? = some f → w.cell? ⟨b, o + i * 4, none⟩ = some (.string ⟨f.id.toArray⟩))
      (c1 : ∀ i f, ls[i]? = some f → w.cell? ⟨b, o + i * 4 + 1, none⟩ = some (.int .i64 f.num))
      (c2 : ∀ i f, ls[i]? = some f → w.cell? ⟨b, o + i * 4 + 2, none⟩ = some (.string ⟨f.data.toArray⟩))
      (c3 : ∀ i f, ls[i]? = some f → w.cell? ⟨b, o + i * 4 + 3, none⟩ = some (.bool f.last)) : Fs w n ls (.slice (some ⟨b, o, none⟩) ls.length cap)
theorem Fs.from_ {w W : World} {n : Nat} {ls : List M.Fr} {v : Value} (h : Fs w n ls v) (hb : Below n w W) : Fs W n ls v := by
  cases h with
  | nil_ hm => exact .nil_ hm
  | row hlt hc hm c0 c1 c2 c3 =>
    exact .row hlt hc hm (fun i f e => (hb.cell (p := ⟨_, _, _⟩) hlt).trans (c0 i f e)) (fun i f e => (hb.cell (p := ⟨_, _, _⟩) hlt).trans (c1 i f e)) (fun i f e => (hb.cell (p := ⟨_, _, _⟩) hlt).trans (c2 i f e)) (fun i f e => (hb.cell (p := ⟨_, _, _⟩) hlt).trans (c3 i f e))
theorem Fs.mono {w : World} {n m : Nat} {ls : List M.Fr} {v : Value} (h : Fs w n ls v) (hnm : n ≤ m) : Fs w m ls v := by
  cases h with
  | nil_ hm => exact .nil_ hm
  | row hlt hc hm c0 c1 c2 c3 => exact .row (by omega) hc hm c0 c1 c2 c3
theorem Fs.kept {w W : World} {ls : List M.Fr} {v : Value} (h : Fs w w.heap.size ls v) (hb : Below w.heap.size w W) : Fs W W.heap.size ls v := (h.from_ hb).mono hb.size
theorem Fs.slice {w : World} {n : Nat} {ls : List M.Fr} {v : Value} (h : Fs w n ls v) : ∃ a cap, v = .slice a ls.length cap ∧ ls.length ≤ cap ∧ cap ≤ maxLen := by
  cases h with
  | nil_ hm => exact ⟨_, _, rfl, Nat.zero_le _, hm⟩
  | row hlt hc hm c0 c1 c2 c3 => exact ⟨_, _, rfl, hc, hm⟩
/-- One frame of a slice. -/
theorem Fs.at_ {w : World} {n i : Nat} {ls : List M.Fr} {a : Option Addr} {m cap : Nat} (h : Fs w n ls (.slice a m cap)) (hi : i < ls.length) : ∃ b o f, a = some ⟨b, o, none⟩ ∧ b < n ∧ ls[i]? = some f ∧
    w.cell? ⟨b, o + i * 4, none⟩ = some (.string ⟨f.id.toArray⟩) ∧ w.cell? ⟨b, o + i * 4 + 1, none⟩ = some (.int .i64 f.num) ∧ w.cell? ⟨b, o + i * 4 + 2, none⟩ = some (.string ⟨f.data.toArray⟩) ∧ w.cell? ⟨b, o + i * 4 + 3, none⟩ = some (.bool f.last) := by
  cases h with
  | nil_ hm => simp at hi
  | row hlt hc hm c0 c1 c2 c3 =>
    have e := List.getElem?_eq_getElem hi
    exact ⟨_, _, ls[i], rfl, hlt, e, c0 i _ e, c1 i _ e, c2 i _ e, c3 i _ e⟩
/-- The first ones of a row. -/
theorem Fs.take {w : World} {n : Nat} {ls : List M.Fr} {a : Option Addr} {m cap : Nat} (h : Fs w n ls (.slice a m cap)) (k : Nat) (hk : k ≤ ls.length) : Fs w n (ls.take k) (.slice a k cap) := by
  have hl : (ls.take k).length = k := by rw [List.length_take]; omega
  cases h with
  | nil_ hm =>
    obtain rfl : k = 0 := by simpa using hk
    exact .nil_ hm
  | row hlt hc hm c0 c1 c2 c3 =>
    have key : ∀ i f, (ls.take k)[i]? = some f → ls[i]? = some f := fun i f e => by
      rw [List.getElem?_take] at e
      split at e
      · exact e
      · cases e
    have := Fs.row (w := w) (n := n) (ls := ls.take k) (cap := cap) hlt (by omega) hm (fun i f e => c0 i f (key i f e)) (fun i f e => c1 i f (key i f e)) (fun i f e => c2 i f (key i f e)) (fun i f e => c3 i f (key i f e))
    rwa [hl] at this

theorem c4_length (fs : List M.Fr) : (fs.flatMap c4f).length = fs.length * 4 := by
  induction fs with
  | nil => rfl
  | cons f fs ih => rw [List.flatMap_cons, List.length_append, ih]; simp [c4f]; omega
theorem c4_at : ∀ (L : List M.Fr) (i : Nat) (f : M.Fr), L[i]? = some f →
    (L.flatMap c4f)[i * 4]? = some (.string ⟨f.id.toArray⟩) ∧ (L.flatMap c4f)[i * 4 + 1]? = some (.int .i64 f.num) ∧ (L.flatMap c4f)[i * 4 + 2]? = some (.string ⟨f.data.toArray⟩) ∧ (L.flatMap c4f)[i * 4 + 3]? = some (.bool f.last)
  | [], i, p, h => by simp at h
  | q :: L, 0, p, h => by
    simp at h
    subst h
    simp [c4f]
  | q :: L, i + 1, p, h => by
    simp at h
    obtain ⟨e0, e1, e2, e3⟩ := c4_at L i p h
    rw [show (i + 1) * 4 = i * 4 + 4 by omega]
    simpa [c4f] using ⟨e0, e1, e2, e3⟩
theorem addr_addF (b j : Nat) : (⟨b, 0, none⟩ : Addr).add j = ⟨b, j, none⟩ := by unfold Addr.add; split <;> simp_all
/-- A row of frames that a call owns. -/
def FrRow (B : Nat) (w : World) (L : List M.Fr) (v : Value) : Prop := w.ownsRow B 24 4 v L.length (L.flatMap c4f)
theorem FrRow.nil (B : Nat) (w : World) : FrRow B w [] (.slice none 0 0) := World.ownsRow_nil _ _ _ _
theorem FrRow.mono {A B : Nat} {l : List M.Fr} {v : Value} {w : World} (h : FrRow B w l v) (hAB : A ≤ B) : FrRow A w l v := by
  refine ⟨h.1, ?_⟩
  rcases h.2 with h0 | ⟨g, cap, cur, hv, hb, h1⟩
  · exact .inl h0
  · exact .inr ⟨g, cap, cur, hv, by omega, h1⟩
theorem FrRow.grown {B : Nat} {l : List M.Fr} {v : Value} {w W : World} {row : Option Nat} (h : FrRow B w l v) (hg : w.grownBy W row) (hr : ∀ g, v.ownBlock = some g → row ≠ some g) : FrRow B W l v := by
  refine ⟨h.1, ?_⟩
  rcases h.2 with h0 | ⟨g, cap, cur, hv, hB, hgc, h1⟩
  · exact .inl h0
  · exact .inr ⟨g, cap, cur, hv, hB, (hg.block g (Array.getElem?_eq_some_iff.1 hgc).1 (fun e => hr g (by rw [hv]; rfl) e.symm)).trans hgc, h1⟩
theorem FrRow.from_ {B : Nat} {l : List M.Fr} {v : Value} {w W : World} (h : FrRow B w l v) (hb : Below w.heap.size w W) : FrRow B W l v :=
  h.grown (row := none) ⟨hb.os, hb.tape, hb.output, hb.size, fun i hi _ => hb.block i hi⟩ (fun g _ e => by cases e)
theorem FrRow.lt {B : Nat} {l : List M.Fr} {v : Value} {w : World} (h : FrRow B w l v) : ∀ k, v.ownBlock = some k → B ≤ k ∧ k < w.heap.size := World.ownsRow.lt h
theorem FrRow.notCells {B : Nat} {l : List M.Fr} {v : Value} {w : World} (h : FrRow B w l v) {c : Nat} {o : Obj} (hc : w.heap[c]? = some o) (ho : o.isCells = false) : some c ≠ v.ownBlock := fun e => by
  rcases h.2 with ⟨rfl, _⟩ | ⟨g', cap', cur', rfl, _, hg', _⟩
  · cases e
  · cases e
    rw [hg'] at hc
    cases hc
    cases ho
theorem FrRow.fs {B : Nat} {l : List M.Fr} {v : Value} {w : World} (h : FrRow B w l v) : Fs w w.heap.size l v := by
  rcases id h.2 with ⟨hv, h0⟩ | ⟨g, cap, cur, hv, hB, hg, hc, hm, h1⟩
  · obtain rfl := List.eq_nil_of_length_eq_zero h0
    subst hv
    exact .nil_ (by decide)
  · have hcell := World.ownsRow.cells h (g := g) (by rw [hv]; rfl)
    subst hv
    refine .row (Array.getElem?_eq_some_iff.1 hg).1 hc hm ?_ ?_ ?_ ?_
    · intro i f e
      have := hcell _ _ (c4_at l i _ e).1
      rw [addr_addF] at this
      simpa using this
    · intro i f e
      have := hcell _ _ (c4_at l i _ e).2.1
      rw [addr_addF] at this
      simpa [Nat.add_assoc] using this
    · intro i f e
      have := hcell _ _ (c4_at l i _ e).2.2.1
      rw [addr_addF] at this
      simpa [Nat.add_assoc] using this
    · intro i f e
      have := hcell _ _ (c4_at l i _ e).2.2.2
      rw [addr_addF] at this
      simpa [Nat.add_assoc] using this
theorem Try.ofFrame : (Try.prog.info? 24).map (fun i => (i.zero, i.size, i.bytes)) = some (some (.agg #[.string ⟨#[]⟩, .int .i64 0, .string ⟨#[]⟩, .bool false]), 4, 48) := by kernel_rfl
/-- Frames are put behind a row of one's own. -/
theorem fr_append {B : Nat} {w : World} {L : List M.Fr} {v : Value} (hL : FrRow B w L v) (hB : B ≤ w.heap.size) (ty : TypeId) (ad : Addr) (c : Nat) (xs : List M.Fr) (hlen : L.length + xs.length ≤ 1000000)
    (hnews : ∀ j y, (xs.flatMap c4f)[j]? = some y → w.cell? (ad.add j) = some y) :
    ∃ v' w', (Builtin.append_ #[22, 22] ty #[v, .slice (some ad) xs.length c]).run Try.prog w = .ok v' w' ∧ FrRow B w' (L ++ xs) v' ∧ w.grownBy w' v.ownBlock := by
  obtain ⟨i, hi, hz0, hz1, hz2⟩ := info_parts Try.ofFrame
  have h1 : ∀ y ∈ xs.flatMap c4f, y.oneCell' = true := by
    intro y hy
    obtain ⟨f, _, hf⟩ := List.mem_flatMap.1 hy
    simp only [c4f, List.mem_cons, List.not_mem_nil, or_false] at hf
    rcases hf with rfl | rfl | rfl | rfl <;> rfl
  obtain ⟨v', w', hr, ho, hg, _⟩ := run_append_own (P := Try.prog) w B 22 ty 24 i _ 4 48 Try.underlying22 hi hz0 hz1 hz2 rfl (by omega) v L.length _ hL ad xs.length c (xs.flatMap c4f) (c4_length xs) hnews h1 (by simp only [maxLen]; omega) (by omega) hB
  refine ⟨v', w', hr, ?_, hg⟩
  unfold FrRow
  rw [List.flatMap_append, List.length_append]
  exact ho
theorem wpList_append_fr {ops : Array Oper} {rest : List Oper} {o : Oper} {a : Act} {Q : Exit → Act → World → Prop} (w : World) (hgd : o.guard = none) (s x : Operand) (ho : o.op = .call { callee := .builtin .append, args := #[s, x], argTypes := #[22, 22] })
    (B : Nat) (L xs : List M.Fr) (v : Value) (ad : Addr) (n c : Nat) (hn : n = xs.length) (hs : a.eval s = v) (hx : a.eval x = .slice (some ad) n c) (hown : FrRow B w L v) (hlen : L.length + xs.length ≤ 1000000) (hB : B ≤ w.heap.size)
    (hnews : ∀ j y, (xs.flatMap c4f)[j]? = some y → w.cell? (ad.add j) = some y)
    (h : ∀ v' w', FrRow B w' (L ++ xs) v' → w.grownBy w' v.ownBlock → wpList Try.prog ops Q rest (a.put o.dst v') w') : wpList Try.prog ops Q (o :: rest) a w := by
  subst hn
  refine wpList_plain hgd fun K hK => ?_
  obtain ⟨v', w', hr, r1, r2⟩ := fr_append hown hB o.type ad c xs hlen hnews
  unfold Oper.wp execOp
  simp only [ho, resolve, invoke, builtin, Sem.run_bind, Sem.run_pure, Result.andThen_ok, List.map_toArray, List.map_cons, List.map_nil, hs, hx, hr]
  exact hK _ _ (h v' w' r1 r2)
theorem wpListIn_append_fr {F : Fence} {m : Nat} {ops : Array Oper} {rest : List Oper} {o : Oper} {a : Act} {Q : Exit → Act → World → Prop} (w : World) (hgd : o.guard = none) (s x : Operand) (ho : o.op = .call { callee := .builtin .append, args := #[s, x], argTypes := #[22, 22] })
    (B : Nat) (L xs : List M.Fr) (v : Value) (ad : Addr) (n c : Nat) (hn : n = xs.length) (hs : a.eval s = v) (hx : a.eval x = .slice (some ad) n c) (hown : FrRow B w L v) (hlen : L.length + xs.length ≤ 1000000) (hB : B ≤ w.heap.size)
    (hnews : ∀ j y, (xs.flatMap c4f)[j]? = some y → w.cell? (ad.add j) = some y)
    (h : ∀ v' w', FrRow B w' (L ++ xs) v' → w.grownBy w' v.ownBlock → wpListIn F m Try.prog ops Q rest (a.put o.dst v') w') : wpListIn F m Try.prog ops Q (o :: rest) a w := by
  subst hn
  refine wpListIn_plain hgd fun K hK' => ?_
  obtain ⟨v', w', hrun, r1, r2⟩ := fr_append hown hB o.type ad c xs hlen hnews
  unfold Oper.wpIn
  refine ⟨?_, ?_⟩
  · simp [Oper.about, ho, resolve, Target.leads, Sem.run_pure]
  · rw [Oper.semAt_plain F _ _ (by rw [ho]; intro c hc'; cases hc')]
    simp [execOp, ho, resolve, invoke, builtin, hs, hx, hrun, Result.andThen]
    exact hK' _ _ (h v' w' r1 r2)

/-- The box of a frame. -/
structure FrBox (W : World) (S : Nat) (f : M.Fr) : Prop where
  c0 : W.cell? ⟨S, 0, none⟩ = some (.string ⟨f.id.toArray⟩)
  c1 : W.cell? ⟨S, 1, none⟩ = some (.int .i64 f.num)
  c2 : W.cell? ⟨S, 2, none⟩ = some (.string ⟨f.data.toArray⟩)
  c3 : W.cell? ⟨S, 3, none⟩ = some (.bool f.last)
theorem FrBox.new (w : World) (f : M.Fr) (t : TypeId) : FrBox (w.alloc (.cells #[.string ⟨f.id.toArray⟩, .int .i64 f.num, .string ⟨f.data.toArray⟩, .bool f.last] t)) w.heap.size f :=
  ⟨by simp [go_sem], by simp [go_sem], by simp [go_sem], by simp [go_sem]⟩
theorem FrBox.from_ {w W : World} {S n : Nat} {f : M.Fr} (h : FrBox w S f) (hb : Below n w W) (hS : S < n) : FrBox W S f :=
  ⟨(hb.cell (p := ⟨S, 0, none⟩) hS).trans h.c0, (hb.cell (p := ⟨S, 1, none⟩) hS).trans h.c1, (hb.cell (p := ⟨S, 2, none⟩) hS).trans h.c2, (hb.cell (p := ⟨S, 3, none⟩) hS).trans h.c3⟩

set_option maxRecDepth 100000 in
set_option maxHeartbeats 4000000 in
theorem fcheck_any (f : M.Fr) (w : World) : Calls Try.prog 15 #[frv f] w fun e w' => e = .returned (.int .i64 (M.chkF f : Nat)) ∧ Below w.heap.size w w' := by
  obtain ⟨i, n, d, l⟩ := f
  unfold M.chkF
  dsimp only
  have hb0 := (Below.refl w.heap.size w).alloc (Nat.le_refl _) (.cells #[.string ⟨i.toArray⟩, .int .i64 n, .string ⟨d.toArray⟩, .bool l] 24)
  by_cases h1 : i.length = 16
  · by_cases h2 : n < 0
    · rw [if_neg (by omega)]
      go_enter Try.func15, Try.ntmps15
      go_wp2_with fail
      go_ret
      exact ⟨rfl, hb0⟩
    · by_cases h3 : 65535 < n
      · rw [if_neg (by omega)]
        go_enter Try.func15, Try.ntmps15
        go_wp2_with fail
        go_ret
        exact ⟨rfl, hb0⟩
      · rw [if_pos (by omega)]
        by_cases h4 : 4096 < d.length
        · rw [if_neg (by omega)]
          have h4' : (4096 : Int) < (d.length : Nat) := by omega
          go_enter Try.func15, Try.ntmps15
          go_wp2_with fail
          go_ret
          exact ⟨rfl, hb0⟩
        · rw [if_pos (by omega)]
          have h4' : ¬ (4096 : Int) < (d.length : Nat) := by omega
          go_enter Try.func15, Try.ntmps15
          go_wp2_with fail
          go_ret
          exact ⟨rfl, hb0⟩
  · rw [if_neg (by omega)]
    have h1' : ((i.length : Int) == 16) = false := by simp; omega
    go_enter Try.func15, Try.ntmps15
    go_wp2_with fail
    go_ret
    exact ⟨rfl, hb0⟩

set_option maxRecDepth 100000 in
set_option maxHeartbeats 4000000 in
theorem rfcheck_any (f : M.Fr) (w : World) : Calls Try.prog 10 #[frv f] w fun e w' => e = .returned (.int .i64 (M.chkF f : Nat)) ∧ Below w.heap.size w w' := by
  obtain ⟨i, n, d, l⟩ := f
  unfold M.chkF
  dsimp only
  have hb0 := (Below.refl w.heap.size w).alloc (Nat.le_refl _) (.cells #[.string ⟨i.toArray⟩, .int .i64 n, .string ⟨d.toArray⟩, .bool l] 24)
  by_cases h1 : i.length = 16
  · by_cases h2 : n < 0
    · rw [if_neg (by omega)]
      go_enter Try.func10, Try.ntmps10
      go_wp2_with fail
      go_ret
      exact ⟨rfl, hb0⟩
    · by_cases h3 : 65535 < n
      · rw [if_neg (by omega)]
        go_enter Try.func10, Try.ntmps10
        go_wp2_with fail
        go_ret
        exact ⟨rfl, hb0⟩
      · rw [if_pos (by omega)]
        by_cases h4 : 4096 < d.length
        · rw [if_neg (by omega)]
          have h4' : (4096 : Int) < (d.length : Nat) := by omega
          go_enter Try.func10, Try.ntmps10
          go_wp2_with fail
          go_ret
          exact ⟨rfl, hb0⟩
        · rw [if_pos (by omega)]
          have h4' : ¬ (4096 : Int) < (d.length : Nat) := by omega
          go_enter Try.func10, Try.ntmps10
          go_wp2_with fail
          go_ret
          exact ⟨rfl, hb0⟩
  · rw [if_neg (by omega)]
    have h1' : ((i.length : Int) == 16) = false := by simp; omega
    go_enter Try.func10, Try.ntmps10
    go_wp2_with fail
    go_ret
    exact ⟨rfl, hb0⟩
end Go.Proofs.Ytgeeoefcepjniaa
