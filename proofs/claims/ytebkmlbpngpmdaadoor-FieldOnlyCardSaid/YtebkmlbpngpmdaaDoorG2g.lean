/- The reference's Texts: are two rows of texts the same? -/
import Derived.Test.YtebkmlbpngpmdaaDoorG1g
namespace Go.Proofs.YtebkmlbpngpmdaaDoor
open Go Go.RowKit

theorem list_same {α : Type} {xs ys : List α} (hl : xs.length = ys.length) (h : ∀ i, i < xs.length → xs[i]? = ys[i]?) : xs = ys := List.ext_getElem? fun i => by
  by_cases hi : i < xs.length
  · exact h i hi
  · rw [List.getElem?_eq_none (by omega), List.getElem?_eq_none (by omega)]

set_option maxRecDepth 100000 in
set_option maxHeartbeats 4000000 in
theorem rtexts_any (ls ms : List (List UInt8)) (a b : Option Addr) (c e : Nat) (w : World) (hL : Ts w w.heap.size ls (.slice a ls.length c)) (hM : Ts w w.heap.size ms (.slice b ms.length e)) (hl : ls.length ≤ 1000) (_hm : ms.length ≤ 1000) :
    Calls Tryd.prog 25 #[.slice a ls.length c, .slice b ms.length e] w fun e w' => e = .returned (.bool (decide (ls = ms))) ∧ Below w.heap.size w w' := by
  by_cases hne : ls.length = ms.length
  · have hne' : ((ls.length : Nat) : Int) = (ms.length : Nat) := by omega
    have hD := Lib.hid (fun (i : Nat) (h : ls[i]? ≠ ms[i]?) => (decide_eq_false (p := ls = ms) (fun e => h (by rw [e]))))
    have hT := Lib.hid (fun (h : ∀ i, i < ls.length → ls[i]? = ms[i]?) => decide_eq_true (list_same hne h))
    generalize decide (ls = ms) = r at *
    go_enter Tryd.func25, Tryd.ntmps25
    go_wp2_with fail
    go_loopw [5] (fun i wr => ∃ k : Nat, k ≤ ls.length ∧ i = .int .i64 k ∧ (∀ j, j < k → ls[j]? = ms[j]?) ∧ Below w.heap.size w wr) (fun i _ => ls.length - (intOf i).toNat)
    case atStart => exact ⟨0, by omega, rfl, fun j h => by omega, Below.refl _ _⟩
    case round =>
      obtain ⟨k, hk, rfl, hf, hW⟩ := hrel
      by_cases hlt : k < ls.length
      · obtain ⟨b1, o1, s, rfl, hb1, hs, cs⟩ := (hL.from_ hW).at_ hlt
        obtain ⟨b2, o2, t, rfl, hb2, ht, ct⟩ := (hM.from_ hW).at_ (show k < ms.length by omega)
        have hlt2 : k < ms.length := by omega
        have hk2 : k < 1000 := by omega
        have hlt' : ((k : Nat) : Int) < (ms.length : Nat) := by omega
        have mixed : Tryd.prog.follows .mixedOrders = true := by kernel_rfl
        go_wp2_with fail
        go_quiet (fail)
        generalize hq : (!(s == t)) = q at *
        cases q with
        | false =>
          have hst : s = t := by simpa using hq
          clear hq
          go_wp2_with fail
          go_roundw
          case rel =>
            refine ⟨k + 1, by omega, by simp, fun j hj => ?_, ?_⟩
            · by_cases hjk : j = k
              · rw [hjk, hs, ht, hst]
              · exact hf j (by omega)
            · exact hW.trans ⟨rfl, rfl, rfl, Nat.le_refl _, fun _ _ => rfl⟩
          case measure => simp [intOf]; omega
        | true =>
          have hst : ¬ s = t := by simpa using hq
          clear hq
          have hr := hD.out k (by rw [hs, ht]; intro h; exact hst (Option.some.inj h))
          subst hr
          go_wp2_with fail
          go_ret
          exact ⟨rfl, hW.trans ⟨rfl, rfl, rfl, Nat.le_refl _, fun _ _ => rfl⟩⟩
      · obtain rfl : k = ls.length := by omega
        have hr := hT.out hf
        subst hr
        go_wp2_with fail
        go_ret
        exact ⟨rfl, hW⟩
  · have hne' : ¬ ((ls.length : Nat) : Int) = (ms.length : Nat) := by omega
    have hd : decide (ls = ms) = false := decide_eq_false (fun e => hne (by rw [e]))
    rw [hd]
    go_enter Tryd.func25, Tryd.ntmps25
    go_wp2_with fail
    go_ret
    exact ⟨rfl, Below.refl _ _⟩

/-- Two items of bytes, written out. -/
theorem two_lay (w : World) (s t : List UInt8) (ty : TypeId) (n : Nat) (hn : w.heap.size < n) : Lay (w.alloc (.cells #[.bool false, .string ⟨s.toArray⟩, .slice none 0 0, .bool false, .string ⟨t.toArray⟩, .slice none 0 0] ty)) n ([s, t].map M.textI) (.slice (some ⟨w.heap.size, 0, none⟩) 2 2) := by
  refine Lay.row (xs := [s, t].map M.textI) (fun _ => .slice none 0 0) hn (Nat.le_refl 2) (by decide) ?_ ?_ ?_ ?_
  all_goals
    intro i l d ys h
    match i, h with
    | 0, h => simp [M.textI] at h; obtain ⟨rfl, rfl, rfl⟩ := h; first | exact .nil_ (by decide) | simp [go_sem]
    | 1, h => simp [M.textI] at h; obtain ⟨rfl, rfl, rfl⟩ := h; first | exact .nil_ (by decide) | simp [go_sem]
    | i + 2, h => simp at h
/-- Two texts, written out. -/
theorem two_ts (w : World) (s t : List UInt8) (ty : TypeId) (n : Nat) (hn : w.heap.size < n) : Ts (w.alloc (.cells #[.string ⟨s.toArray⟩, .string ⟨t.toArray⟩] ty)) n [s, t] (.slice (some ⟨w.heap.size, 0, none⟩) 2 2) := by
  refine Ts.row (ls := [s, t]) hn (Nat.le_refl 2) (by decide) ?_
  intro i d h
  match i, h with
  | 0, h => simp at h; subst h; simp [go_sem]
  | 1, h => simp at h; subst h; simp [go_sem]
  | i + 2, h => simp at h

theorem texts_sm (ls : List (List UInt8)) (h : ∀ t ∈ ls, t.length ≤ longS) : M.smIs (ls.map M.textI) := by
  induction ls with
  | nil => trivial
  | cons x xs ih => exact ⟨⟨h x (by simp), trivial⟩, ih (fun t ht => h t (by simp [ht]))⟩
theorem texts_cnt (ls : List (List UInt8)) : M.cntIs (ls.map M.textI) = ls.length := by
  induction ls with
  | nil => rfl
  | cons x xs ih => rw [List.map_cons, M.cntIs, ih, M.textI, M.cntI]; simp [M.cntIs]; omega
end Go.Proofs.YtebkmlbpngpmdaaDoor
