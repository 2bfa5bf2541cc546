/- The landed package field: items of any depth, copied. The landed package field: List, and GetList, of any items. Bytes that a call owns: heads and what they lead. rlp.fold: the function that calls itself, whatever it is handed. rlp.fold: at bytes. rlp.fold, at bytes. The three functions that Encode hands to fold. rlp.fold, whatever it is handed. rlp.Deep and rlp.Size. rlp.faultOf, rlp.giveUp. rlp.Check: the closure that looks at an item, and at what is in it. rlp.Check. rlp.Encode. The landed package field: numbers, words, bytes, yes or no, as items. The landed package field: Texts. -/
import Derived.Test.YtebjhbeaknokkaaGreatDoorH08
import Derived.Test.YtebjhbeaknokkaaGreatDoorH01
import Derived.Test.YtebjhbeaknokkaaGreatDoorH07
import Derived.Deep.RegionHeld3
import Derived.Deep.OwnRows
import Derived.Laws.AppendOwn
import Derived.Defers
import Derived.Recover
import Derived.Laws.CopyRow
namespace Go.Proofs.YtebjhbeaknokkaaGreatDoor
open Go Go.RowKit

def Cx (cur : Array Value) (xs : List M.It) (G : Nat → List M.It → Value → Prop) : Prop := ∀ i l d ys, xs[i]? = some (.mk l d ys) →
  cur[i * 3]? = some (.bool l) ∧ cur[i * 3 + 1]? = some (.string ⟨d.toArray⟩) ∧ ∃ a cap, cur[i * 3 + 2]? = some (.slice a ys.length cap) ∧ cap ≤ maxLen ∧ G i ys (.slice a ys.length cap)

set_option maxRecDepth 100000 in
set_option maxHeartbeats 4000000 in
theorem clone_items (xs : List M.It) (hne : 0 < xs.length) (hl : xs.length ≤ 4000) (a : Option Addr) (cap : Nat) (w : World) (hL : Lay w w.heap.size xs (.slice a xs.length cap)) :
    Calls Tryz.prog 129 #[.slice a xs.length cap] w fun e w' => (∃ g cap' cur, e = .returned (.slice (some ⟨g, 0, none⟩) xs.length cap') ∧ w.heap.size ≤ g ∧ w'.heap[g]? = some (.cells cur 44 (0, 0)) ∧ Cx cur xs (fun _ ys v => Lay w w.heap.size ys v) ∧ xs.length ≤ cap' ∧ cap' ≤ maxLen) ∧ Below w.heap.size w w' := by
  obtain ⟨b, o, rfl⟩ : ∃ b o, a = some ⟨b, o, none⟩ := by
    obtain ⟨b', o', cap', l, d, ys, u, hv, _⟩ := hL.at_ (k := 0) hne
    injection hv with h1
    exact ⟨_, _, h1⟩
  have HE := fun W => nil_is W (some ⟨b, o, none⟩) xs.length cap
  simp only [Option.isNone] at HE
  obtain ⟨i, hi, hz0, hz1, hz2⟩ := info_parts Tryz.ofItem
  have hb1 : Below w.heap.size w (w.alloc (.cells #[] 44)) := by (repeat (first | exact Below.refl _ _ | refine Below.drew ?_ | refine Below.alloc ?_ (by first | omega | (simp; omega) | simp) _ | refine Below.setCell ?_ (by first | omega | (simp; omega) | simp) _))
  have hL1 := hL.from_ hb1
  have hall : ∀ j, j < xs.length * 3 → ∃ v, (w.alloc (.cells #[] 44)).cell? ⟨b, o + j, none⟩ = some v := three fun k hk => by
    obtain ⟨b', o', cap', l, d, ys, u, hv, _, _, c0, c1, c2, _⟩ := hL1.at_ hk
    cases hv
    exact ⟨⟨_, c0⟩, ⟨_, c1⟩, ⟨_, c2⟩⟩
  have hnews := seg_all hall
  have HA := run_append_grow (P := Tryz.prog) (w.alloc (.cells #[] 44)) 42 42 44 i _ Tryz.underlying42 hi hz0 ⟨w.heap.size, 0, none⟩ 0 0 [] (by simp) (fun j v h => by simp at h) ⟨b, o, none⟩ xs.length cap (seg (w.alloc (.cells #[] 44)) b o (xs.length * 3)) (by rw [seg_length, hz1]) hnews (by omega) (by omega) (growslice_fits (by omega) (by rw [hz2]; omega))
  simp only [Nat.zero_add] at HA
  have hge := grownCap_ge (w.alloc (.cells #[] 44)) xs.length 0 44
  have hle := grownCap_le_maxLen (w.alloc (.cells #[] 44)) xs.length 0 44 (by simp only [maxLen]; omega)
  generalize grownCap (w.alloc (.cells #[] 44)) xs.length 0 44 = gc at *
  obtain ⟨cur, hcur⟩ : ∃ cur, ([].toArray ++ (seg (w.alloc (.cells #[] 44)) b o (xs.length * 3)).toArray ++ Builtin.zeroCells (Value.agg #[.bool false, .string ⟨#[]⟩, .slice none 0 0]).cells (gc - xs.length)) = cur := ⟨_, rfl⟩
  rw [hcur] at HA
  have hTx : Cx cur xs fun _ ys v => Lay w w.heap.size ys v := fun k l d ys hk => by
    have hk' := (List.getElem?_eq_some_iff.1 hk).1
    obtain ⟨b', o', cap', l', d', ys', u, hv, hbn, hx, c0, c1, c2, hu⟩ := hL1.at_ hk'
    cases hv
    rw [hk] at hx
    cases hx
    obtain ⟨_, _, _, _, _, _, u0, hv0, _, hx0, _, _, d2, hu0⟩ := hL.at_ hk'
    cases hv0
    rw [hk] at hx0
    cases hx0
    have e2 := (hb1.cell (p := ⟨b, o + k * 3 + 2, none⟩) hbn).trans d2
    rw [c2] at e2
    cases e2
    obtain ⟨a2, cp2, rfl, _, hm⟩ := hu.slice
    have hat : ∀ j v, j < xs.length * 3 → (w.alloc (.cells #[] 44)).cell? ⟨b, o + j, none⟩ = some v → cur[j]? = some v := fun j v hj h => by
      have := seg_at hj h
      rw [← hcur, Array.getElem?_append_left (by simp [seg_length]; omega)]
      simpa using this
    exact ⟨hat _ _ (by omega) c0, hat _ _ (by omega) c1, a2, cp2, hat _ _ (by omega) c2, hm, hu0⟩
  clear hcur hnews hall hL1 hL hi hz0 hz1 hz2
  obtain ⟨w1, hw1⟩ : ∃ w1, ((w.alloc (.cells #[] 44)).drew.alloc (.cells cur 44)) = w1 := ⟨_, rfl⟩
  have hrow : w1.heap[w.heap.size + 1]? = some (.cells cur 44 (0, 0)) := by
    rw [← hw1]
    have := heap_alloc_new (w.alloc (.cells #[] 44)).drew (.cells cur 44)
    simpa using this
  have hb : Below w.heap.size w w1 := by rw [← hw1]; exact (hb1.drew).alloc (by simp) _
  rw [hw1] at HA
  rw [show (w.alloc (.cells #[] 44)).heap.size = w.heap.size + 1 by simp] at HA
  clear hw1 hb1
  go_enter Tryz.func129, Tryz.ntmps129
  have HA' := Lib.hid HA
  clear HA
  go_wp2_with (at_builtin; refine wpList_append_run rfl _ _ _ rfl _ _ _ rfl rfl HA'.out ?_)
  go_ret
  exact ⟨⟨_, _, _, rfl, by omega, hrow, hTx, hge, hle⟩, hb⟩

theorem Cx.imp {cur : Array Value} {xs : List M.It} {G H : Nat → List M.It → Value → Prop} (h : Cx cur xs G) (hGH : ∀ i l d ys v, xs[i]? = some (.mk l d ys) → G i ys v → H i ys v) : Cx cur xs H := fun i l d ys e => by
  obtain ⟨c0, c1, a, cap, c2, hm, hg⟩ := h i l d ys e
  exact ⟨c0, c1, a, cap, c2, hm, hGH i l d ys _ e hg⟩
theorem Cx.set1 {cur : Array Value} {xs : List M.It} {G : Nat → List M.It → Value → Prop} {k : Nat} {l : Bool} {s : List UInt8} {ys : List M.It} (h : Cx cur xs G) (hk : xs[k]? = some (.mk l s ys)) : Cx (cur.setIfInBounds (k * 3 + 1) (.string ⟨s.toArray⟩)) xs G := fun i l' t ys' hi => by
  obtain ⟨c0, c1, a, cap, c2, hm, hg⟩ := h i l' t ys' hi
  refine ⟨by rw [Array.getElem?_setIfInBounds_ne (by omega)]; exact c0, ?_, a, cap, by rw [Array.getElem?_setIfInBounds_ne (by omega)]; exact c2, hm, hg⟩
  by_cases e : i = k
  · subst e
    rw [hk] at hi
    cases hi
    have := (Array.getElem?_eq_some_iff.1 c1).1
    rw [Array.getElem?_setIfInBounds_self_of_lt this]
  · rw [Array.getElem?_setIfInBounds_ne (by omega)]
    exact c1
theorem Cx.set2 {cur : Array Value} {xs : List M.It} {G H : Nat → List M.It → Value → Prop} {k : Nat} {l : Bool} {s : List UInt8} {ys : List M.It} (h : Cx cur xs G) (hk : xs[k]? = some (.mk l s ys)) (a : Option Addr) (cap : Nat) (hm : cap ≤ maxLen) (hH : H k ys (.slice a ys.length cap)) (hGH : ∀ i l d ys v, i ≠ k → xs[i]? = some (.mk l d ys) → G i ys v → H i ys v) : Cx (cur.setIfInBounds (k * 3 + 2) (.slice a ys.length cap)) xs H := fun i l' d ys' hi => by
  obtain ⟨c0, c1, a', cap', c2, hm', hg⟩ := h i l' d ys' hi
  refine ⟨by rw [Array.getElem?_setIfInBounds_ne (by omega)]; exact c0, by rw [Array.getElem?_setIfInBounds_ne (by omega)]; exact c1, ?_⟩
  by_cases e : i = k
  · subst e
    rw [hk] at hi
    cases hi
    have := (Array.getElem?_eq_some_iff.1 c2).1
    exact ⟨a, cap, by rw [Array.getElem?_setIfInBounds_self_of_lt this], hm, hH⟩
  · exact ⟨a', cap', by rw [Array.getElem?_setIfInBounds_ne (by omega)]; exact c2, hm', hGH i l' d ys' _ e hi hg⟩
theorem Cx.lay {W : World} {S : Nat → Prop} {g cap : Nat} {cur : Array Value} {xs : List M.It} (h : Cx cur xs fun _ ys v => LayS W S ys v) (hrow : W.heap[g]? = some (.cells cur 44 (0, 0))) (hg : S g) (hc : xs.length ≤ cap) (hm : cap ≤ maxLen) : LayS W S xs (.slice (some ⟨g, 0, none⟩) xs.length cap) := by
  have hat : ∀ j v, cur[j]? = some v → W.cell? ⟨g, 0 + j, none⟩ = some v := fun j v hv => by simp [World.cell?, hrow, hv]
  exact LayS.row (w := W) (S := S) (xs := xs) (b := g) (o := 0) (cap := cap) (fun i => (cur[i * 3 + 2]?).getD undef) hg hc hm
    (fun i l d ys e => hat _ _ (h i l d ys e).1)
    (fun i l d ys e => by
      have := hat _ _ (h i l d ys e).2.1
      rwa [← Nat.add_assoc] at this)
    (fun i l d ys e => by
      obtain ⟨a, c, c2, _⟩ := (h i l d ys e).2.2
      have := hat _ _ c2
      rw [← Nat.add_assoc] at this
      rw [this, c2, Option.getD_some])
    (fun i l d ys e => by
      obtain ⟨a, c, c2, hm, hg⟩ := (h i l d ys e).2.2
      rw [c2, Option.getD_some]
      exact hg)
theorem M.smIs_at : ∀ {xs : List M.It} {i : Nat} {l : Bool} {d : List UInt8} {ys : List M.It}, M.smIs xs → xs[i]? = some (.mk l d ys) → d.length ≤ 140737488355328 ∧ M.smIs ys
  | x :: xs, 0, l, d, ys, h, e => by
    cases e
    have := h.1
    rwa [M.smI] at this
  | x :: xs, i + 1, l, d, ys, h, e => M.smIs_at h.2 (by simpa using e)
def GK (w wr : World) (g k : Nat) (i : Nat) (ys : List M.It) (v : Value) : Prop := (i < k → LayS wr (fun b => w.heap.size ≤ b ∧ b < wr.heap.size ∧ b ≠ g) ys v) ∧ (k ≤ i → Lay w w.heap.size ys v)
def CopC (n : Nat) : Prop := ∀ (xs : List M.It) (a : Option Addr) (cap : Nat) (w : World), SizeOf.sizeOf xs ≤ n → M.cntIs xs ≤ 4000 → M.smIs xs → Lay w w.heap.size xs (.slice a xs.length cap) →
  Calls Tryz.prog 86 #[.slice a xs.length cap] w fun e w' => (∃ a' cap', e = .returned (.slice a' xs.length cap') ∧ Fresh w.heap.size w' xs (.slice a' xs.length cap')) ∧ Below w.heap.size w w'

set_option maxRecDepth 100000 in
set_option maxHeartbeats 8000000 in
theorem copied_step (n : Nat) (ih : CopC n) : CopC (n + 1) := by
  intro xs a cap w hsz hcn hsm hL
  have hl : xs.length ≤ 4000 := Nat.le_trans (M.length_cnt xs) hcn
  by_cases hne : xs.length = 0
  · obtain rfl := List.eq_nil_of_length_eq_zero hne
    refine (copied_none a cap w).mono ?_
    rintro e w1 ⟨⟨a', cap', rfl, hm⟩, hb1⟩
    exact ⟨⟨a', cap', rfl, .nil_ hm⟩, hb1⟩
  · have HC := Lib.hid (clone_items xs (by omega) hl a cap w hL)
    have HS := Lib.hid hsm
    have HCN := Lib.hid hcn
    have HSZ := Lib.hid hsz
    have IH := Lib.hid ih
    clear hL hsm hcn hsz ih
    go_enter Tryz.func86, Tryz.ntmps86
    go_wp2_with fail
    refine HC.out.mono ?_
    rintro e w1 ⟨⟨g, cap', cur0, rfl, hg0, hrow0, hT0, hc0, hm0⟩, hb1⟩
    have hsz1 : g < w1.heap.size := (Array.getElem?_eq_some_iff.1 hrow0).1
    go_wp2_with fail
    go_loopw [10] (fun i wr => ∃ (k : Nat) (cur : Array Value), k ≤ xs.length ∧ i = .int .i64 k ∧ wr.heap[g]? = some (.cells cur 44 (0, 0)) ∧ Cx cur xs (GK w wr g k) ∧ Below w.heap.size w wr) (fun i _ => xs.length - (RowKit.intOf i).toNat)
    case atStart => exact ⟨0, cur0, by omega, rfl, hrow0, hT0.imp (fun i _ _ _ _ _ h => ⟨fun h0 => absurd h0 (by omega), fun _ => h⟩), hb1⟩
    case round =>
      obtain ⟨k, cur, hk, rfl, hrow, hT, hb⟩ := hrel
      have hsz : g < wr.heap.size := (Array.getElem?_eq_some_iff.1 hrow).1
      by_cases hlt : k < xs.length
      · have hk2 : k < 4000 := by omega
        obtain ⟨l, s, ys, hks⟩ : ∃ l s ys, xs[k]? = some (.mk l s ys) := by
          rw [List.getElem?_eq_getElem hlt]
          obtain ⟨l, s, ys⟩ := xs[k]
          exact ⟨l, s, ys, rfl⟩
        obtain ⟨q0, q1, a2, cp2, q2, hm2, hG⟩ := hT k l s ys hks
        replace hG := hG.2 (Nat.le_refl _)
        obtain ⟨sm1, sm2⟩ := M.smIs_at HS.out hks
        have hcy : M.cntIs ys ≤ 4000 := by
          have h1 := M.cntI_part (List.mem_of_getElem? hks)
          rw [M.cntI] at h1
          have := HCN.out
          omega
        have hsy : SizeOf.sizeOf ys ≤ n := by
          have h1 := size_get hks
          have := HSZ.out
          rw [M.It.mk.sizeOf_spec] at h1
          omega
        have c0 : wr.cell? ⟨g, k * 3, none⟩ = some (.bool l) := by simp [World.cell?, hrow, q0]
        have c1 : wr.cell? ⟨g, k * 3 + 1, none⟩ = some (.string ⟨s.toArray⟩) := by simp [World.cell?, hrow, q1]
        have c2 : wr.cell? ⟨g, k * 3 + 2, none⟩ = some (.slice a2 ys.length cp2) := by simp [World.cell?, hrow, q2]
        have HT := Lib.hid (fun W => clone_any s W (Nat.le_trans sm1 (by decide)))
        have hne1 : ¬ g = wr.heap.size := by omega
        have hne2 : ¬ wr.heap.size = g := by omega
        have HCP := Lib.hid (fun W (h : Below w.heap.size w W) => IH.out ys a2 cp2 W hsy hcy sm2 ((hG.from_ h).mono h.size))
        clear hsy hcy sm1 sm2 hG
        go_wp2_with fail
        refine (HT.out _).mono ?_
        rintro e w2 ⟨rfl, hb2⟩
        have hsz2 : wr.heap.size + 1 ≤ w2.heap.size := by simpa using hb2.size
        have hrow2 : w2.heap[g]? = some (.cells cur 44 (0, 0)) := (hb2.block g (by simp; omega)).trans ((Below.heap_alloc wr _ g hsz).trans hrow)
        have hbox2 : w2.heap[wr.heap.size]? = some (.cells #[.bool l, .string ⟨s.toArray⟩, .slice a2 ys.length cp2] 44 (0, 0)) := (hb2.block _ (by simp)).trans (heap_alloc_new wr _)
        have d1 : w2.cell? ⟨g, k * 3 + 1, none⟩ = some (.string ⟨s.toArray⟩) := by simp [World.cell?, hrow2, q1]
        have f1 : w2.frozen? ⟨g, k * 3 + 1, none⟩ = false := by simp [World.frozen?, hrow2]
        have e2 : w2.cell? ⟨wr.heap.size, 2, none⟩ = some (.slice a2 ys.length cp2) := by simp [World.cell?, hbox2]
        obtain ⟨w3, hw3⟩ : ∃ w3, w2.setCell ⟨g, k * 3 + 1, none⟩ (.string ⟨s.toArray⟩) = w3 := ⟨_, rfl⟩
        have hrow3 : w3.heap[g]? = some (.cells (cur.setIfInBounds (k * 3 + 1) (.string ⟨s.toArray⟩)) 44 (0, 0)) := by
          rw [← hw3, setCell_eq_setRow w2 g (k * 3 + 1) cur _ (0, 0) _ hrow2]
          exact setRow_heap w2 g cur _ _ (0, 0) hrow2
        have hb3 : Below w.heap.size w w3 := by
          rw [← hw3]
          exact Below.setCell ((hb.alloc hb.size _).trans (hb2.mono (by simp; have := hb.size; omega))) hg0 _
        have HW3 := Lib.hid hw3
        have hb2X := hb2
        clear hw3 hb2
        go_wp2_with fail
        rw [HW3.out]
        refine (HCP.out _ hb3).mono ?_
        rintro e w4 ⟨⟨a3, cp3, rfl, hFr⟩, hb4⟩
        have hz3 : w3.heap.size = w2.heap.size := by rw [← HW3.out]; simp [World.setCell]
        have hrow4 := (hb4.block g (by omega)).trans hrow3
        have q4 : (cur.setIfInBounds (k * 3 + 1) (.string ⟨s.toArray⟩))[k * 3 + 2]? = some (.slice a2 ys.length cp2) := by rw [Array.getElem?_setIfInBounds_ne (by omega)]; exact q2
        have d4 : w4.cell? ⟨g, k * 3 + 2, none⟩ = some (.slice a2 ys.length cp2) := by simp only [World.cell?, hrow4]; exact q4
        have f4 : w4.frozen? ⟨g, k * 3 + 2, none⟩ = false := by simp [World.frozen?, hrow4]
        have hrow5 := setRow_heap w4 g _ ((cur.setIfInBounds (k * 3 + 1) (.string ⟨s.toArray⟩)).setIfInBounds (k * 3 + 2) (.slice a3 ys.length cp3)) _ (0, 0) hrow4
        rw [← setCell_eq_setRow w4 g (k * 3 + 2) _ _ (0, 0) _ hrow4] at hrow5
        have hb5 : Below w.heap.size w (w4.setCell ⟨g, k * 3 + 2, none⟩ (.slice a3 ys.length cp3)) := Below.setCell (hb3.trans (hb4.mono hb3.size)) hg0 _
        have hm3 : cp3 ≤ maxLen := by
          obtain ⟨_, _, e3, _, hm⟩ := hFr.lay.slice
          cases e3
          exact hm
        have hz5 : (w4.setCell ⟨g, k * 3 + 2, none⟩ (.slice a3 ys.length cp3)).heap.size = w4.heap.size := by simp [World.setCell]
        have hz4 := hb4.size
        have hblk : ∀ b, b ≠ g → b < wr.heap.size → (w4.setCell ⟨g, k * 3 + 2, none⟩ (.slice a3 ys.length cp3)).heap[b]? = wr.heap[b]? := fun b hbg hbl => by
          rw [Below.heap_setCell _ _ _ b hbg, hb4.block b (by omega), ← HW3.out, Below.heap_setCell _ _ _ b hbg, hb2X.block b (by simp; omega), Below.heap_alloc wr _ b hbl]
        have hT5 := (hT.set1 hks).set2 (H := GK w (w4.setCell ⟨g, k * 3 + 2, none⟩ (.slice a3 ys.length cp3)) g (k + 1)) hks a3 cp3 hm3
          ⟨fun _ => LayS.keep hFr fun b ⟨b1, b2⟩ => ⟨⟨by have := hb3.size; omega, by omega, by omega⟩, Below.heap_setCell _ _ _ b (by show b ≠ g; omega)⟩, fun h => absurd h (by omega)⟩
          (fun i l' d' ys' v hik hi h => ⟨fun hi2 => LayS.keep (h.1 (by omega)) fun b ⟨b1, b2, b3⟩ => ⟨⟨b1, by omega, b3⟩, hblk b b3 b2⟩, fun hi2 => h.2 (by omega)⟩)
        clear hb4 hb3 hrow4 hrow3 hrow2 hbox2 HW3 HCP HT hblk hb2X hz5 hz4 hFr
        go_wp2_with fail
        go_roundw
        case rel => exact ⟨k + 1, _, by omega, by simp, hrow5, hT5, hb5⟩
        case measure => simp [RowKit.intOf]; omega
      · obtain rfl : k = xs.length := by omega
        go_wp2_with fail
        go_ret
        refine ⟨⟨_, _, rfl, Cx.lay (hT.imp (H := fun _ ys v => LayS wr (fun b => w.heap.size ≤ b ∧ b < wr.heap.size) ys v) fun i l d ys v e h => ?_) hrow ⟨hg0, hsz⟩ hc0 hm0⟩, hb⟩
        exact LayS.keep (h.1 (List.getElem?_eq_some_iff.1 e).1) fun b ⟨b1, b2, _⟩ => ⟨⟨b1, b2⟩, rfl⟩

theorem copied_all : ∀ n, CopC n
  | 0 => fun xs a cap w h => by
    have : 0 < SizeOf.sizeOf xs := by cases xs <;> simp <;> omega
    omega
  | n + 1 => copied_step n (copied_all n)
theorem copied_it (xs : List M.It) (a : Option Addr) (cap : Nat) (w : World) (hcn : M.cntIs xs ≤ 4000) (hsm : M.smIs xs) (hL : Lay w w.heap.size xs (.slice a xs.length cap)) :
    Calls Tryz.prog 86 #[.slice a xs.length cap] w fun e w' => (∃ a' cap', e = .returned (.slice a' xs.length cap') ∧ Fresh w.heap.size w' xs (.slice a' xs.length cap')) ∧ Below w.heap.size w w' :=
  copied_all _ xs a cap w (Nat.le_refl _) hcn hsm hL
end Go.Proofs.YtebjhbeaknokkaaGreatDoor
namespace Go.Proofs.YtebjhbeaknokkaaGreatDoor
open Go Go.RowKit

set_option maxRecDepth 100000 in
set_option maxHeartbeats 4000000 in
theorem flist_it (xs : List M.It) (a : Option Addr) (cap : Nat) (w : World) (hcn : M.cntIs xs ≤ 4000) (hsm : M.smIs xs) (hL : Lay w w.heap.size xs (.slice a xs.length cap)) :
    Calls Tryz.prog 44 #[.slice a xs.length cap] w fun e w' => (∃ a' cap', e = .returned (iv true [] (.slice a' xs.length cap')) ∧ Lay w' w'.heap.size xs (.slice a' xs.length cap')) ∧ Below w.heap.size w w' := by
  obtain ⟨w0, hw0⟩ : ∃ w0, w.alloc (.cells #[.bool false, .string ⟨#[]⟩, .slice none 0 0] 44) = w0 := ⟨_, rfl⟩
  have hb0 : Below w.heap.size w w0 := by rw [← hw0]; (repeat (first | exact Below.refl _ _ | refine Below.drew ?_ | refine Below.alloc ?_ (by first | omega | (simp; omega) | simp) _ | refine Below.setCell ?_ (by first | omega | (simp; omega) | simp) _))
  have hz0 : w0.heap.size = w.heap.size + 1 := by rw [← hw0]; simp
  have hrow0 : w0.heap[w.heap.size]? = some (.cells #[.bool false, .string ⟨#[]⟩, .slice none 0 0] 44 (0, 0)) := by rw [← hw0]; exact heap_alloc_new w _
  have HC := Lib.hid (copied_it xs a cap w0 hcn hsm ((hL.from_ hb0).mono (by omega)))
  have HW := Lib.hid hw0
  clear hw0 hL hsm
  go_enter Tryz.func44, Tryz.ntmps44
  go_wp2_with fail
  rw [HW.out]
  refine HC.out.mono ?_
  rintro e w1 ⟨⟨a', cap', rfl, hL1⟩, hb1⟩
  have hb : Below w.heap.size w w1 := hb0.trans (hb1.mono (by omega))
  have hrow : w1.heap[w.heap.size]? = _ := (hb1.block _ (by omega)).trans hrow0
  clear hb1 hb0 hrow0 HW
  obtain ⟨⟨_, z0⟩, ⟨_, z1⟩, ⟨_, z2⟩, y0, y1, y2⟩ := cells_three hrow
  go_wp2_with fail
  refine rf_post rfl w w1 _ true [] (.slice a' xs.length cap') w.heap.size (Nat.le_refl _) hb _ _ _ hrow _ rfl (fun Z hZ hz ho => ⟨⟨a', cap', rfl, ?_⟩, hZ⟩)
  exact (LayS.keep hL1 (T := fun b => b < Z.heap.size) (W := Z) fun b ⟨h1, h2⟩ => ⟨by omega, ho b (by omega)⟩).lay fun b h => h

set_option maxRecDepth 100000 in
set_option maxHeartbeats 4000000 in
theorem each_it (xs : List M.It) (a : Option Addr) (cap : Nat) (w : World) (hcn : M.cntIs xs ≤ 4000) (hsm : M.smIs xs) (hL : Lay w w.heap.size xs (.slice a xs.length cap)) :
    Calls Tryz.prog 180 #[.slice a xs.length cap] w fun e w' => (∃ a' cap', e = .returned (.tuple #[.slice a' xs.length cap', .int .i64 0]) ∧ Fresh w.heap.size w' xs (.slice a' xs.length cap')) ∧ Below w.heap.size w w' := by
  have HC := Lib.hid (copied_it xs a cap w hcn hsm hL)
  clear hL hsm
  go_enter Tryz.func180, Tryz.ntmps180
  go_wp2_with fail
  refine HC.out.mono ?_
  rintro e w1 ⟨⟨a', cap', rfl, hL1⟩, hb1⟩
  go_wp2_with fail
  go_ret2
  exact ⟨⟨_, _, rfl, hL1⟩, hb1⟩

set_option maxRecDepth 100000 in
set_option maxHeartbeats 4000000 in
theorem oflist_it (l : Bool) (d : List UInt8) (xs : List M.It) (a : Option Addr) (cap : Nat) (least most : Int) (w : World) (hR : Rd w l d xs a cap) :
    Calls Tryz.prog 179 #[iv l d (.slice a xs.length cap), .int .i64 least, .int .i64 most, .func (.func 180) #[] #[]] w fun e w' => (∃ a' cap', e = .returned (.tuple #[.slice a' (M.getList least most (.mk l d xs)).1.length cap', .int .i64 ((M.getList least most (.mk l d xs)).2 : Nat)]) ∧ Fresh w.heap.size w' (M.getList least most (.mk l d xs)).1 (.slice a' (M.getList least most (.mk l d xs)).1.length cap')) ∧ Below w.heap.size w w' := by
  have E1 : ∀ args w, (callFunc 180 args).run Tryz.prog w = .ok (.enter 180 args) w := enters_of Tryz.func180 (by kernel_rfl) rfl
  have hb0 : Below w.heap.size w (w.alloc (.cells #[.bool l, .string ⟨d.toArray⟩, .slice a xs.length cap] 44)) := by (repeat (first | exact Below.refl _ _ | refine Below.drew ?_ | refine Below.alloc ?_ (by first | omega | (simp; omega) | simp) _ | refine Below.setCell ?_ (by first | omega | (simp; omega) | simp) _))
  obtain ⟨hL, hsm, hcn, hfo⟩ := hR
  cases l with
  | false =>
    have e1 : M.getList least most (.mk false d xs) = ([], 2) := rfl
    rw [e1]
    clear hL hsm hcn hfo e1
    go_enter Tryz.func179, Tryz.ntmps179
    go_wp2_with fail
    go_ret2
    exact ⟨⟨none, 0, rfl, .nil_ (by decide)⟩, hb0⟩
  | true =>
    obtain ⟨rfl, _⟩ := (M.formI_ok hfo).1 rfl
    rw [M.smI] at hsm
    have HN := Lib.hid (fun V => count_any xs.length least most V)
    have HE := Lib.hid (fun V (h : Below w.heap.size w V) => each_it xs a cap V hcn hsm.2 ((hL.from_ h).mono h.size))
    have e1 : M.getList least most (.mk true [] xs) = if M.within xs.length least most ≠ 0 then ([], M.within xs.length least most) else (xs, 0) := rfl
    rw [e1]
    clear hL hsm hcn hfo e1
    generalize M.within xs.length least most = q at *
    by_cases hq : q = 0
    · subst hq
      rw [if_neg (by simp)]
      go_enter Tryz.func179, Tryz.ntmps179
      go_wp2_with fail
      refine (HN.out _).mono ?_
      rintro e w1 ⟨rfl, hb1⟩
      obtain ⟨hce, hfr⟩ := bcell hb1
      have hb01 := hb0.trans (hb1.mono (by simp))
      go_wp2_with fail
      refine (HE.out _ hb01).mono ?_
      rintro e w2 ⟨⟨a', cap', rfl, hFr⟩, hb2⟩
      go_wp2_with fail
      go_ret2
      exact ⟨⟨_, _, rfl, hFr.mono hb01.size⟩, hb01.trans (hb2.mono hb01.size)⟩
    · rw [if_pos hq]
      have hq1 : ((q : Int) != 0) = true := by simp; omega
      clear hq
      go_enter Tryz.func179, Tryz.ntmps179
      go_wp2_with fail
      refine (HN.out _).mono ?_
      rintro e w1 ⟨rfl, hb1⟩
      have hb01 := hb0.trans (hb1.mono (by simp))
      go_wp2_with fail
      go_ret2
      exact ⟨⟨none, 0, rfl, .nil_ (by decide)⟩, hb01⟩

set_option maxRecDepth 100000 in
set_option maxHeartbeats 4000000 in
theorem getlist_it (l : Bool) (d : List UInt8) (xs : List M.It) (a : Option Addr) (cap : Nat) (least most : Int) (w : World) (hR : Rd w l d xs a cap) :
    Calls Tryz.prog 101 #[iv l d (.slice a xs.length cap), .int .i64 least, .int .i64 most] w fun e w' => (∃ a' cap', e = .returned (.tuple #[.slice a' (M.getList least most (.mk l d xs)).1.length cap', .int .i64 ((M.getList least most (.mk l d xs)).2 : Nat)]) ∧ Fresh w.heap.size w' (M.getList least most (.mk l d xs)).1 (.slice a' (M.getList least most (.mk l d xs)).1.length cap')) ∧ Below w.heap.size w w' := by
  have hb0 : Below w.heap.size w (w.alloc (.cells #[.bool l, .string ⟨d.toArray⟩, .slice a xs.length cap] 44)) := by (repeat (first | exact Below.refl _ _ | refine Below.drew ?_ | refine Below.alloc ?_ (by first | omega | (simp; omega) | simp) _ | refine Below.setCell ?_ (by first | omega | (simp; omega) | simp) _))
  have HL := Lib.hid (fun W (h : Below w.heap.size w W) => oflist_it l d xs a cap least most W (hR.kept h))
  clear hR
  generalize M.getList least most (.mk l d xs) = r at *
  obtain ⟨r1, r2⟩ := r
  go_enter Tryz.func101, Tryz.ntmps101
  go_wp2_with fail
  refine (HL.out _ hb0).mono ?_
  rintro e w1 ⟨⟨a', cap', rfl, hFr⟩, hb1⟩
  go_wp2_with fail
  go_ret2
  exact ⟨⟨_, _, rfl, hFr.mono hb0.size⟩, hb0.trans (hb1.mono hb0.size)⟩
end Go.Proofs.YtebjhbeaknokkaaGreatDoor
namespace Go.Proofs.YtebjhbeaknokkaaGreatDoor
open Go Go.RowKit Go.Lib

set_option maxRecDepth 100000 in
set_option maxHeartbeats 4000000 in
theorem headOf_any (k : Int) (c : UInt8) (l : List UInt8) (u : Value) (w : World) (hk : k = (c.toNat : Nat)) (hl : l.length ≤ 8) (hs : Sr l u w) :
    Calls Tryz.prog 128 #[.int .i64 k, u] w fun e w' => (∃ v, e = .returned v ∧ Ow w.heap.size (c :: l) v w') ∧ Below w.heap.size w w' := by
  have hw : IntKind.u8.wrap k = ((c.toNat : Nat) : Int) := wrap_u8 hk
  clear hk
  go_enter Tryz.func128, Tryz.ntmps128
  go_wp2_with (at_builtin; refine wpList_append_ow _ rfl _ _ rfl w.heap.size [c] l _ u rfl rfl (Ow.lit w c) (hs.from_ ((Below.refl _ _).alloc (Nat.le_refl _) _)) (by simp; omega) (by simp) ?_; intro v w1 ho1 hb1 _)
  go_ret
  exact ⟨⟨v, rfl, ho1⟩, ((Below.refl _ _).alloc (Nat.le_refl _) _).trans hb1⟩

set_option maxRecDepth 100000 in
set_option maxHeartbeats 4000000 in
theorem head_any (n p : Nat) (w : World) (hn : n < 4611686018427387904) (hp : p ≤ 192) :
    Calls Tryz.prog 85 #[.int .i64 (n : Nat), .int .i64 (p : Nat)] w fun e w' => (∃ v, e = .returned v ∧ Ow w.heap.size (M.hdL n p) v w') ∧ Below w.heap.size w w' := by
  by_cases h56 : n < 56
  · obtain ⟨c, hc⟩ : ∃ c : UInt8, c = UInt8.ofNat (p + n) := ⟨_, rfl⟩
    have e : M.hdL n p = [c] := by unfold M.hdL; rw [if_pos h56, hc]
    have hcn : c.toNat = p + n := by rw [hc]; exact ofNat_at (by omega)
    rw [e]
    clear hc e
    go_enter Tryz.func85, Tryz.ntmps85
    go_wp2_with fail
    refine (headOf_any _ c [] _ w (by omega) (by simp) (.inl ⟨rfl, rfl⟩)).mono ?_
    rintro e w1 ⟨⟨v, rfl, ho⟩, hb⟩
    go_wp2_with fail
    go_ret
    exact ⟨⟨v, rfl, ho⟩, hb⟩
  · have e : M.hdL n p = UInt8.ofNat (p + 55 + (M.ben n).length) :: M.ben n := by unfold M.hdL; rw [if_neg h56]
    have hbl := M.ben_le (n := n) (by omega)
    have hbe : Hid (∀ w, Calls Tryz.prog 40 #[.int .u64 (n : Nat)] w fun e w' => e = .returned (.string ⟨(M.ben n).toArray⟩) ∧ Below w.heap.size w w') := fun w => nbe_any n w (by omega)
    rw [e]
    generalize M.ben n = bn at *
    obtain ⟨c, hc⟩ : ∃ c : UInt8, c = UInt8.ofNat (p + 55 + bn.length) := ⟨_, rfl⟩
    rw [← hc]
    have hcn : c.toNat = p + 55 + bn.length := by rw [hc]; exact ofNat_at (by omega)
    clear e hc
    go_enter Tryz.func85, Tryz.ntmps85
    go_wp2_with fail
    refine (hbe.out _).mono ?_
    rintro e w1 ⟨rfl, hb1⟩
    go_wp2_with (refine wpList_seal _ rfl _ _ 5 _ rfl ⟨bn.toArray⟩ rfl Tryz.underlying9 Tryz.underlying75 Tryz.underlying5 (by simp [ByteArray.size]; unfold maxLen; omega) ?_; intro cap cur w2 hSeal)
    have h1 := hb1.size
    have h2 := hSeal.low.size
    have hb2 : Below w.heap.size w w2 := hb1.trans (hSeal.low.mono h1)
    refine (headOf_any _ c bn _ w2 (by omega) hbl hSeal.sr).mono ?_
    rintro e w3 ⟨⟨v, rfl, ho⟩, hb⟩
    go_wp2_with fail
    go_ret
    exact ⟨⟨v, rfl, ho.mono (by omega)⟩, hb2.trans (hb.mono (by omega))⟩

def hdB (d : List UInt8) : List UInt8 := if d.length = 1 ∧ (d.headD 0).toNat < 128 then [] else M.hdL d.length 128
theorem bytes_hdB (d : List UInt8) (xs : List M.It) : M.bytesI (.mk false d xs) = hdB d ++ d := by
  rw [M.bytesI]
  unfold hdB
  by_cases h : d.length = 1 ∧ (d.headD 0).toNat < 128
  · rw [if_pos h, if_pos h, List.nil_append]
  · rw [if_neg h, if_neg h]
set_option maxRecDepth 100000 in
set_option maxHeartbeats 4000000 in
theorem headOfBytes_any (d : List UInt8) (w : World) (hn : d.length < 4611686018427387904) :
    Calls Tryz.prog 82 #[.string ⟨d.toArray⟩] w fun e w' => (∃ v, e = .returned v ∧ Ow w.heap.size (hdB d) v w') ∧ Below w.heap.size w w' := by
  by_cases h1 : d.length = 1
  · obtain ⟨c, rfl⟩ : ∃ c, d = [c] := by match d, h1 with | [c], _ => exact ⟨c, rfl⟩
    have hx : (⟨#[c]⟩ : ByteArray)[0]'(Nat.one_pos) = c := rfl
    by_cases hc : c.toNat < 128
    · have e : hdB [c] = [] := by unfold hdB; simp [hc]
      rw [e]
      go_enter Tryz.func82, Tryz.ntmps82
      go_wp2_with fail
      go_ret
      exact ⟨⟨_, rfl, Ow.nil _ _⟩, Below.refl _ _⟩
    · have e : hdB [c] = M.hdL 1 128 := by unfold hdB; simp [hc]
      rw [e]
      have hh := Lib.hid (head_any 1 128 w (by omega) (by omega))
      generalize M.hdL 1 128 = hd at *
      clear e
      go_enter Tryz.func82, Tryz.ntmps82
      go_wp2_with fail
      refine hh.out.mono ?_
      rintro e w1 ⟨⟨v, rfl, ho⟩, hb⟩
      go_wp2_with fail
      go_ret
      exact ⟨⟨v, rfl, ho⟩, hb⟩
  · have e : hdB d = M.hdL d.length 128 := by unfold hdB; simp [h1]
    rw [e]
    have hh := Lib.hid (head_any d.length 128 w (by omega) (by omega))
    generalize M.hdL d.length 128 = hd at *
    clear e
    go_enter Tryz.func82, Tryz.ntmps82
    go_wp2_with fail
    refine hh.out.mono ?_
    rintro e w1 ⟨⟨v, rfl, ho⟩, hb⟩
    go_wp2_with fail
    go_ret
    exact ⟨⟨v, rfl, ho⟩, hb⟩
end Go.Proofs.YtebjhbeaknokkaaGreatDoor
namespace Go.Proofs.YtebjhbeaknokkaaGreatDoor
open Go Go.RowKit

structure Folds (g1 g2 g3 : FuncId) (ok : M.It → Prop) (oks : List M.It → Prop) (R A : Nat → Value → World → (M.It ⊕ List M.It) → Prop) (zero : Value) : Prop where
  e1 : ∀ args w, (callFunc g1 args).run Tryz.prog w = .ok (.enter g1 args) w
  e2 : ∀ args w, (callFunc g2 args).run Tryz.prog w = .ok (.enter g2 args) w
  e3 : ∀ args w, (callFunc g3 args).run Tryz.prog w = .ok (.enter g3 args) w
  keepA : ∀ B v w W x, A B v w x → Below w.heap.size w W → A B v W x
  monoR : ∀ B C v w x, R B v w x → C ≤ B → R C v w x
  own : ∀ B v w x, A B v w x → ∀ k, v.ownBlock = some k → B ≤ k ∧ k < w.heap.size
  zero : ∀ B w, A B zero w (.inr [])
  f1 : ∀ d ys w, ok (.mk false d ys) → Calls Tryz.prog g1 #[.string ⟨d.toArray⟩] w fun e w' => (∃ v, e = .returned v ∧ R w.heap.size v w' (.inl (.mk false d ys))) ∧ Below w.heap.size w w'
  f2 : ∀ xs x B C v u w, oks (xs ++ [x]) → A B v w (.inr xs) → R C u w (.inl x) → B ≤ w.heap.size → Calls Tryz.prog g2 #[v, u] w fun e w' => (∃ v', e = .returned v' ∧ A B v' w' (.inr (xs ++ [x]))) ∧ w.grownBy w' v.ownBlock
  f3 : ∀ d xs B v w, ok (.mk true d xs) → A B v w (.inr xs) → Calls Tryz.prog g3 #[v] w fun e w' => (∃ v', e = .returned v' ∧ R w.heap.size v' w' (.inl (.mk true d xs))) ∧ Below w.heap.size w w'
  part : ∀ d xs k x, ok (.mk true d xs) → xs[k]? = some x → ok x ∧ oks (xs.take (k + 1))

structure Caps (w : World) (n : Nat) (F g1 g2 g3 : FuncId) (p q r s : Nat) : Prop where
  hp : p < n
  hq : q < n
  hr : r < n
  hs : s < n
  cp : w.cell? ⟨p, 0, none⟩ = some (.func (.func g1) #[] #[])
  cq : w.cell? ⟨q, 0, none⟩ = some (.func (.func g2) #[] #[])
  cr : w.cell? ⟨r, 0, none⟩ = some (.func (.func F) #[] #[.pointer (some ⟨p, 0, none⟩), .pointer (some ⟨q, 0, none⟩), .pointer (some ⟨r, 0, none⟩), .pointer (some ⟨s, 0, none⟩)])
  cs : w.cell? ⟨s, 0, none⟩ = some (.func (.func g3) #[] #[])
theorem Caps.from_ {w W : World} {n : Nat} {F g1 g2 g3 : FuncId} {p q r s : Nat} (h : Caps w n F g1 g2 g3 p q r s) (hb : Below n w W) : Caps W n F g1 g2 g3 p q r s :=
  ⟨h.hp, h.hq, h.hr, h.hs, (hb.cell (p := ⟨p, 0, none⟩) h.hp).trans h.cp, (hb.cell (p := ⟨q, 0, none⟩) h.hq).trans h.cq, (hb.cell (p := ⟨r, 0, none⟩) h.hr).trans h.cr, (hb.cell (p := ⟨s, 0, none⟩) h.hs).trans h.cs⟩
theorem Caps.mono {w : World} {n m : Nat} {F g1 g2 g3 : FuncId} {p q r s : Nat} (h : Caps w n F g1 g2 g3 p q r s) (hm : n ≤ m) : Caps w m F g1 g2 g3 p q r s :=
  ⟨by have := h.hp; omega, by have := h.hq; omega, by have := h.hr; omega, by have := h.hs; omega, h.cp, h.cq, h.cr, h.cs⟩

theorem cell_grown {w w' : World} {row : Option Nat} (hg : w.grownBy w' row) {b o : Nat} {v : Value} (h : w.cell? ⟨b, o, none⟩ = some v) (hne : row ≠ some b) : w'.cell? ⟨b, o, none⟩ = some v := hg.cell h (fun e => hne e.symm)

set_option maxRecDepth 100000 in
set_option maxHeartbeats 4000000 in
theorem fold_n {g1 g2 g3 : FuncId} {ok : M.It → Prop} {oks : List M.It → Prop} {R A : Nat → Value → World → (M.It ⊕ List M.It) → Prop} (hF : Folds g1 g2 g3 ok oks R A (.int .i64 0)) (p q r s : Nat) (n : Nat) :
    ∀ (l : Bool) (d : List UInt8) (xs : List M.It) (v : Value) (w : World), SizeOf.sizeOf xs ≤ n → Lay w w.heap.size xs v → M.cntIs xs ≤ 4000 → ok (.mk l d xs) → Caps w w.heap.size 261 g1 g2 g3 p q r s →
    Calls Tryz.prog 261 #[iv l d v, .pointer (some ⟨p, 0, none⟩), .pointer (some ⟨q, 0, none⟩), .pointer (some ⟨r, 0, none⟩), .pointer (some ⟨s, 0, none⟩)] w fun e w' => (∃ u, e = .returned u ∧ R w.heap.size u w' (.inl (.mk l d xs))) ∧ Below w.heap.size w w' := by
  induction n with
  | zero => intro l d xs v w h; cases xs <;> simp at h
  | succ n ih =>
    intro l d xs v w hs hL hcn hok hC
    have hlc := M.length_cnt xs
    obtain ⟨a, cap, hv, hcap, hmax⟩ := hL.slice
    subst hv
    have hb0 : Below w.heap.size w (w.alloc (.cells #[.bool l, .string ⟨d.toArray⟩, .slice a xs.length cap] 44)) := by (repeat (first | exact Below.refl _ _ | refine Below.drew ?_ | refine Below.alloc ?_ (by first | omega | (simp; omega) | simp) _ | refine Below.setCell ?_ (by first | omega | (simp; omega) | simp) _))
    have E1 := hF.e1
    have E2 := hF.e2
    have E3 := hF.e3
    have hC0 := hC.from_ hb0
    have hB := Box.new w l d (.slice a xs.length cap) 44
    obtain ⟨w0, hw0⟩ : ∃ w0, w.alloc (.cells #[.bool l, .string ⟨d.toArray⟩, .slice a xs.length cap] 44) = w0 := ⟨_, rfl⟩
    have hz : w0.heap.size = w.heap.size + 1 := by rw [← hw0]; simp
    cases l with
    | false =>
      have kp := hC0.cp
      have H1 := Lib.hid hF.f1
      clear hw0
      go_enter Tryz.func261, Tryz.ntmps261
      go_wp2_with fail
      refine (H1.out d xs _ hok).mono ?_
      rintro e w1 ⟨⟨u, rfl, hu⟩, hb1⟩
      go_wp2_with fail
      go_ret
      exact ⟨⟨u, rfl, hF.monoR _ _ _ _ _ hu (by simp)⟩, hb0.trans (hb1.mono (by simp))⟩
    | true =>
      rw [hw0] at hb0 hC0 hB
      have HW := Lib.hid hw0
      clear hw0
      go_enter Tryz.func261, Tryz.ntmps261
      go_wp2_with fail
      rw [HW.out]
      clear HW
      have H2 := Lib.hid hF.f2
      have H3 := Lib.hid hF.f3
      have HP := Lib.hid (fun k x h => hF.part d xs k x hok h)
      have hA0 := hF.zero w0.heap.size w0
      go_loopw [7, 20] (fun u7 i wr => ∃ k : Nat, k ≤ xs.length ∧ i = .int .i64 k ∧ A w0.heap.size u7 wr (.inr (xs.take k)) ∧ Below w0.heap.size w0 wr) (fun _ i _ => xs.length - (intOf i).toNat)
      case atStart => exact ⟨0, by omega, rfl, hA0, Below.refl _ _⟩
      case round =>
        obtain ⟨k, hk, rfl, hA, hW⟩ := hrel
        have hsz := hW.size
        have hLr := (hL.from_ hb0).from_ (hW.mono (by omega))
        have hCr := hC0.from_ (hW.mono (by omega))
        by_cases hlt : k < xs.length
        · obtain ⟨b, o, cp, l', d', ys, u, hve, hbn, hxk, e0, e1, e2, hLu⟩ := hLr.at_ hlt
          obtain ⟨rfl, rfl⟩ : a = some ⟨b, o, none⟩ ∧ cap = cp := by cases hve; exact ⟨rfl, rfl⟩
          clear hve
          obtain ⟨a2, cap2, hu, _, _⟩ := hLu.slice
          subst hu
          have hk2 : k < 4000 := by omega
          have hcx := M.cntI_part (List.mem_of_getElem? hxk)
          rw [M.cntI] at hcx
          have hsx := size_get hxk
          rw [M.It.mk.sizeOf_spec] at hsx
          obtain ⟨hok1, hok2⟩ := HP.out k _ hxk
          rw [M.take_next hxk] at hok2
          have IH : Hid (∀ W, Below wr.heap.size wr W → Calls Tryz.prog 261 #[iv l' d' (.slice a2 ys.length cap2), .pointer (some ⟨p, 0, none⟩), .pointer (some ⟨q, 0, none⟩), .pointer (some ⟨r, 0, none⟩), .pointer (some ⟨s, 0, none⟩)] W fun e w' => (∃ u, e = .returned u ∧ R W.heap.size u w' (.inl (.mk l' d' ys))) ∧ Below W.heap.size W w') :=
            fun W hb => ih l' d' ys _ W (by omega) ((hLu.from_ (hb.mono (by omega))).mono (by have := hb.size; omega)) (by omega) hok1 ((hCr.from_ (hb.mono (by omega))).mono (by have := hb.size; omega))
          clear ih
          go_wp2_with fail
          have hb1 : Below wr.heap.size wr (wr.alloc (.cells #[.bool l', .string ⟨d'.toArray⟩, .slice a2 ys.length cap2] 44)) := by (repeat (first | exact Below.refl _ _ | refine Below.drew ?_ | refine Below.alloc ?_ (by first | omega | (simp; omega) | simp) _ | refine Below.setCell ?_ (by first | omega | (simp; omega) | simp) _))
          have hB1 := Box.new wr l' d' (.slice a2 ys.length cap2) 44
          generalize hw1 : wr.alloc (.cells #[.bool l', .string ⟨d'.toArray⟩, .slice a2 ys.length cap2] 44) = w1 at *
          have hz1 : w1.heap.size = wr.heap.size + 1 := by rw [← hw1]; simp
          clear hw1
          have hb1d : Below wr.heap.size wr w1.drew := hb1.drew
          have mixed : Tryz.prog.follows .mixedOrders = true := by kernel_rfl
          have hT : ∀ W, Below w1.heap.size w1 W → W.cell? ⟨q, 0, none⟩ = some (.func (.func g2) #[] #[]) ∧ W.cell? ⟨r, 0, none⟩ = some (.func (.func 261) #[] #[.pointer (some ⟨p, 0, none⟩), .pointer (some ⟨q, 0, none⟩), .pointer (some ⟨r, 0, none⟩), .pointer (some ⟨s, 0, none⟩)]) ∧
              W.cell? ⟨wr.heap.size, 0, none⟩ = some (.bool l') ∧ W.cell? ⟨wr.heap.size, 1, none⟩ = some (.string ⟨d'.toArray⟩) ∧ W.cell? ⟨wr.heap.size, 2, none⟩ = some (.slice a2 ys.length cap2) := fun W hb => by
            have hc := (hCr.from_ (hb1.mono (by omega))).from_ (hb.mono (by omega))
            have hx := hB1.from_ hb (by omega)
            exact ⟨hc.cq, hc.cr, hx.c0, hx.c1, hx.c2⟩
          have hS1 := hT w1.drew (Below.drew (Below.refl _ _))
          have HT := Lib.hid hT
          have HS1 := Lib.hid hS1
          clear hT hS1 hb1
          have hown := hF.own _ _ _ _ hA
          have hq := hC.hq
          have hr := hC.hr
          have hz2 : ∀ W, Below wr.heap.size wr W → w0.heap.size ≤ W.heap.size := fun W h => Nat.le_trans hsz h.size
          have hAd := hF.keepA _ _ _ _ _ hA hb1d
          have KEPT : ∀ {W W' : World}, (W.cell? ⟨q, 0, none⟩ = some (.func (.func g2) #[] #[]) ∧ W.cell? ⟨r, 0, none⟩ = some (.func (.func 261) #[] #[.pointer (some ⟨p, 0, none⟩), .pointer (some ⟨q, 0, none⟩), .pointer (some ⟨r, 0, none⟩), .pointer (some ⟨s, 0, none⟩)]) ∧
              W.cell? ⟨wr.heap.size, 0, none⟩ = some (.bool l') ∧ W.cell? ⟨wr.heap.size, 1, none⟩ = some (.string ⟨d'.toArray⟩) ∧ W.cell? ⟨wr.heap.size, 2, none⟩ = some (.slice a2 ys.length cap2)) → W.grownBy W' u7.ownBlock → (W'.cell? ⟨q, 0, none⟩ = some (.func (.func g2) #[] #[]) ∧ W'.cell? ⟨r, 0, none⟩ = some (.func (.func 261) #[] #[.pointer (some ⟨p, 0, none⟩), .pointer (some ⟨q, 0, none⟩), .pointer (some ⟨r, 0, none⟩), .pointer (some ⟨s, 0, none⟩)]) ∧
              W'.cell? ⟨wr.heap.size, 0, none⟩ = some (.bool l') ∧ W'.cell? ⟨wr.heap.size, 1, none⟩ = some (.string ⟨d'.toArray⟩) ∧ W'.cell? ⟨wr.heap.size, 2, none⟩ = some (.slice a2 ys.length cap2)) := fun {W W'} ⟨h1, h2, h3, h4, h5⟩ hg =>
            ⟨cell_grown hg h1 (fun e => by have := hown _ e; omega), cell_grown hg h2 (fun e => by have := hown _ e; omega), cell_grown hg h3 (fun e => by have := hown _ e; omega), cell_grown hg h4 (fun e => by have := hown _ e; omega), cell_grown hg h5 (fun e => by have := hown _ e; omega)⟩
          have HO := Lib.hid hown
          clear hown hq hr
          go_region_held3 (fun W => W.cell? ⟨q, 0, none⟩ = some (.func (.func g2) #[] #[]) ∧ W.cell? ⟨r, 0, none⟩ = some (.func (.func 261) #[] #[.pointer (some ⟨p, 0, none⟩), .pointer (some ⟨q, 0, none⟩), .pointer (some ⟨r, 0, none⟩), .pointer (some ⟨s, 0, none⟩)]) ∧
              W.cell? ⟨wr.heap.size, 0, none⟩ = some (.bool l') ∧ W.cell? ⟨wr.heap.size, 1, none⟩ = some (.string ⟨d'.toArray⟩) ∧ W.cell? ⟨wr.heap.size, 2, none⟩ = some (.slice a2 ys.length cap2))
            (first | exact HS1.out | exact HS2.out | exact HS3.out | go_keep)
            (first | (go_at_call 261; refine (IH.out _ hb1d).mono ?_; rintro e w2 ⟨⟨x2, rfl, hR⟩, hb2⟩; have HS2 := Lib.hid (HT.out w2 ((Below.drew (Below.refl _ _)).trans hb2)); have hA2 := hF.keepA _ _ _ _ _ hAd hb2) | (refine (H2.out _ _ _ _ _ _ _ hok2 hA2 hR (hz2 _ (hb1d.trans (hb2.mono hb1d.size)))).mono ?_; rintro e w3 ⟨⟨x3, rfl, hA3⟩, hg⟩; have HS3 := Lib.hid (KEPT HS2.out hg)))
          have hw2 : Below w0.heap.size w0 w2 := hW.trans ((hb1d.trans (hb2.mono hb1d.size)).mono hsz)
          have hw3 : Below w0.heap.size w0 w3 := hw2.grown hg hw2.size (fun k e => (HO.out k e).1)
          rw [← M.take_next hxk] at hA3
          go_wp2_with fail
          go_roundw
          case rel => exact ⟨k + 1, by omega, by simp, hA3, hw3⟩
          case measure => simp [intOf]; omega
        · obtain rfl : k = xs.length := by omega
          have hk2 : xs.length ≤ 4000 := by omega
          have ks := hCr.cs
          rw [List.take_length] at hA
          clear ih
          go_wp2_with fail
          refine (H3.out d xs _ _ _ hok hA).mono ?_
          rintro e w1 ⟨⟨x, rfl, hx⟩, hb1⟩
          go_wp2_with fail
          go_ret
          exact ⟨⟨x, rfl, hF.monoR _ _ _ _ _ hx (by omega)⟩, hb0.trans ((hW.mono (by omega)).trans (hb1.mono (by omega)))⟩
end Go.Proofs.YtebjhbeaknokkaaGreatDoor
namespace Go.Proofs.YtebjhbeaknokkaaGreatDoor
open Go Go.RowKit

set_option maxRecDepth 100000 in
set_option maxHeartbeats 4000000 in
theorem foldb_n {g1 g2 g3 : FuncId} {ok : M.It → Prop} {oks : List M.It → Prop} {R A : Nat → Value → World → (M.It ⊕ List M.It) → Prop} (hF : Folds g1 g2 g3 ok oks R A (.slice none 0 0)) (p q r s : Nat) (n : Nat) :
    ∀ (l : Bool) (d : List UInt8) (xs : List M.It) (v : Value) (w : World), SizeOf.sizeOf xs ≤ n → Lay w w.heap.size xs v → M.cntIs xs ≤ 4000 → ok (.mk l d xs) → Caps w w.heap.size 127 g1 g2 g3 p q r s →
    Calls Tryz.prog 127 #[iv l d v, .pointer (some ⟨p, 0, none⟩), .pointer (some ⟨q, 0, none⟩), .pointer (some ⟨r, 0, none⟩), .pointer (some ⟨s, 0, none⟩)] w fun e w' => (∃ u, e = .returned u ∧ R w.heap.size u w' (.inl (.mk l d xs))) ∧ Below w.heap.size w w' := by
  induction n with
  | zero => intro l d xs v w h; cases xs <;> simp at h
  | succ n ih =>
    intro l d xs v w hs hL hcn hok hC
    have hlc := M.length_cnt xs
    obtain ⟨a, cap, hv, hcap, hmax⟩ := hL.slice
    subst hv
    have hb0 : Below w.heap.size w (w.alloc (.cells #[.bool l, .string ⟨d.toArray⟩, .slice a xs.length cap] 44)) := by (repeat (first | exact Below.refl _ _ | refine Below.drew ?_ | refine Below.alloc ?_ (by first | omega | (simp; omega) | simp) _ | refine Below.setCell ?_ (by first | omega | (simp; omega) | simp) _))
    have E1 := hF.e1
    have E2 := hF.e2
    have E3 := hF.e3
    have hC0 := hC.from_ hb0
    have hB := Box.new w l d (.slice a xs.length cap) 44
    obtain ⟨w0, hw0⟩ : ∃ w0, w.alloc (.cells #[.bool l, .string ⟨d.toArray⟩, .slice a xs.length cap] 44) = w0 := ⟨_, rfl⟩
    have hz : w0.heap.size = w.heap.size + 1 := by rw [← hw0]; simp
    cases l with
    | false =>
      have kp := hC0.cp
      have H1 := Lib.hid hF.f1
      clear hw0
      go_enter Tryz.func127, Tryz.ntmps127
      go_wp2_with fail
      refine (H1.out d xs _ hok).mono ?_
      rintro e w1 ⟨⟨u, rfl, hu⟩, hb1⟩
      go_wp2_with fail
      go_ret
      exact ⟨⟨u, rfl, hF.monoR _ _ _ _ _ hu (by simp)⟩, hb0.trans (hb1.mono (by simp))⟩
    | true =>
      rw [hw0] at hb0 hC0 hB
      have HW := Lib.hid hw0
      clear hw0
      go_enter Tryz.func127, Tryz.ntmps127
      go_wp2_with fail
      rw [HW.out]
      clear HW
      have H2 := Lib.hid hF.f2
      have H3 := Lib.hid hF.f3
      have HP := Lib.hid (fun k x h => hF.part d xs k x hok h)
      have hA0 := hF.zero w0.heap.size w0
      go_loopw [7, 20] (fun u7 i wr => ∃ k : Nat, k ≤ xs.length ∧ i = .int .i64 k ∧ A w0.heap.size u7 wr (.inr (xs.take k)) ∧ Below w0.heap.size w0 wr) (fun _ i _ => xs.length - (intOf i).toNat)
      case atStart => exact ⟨0, by omega, rfl, hA0, Below.refl _ _⟩
      case round =>
        obtain ⟨k, hk, rfl, hA, hW⟩ := hrel
        have hsz := hW.size
        have hLr := (hL.from_ hb0).from_ (hW.mono (by omega))
        have hCr := hC0.from_ (hW.mono (by omega))
        by_cases hlt : k < xs.length
        · obtain ⟨b, o, cp, l', d', ys, u, hve, hbn, hxk, e0, e1, e2, hLu⟩ := hLr.at_ hlt
          obtain ⟨rfl, rfl⟩ : a = some ⟨b, o, none⟩ ∧ cap = cp := by cases hve; exact ⟨rfl, rfl⟩
          clear hve
          obtain ⟨a2, cap2, hu, _, _⟩ := hLu.slice
          subst hu
          have hk2 : k < 4000 := by omega
          have hcx := M.cntI_part (List.mem_of_getElem? hxk)
          rw [M.cntI] at hcx
          have hsx := size_get hxk
          rw [M.It.mk.sizeOf_spec] at hsx
          obtain ⟨hok1, hok2⟩ := HP.out k _ hxk
          rw [M.take_next hxk] at hok2
          have IH : Hid (∀ W, Below wr.heap.size wr W → Calls Tryz.prog 127 #[iv l' d' (.slice a2 ys.length cap2), .pointer (some ⟨p, 0, none⟩), .pointer (some ⟨q, 0, none⟩), .pointer (some ⟨r, 0, none⟩), .pointer (some ⟨s, 0, none⟩)] W fun e w' => (∃ u, e = .returned u ∧ R W.heap.size u w' (.inl (.mk l' d' ys))) ∧ Below W.heap.size W w') :=
            fun W hb => ih l' d' ys _ W (by omega) ((hLu.from_ (hb.mono (by omega))).mono (by have := hb.size; omega)) (by omega) hok1 ((hCr.from_ (hb.mono (by omega))).mono (by have := hb.size; omega))
          clear ih
          go_wp2_with fail
          have hb1 : Below wr.heap.size wr (wr.alloc (.cells #[.bool l', .string ⟨d'.toArray⟩, .slice a2 ys.length cap2] 44)) := by (repeat (first | exact Below.refl _ _ | refine Below.drew ?_ | refine Below.alloc ?_ (by first | omega | (simp; omega) | simp) _ | refine Below.setCell ?_ (by first | omega | (simp; omega) | simp) _))
          have hB1 := Box.new wr l' d' (.slice a2 ys.length cap2) 44
          generalize hw1 : wr.alloc (.cells #[.bool l', .string ⟨d'.toArray⟩, .slice a2 ys.length cap2] 44) = w1 at *
          have hz1 : w1.heap.size = wr.heap.size + 1 := by rw [← hw1]; simp
          clear hw1
          have hb1d : Below wr.heap.size wr w1.drew := hb1.drew
          have mixed : Tryz.prog.follows .mixedOrders = true := by kernel_rfl
          have hT : ∀ W, Below w1.heap.size w1 W → W.cell? ⟨q, 0, none⟩ = some (.func (.func g2) #[] #[]) ∧ W.cell? ⟨r, 0, none⟩ = some (.func (.func 127) #[] #[.pointer (some ⟨p, 0, none⟩), .pointer (some ⟨q, 0, none⟩), .pointer (some ⟨r, 0, none⟩), .pointer (some ⟨s, 0, none⟩)]) ∧
              W.cell? ⟨wr.heap.size, 0, none⟩ = some (.bool l') ∧ W.cell? ⟨wr.heap.size, 1, none⟩ = some (.string ⟨d'.toArray⟩) ∧ W.cell? ⟨wr.heap.size, 2, none⟩ = some (.slice a2 ys.length cap2) := fun W hb => by
            have hc := (hCr.from_ (hb1.mono (by omega))).from_ (hb.mono (by omega))
            have hx := hB1.from_ hb (by omega)
            exact ⟨hc.cq, hc.cr, hx.c0, hx.c1, hx.c2⟩
          have hS1 := hT w1.drew (Below.drew (Below.refl _ _))
          have HT := Lib.hid hT
          have HS1 := Lib.hid hS1
          clear hT hS1 hb1
          have hown := hF.own _ _ _ _ hA
          have hq := hC.hq
          have hr := hC.hr
          have hz2 : ∀ W, Below wr.heap.size wr W → w0.heap.size ≤ W.heap.size := fun W h => Nat.le_trans hsz h.size
          have hAd := hF.keepA _ _ _ _ _ hA hb1d
          have KEPT : ∀ {W W' : World}, (W.cell? ⟨q, 0, none⟩ = some (.func (.func g2) #[] #[]) ∧ W.cell? ⟨r, 0, none⟩ = some (.func (.func 127) #[] #[.pointer (some ⟨p, 0, none⟩), .pointer (some ⟨q, 0, none⟩), .pointer (some ⟨r, 0, none⟩), .pointer (some ⟨s, 0, none⟩)]) ∧
              W.cell? ⟨wr.heap.size, 0, none⟩ = some (.bool l') ∧ W.cell? ⟨wr.heap.size, 1, none⟩ = some (.string ⟨d'.toArray⟩) ∧ W.cell? ⟨wr.heap.size, 2, none⟩ = some (.slice a2 ys.length cap2)) → W.grownBy W' u7.ownBlock → (W'.cell? ⟨q, 0, none⟩ = some (.func (.func g2) #[] #[]) ∧ W'.cell? ⟨r, 0, none⟩ = some (.func (.func 127) #[] #[.pointer (some ⟨p, 0, none⟩), .pointer (some ⟨q, 0, none⟩), .pointer (some ⟨r, 0, none⟩), .pointer (some ⟨s, 0, none⟩)]) ∧
              W'.cell? ⟨wr.heap.size, 0, none⟩ = some (.bool l') ∧ W'.cell? ⟨wr.heap.size, 1, none⟩ = some (.string ⟨d'.toArray⟩) ∧ W'.cell? ⟨wr.heap.size, 2, none⟩ = some (.slice a2 ys.length cap2)) := fun {W W'} ⟨h1, h2, h3, h4, h5⟩ hg =>
            ⟨cell_grown hg h1 (fun e => by have := hown _ e; omega), cell_grown hg h2 (fun e => by have := hown _ e; omega), cell_grown hg h3 (fun e => by have := hown _ e; omega), cell_grown hg h4 (fun e => by have := hown _ e; omega), cell_grown hg h5 (fun e => by have := hown _ e; omega)⟩
          have HO := Lib.hid hown
          clear hown hq hr
          go_region_held3 (fun W => W.cell? ⟨q, 0, none⟩ = some (.func (.func g2) #[] #[]) ∧ W.cell? ⟨r, 0, none⟩ = some (.func (.func 127) #[] #[.pointer (some ⟨p, 0, none⟩), .pointer (some ⟨q, 0, none⟩), .pointer (some ⟨r, 0, none⟩), .pointer (some ⟨s, 0, none⟩)]) ∧
              W.cell? ⟨wr.heap.size, 0, none⟩ = some (.bool l') ∧ W.cell? ⟨wr.heap.size, 1, none⟩ = some (.string ⟨d'.toArray⟩) ∧ W.cell? ⟨wr.heap.size, 2, none⟩ = some (.slice a2 ys.length cap2))
            (first | exact HS1.out | exact HS2.out | exact HS3.out | go_keep)
            (first | (go_at_call 127; refine (IH.out _ hb1d).mono ?_; rintro e w2 ⟨⟨x2, rfl, hR⟩, hb2⟩; have HS2 := Lib.hid (HT.out w2 ((Below.drew (Below.refl _ _)).trans hb2)); have hA2 := hF.keepA _ _ _ _ _ hAd hb2) | (refine (H2.out _ _ _ _ _ _ _ hok2 hA2 hR (hz2 _ (hb1d.trans (hb2.mono hb1d.size)))).mono ?_; rintro e w3 ⟨⟨x3, rfl, hA3⟩, hg⟩; have HS3 := Lib.hid (KEPT HS2.out hg)))
          have hw2 : Below w0.heap.size w0 w2 := hW.trans ((hb1d.trans (hb2.mono hb1d.size)).mono hsz)
          have hw3 : Below w0.heap.size w0 w3 := hw2.grown hg hw2.size (fun k e => (HO.out k e).1)
          rw [← M.take_next hxk] at hA3
          go_wp2_with fail
          go_roundw
          case rel => exact ⟨k + 1, by omega, by simp, hA3, hw3⟩
          case measure => simp [intOf]; omega
        · obtain rfl : k = xs.length := by omega
          have hk2 : xs.length ≤ 4000 := by omega
          have ks := hCr.cs
          rw [List.take_length] at hA
          clear ih
          go_wp2_with fail
          refine (H3.out d xs _ _ _ hok hA).mono ?_
          rintro e w1 ⟨⟨x, rfl, hx⟩, hb1⟩
          go_wp2_with fail
          go_ret
          exact ⟨⟨x, rfl, hF.monoR _ _ _ _ _ hx (by omega)⟩, hb0.trans ((hW.mono (by omega)).trans (hb1.mono (by omega)))⟩
end Go.Proofs.YtebjhbeaknokkaaGreatDoor
namespace Go.Proofs.YtebjhbeaknokkaaGreatDoor
open Go Go.RowKit

set_option maxRecDepth 100000 in
set_option maxHeartbeats 4000000 in
theorem foldb_any {g1 g2 g3 : FuncId} {ok : M.It → Prop} {oks : List M.It → Prop} {R A : Nat → Value → World → (M.It ⊕ List M.It) → Prop} (hF : Folds g1 g2 g3 ok oks R A (.slice none 0 0))
    (l : Bool) (d : List UInt8) (xs : List M.It) (v : Value) (w : World) (hL : Lay w w.heap.size xs v) (hc : M.cntIs xs ≤ 4000) (hok : ok (.mk l d xs)) :
    Calls Tryz.prog 80 #[iv l d v, .func (.func g1) #[] #[], .func (.func g2) #[] #[], .func (.func g3) #[] #[]] w fun e w' => (∃ u, e = .returned u ∧ R w.heap.size u w' (.inl (.mk l d xs))) ∧ Below w.heap.size w w' := by
  obtain ⟨a, cap, hv, _, _⟩ := hL.slice
  subst hv
  have hmf : ∀ (fn : Fn) (first cap : Array Value) (w : World), (Instr.makeFunc fn first cap).run Tryz.prog w = .ok (.func fn first cap) w := fun _ _ _ _ => rfl
  have hst : ∀ (W : World) (p : Addr) (F : Fn) (xa xb : Array Value), (W.cell? p).isSome = true → W.frozen? p = false → (store p (.func F xa xb)).run Tryz.prog W = .ok () (W.setCell p (.func F xa xb)) := by
    intro W p F xa xb h1 h2
    rw [run_store _ _ _ _ _ rfl]
    obtain ⟨x, hx⟩ := Option.isSome_iff_exists.1 h1
    rw [hx]
    simp [h2]
  go_enter Tryz.func80, Tryz.ntmps80
  go_wp2_with fail
  refine (foldb_n hF (w.heap.size + 1) (w.heap.size + 1 + 1) (w.heap.size + 1 + 1 + 1 + 1) (w.heap.size + 1 + 1 + 1) _ l d xs _ _ (Nat.le_refl _) ?lay hc hok ?caps).mono ?_
  case lay =>
    refine (hL.from_ (W := _) ?_).mono ?_
    · (repeat (first | exact Below.refl _ _ | refine Below.drew ?_ | refine Below.alloc ?_ (by first | omega | (simp; omega) | simp) _ | refine Below.setCell ?_ (by first | omega | (simp; omega) | simp) _))
    · simp; omega
  case caps =>
    constructor <;> first | (simp; done) | (simp; omega) | (simp [go_sem]; done)
  rintro e w1 ⟨⟨u, rfl, hu⟩, hb1⟩
  go_wp2_with fail
  go_ret
  refine ⟨⟨u, rfl, hF.monoR _ _ _ _ _ hu (by simp; omega)⟩, Below.trans ?_ (hb1.mono (by simp; omega))⟩
  (repeat (first | exact Below.refl _ _ | refine Below.drew ?_ | refine Below.alloc ?_ (by first | omega | (simp; omega) | simp) _ | refine Below.setCell ?_ (by first | omega | (simp; omega) | simp) _))
end Go.Proofs.YtebjhbeaknokkaaGreatDoor
namespace Go.Proofs.YtebjhbeaknokkaaGreatDoor
open Go Go.RowKit

def bytV : M.It ⊕ List M.It → List UInt8 | .inl x => M.bytesI x | .inr xs => M.bytesIs xs
def OwV : Nat → Value → World → (M.It ⊕ List M.It) → Prop := fun B v w y => Ow B (bytV y) v w

theorem enc_f1 (d : List UInt8) (ys : List M.It) (w : World) (hok : (M.bytesI (.mk false d ys)).length ≤ 65536) :
    Calls Tryz.prog 81 #[.string ⟨d.toArray⟩] w fun e w' => (∃ v, e = .returned v ∧ OwV w.heap.size v w' (.inl (.mk false d ys))) ∧ Below w.heap.size w w' := by
  rw [bytes_hdB, List.length_append] at hok
  have HH := Lib.hid (headOfBytes_any d w (by omega))
  unfold OwV bytV
  simp only [bytes_hdB]
  generalize hdB d = hd at *
  go_enter Tryz.func81, Tryz.ntmps81
  go_wp2_with fail
  refine HH.out.mono ?_
  rintro e w1 ⟨⟨u, rfl, hu⟩, hb1⟩
  go_wp2_with (at_builtin; refine wpList_append_ow_str _ rfl _ _ rfl w.heap.size hd d u rfl rfl hu (by omega) hb1.size ?_; intro v w2 ho2 hb2)
  go_ret
  exact ⟨⟨v, rfl, ho2⟩, hb1.trans hb2⟩

theorem enc_f2 (xs : List M.It) (x : M.It) (B C : Nat) (v u : Value) (w : World) (hok : (M.bytesIs (xs ++ [x])).length ≤ 65536) (hv : OwV B v w (.inr xs)) (hu : OwV C u w (.inl x)) (hB : B ≤ w.heap.size) :
    Calls Tryz.prog 83 #[v, u] w fun e w' => (∃ v', e = .returned v' ∧ OwV B v' w' (.inr (xs ++ [x]))) ∧ w.grownBy w' v.ownBlock := by
  have e : M.bytesIs (xs ++ [x]) = M.bytesIs xs ++ M.bytesI x := by rw [M.bytesIs_append]; simp [M.bytesIs]
  rw [e, List.length_append] at hok
  unfold OwV bytV at *
  simp only [e] at *
  generalize M.bytesIs xs = m at *
  generalize M.bytesI x = k at *
  clear e
  go_enter Tryz.func83, Tryz.ntmps83
  go_wp2_with (at_builtin; refine wpList_append_ow _ rfl _ _ rfl B m k v u rfl rfl hv hu.sr (by omega) hB ?_; intro v2 w2 ho2 hb2 hg2)
  go_ret
  exact ⟨⟨v2, rfl, ho2⟩, hg2⟩

theorem enc_f3 (d : List UInt8) (xs : List M.It) (B : Nat) (v : Value) (w : World) (hok : (M.bytesI (.mk true d xs)).length ≤ 65536) (hv : OwV B v w (.inr xs)) :
    Calls Tryz.prog 84 #[v] w fun e w' => (∃ v', e = .returned v' ∧ OwV w.heap.size v' w' (.inl (.mk true d xs))) ∧ Below w.heap.size w w' := by
  rw [M.bytesI, List.length_append] at hok
  have HH := Lib.hid (head_any (M.bytesIs xs).length 192 w (by omega) (by omega))
  unfold OwV bytV at *
  simp only [M.bytesI] at *
  generalize M.bytesIs xs = m at *
  generalize M.hdL m.length 192 = hd at *
  obtain ⟨a, cap, hvl⟩ := hv.len
  subst hvl
  go_enter Tryz.func84, Tryz.ntmps84
  go_wp2_with fail
  refine HH.out.mono ?_
  rintro e w1 ⟨⟨u, rfl, hu⟩, hb1⟩
  have hv1 := (hv.from_ hb1).sr
  go_wp2_with (at_builtin; refine wpList_append_ow _ rfl _ _ rfl w.heap.size hd m u _ rfl rfl hu hv1 (by omega) hb1.size ?_; intro v2 w2 ho2 hb2 hg2)
  go_ret
  exact ⟨⟨v2, rfl, ho2⟩, hb1.trans hb2⟩

theorem enc_folds : Folds 81 83 84 (fun x => (M.bytesI x).length ≤ 65536) (fun xs => (M.bytesIs xs).length ≤ 65536) OwV OwV (.slice none 0 0) where
  e1 := enters_of Tryz.func81 (by kernel_rfl) rfl
  e2 := enters_of Tryz.func83 (by kernel_rfl) rfl
  e3 := enters_of Tryz.func84 (by kernel_rfl) rfl
  keepA := fun _ _ _ _ _ h hb => Ow.from_ h hb
  monoR := fun _ _ _ _ _ h hb => Ow.mono h hb
  own := fun _ _ _ _ h k e => World.ownsRow.lt h k e
  zero := fun _ _ => Ow.nil _ _
  f1 := fun d ys w hok => enc_f1 d ys w hok
  f2 := fun xs x B C v u w hok hv hu hB => enc_f2 xs x B C v u w hok hv hu hB
  f3 := fun d xs B v w hok hv => enc_f3 d xs B v w hok hv
  part := fun d xs k x hok h => by
    rw [M.bytesI, List.length_append] at hok
    have h1 := M.part_size xs x (List.mem_of_getElem? h)
    have h2 := M.bytesIs_part xs (k + 1)
    exact ⟨by omega, by omega⟩
end Go.Proofs.YtebjhbeaknokkaaGreatDoor
namespace Go.Proofs.YtebjhbeaknokkaaGreatDoor
open Go Go.RowKit

set_option maxRecDepth 100000 in
set_option maxHeartbeats 4000000 in
theorem fold_any {g1 g2 g3 : FuncId} {ok : M.It → Prop} {oks : List M.It → Prop} {R A : Nat → Value → World → (M.It ⊕ List M.It) → Prop} (hF : Folds g1 g2 g3 ok oks R A (.int .i64 0))
    (l : Bool) (d : List UInt8) (xs : List M.It) (v : Value) (w : World) (hL : Lay w w.heap.size xs v) (hc : M.cntIs xs ≤ 4000) (hok : ok (.mk l d xs)) :
    Calls Tryz.prog 199 #[iv l d v, .func (.func g1) #[] #[], .func (.func g2) #[] #[], .func (.func g3) #[] #[]] w fun e w' => (∃ u, e = .returned u ∧ R w.heap.size u w' (.inl (.mk l d xs))) ∧ Below w.heap.size w w' := by
  obtain ⟨a, cap, hv, _, _⟩ := hL.slice
  subst hv
  have hmf : ∀ (fn : Fn) (first cap : Array Value) (w : World), (Instr.makeFunc fn first cap).run Tryz.prog w = .ok (.func fn first cap) w := fun _ _ _ _ => rfl
  have hst : ∀ (W : World) (p : Addr) (F : Fn) (xa xb : Array Value), (W.cell? p).isSome = true → W.frozen? p = false → (store p (.func F xa xb)).run Tryz.prog W = .ok () (W.setCell p (.func F xa xb)) := by
    intro W p F xa xb h1 h2
    rw [run_store _ _ _ _ _ rfl]
    obtain ⟨x, hx⟩ := Option.isSome_iff_exists.1 h1
    rw [hx]
    simp [h2]
  go_enter Tryz.func199, Tryz.ntmps199
  go_wp2_with fail
  refine (fold_n hF (w.heap.size + 1) (w.heap.size + 1 + 1) (w.heap.size + 1 + 1 + 1 + 1) (w.heap.size + 1 + 1 + 1) _ l d xs _ _ (Nat.le_refl _) ?lay hc hok ?caps).mono ?_
  case lay =>
    refine (hL.from_ (W := _) ?_).mono ?_
    · (repeat (first | exact Below.refl _ _ | refine Below.drew ?_ | refine Below.alloc ?_ (by first | omega | (simp; omega) | simp) _ | refine Below.setCell ?_ (by first | omega | (simp; omega) | simp) _))
    · simp; omega
  case caps =>
    constructor <;> first | (simp; done) | (simp; omega) | (simp [go_sem]; done)
  rintro e w1 ⟨⟨u, rfl, hu⟩, hb1⟩
  go_wp2_with fail
  go_ret
  refine ⟨⟨u, rfl, hF.monoR _ _ _ _ _ hu (by simp; omega)⟩, Below.trans ?_ (hb1.mono (by simp; omega))⟩
  (repeat (first | exact Below.refl _ _ | refine Below.drew ?_ | refine Below.alloc ?_ (by first | omega | (simp; omega) | simp) _ | refine Below.setCell ?_ (by first | omega | (simp; omega) | simp) _))
end Go.Proofs.YtebjhbeaknokkaaGreatDoor
namespace Go.Proofs.YtebjhbeaknokkaaGreatDoor
open Go Go.RowKit

def sizeV : M.It ⊕ List M.It → Nat | .inl x => (M.bytesI x).length | .inr xs => (M.bytesIs xs).length
def NumV (f : M.It ⊕ List M.It → Nat) : Nat → Value → World → (M.It ⊕ List M.It) → Prop := fun _ v _ y => v = .int .i64 (f y : Nat)

set_option maxRecDepth 100000 in
set_option maxHeartbeats 4000000 in
theorem size_folds : Folds 200 201 202 (fun x => (M.bytesI x).length ≤ 4611686018427380000) (fun xs => (M.bytesIs xs).length ≤ 4611686018427380000) (NumV sizeV) (NumV sizeV) (.int .i64 0) where
  e1 := enters_of Tryz.func200 (by kernel_rfl) rfl
  e2 := enters_of Tryz.func201 (by kernel_rfl) rfl
  e3 := enters_of Tryz.func202 (by kernel_rfl) rfl
  keepA := fun _ _ _ _ _ h _ => h
  monoR := fun _ _ _ _ _ h _ => h
  own := fun _ _ _ _ h k e => by rw [h] at e; cases e
  zero := fun _ _ => rfl
  f1 := fun d ys w hok => by
    rw [bytes_hdB, List.length_append] at hok
    have HH := Lib.hid (headOfBytes_any d w (by omega))
    have e : sizeV (.inl (.mk false d ys)) = (hdB d).length + d.length := by unfold sizeV; simp only [bytes_hdB, List.length_append]
    unfold NumV
    simp only [e]
    generalize hdB d = hd at *
    clear e
    go_enter Tryz.func200, Tryz.ntmps200
    go_wp2_with fail
    refine HH.out.mono ?_
    rintro e w1 ⟨⟨u, rfl, hu⟩, hb1⟩
    obtain ⟨a, cap, rfl⟩ := hu.len
    go_wp2_with fail
    go_ret
    exact ⟨⟨_, rfl, by simp⟩, hb1⟩
  f2 := fun xs x B C v u w hok hv hu hB => by
    unfold NumV at hv hu
    subst hv hu
    have e : (M.bytesIs (xs ++ [x])).length = (M.bytesIs xs).length + (M.bytesI x).length := by rw [M.bytesIs_append]; simp [M.bytesIs]
    rw [e] at hok
    unfold NumV sizeV
    simp only [e]
    generalize (M.bytesIs xs).length = m at *
    generalize (M.bytesI x).length = k at *
    clear e
    have hok' : (m : Int) + (k : Int) ≤ 4611686018427380000 := by omega
    go_enter Tryz.func201, Tryz.ntmps201
    go_wp2_with fail
    go_ret
    exact ⟨⟨_, rfl, by simp⟩, grown_refl _ _⟩
  f3 := fun d xs B v w hok hv => by
    unfold NumV at hv
    subst hv
    rw [M.bytesI, List.length_append] at hok
    have HH := Lib.hid (head_any (M.bytesIs xs).length 192 w (by omega) (by omega))
    unfold NumV sizeV
    simp only [M.bytesI, List.length_append]
    generalize M.hdL (M.bytesIs xs).length 192 = hd at *
    generalize (M.bytesIs xs).length = m at *
    have hok' : (hd.length : Int) + (m : Int) ≤ 4611686018427380000 := by omega
    go_enter Tryz.func202, Tryz.ntmps202
    go_wp2_with fail
    refine HH.out.mono ?_
    rintro e w1 ⟨⟨u, rfl, hu⟩, hb1⟩
    obtain ⟨a, cap, rfl⟩ := hu.len
    go_wp2_with fail
    go_ret
    exact ⟨⟨_, rfl, by simp⟩, hb1⟩
  part := fun d xs k x hok h => by
    rw [M.bytesI, List.length_append] at hok
    have h1 := M.part_size xs x (List.mem_of_getElem? h)
    have h2 := M.bytesIs_part xs (k + 1)
    exact ⟨by omega, by omega⟩

set_option maxRecDepth 100000 in
set_option maxHeartbeats 4000000 in
theorem size_any (l : Bool) (d : List UInt8) (xs : List M.It) (v : Value) (w : World) (hL : Lay w w.heap.size xs v) (hc : M.cntIs xs ≤ 4000) (hz : (M.bytesI (.mk l d xs)).length ≤ 4611686018427380000) :
    Calls Tryz.prog 126 #[iv l d v] w fun e w' => e = .returned (.int .i64 ((M.bytesI (.mk l d xs)).length : Nat)) ∧ Below w.heap.size w w' := by
  obtain ⟨a, cap, hv, _, _⟩ := hL.slice
  subst hv
  have hb0 : Below w.heap.size w (w.alloc (.cells #[.bool l, .string ⟨d.toArray⟩, .slice a xs.length cap] 44)) := by (repeat (first | exact Below.refl _ _ | refine Below.drew ?_ | refine Below.alloc ?_ (by first | omega | (simp; omega) | simp) _ | refine Below.setCell ?_ (by first | omega | (simp; omega) | simp) _))
  have hf := fold_any size_folds l d xs _ _ ((hL.from_ hb0).mono (by simp)) hc hz
  have HF := Lib.hid hf
  clear hf
  go_enter Tryz.func126, Tryz.ntmps126
  go_wp2_with fail
  refine HF.out.mono ?_
  rintro e w1 ⟨⟨u, rfl, hu⟩, hb1⟩
  rw [show u = _ from hu]
  go_wp2_with fail
  go_ret
  exact ⟨rfl, hb0.trans (hb1.mono (by simp))⟩
end Go.Proofs.YtebjhbeaknokkaaGreatDoor
namespace Go.Proofs.YtebjhbeaknokkaaGreatDoor
open Go Go.RowKit

def fltN (l : Bool) (d : List UInt8) (n dd : Nat) : Nat := if (l = true ∧ d ≠ []) ∨ (l = false ∧ 0 < n) then 2 else if l = true ∧ 12 ≤ dd then 7 else if 512 < n then 5 else 0
theorem formI_flt (l : Bool) (d : List UInt8) (xs : List M.It) (dd : Nat) : M.formI dd (.mk l d xs) = if fltN l d xs.length dd ≠ 0 then fltN l d xs.length dd else M.formIs (dd + 1) xs := by
  rw [M.formI]
  unfold fltN
  have hx : xs ≠ [] ↔ 0 < xs.length := by rw [← List.length_pos_iff]
  cases l with
  | false =>
    cases xs with
    | nil => simp [M.formIs]
    | cons x xs => simp
  | true =>
    by_cases hd : d = []
    · subst hd
      by_cases h12 : 12 ≤ dd
      · simp [h12]
      · by_cases h5 : 512 < xs.length
        · simp [h12, h5]
        · simp [h12, h5]
    · simp [hd]

set_option maxRecDepth 100000 in
set_option maxHeartbeats 4000000 in
theorem fault_any (l : Bool) (d : List UInt8) (n dd cap : Nat) (a : Option Addr) (w : World) (hn : n ≤ 4000) (hd : dd ≤ 4000) :
    Calls Tryz.prog 125 #[iv l d (.slice a n cap), .int .i64 (dd : Nat)] w fun e w' => e = .returned (.int .i64 (fltN l d n dd : Nat)) ∧ Below w.heap.size w w' := by
  have hb0 : Below w.heap.size w (w.alloc (.cells #[.bool l, .string ⟨d.toArray⟩, .slice a n cap] 44)) := by (repeat (first | exact Below.refl _ _ | refine Below.drew ?_ | refine Below.alloc ?_ (by first | omega | (simp; omega) | simp) _ | refine Below.setCell ?_ (by first | omega | (simp; omega) | simp) _))
  cases l with
  | true =>
    by_cases hde : d = []
    · subst hde
      by_cases h12 : 12 ≤ dd
      · have e : fltN true [] n dd = 7 := by simp [fltN, h12]
        rw [e]
        go_enter Tryz.func125, Tryz.ntmps125
        go_wp2_with fail
        go_ret
        exact ⟨rfl, hb0⟩
      · by_cases h512 : 512 < n
        · have e : fltN true [] n dd = 5 := by simp [fltN, h12, h512]
          rw [e]
          go_enter Tryz.func125, Tryz.ntmps125
          go_wp2_with fail
          go_ret
          exact ⟨rfl, hb0⟩
        · have e : fltN true [] n dd = 0 := by simp [fltN, h12, h512]
          rw [e]
          go_enter Tryz.func125, Tryz.ntmps125
          go_wp2_with fail
          go_ret
          exact ⟨rfl, hb0⟩
    · have e : fltN true d n dd = 2 := by simp [fltN, hde]
      rw [e]
      have hdm : (!d.isEmpty) = true := by cases d with | nil => exact absurd rfl hde | cons => rfl
      go_enter Tryz.func125, Tryz.ntmps125
      go_wp2_with fail
      go_ret
      exact ⟨rfl, hb0⟩
  | false =>
    by_cases hx : n = 0
    · subst hx
      have e : fltN false d 0 dd = 0 := by simp [fltN]
      rw [e]
      go_enter Tryz.func125, Tryz.ntmps125
      go_wp2_with fail
      go_ret
      exact ⟨rfl, hb0⟩
    · have hp : 0 < n := by omega
      have e : fltN false d n dd = 2 := by simp [fltN, hp]
      rw [e]
      go_enter Tryz.func125, Tryz.ntmps125
      go_wp2_with fail
      go_ret
      exact ⟨rfl, hb0⟩

abbrev pan (q : Nat) : Ending := .panicked [{ v := .iface 28 (.int .i64 (q : Nat)), recovered := false }]
def orPan (q : Nat) : Ending := if q = 0 then .returned (.tuple #[]) else pan q

set_option maxRecDepth 100000 in
set_option maxHeartbeats 4000000 in
theorem giveUp_any (q : Nat) (w : World) (hq : q ≤ 100) :
    Calls Tryz.prog 124 #[.int .i64 (q : Nat)] w fun e w' => e = orPan q ∧ w' = w := by
  unfold orPan
  have hpan : ∀ (t : TypeId) (v : Value) (w : World), (Instr.panic (.iface t v)).run Tryz.prog w = .halt (.panic (.iface t v)) w := fun _ _ _ => rfl
  by_cases h : q = 0
  · subst h
    go_enter Tryz.func124, Tryz.ntmps124
    go_wp2_with fail
    go_end0
    exact ⟨rfl, rfl⟩
  · rw [if_neg h]
    have hne : ((q : Int) != 0) = true := by rw [bne_iff_ne]; omega
    go_enter Tryz.func124, Tryz.ntmps124
    go_wp2_with fail
    exact ⟨rfl, rfl, rfl⟩
end Go.Proofs.YtebjhbeaknokkaaGreatDoor
namespace Go.Proofs.YtebjhbeaknokkaaGreatDoor
open Go Go.RowKit

theorem orPan_0 : orPan 0 = .returned (.tuple #[]) := rfl
theorem orPan_ne {q : Nat} (h : q ≠ 0) : orPan q = pan q := by unfold orPan; rw [if_neg h]
theorem flt_le (l : Bool) (d : List UInt8) (n dd : Nat) : fltN l d n dd ≤ 7 := by
  unfold fltN
  repeat' split
  all_goals omega

set_option maxRecDepth 100000 in
set_option maxHeartbeats 4000000 in
theorem look_n (B : Nat) (n : Nat) : ∀ (l : Bool) (d : List UInt8) (xs : List M.It) (v : Value) (w : World) (dd : Nat), SizeOf.sizeOf xs ≤ n → Lay w w.heap.size xs v → M.cntIs xs ≤ 4000 → dd ≤ 12 → B < w.heap.size → w.cell? ⟨B, 0, none⟩ = some (.func (.func 123) #[] #[.pointer (some ⟨B, 0, none⟩)]) →
    Calls Tryz.prog 123 #[iv l d v, .int .i64 (dd : Nat), .pointer (some ⟨B, 0, none⟩)] w fun e w' => e = orPan (M.formI dd (.mk l d xs)) ∧ Below w.heap.size w w' := by
  induction n with
  | zero => intro l d xs v w dd h; cases xs <;> simp at h
  | succ n ih =>
    intro l d xs v w dd hs hL hc hdd hBl hBc
    have hlc := M.length_cnt xs
    obtain ⟨a, cap, hv, hcap, hmax⟩ := hL.slice
    subst hv
    have hb0 : Below w.heap.size w (w.alloc (.cells #[.bool l, .string ⟨d.toArray⟩, .slice a xs.length cap] 44)) := by (repeat (first | exact Below.refl _ _ | refine Below.drew ?_ | refine Below.alloc ?_ (by first | omega | (simp; omega) | simp) _ | refine Below.setCell ?_ (by first | omega | (simp; omega) | simp) _))
    have hB := Box.new w l d (.slice a xs.length cap) 44
    obtain ⟨w0, hw0⟩ : ∃ w0, w.alloc (.cells #[.bool l, .string ⟨d.toArray⟩, .slice a xs.length cap] 44) = w0 := ⟨_, rfl⟩
    have hz : w0.heap.size = w.heap.size + 1 := by rw [← hw0]; simp
    have HF : Hid (∀ W, Calls Tryz.prog 125 #[iv l d (.slice a xs.length cap), .int .i64 (dd : Nat)] W fun e w' => e = .returned (.int .i64 (fltN l d xs.length dd : Nat)) ∧ Below W.heap.size W w') := fun W => fault_any l d xs.length dd cap a W (by omega) (by omega)
    have hform := formI_flt l d xs dd
    have hfl := flt_le l d xs.length dd
    have hin : fltN l d xs.length dd = 0 → 0 < xs.length → dd < 12 := by
      intro h hp
      unfold fltN at h
      cases l with
      | false => simp [hp] at h
      | true =>
        by_cases h12 : 12 ≤ dd
        · by_cases hd : d = [] <;> simp [h12, hd] at h
        · omega
    generalize fltN l d xs.length dd = q at *
    by_cases hq : q = 0
    · subst hq
      rw [if_neg (by simp)] at hform
      have hG : Hid (∀ W, Calls Tryz.prog 124 #[.int .i64 0] W fun e w' => e = .returned (.tuple #[]) ∧ w' = W) := fun W => giveUp_any 0 W (by omega)
      have HFo := Lib.hid hform
      rw [hw0] at hb0 hB
      have hBc0 := (hb0.cell (p := ⟨B, 0, none⟩) hBl).trans hBc
      have HI := Lib.hid hin
      have HW := Lib.hid hw0
      clear hform hin hw0
      go_enter Tryz.func123, Tryz.ntmps123
      go_wp2_with fail
      rw [HW.out]
      refine (HF.out _).mono ?_
      rintro e w1 ⟨rfl, hb1⟩
      go_wp2_with fail
      refine (hG.out _).mono ?_
      rintro e w2 ⟨rfl, rfl⟩
      have hs1 := hb1.size
      have hB1 := hB.from_ hb1 (by omega)
      have hx2 := hB1.c2
      have hb01 : Below w.heap.size w w2 := hb0.trans (hb1.mono (by omega))
      have hBc1 := (hb01.cell (p := ⟨B, 0, none⟩) hBl).trans hBc
      go_wp2_with fail
      go_loopw [14] (fun i wr => ∃ k : Nat, k ≤ xs.length ∧ i = .int .i64 k ∧ M.formIs (dd + 1) (xs.take k) = 0 ∧ Below w2.heap.size w2 wr) (fun i _ => xs.length - (intOf i).toNat)
      case atStart => exact ⟨0, by omega, rfl, by simp [M.formIs], Below.refl _ _⟩
      case round =>
        obtain ⟨k, hk, rfl, hf, hW⟩ := hrel
        have hbW : Below w.heap.size w wr := hb01.trans (hW.mono (by omega))
        have hLr := hL.from_ hbW
        have hsz := hW.size
        have hBw : B < wr.heap.size := by omega
        have hBr := (hbW.cell (p := ⟨B, 0, none⟩) hBl).trans hBc
        by_cases hlt : k < xs.length
        · obtain ⟨b, o, cp, l', d', ys, u, hve, hbn, hxk, e0, e1, e2, hLu⟩ := hLr.at_ hlt
          obtain ⟨rfl, rfl⟩ : a = some ⟨b, o, none⟩ ∧ cap = cp := by cases hve; exact ⟨rfl, rfl⟩
          clear hve
          obtain ⟨a2, cap2, hu, _, _⟩ := hLu.slice
          subst hu
          have hk2 : k < 4000 := by omega
          have hd12 := HI.out trivial (by omega)
          have hnx := M.formIs_next hxk hf
          have hfi := M.formIs_first hxk hf
          have hcx := M.cntI_part (List.mem_of_getElem? hxk)
          rw [M.cntI] at hcx
          have hsx := size_get hxk
          rw [M.It.mk.sizeOf_spec] at hsx
          have ih1 : ∀ W, Below wr.heap.size wr W → Calls Tryz.prog 123 #[iv l' d' (.slice a2 ys.length cap2), .int .i64 ((dd : Int) + 1), .pointer (some ⟨B, 0, none⟩)] W fun e w' => e = orPan (M.formI (dd + 1) (.mk l' d' ys)) ∧ Below W.heap.size W w' :=
            fun W hb => ih l' d' ys _ W (dd + 1) (by omega) ((hLu.from_ (hb.mono (by omega))).mono (by have := hb.size; omega)) (by omega) (by omega) (by have := hb.size; omega) ((hb.cell (p := ⟨B, 0, none⟩) (by simp; omega)).trans hBr)
          generalize M.formI (dd + 1) (M.It.mk l' d' ys) = q at *
          have HFi := Lib.hid hfi
          have HN := Lib.hid hnx
          have IH := Lib.hid ih1
          clear hfi hnx ih1 ih hf hx2 hBc0 hBc1 hBc
          have hbn1 : Below wr.heap.size wr (wr.alloc (.cells #[.bool l', .string ⟨d'.toArray⟩, .slice a2 ys.length cap2] 44)) := by (repeat (first | exact Below.refl _ _ | refine Below.drew ?_ | refine Below.alloc ?_ (by first | omega | (simp; omega) | simp) _ | refine Below.setCell ?_ (by first | omega | (simp; omega) | simp) _))
          go_wp2_with fail
          refine (IH.out _ hbn1).mono ?_
          rintro e w3 ⟨rfl, hb3⟩
          have hw3 : Below wr.heap.size wr w3 := hbn1.trans (hb3.mono (by simp))
          by_cases hq : q = 0
          · subst hq
            rw [orPan_0]
            go_wp2_with fail
            go_roundw
            case rel => exact ⟨k + 1, by omega, by simp, HN.out, hW.trans (hw3.mono hsz)⟩
            case measure => simp [intOf]; omega
          · have e3 := HFi.out hq
            have E3 : Hid (orPan (M.formI dd (.mk l d xs)) = pan q) := by show _ = _; rw [HFo.out, e3, orPan_ne hq]
            rw [orPan_ne hq]
            clear e3
            go_wp2_with fail
            exact ⟨rfl, by rw [E3.out], hbW.trans (hw3.mono (by omega))⟩
        · obtain rfl : k = xs.length := by omega
          rw [List.take_length] at hf
          have hk2 : xs.length ≤ 4000 := by omega
          have E3 : Hid (orPan (M.formI dd (.mk l d xs)) = .returned (.tuple #[])) := by show _ = _; rw [HFo.out, hf]; rfl
          clear hf
          go_wp2_with fail
          go_end0
          exact ⟨E3.out.symm, hbW⟩
    · rw [if_pos hq] at hform
      have hG : Hid (∀ W, Calls Tryz.prog 124 #[.int .i64 (q : Nat)] W fun e w' => e = pan q ∧ w' = W) := fun W => by have := giveUp_any q W (by omega); rwa [orPan_ne hq] at this
      rw [hform, orPan_ne hq]
      clear hin hform
      rw [hw0] at hb0
      have HW := Lib.hid hw0
      clear hw0
      go_enter Tryz.func123, Tryz.ntmps123
      go_wp2_with fail
      rw [HW.out]
      refine (HF.out _).mono ?_
      rintro e w1 ⟨rfl, hb1⟩
      go_wp2_with fail
      refine (hG.out _).mono ?_
      rintro e w2 ⟨rfl, rfl⟩
      go_wp2_with fail
      exact ⟨rfl, rfl, hb0.trans (hb1.mono (by omega))⟩
end Go.Proofs.YtebjhbeaknokkaaGreatDoor
namespace Go.Proofs.YtebjhbeaknokkaaGreatDoor
open Go Go.RowKit

set_option maxRecDepth 100000 in
set_option maxHeartbeats 4000000 in
theorem catch_pan (p : Addr) (x : Value) (q : Nat) (w : World) (hc : w.cell? p = some x) (hz : w.frozen? p = false) :
    CallsD Tryz.prog 122 #[.pointer (some p)] (.panicking [{ v := .iface 28 (.int .i64 (q : Nat)), recovered := false }]) w fun e u' w' =>
      e = .returned (.tuple #[]) ∧ u' = .panicking [{ v := .iface 28 (.int .i64 (q : Nat)), recovered := true }] ∧ w' = w.setCell p (.int .i64 (q : Nat)) := by
  have hta : ∀ (v : Value) (w : World), (Instr.typeAssert (.iface 28 v) 20 28 false).run Tryz.prog w = .ok v w := fun v w => by
    simp [Instr.typeAssert, run_underlying Tryz.underlying28, go_sem, Result.andThen]
  refine callsD_of_wpS Tryz.func122 rfl fun c₀ cs hu => ?_
  apply wpS_seq
  apply wpS_region
  simp [wpOpsS, go_sem, recoverD, hu, Tryz.ntmps122, Exit.thenS]
  refine wpS_of_wp ?_
  simp only [Array.replicate_succ, Array.replicate_zero, List.push_toArray, List.append_toArray, List.nil_append, List.cons_append, List.setIfInBounds_toArray, List.set_cons_zero, List.set_cons_succ]
  go_wp2_with fail
  simp [bodyPostS, results, Tryz.results122]

theorem catch_idle (p : Addr) (w : World) :
    CallsD Tryz.prog 122 #[.pointer (some p)] .returning w fun e u' w' => e = .returned (.tuple #[]) ∧ u' = .returning ∧ w' = w := by
  refine callsD_of_wpS Tryz.func122 rfl fun c₀ cs hu => ?_
  apply wpS_seq
  apply wpS_region
  simp [wpOpsS, go_sem, recoverD, hu, Tryz.ntmps122, Exit.thenS]
  refine wpS_of_wp ?_
  simp only [Array.replicate_succ, Array.replicate_zero, List.push_toArray, List.append_toArray, List.nil_append, List.cons_append, List.setIfInBounds_toArray, List.set_cons_zero, List.set_cons_succ]
  go_wp2_with fail
  cases c₀
  simp_all [bodyPostS, results, Tryz.results122]

set_option maxRecDepth 100000 in
set_option maxHeartbeats 4000000 in
theorem check_any (l : Bool) (d : List UInt8) (xs : List M.It) (v : Value) (w : World) (hL : Lay w w.heap.size xs v) (hc : M.cntIs xs ≤ 4000) (hz : (M.bytesI (.mk l d xs)).length ≤ 4611686018427380000) :
    Calls Tryz.prog 79 #[iv l d v] w fun e w' => e = .returned (.int .i64 (M.checkI (.mk l d xs) : Nat)) ∧ Below w.heap.size w w' := by
  obtain ⟨a, cap, hv, _, _⟩ := hL.slice
  subst hv
  have hmf : ∀ (fn : Fn) (first cap : Array Value) (w : World), (Instr.makeFunc fn first cap).run Tryz.prog w = .ok (.func fn first cap) w := fun _ _ _ _ => rfl
  have hst : ∀ (W : World) (p : Addr) (F : Fn) (xa xb : Array Value), (W.cell? p).isSome = true → W.frozen? p = false → (store p (.func F xa xb)).run Tryz.prog W = .ok () (W.setCell p (.func F xa xb)) := by
    intro W p F xa xb h1 h2
    rw [run_store _ _ _ _ _ rfl]
    obtain ⟨x, hx⟩ := Option.isSome_iff_exists.1 h1
    rw [hx]
    simp [h2]
  obtain ⟨w0, hw0⟩ : ∃ w0, ((w.alloc (.cells #[.bool l, .string ⟨d.toArray⟩, .slice a xs.length cap] 44)).alloc (.cells #[.int .i64 0] 28)).alloc (.cells #[.func (.func 123) #[] #[.pointer (some ⟨w.heap.size + 1 + 1, 0, none⟩)]] 170) = w0 := ⟨_, rfl⟩
  have hb0 : Below w.heap.size w w0 := by rw [← hw0]; (repeat (first | exact Below.refl _ _ | refine Below.drew ?_ | refine Below.alloc ?_ (by first | omega | (simp; omega) | simp) _ | refine Below.setCell ?_ (by first | omega | (simp; omega) | simp) _))
  have hs0 : w0.heap.size = w.heap.size + 3 := by rw [← hw0]; simp
  have hB : Box w0 w.heap.size l d (.slice a xs.length cap) := by rw [← hw0]; exact ⟨by simp [go_sem], by simp [go_sem], by simp [go_sem]⟩
  have hr0 : w0.cell? ⟨w.heap.size + 1, 0, none⟩ = some (.int .i64 0) := by rw [← hw0]; simp [go_sem]
  have hf0 : w0.frozen? ⟨w.heap.size + 1, 0, none⟩ = false := by rw [← hw0]; simp [go_sem]
  have hl0 : w0.cell? ⟨w.heap.size + 1 + 1, 0, none⟩ = some (.func (.func 123) #[] #[.pointer (some ⟨w.heap.size + 1 + 1, 0, none⟩)]) := by rw [← hw0]; simp [go_sem]
  have HL := Lib.hid (look_n (w.heap.size + 1 + 1) _ l d xs _ w0 0 (Nat.le_refl _) ((hL.from_ hb0).mono (by omega)) hc (by omega) (by omega) hl0)
  have HS : Hid (∀ W, Below w0.heap.size w0 W → Calls Tryz.prog 126 #[iv l d (.slice a xs.length cap)] W fun e w' => e = .returned (.int .i64 ((M.bytesI (.mk l d xs)).length : Nat)) ∧ Below W.heap.size W w') :=
    fun W hb => size_any l d xs _ W ((hL.from_ (hb0.trans (hb.mono (by omega)))).mono (by have := hb.size; omega)) hc hz
  have hk : Hid (M.checkI (.mk l d xs) = if M.formI 0 (.mk l d xs) = 0 ∧ 65536 < (M.bytesI (.mk l d xs)).length then 5 else M.formI 0 (.mk l d xs)) := rfl
  generalize M.checkI (.mk l d xs) = c at *
  generalize M.formI 0 (.mk l d xs) = f at *
  generalize (M.bytesI (.mk l d xs)).length = s at *
  have HW := Lib.hid hw0
  clear hw0 hL hl0
  by_cases hf : f = 0
  · subst hf
    by_cases hlong : 65536 < s
    · have e : c = 5 := by rw [hk.out, if_pos ⟨rfl, hlong⟩]
      subst e
      go_enter_defers Tryz.func79, Tryz.ntmps79
      go_wp2_with fail
      rw [HW.out]
      refine HL.out.mono ?_
      rintro e w1 ⟨rfl, hb1⟩
      rw [orPan_0]
      have hB1 := hB.from_ hb1 (by omega)
      have x0 := hB1.c0
      have x1 := hB1.c1
      have x2 := hB1.c2
      go_wp2_with fail
      refine (HS.out _ hb1).mono ?_
      rintro e w2 ⟨rfl, hb2⟩
      go_wp2_with fail
      refine (giveUp_any 5 _ (by omega)).mono ?_
      rintro e w3 ⟨rfl, rfl⟩
      rw [orPan_ne (by omega)]
      go_wp2_with fail
      have hb3 : Below w0.heap.size w0 w3 := hb1.trans (hb2.mono hb1.size)
      obtain ⟨bc1, bc2⟩ := bcell hb3
      have y1 := (bc1 _ _ (show w.heap.size + 1 < w0.heap.size by omega)).trans hr0
      have y2 := (bc2 _ _ (show w.heap.size + 1 < w0.heap.size by omega)).trans hf0
      have hbq : Below w.heap.size w (w3.setCell ⟨w.heap.size + 1, 0, none⟩ (.int .i64 ((5 : Nat) : Int))) := (hb0.trans (hb3.mono (by omega))).setCell (by simp) _
      refine leaves_cons (f := 122) (args := #[.pointer (some ⟨w.heap.size + 1, 0, none⟩)]) (by simp) (by simp [go_sem]) ?_
      refine (catch_pan ⟨w.heap.size + 1, 0, none⟩ _ 5 _ y1 y2).mono ?_
      rintro e u' w4 ⟨rfl, rfl, rfl⟩
      have hrd : (w3.setCell ⟨w.heap.size + 1, 0, none⟩ (.int .i64 ((5 : Nat) : Int))).cell? ⟨w.heap.size + 1, 0, none⟩ = some (.int .i64 ((5 : Nat) : Int)) := World.cell?_setCell_same' _ _ _ (by rw [y1]; rfl)
      generalize w3.setCell ⟨w.heap.size + 1, 0, none⟩ (.int .i64 ((5 : Nat) : Int)) = w5 at *
      clear hb3 bc1 bc2 y1 y2
      simp [Leaves, settle, results, Tryz.results79, go_sem, hrd]
      exact hbq
    · have e : c = 0 := by rw [hk.out, if_neg (by omega)]
      subst e
      go_enter_defers Tryz.func79, Tryz.ntmps79
      go_wp2_with fail
      rw [HW.out]
      refine HL.out.mono ?_
      rintro e w1 ⟨rfl, hb1⟩
      rw [orPan_0]
      have hB1 := hB.from_ hb1 (by omega)
      have x0 := hB1.c0
      have x1 := hB1.c1
      have x2 := hB1.c2
      go_wp2_with fail
      refine (HS.out _ hb1).mono ?_
      rintro e w3 ⟨rfl, hb2⟩
      have hb3 : Below w0.heap.size w0 w3 := hb1.trans (hb2.mono hb1.size)
      obtain ⟨bc1, bc2⟩ := bcell hb3
      have y1 := (bc1 _ _ (show w.heap.size + 1 < w0.heap.size by omega)).trans hr0
      have y2 := (bc2 _ _ (show w.heap.size + 1 < w0.heap.size by omega)).trans hf0
      have hbq : Below w.heap.size w (w3.setCell ⟨w.heap.size + 1, 0, none⟩ (.int .i64 0)) := (hb0.trans (hb3.mono (by omega))).setCell (by simp) _
      clear bc1 bc2
      have hrd : (w3.setCell ⟨w.heap.size + 1, 0, none⟩ (.int .i64 0)).cell? ⟨w.heap.size + 1, 0, none⟩ = some (.int .i64 0) := World.cell?_setCell_same' _ _ _ (by rw [y1]; rfl)
      go_wp2_with fail
      generalize w3.setCell ⟨w.heap.size + 1, 0, none⟩ (.int .i64 0) = w5 at *
      refine leaves_cons (f := 122) (args := #[.pointer (some ⟨w.heap.size + 1, 0, none⟩)]) (by simp) (by simp [go_sem]) ?_
      refine (catch_idle ⟨w.heap.size + 1, 0, none⟩ _).mono ?_
      rintro e u' w4 ⟨rfl, rfl, rfl⟩
      clear hb3 y1 y2
      simp [Leaves, settle, results, Tryz.results79, go_sem, hrd]
      exact hbq
  · have e : c = f := by rw [hk.out, if_neg (by omega)]
    subst e
    go_enter_defers Tryz.func79, Tryz.ntmps79
    go_wp2_with fail
    rw [HW.out]
    refine HL.out.mono ?_
    rintro e w3 ⟨rfl, hb3⟩
    rw [orPan_ne hf]
    go_wp2_with fail
    obtain ⟨bc1, bc2⟩ := bcell hb3
    have y1 := (bc1 _ _ (show w.heap.size + 1 < w0.heap.size by omega)).trans hr0
    have y2 := (bc2 _ _ (show w.heap.size + 1 < w0.heap.size by omega)).trans hf0
    have hbq : Below w.heap.size w (w3.setCell ⟨w.heap.size + 1, 0, none⟩ (.int .i64 ((c : Nat) : Int))) := (hb0.trans (hb3.mono (by omega))).setCell (by simp) _
    refine leaves_cons (f := 122) (args := #[.pointer (some ⟨w.heap.size + 1, 0, none⟩)]) (by simp) (by simp [go_sem]) ?_
    refine (catch_pan ⟨w.heap.size + 1, 0, none⟩ _ c _ y1 y2).mono ?_
    rintro e u' w4 ⟨rfl, rfl, rfl⟩
    have hrd : (w3.setCell ⟨w.heap.size + 1, 0, none⟩ (.int .i64 ((c : Nat) : Int))).cell? ⟨w.heap.size + 1, 0, none⟩ = some (.int .i64 ((c : Nat) : Int)) := World.cell?_setCell_same' _ _ _ (by rw [y1]; rfl)
    generalize w3.setCell ⟨w.heap.size + 1, 0, none⟩ (.int .i64 ((c : Nat) : Int)) = w5 at *
    clear hb3 bc1 bc2 y1 y2
    simp [Leaves, settle, results, Tryz.results79, go_sem, hrd]
    exact hbq
end Go.Proofs.YtebjhbeaknokkaaGreatDoor
namespace Go.Proofs.YtebjhbeaknokkaaGreatDoor
open Go Go.RowKit

theorem Ow.conv {B : Nat} {l : List UInt8} {v : Value} {w : World} (h : Ow B l v w) (hne : l ≠ []) : (convert 75 9 v).run Tryz.prog w = .ok (.string ⟨l.toArray⟩) w := by
  have h' := h
  rcases h.2 with ⟨_, h1⟩ | ⟨g, cap, cur, rfl, hB, hg, h1⟩
  · exact absurd (List.eq_nil_of_length_eq_zero h1) hne
  · refine run_convert_bytes_back w 75 9 5 ⟨g, 0, none⟩ cap l Tryz.underlying75 Tryz.underlying5 Tryz.underlying9 ?_
    intro j hj
    exact World.ownsRow.cells h' (g := g) rfl j _ (by simp [bc, hj])

set_option maxRecDepth 100000 in
set_option maxHeartbeats 4000000 in
theorem encode_any (l : Bool) (d : List UInt8) (xs : List M.It) (v : Value) (w : World) (hL : Lay w w.heap.size xs v) (hc : M.cntIs xs ≤ 4000) (hz : (M.bytesI (.mk l d xs)).length ≤ 4611686018427380000) :
    Calls Tryz.prog 43 #[iv l d v] w fun e w' => e = .returned (.tuple #[.string ⟨(M.encodeI (.mk l d xs)).1.toArray⟩, .int .i64 ((M.encodeI (.mk l d xs)).2 : Nat)]) ∧ Below w.heap.size w w' := by
  obtain ⟨a, cap, hv, _, _⟩ := hL.slice
  subst hv
  have hb0 : Below w.heap.size w (w.alloc (.cells #[.bool l, .string ⟨d.toArray⟩, .slice a xs.length cap] 44)) := by (repeat (first | exact Below.refl _ _ | refine Below.drew ?_ | refine Below.alloc ?_ (by first | omega | (simp; omega) | simp) _ | refine Below.setCell ?_ (by first | omega | (simp; omega) | simp) _))
  have hB := Box.new w l d (.slice a xs.length cap) 44
  have hf : Hid (∀ W, Below w.heap.size w W → Calls Tryz.prog 79 #[iv l d (.slice a xs.length cap)] W fun e w' => e = .returned (.int .i64 (M.checkI (.mk l d xs) : Nat)) ∧ Below W.heap.size W w') :=
    fun W hb => check_any l d xs _ W ((hL.from_ hb).mono hb.size) hc hz
  have hg : Hid (M.checkI (.mk l d xs) = 0 → ∀ W, Below w.heap.size w W → Calls Tryz.prog 80 #[iv l d (.slice a xs.length cap), .func (.func 81) #[] #[], .func (.func 83) #[] #[], .func (.func 84) #[] #[]] W fun e w' => (∃ u, e = .returned u ∧ Ow W.heap.size (M.bytesI (.mk l d xs)) u w') ∧ Below W.heap.size W w') :=
    fun hk W hb => foldb_any enc_folds l d xs _ W ((hL.from_ hb).mono hb.size) hc (M.checkI_ok.1 hk).2
  have hne : Hid (M.bytesI (.mk l d xs) ≠ []) := fun h => M.bytesI_ne (.mk l d xs) (by rw [h]; rfl)
  have hk : Hid (M.encodeI (.mk l d xs) = if M.checkI (.mk l d xs) = 0 then (M.bytesI (.mk l d xs), 0) else ([], M.checkI (.mk l d xs))) := rfl
  generalize M.encodeI (.mk l d xs) = q at *
  generalize M.checkI (.mk l d xs) = f at *
  generalize M.bytesI (.mk l d xs) = b at *
  clear hL
  by_cases hf0 : f = 0
  · subst hf0
    have e : q = (b, 0) := by rw [hk.out, if_pos rfl]
    subst e
    go_enter Tryz.func43, Tryz.ntmps43
    go_wp2_with fail
    refine (hf.out _ hb0).mono ?_
    rintro e w1 ⟨rfl, hb1⟩
    have hB1 := hB.from_ hb1 (by simp)
    have hc0 := hB1.c0
    have hc1 := hB1.c1
    have hc2 := hB1.c2
    have hb01 : Below w.heap.size w w1 := hb0.trans (hb1.mono (by simp))
    go_wp2_with fail
    refine (hg.out trivial _ hb01).mono ?_
    rintro e w2 ⟨⟨u, rfl, hu⟩, hb2⟩
    have hcv := hu.conv hne.out
    go_wp2_with fail
    go_ret2
    exact ⟨rfl, hb01.trans (hb2.mono hb01.size)⟩
  · have e : q = ([], f) := by rw [hk.out, if_neg hf0]
    subst e
    have hne : ((f : Int) != 0) = true := by rw [bne_iff_ne]; omega
    go_enter Tryz.func43, Tryz.ntmps43
    go_wp2_with fail
    refine (hf.out _ hb0).mono ?_
    rintro e w1 ⟨rfl, hb1⟩
    go_wp2_with fail
    go_ret2
    exact ⟨rfl, hb0.trans (hb1.mono (by simp))⟩
end Go.Proofs.YtebjhbeaknokkaaGreatDoor
namespace Go.Proofs.YtebjhbeaknokkaaGreatDoor
open Go Go.RowKit

set_option maxRecDepth 100000 in
set_option maxHeartbeats 4000000 in
theorem field_text : FTextOk := by
  intro s w hs
  have HB := Lib.hid (fun W => clone_any s W (Nat.le_trans hs (by decide)))
  obtain ⟨w0, hw0⟩ : ∃ w0, w.alloc (.cells #[.bool false, .string ⟨#[]⟩, .slice none 0 0] 44) = w0 := ⟨_, rfl⟩
  have hb0 : Below w.heap.size w w0 := by rw [← hw0]; (repeat (first | exact Below.refl _ _ | refine Below.drew ?_ | refine Below.alloc ?_ (by first | omega | (simp; omega) | simp) _ | refine Below.setCell ?_ (by first | omega | (simp; omega) | simp) _))
  have hz0 : w0.heap.size = w.heap.size + 1 := by rw [← hw0]; simp
  have hrow0 : w0.heap[w.heap.size]? = some (.cells #[.bool false, .string ⟨#[]⟩, .slice none 0 0] 44 (0, 0)) := by rw [← hw0]; exact heap_alloc_new w _
  have HW := Lib.hid hw0
  clear hw0
  go_enter Tryz.func39, Tryz.ntmps39
  go_wp2_with fail
  rw [HW.out]
  refine (HB.out _).mono ?_
  rintro e w1 ⟨rfl, hb1⟩
  have hb : Below w.heap.size w w1 := hb0.trans (hb1.mono (by omega))
  have hrow : w1.heap[w.heap.size]? = _ := (hb1.block _ (by omega)).trans hrow0
  clear hb1 hb0 hrow0 HW hz0
  obtain ⟨⟨_, z0⟩, ⟨_, z1⟩, ⟨_, z2⟩, y0, y1, y2⟩ := cells_three hrow
  go_wp2_with fail
  refine rf_post rfl w w1 _ false _ _ w.heap.size (Nat.le_refl _) hb _ _ _ hrow _ ?_ (fun Z hZ _ _ => ⟨rfl, hZ⟩)
  rfl

set_option maxRecDepth 100000 in
set_option maxHeartbeats 4000000 in
theorem field_number : FNumberOk := by
  intro n w hn
  have HB := Lib.hid (fun W => nbe_any n W hn)
  rw [show M.tr (M.f32 n) = M.ben n from rfl] at HB
  have hlen : (M.ben n).length ≤ longS := by
    have := M.tr_length_le (M.f32 n)
    rw [M.f32_length] at this
    exact Nat.le_trans this (by decide)
  have HT := Lib.hid (fun W => field_text (M.ben n) W hlen)
  obtain ⟨w0, hw0⟩ : ∃ w0, w.alloc (.cells #[.bool false, .string ⟨#[]⟩, .slice none 0 0] 44) = w0 := ⟨_, rfl⟩
  have hb0 : Below w.heap.size w w0 := by rw [← hw0]; (repeat (first | exact Below.refl _ _ | refine Below.drew ?_ | refine Below.alloc ?_ (by first | omega | (simp; omega) | simp) _ | refine Below.setCell ?_ (by first | omega | (simp; omega) | simp) _))
  have hz0 : w0.heap.size = w.heap.size + 1 := by rw [← hw0]; simp
  have hrow0 : w0.heap[w.heap.size]? = some (.cells #[.bool false, .string ⟨#[]⟩, .slice none 0 0] 44 (0, 0)) := by rw [← hw0]; exact heap_alloc_new w _
  have HW := Lib.hid hw0
  clear hw0
  go_enter Tryz.func20, Tryz.ntmps20
  go_wp2_with fail
  rw [HW.out]
  refine (HB.out _).mono ?_
  rintro e w1 ⟨rfl, hb1⟩
  go_wp2_with fail
  refine (HT.out _).mono ?_
  rintro e w2 ⟨rfl, hb2⟩
  have hb1 := hb1.trans (hb2.mono hb1.size)
  have hb : Below w.heap.size w w2 := hb0.trans (hb1.mono (by omega))
  have hrow : w2.heap[w.heap.size]? = _ := (hb1.block _ (by omega)).trans hrow0
  clear hb1 hb0 hrow0 HW hz0
  obtain ⟨⟨_, z0⟩, ⟨_, z1⟩, ⟨_, z2⟩, y0, y1, y2⟩ := cells_three hrow
  go_wp2_with fail
  refine rf_post rfl w w2 _ false _ _ w.heap.size (Nat.le_refl _) hb _ _ _ hrow _ ?_ (fun Z hZ _ _ => ⟨rfl, hZ⟩)
  rfl

set_option maxRecDepth 100000 in
set_option maxHeartbeats 4000000 in
theorem field_bool : FBoolOk := by
  intro v w
  have H0 := Lib.hid (fun W => field_text [] W (by decide))
  have H1 := Lib.hid (fun W => field_text [1] W (by decide))
  obtain ⟨w0, hw0⟩ : ∃ w0, w.alloc (.cells #[.bool false, .string ⟨#[]⟩, .slice none 0 0] 44) = w0 := ⟨_, rfl⟩
  have hb0 : Below w.heap.size w w0 := by rw [← hw0]; (repeat (first | exact Below.refl _ _ | refine Below.drew ?_ | refine Below.alloc ?_ (by first | omega | (simp; omega) | simp) _ | refine Below.setCell ?_ (by first | omega | (simp; omega) | simp) _))
  have hz0 : w0.heap.size = w.heap.size + 1 := by rw [← hw0]; simp
  have hrow0 : w0.heap[w.heap.size]? = some (.cells #[.bool false, .string ⟨#[]⟩, .slice none 0 0] 44 (0, 0)) := by rw [← hw0]; exact heap_alloc_new w _
  have HW := Lib.hid hw0
  clear hw0
  cases v with
  | false =>
    go_enter Tryz.func19, Tryz.ntmps19
    go_wp2_with fail
    rw [HW.out]
    refine (H0.out _).mono ?_
    rintro e w1 ⟨rfl, hb1⟩
    have hb : Below w.heap.size w w1 := hb0.trans (hb1.mono (by omega))
    have hrow : w1.heap[w.heap.size]? = _ := (hb1.block _ (by omega)).trans hrow0
    clear hb1 hb0 hrow0 HW hz0
    obtain ⟨⟨_, z0⟩, ⟨_, z1⟩, ⟨_, z2⟩, y0, y1, y2⟩ := cells_three hrow
    go_wp2_with fail
    refine rf_post rfl w w1 _ false _ _ w.heap.size (Nat.le_refl _) hb _ _ _ hrow _ ?_ (fun Z hZ _ _ => ⟨rfl, hZ⟩)
    rfl
  | true =>
    go_enter Tryz.func19, Tryz.ntmps19
    go_wp2_with fail
    rw [HW.out]
    refine (H1.out _).mono ?_
    rintro e w1 ⟨rfl, hb1⟩
    have hb : Below w.heap.size w w1 := hb0.trans (hb1.mono (by omega))
    have hrow : w1.heap[w.heap.size]? = _ := (hb1.block _ (by omega)).trans hrow0
    clear hb1 hb0 hrow0 HW hz0
    obtain ⟨⟨_, z0⟩, ⟨_, z1⟩, ⟨_, z2⟩, y0, y1, y2⟩ := cells_three hrow
    go_wp2_with fail
    refine rf_post rfl w w1 _ false _ _ w.heap.size (Nat.le_refl _) hb _ _ _ hrow _ ?_ (fun Z hZ _ _ => ⟨rfl, hZ⟩)
    rfl
end Go.Proofs.YtebjhbeaknokkaaGreatDoor
namespace Go.Proofs.YtebjhbeaknokkaaGreatDoor
open Go Go.RowKit

theorem Tx.nil (cur : Array Value) : Tx cur [] := fun i s h => by simp at h
def put3 (cur : Array Value) (k : Nat) (s : List UInt8) : Array Value := ((cur.setIfInBounds (k * 3) (.bool false)).setIfInBounds (k * 3 + 1) (.string ⟨s.toArray⟩)).setIfInBounds (k * 3 + 2) (.slice none 0 0)
theorem put3_size (cur : Array Value) (k : Nat) (s : List UInt8) : (put3 cur k s).size = cur.size := by simp [put3]
theorem Tx.put {cur : Array Value} {ls : List (List UInt8)} {k : Nat} {s : List UInt8} (h : Tx cur (ls.take k)) (hk : k * 3 + 3 ≤ cur.size) (hs : ls[k]? = some s) : Tx (put3 cur k s) (ls.take (k + 1)) := by
  intro i t hi
  have hik : i < k + 1 := by
    have := (List.getElem?_eq_some_iff.1 hi).1
    rw [List.length_take] at this
    omega
  rw [List.getElem?_take, if_pos hik] at hi
  unfold put3
  by_cases e : i = k
  · subst e
    rw [hs] at hi
    cases hi
    refine ⟨?_, ?_, none, 0, ?_, by decide⟩
    · rw [Array.getElem?_setIfInBounds_ne (by omega), Array.getElem?_setIfInBounds_ne (by omega), Array.getElem?_setIfInBounds_self_of_lt (by omega)]
    · rw [Array.getElem?_setIfInBounds_ne (by omega), Array.getElem?_setIfInBounds_self_of_lt (by simp; omega)]
    · rw [Array.getElem?_setIfInBounds_self_of_lt (by simp; omega)]
  · have hne : ∀ j, j < 3 → ∀ (x y z : Value), (((cur.setIfInBounds (k * 3) x).setIfInBounds (k * 3 + 1) y).setIfInBounds (k * 3 + 2) z)[i * 3 + j]? = cur[i * 3 + j]? := fun j hj x y z => by
      rw [Array.getElem?_setIfInBounds_ne (by omega), Array.getElem?_setIfInBounds_ne (by omega), Array.getElem?_setIfInBounds_ne (by omega)]
    obtain ⟨c0, c1, a, cap, c2, hm⟩ := h i t (by rw [List.getElem?_take, if_pos (by omega)]; exact hi)
    exact ⟨(hne 0 (by omega) _ _ _).trans c0, (hne 1 (by omega) _ _ _).trans c1, a, cap, (hne 2 (by omega) _ _ _).trans c2, hm⟩
theorem set_three_at {w : World} {g a b c : Nat} {cur : Array Value} {t : TypeId} (h : w.heap[g]? = some (.cells cur t (0, 0))) (x y z : Value) :
    ((w.setCell ⟨g, a, none⟩ x).setCell ⟨g, b, none⟩ y).setCell ⟨g, c, none⟩ z = w.setRow g (((cur.setIfInBounds a x).setIfInBounds b y).setIfInBounds c z) := by
  have e1 := setCell_eq_setRow w g a cur t (0, 0) x h
  have h1 := setRow_heap w g cur (cur.setIfInBounds a x) t (0, 0) h
  have e2 := setCell_eq_setRow (w.setRow g (cur.setIfInBounds a x)) g b _ t (0, 0) y h1
  have h2 := setRow_heap _ g _ ((cur.setIfInBounds a x).setIfInBounds b y) t (0, 0) h1
  have e3 := setCell_eq_setRow _ g c _ t (0, 0) z h2
  rw [e1, e2, e3, setRow_setRow, setRow_setRow]

set_option maxRecDepth 100000 in
set_option maxHeartbeats 4000000 in
theorem field_texts : FTextsOk := by
  intro ls a cap w hL hl hs
  obtain ⟨i, hi, hz0, hz1, hz2⟩ := info_parts Tryz.ofItem
  have hmk : ∀ W : World, (Instr.makeSlice 42 (.int .i64 (ls.length : Int)) (.int .i64 (ls.length : Int))).run Tryz.prog W = .ok (.slice (some ⟨W.heap.size, 0, none⟩) ls.length ls.length) (W.alloc (.cells (madeCells (Value.agg #[.bool false, .string ⟨#[]⟩, .slice none 0 0]).cells (ls.length * 3)) 44)) := fun W => by
    have h := run_make (P := Tryz.prog) W 42 44 i _ Tryz.underlying42 hi hz0 .i64 .i64 (ls.length : Int) (ls.length : Int) (by omega) (by omega) (by rw [hz2]; omega) (by omega)
    simpa [hz1] using h
  obtain ⟨m, hm⟩ : ∃ m, m = madeCells (Value.agg #[.bool false, .string ⟨#[]⟩, .slice none 0 0]).cells (ls.length * 3) := ⟨_, rfl⟩
  have hms : m.size = ls.length * 3 := by rw [hm, size_madeCells]
  rw [← hm] at hmk
  clear hm
  obtain ⟨wx, hwx⟩ : ∃ wx, w.alloc (.cells #[.bool false, .string ⟨#[]⟩, .slice none 0 0] 44) = wx := ⟨_, rfl⟩
  have hbx : Below w.heap.size w wx := by rw [← hwx]; (repeat (first | exact Below.refl _ _ | refine Below.drew ?_ | refine Below.alloc ?_ (by first | omega | (simp; omega) | simp) _ | refine Below.setCell ?_ (by first | omega | (simp; omega) | simp) _))
  have hzx : wx.heap.size = w.heap.size + 1 := by rw [← hwx]; simp
  have hrowx : wx.heap[w.heap.size]? = some (.cells #[.bool false, .string ⟨#[]⟩, .slice none 0 0] 44 (0, 0)) := by rw [← hwx]; exact heap_alloc_new w _
  have HMK := Lib.hid (hmk wx)
  clear hmk
  obtain ⟨w0, hw0⟩ : ∃ w0, wx.alloc (.cells m 44) = w0 := ⟨_, rfl⟩
  have hb0 : Below wx.heap.size wx w0 := by rw [← hw0]; (repeat (first | exact Below.refl _ _ | refine Below.drew ?_ | refine Below.alloc ?_ (by first | omega | (simp; omega) | simp) _ | refine Below.setCell ?_ (by first | omega | (simp; omega) | simp) _))
  have hz0' : w0.heap.size = wx.heap.size + 1 := by rw [← hw0]; simp
  have hrow0 : w0.heap[wx.heap.size]? = some (.cells m 44 (0, 0)) := by rw [← hw0]; exact heap_alloc_new wx _
  have hmk := HMK.out
  rw [hw0, hzx, ← hwx] at hmk
  have HX := Lib.hid hwx
  have HS := Lib.hid hs
  have HL := Lib.hid hL
  clear hwx hw0 HMK hs hL hi hz0 hz1 hz2
  go_enter Tryz.func45, Tryz.ntmps45
  go_wp2_with fail
  have hmk := Lib.hid hmk
  have hg : wx.heap.size = w.heap.size + 1 := hzx
  go_loopw [11] (fun i wr => ∃ (k : Nat) (cur : Array Value), k ≤ ls.length ∧ i = .int .i64 k ∧ wr.heap[w.heap.size + 1]? = some (.cells cur 44 (0, 0)) ∧ cur.size = ls.length * 3 ∧ Tx cur (ls.take k) ∧ Below (w.heap.size + 1) w0 wr) (fun i _ => ls.length - (intOf i).toNat)
  case atStart => exact ⟨0, m, by omega, rfl, by rw [← hg]; exact hrow0, hms, by rw [List.take_zero]; exact Tx.nil m, Below.refl _ _⟩
  case round =>
    obtain ⟨k, cur, hk, rfl, hrow, hcs, hT, hb⟩ := hrel
    have hwr : Below w.heap.size w wr := hbx.trans ((hb0.trans (hb.mono (by omega))).mono (by omega))
    have hsz : w.heap.size + 1 < wr.heap.size := (Array.getElem?_eq_some_iff.1 hrow).1
    by_cases hlt : k < ls.length
    · have hk2 : k < 600 := by omega
      obtain ⟨b, o, s, rfl, hbn, hks, cs⟩ := (HL.out.from_ hwr).at_ hlt
      have HT := Lib.hid (fun W => field_text s W (HS.out s (List.mem_of_getElem? hks)))
      go_wp2_with fail
      refine (HT.out _).mono ?_
      rintro e w2 ⟨rfl, hb2⟩
      have hrow2 := (hb2.block _ hsz).trans hrow
      have hz : k * 3 + 3 ≤ cur.size := by omega
      have z0 : w2.cell? ⟨w.heap.size + 1, k * 3, none⟩ = some cur[k * 3] := by simp [World.cell?, hrow2, show k * 3 < cur.size by omega]
      have z1 : w2.cell? ⟨w.heap.size + 1, k * 3 + 1, none⟩ = some cur[k * 3 + 1] := by simp [World.cell?, hrow2, show k * 3 + 1 < cur.size by omega]
      have z2 : w2.cell? ⟨w.heap.size + 1, k * 3 + 2, none⟩ = some cur[k * 3 + 2] := by simp [World.cell?, hrow2, show k * 3 + 2 < cur.size by omega]
      have y0 : ∀ j, w2.frozen? ⟨w.heap.size + 1, j, none⟩ = false := fun j => by simp [World.frozen?, hrow2]
      have hrow3 := setRow_heap w2 (w.heap.size + 1) cur (put3 cur k s) _ (0, 0) hrow2
      have hb3 : Below (w.heap.size + 1) w0 (w2.setRow (w.heap.size + 1) (put3 cur k s)) := (hb.trans (hb2.mono (by omega))).trans ⟨rfl, rfl, rfl, by simp, fun j hj => setRow_other _ _ _ _ (by omega)⟩
      have hT3 := hT.put (s := s) (by omega) hks
      have hcs3 : (put3 cur k s).size = ls.length * 3 := by rw [put3_size]; exact hcs
      have hw3 := set_three_at hrow2 (a := k * 3) (b := k * 3 + 1) (c := k * 3 + 2) (.bool false) (.string ⟨s.toArray⟩) (.slice none 0 0)
      change _ = w2.setRow (w.heap.size + 1) (put3 cur k s) at hw3
      generalize w2.setRow (w.heap.size + 1) (put3 cur k s) = w3 at *
      generalize put3 cur k s = cur3 at *
      generalize cur[k * 3] = v0 at *
      generalize cur[k * 3 + 1] = v1 at *
      generalize cur[k * 3 + 2] = v2 at *
      have HW3 := Lib.hid hw3
      clear hw3 hrow2 hb2 hT hrow
      go_wp2_with fail
      rw [HW3.out]
      go_roundw
      case rel => exact ⟨k + 1, cur3, by omega, by simp, hrow3, hcs3, hT3, hb3⟩
      case measure => simp [intOf]; omega
    · obtain rfl : k = ls.length := by omega
      rw [List.take_length] at hT
      have hrowr := (hb.block w.heap.size (by omega)).trans ((hb0.block w.heap.size (by omega)).trans hrowx)
      obtain ⟨⟨_, z0⟩, ⟨_, z1⟩, ⟨_, z2⟩, y0, y1, y2⟩ := cells_three hrowr
      go_wp2_with fail
      refine rf_post rfl w wr _ true [] (.slice (some ⟨w.heap.size + 1, 0, none⟩) ls.length ls.length) w.heap.size (Nat.le_refl _) hwr _ _ _ hrowr _ rfl (fun Z hZ hz ho => ⟨⟨_, ls.length, rfl, ?_⟩, hZ⟩)
      have hF := Tx.lay (S := fun b => b < Z.heap.size) hT ((ho (w.heap.size + 1) (by omega)).trans hrow) (by omega) (Nat.le_refl _) (by simp only [maxLen]; omega)
      exact hF.lay fun b h => h
end Go.Proofs.YtebjhbeaknokkaaGreatDoor
