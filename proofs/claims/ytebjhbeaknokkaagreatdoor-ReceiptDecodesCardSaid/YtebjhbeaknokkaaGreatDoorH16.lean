/- Rows of texts and of logs that a call makes by appending. The reference of layer 10: Keys. The reference of layer 11: log. The reference of layer 5: length. The reference of layer 5: raw. The reference of layer 5: Of. The reference of layer 5: what a head tells, as the model has it. The reference's Texts of layer 6: a list of bytes as an item. The reference of layer 5: read. The reference of layer 5: read, walked. The reference of layer 5: Decode. The reference of layer 11: read. -/
import Derived.Test.YtebjhbeaknokkaaGreatDoorH15
import Derived.Test.YtebjhbeaknokkaaGreatDoorH08
import Derived.Test.YtebjhbeaknokkaaGreatDoorH12
import Derived.Test.YtebjhbeaknokkaaGreatDoorH14
import Derived.Test.YtebjhbeaknokkaaGreatDoorH07
import Derived.Test.YtebjhbeaknokkaaGreatDoorH11
import Derived.Test.YtebjhbeaknokkaaGreatDoorH06
import Derived.Test.YtebjhbeaknokkaaGreatDoorH01
import Derived.OrdersHeld
open List renaming getElem_toArray → zqA, getElem_cons_succ → zqB, getElem_cons_zero → zqC, setIfInBounds_toArray → zqD, set_cons_zero → zqE, set_cons_succ → zqF
namespace Go.Proofs.YtebjhbeaknokkaaGreatDoor
open Go Go.RowKit

def sv (s : List UInt8) : Value := .string ⟨s.toArray⟩
structure StRow (B : Nat) (w : World) (ls : List (List UInt8)) (v : Value) : Prop where
  own : w.ownsRow B 9 1 v ls.length (ls.map sv)
theorem StRow.nil (B : Nat) (w : World) : StRow B w [] (.slice none 0 0) := ⟨World.ownsRow_nil _ _ _ _⟩
theorem StRow.above {B : Nat} {w W : World} {ls : List (List UInt8)} {v : Value} (h : StRow B w ls v) (hb : ∀ b, B ≤ b → b < w.heap.size → W.heap[b]? = w.heap[b]?) : StRow B W ls v := by
  refine ⟨⟨h.own.1, ?_⟩⟩
  rcases h.own.2 with h0 | ⟨g, cap, cur, hv, hB, hg, h1⟩
  · exact .inl h0
  · exact .inr ⟨g, cap, cur, hv, hB, (hb g hB (Array.getElem?_eq_some_iff.1 hg).1).trans hg, h1⟩
theorem StRow.from_ {B : Nat} {w W : World} {ls : List (List UInt8)} {v : Value} (h : StRow B w ls v) (hb : Below w.heap.size w W) : StRow B W ls v := h.above fun b _ hl => hb.block b hl
theorem StRow.ts {B : Nat} {w : World} {ls : List (List UInt8)} {v : Value} (h : StRow B w ls v) : Ts w w.heap.size ls v ∧ OffB B v ∧ ∃ a cap, v = .slice a ls.length cap := by
  rcases h.own.2 with ⟨hv, h0⟩ | ⟨g, cap, cur, hv, hB, hg, hc, hm, h1⟩
  · obtain rfl := List.eq_nil_of_length_eq_zero h0
    subst hv
    exact ⟨.nil_ (by decide), OffB.none_ _ _ _, none, 0, rfl⟩
  · have hcell := h.own.cells (g := g) (by rw [hv]; rfl)
    subst hv
    refine ⟨.row (Array.getElem?_eq_some_iff.1 hg).1 hc hm fun i s e => ?_, fun k o n c e => by cases e; exact hB, _, _, rfl⟩
    have := hcell i (sv s) (by rw [List.getElem?_map, e]; rfl)
    rw [addr_add] at this
    exact this
theorem str_append {B : Nat} {w : World} {ls : List (List UInt8)} {v : Value} (hL : StRow B w ls v) (hB : B ≤ w.heap.size) (hlen : ls.length ≤ 100000) (ty : TypeId) (ad : Addr) (c : Nat) (d : List UInt8)
    (hnews : w.cell? ad = some (.string ⟨d.toArray⟩)) :
    ∃ v' w', (Builtin.append_ #[37, 37] ty #[v, .slice (some ad) 1 c]).run Tryz.prog w = .ok v' w' ∧ StRow B w' (ls ++ [d]) v' ∧ w.grownBy w' v.ownBlock := by
  obtain ⟨i, hi, hz0, hz1, hz2⟩ := info_parts Tryz.ofTxt
  have h1 : ∀ x ∈ ([sv d] : List Value), x.oneCell' = true := by
    intro x hx
    simp only [List.mem_singleton] at hx
    subst hx
    rfl
  obtain ⟨v', w', hr, ho, hg, _⟩ := run_append_own (P := Tryz.prog) w B 37 ty 9 i _ 1 16 Tryz.underlying37 hi hz0 hz1 hz2 rfl (by omega) v ls.length _ hL.own ad 1 c [sv d] rfl
    (fun j x hx => by
      match j, hx with
      | 0, hx =>
        obtain rfl : sv d = x := by simpa using hx
        rw [show ad.add 0 = ad by simp [Addr.add]]
        exact hnews
      | j + 1, hx => simp at hx) h1 (by simp only [maxLen]; omega) (by omega) hB
  refine ⟨v', w', hr, ⟨?_⟩, hg⟩
  rw [List.map_append, List.length_append]
  exact ho

def c3g (p : M.Lg × Value) : List Value := [.string ⟨p.1.addr.toArray⟩, p.2, .string ⟨p.1.data.toArray⟩]
def OutT (ls : List (List UInt8)) (u : Value) (ob : Option Nat) : Prop := ls ≠ [] → ∀ h o n c, u = .slice (some ⟨h, o, none⟩) n c → some h ≠ ob
structure LgRow (B : Nat) (w : World) (L : List (M.Lg × Value)) (v : Value) : Prop where
  own : w.ownsRow B 39 3 v L.length (L.flatMap c3g)
  kid : ∀ p ∈ L, Ts w w.heap.size p.1.topics p.2 ∧ OutT p.1.topics p.2 v.ownBlock
theorem lflat_at : ∀ (L : List (M.Lg × Value)) (i : Nat) (p : M.Lg × Value), L[i]? = some p →
    (L.flatMap c3g)[i * 3]? = some (.string ⟨p.1.addr.toArray⟩) ∧ (L.flatMap c3g)[i * 3 + 1]? = some p.2 ∧ (L.flatMap c3g)[i * 3 + 2]? = some (.string ⟨p.1.data.toArray⟩)
  | [], i, p, h => by simp at h
  | q :: L, 0, p, h => by
    simp at h
    subst h
    simp [c3g]
  | q :: L, i + 1, p, h => by
    simp at h
    obtain ⟨e0, e1, e2⟩ := lflat_at L i p h
    rw [show (i + 1) * 3 = i * 3 + 3 by omega]
    simpa [c3g] using ⟨e0, e1, e2⟩
theorem LgRow.nil (B : Nat) (w : World) : LgRow B w [] (.slice none 0 0) := ⟨World.ownsRow_nil _ _ _ _, fun _ h => by cases h⟩
theorem LgRow.from_ {B : Nat} {w W : World} {L : List (M.Lg × Value)} {v : Value} (h : LgRow B w L v) (hb : Below w.heap.size w W) : LgRow B W L v := by
  refine ⟨⟨h.own.1, ?_⟩, fun p hp => ⟨(h.kid p hp).1.kept_ hb, (h.kid p hp).2⟩⟩
  rcases h.own.2 with h0 | ⟨g, cap, cur, hv, hB, hg, h1⟩
  · exact .inl h0
  · exact .inr ⟨g, cap, cur, hv, hB, (hb.block g (Array.getElem?_eq_some_iff.1 hg).1).trans hg, h1⟩
theorem LgRow.ls {B : Nat} {w : World} {L : List (M.Lg × Value)} {v : Value} (h : LgRow B w L v) : Ls w w.heap.size (L.map (·.1)) v := by
  rcases h.own.2 with ⟨hv, h0⟩ | ⟨g, cap, cur, hv, hB, hg, hc, hm, h1⟩
  · obtain rfl := List.eq_nil_of_length_eq_zero h0
    subst hv
    exact .nil_ (by decide)
  · have hcell := h.own.cells (g := g) (by rw [hv]; rfl)
    have hat : ∀ i x, (L.map (·.1))[i]? = some x → ∃ u, L[i]? = some (x, u) := fun i x e => by
      rw [List.getElem?_map] at e
      cases hl : L[i]? with
      | none => rw [hl] at e; cases e
      | some p =>
        rw [hl] at e
        obtain ⟨y, u⟩ := p
        simp at e
        subst e
        exact ⟨u, hl⟩
    have key := Ls.row (w := w) (n := w.heap.size) (ls := L.map (·.1)) (b := g) (o := 0) (cap := cap) (fun i => ((L[i]?).map (·.2)).getD Go.undef) (Array.getElem?_eq_some_iff.1 hg).1 (by simpa using hc) hm
      (fun i x e => by
        obtain ⟨u, hu⟩ := hat i x e
        have := hcell _ _ (lflat_at L i _ hu).1
        rw [addr_add] at this
        simpa using this)
      (fun i x e => by
        obtain ⟨u, hu⟩ := hat i x e
        have := hcell _ _ (lflat_at L i _ hu).2.1
        rw [addr_add] at this
        simpa [Nat.add_assoc, hu] using this)
      (fun i x e => by
        obtain ⟨u, hu⟩ := hat i x e
        have := hcell _ _ (lflat_at L i _ hu).2.2
        rw [addr_add] at this
        simpa [Nat.add_assoc] using this)
      (fun i x e => by
        obtain ⟨u, hu⟩ := hat i x e
        have := (h.kid _ (List.mem_of_getElem? hu)).1
        simpa [hu] using this)
    rw [hv]
    rw [List.length_map] at key
    exact key
theorem Ts.keepT {w W : World} {ls : List (List UInt8)} {u : Value} {ob : Option Nat} (h : Ts w w.heap.size ls u) (ho : OutT ls u ob) (hz : w.heap.size ≤ W.heap.size) (hb : ∀ b, b < w.heap.size → some b ≠ ob → W.heap[b]? = w.heap[b]?) : Ts W W.heap.size ls u := by
  cases h with
  | nil_ hm => exact .nil_ hm
  | @row _ k o cap hlt hc hm c =>
    cases ls with
    | nil => exact .nil_ hm
    | cons s ls =>
      have hk := hb k hlt (ho (by simp) k o _ _ rfl)
      exact .row (by omega) hc hm fun i s e => (World.cell?_of_block (a := ⟨k, _, none⟩) hk).trans (c i s e)
theorem Ts.lt_ {w : World} {n : Nat} {ls : List (List UInt8)} {u : Value} (h : Ts w n ls u) (hl : ls ≠ []) : ∀ k o m c, u = .slice (some ⟨k, o, none⟩) m c → k < n := by
  cases h with
  | nil_ hm => exact absurd rfl hl
  | row hlt hc hm c => intro k o m c' e; cases e; exact hlt
theorem lg_append {B : Nat} {w : World} {L : List (M.Lg × Value)} {v : Value} (hL : LgRow B w L v) (hB : B ≤ w.heap.size) (hlen : L.length ≤ 100000) (ty : TypeId) (ad : Addr) (c : Nat) (x : M.Lg) (u : Value)
    (hnews : ∀ j y, (c3g (x, u))[j]? = some y → w.cell? (ad.add j) = some y) (hu : u.oneCell' = true) (hk : Ts w w.heap.size x.topics u ∧ OutT x.topics u v.ownBlock) :
    ∃ v' w', (Builtin.append_ #[23, 23] ty #[v, .slice (some ad) 1 c]).run Tryz.prog w = .ok v' w' ∧ LgRow B w' (L ++ [(x, u)]) v' ∧ w.grownBy w' v.ownBlock := by
  obtain ⟨i, hi, hz0, hz1, hz2⟩ := info_parts Tryz.ofLog
  have h1 : ∀ y ∈ c3g (x, u), y.oneCell' = true := by
    intro y hy
    simp only [c3g, List.mem_cons, List.not_mem_nil, or_false] at hy
    rcases hy with rfl | rfl | rfl
    · rfl
    · exact hu
    · rfl
  obtain ⟨v', w', hr, ho, hg, _⟩ := run_append_own (P := Tryz.prog) w B 23 ty 39 i _ 3 56 Tryz.underlying23 hi hz0 hz1 hz2 rfl (by omega) v L.length _ hL.own ad 1 c (c3g (x, u)) rfl hnews h1 (by simp only [maxLen]; omega) (by omega) hB
  have hblk : v'.ownBlock = v.ownBlock ∨ v'.ownBlock = some w.heap.size := by
    rcases hL.own.2 with ⟨rfl, h0⟩ | ⟨g, cap, cur, rfl, hbg, hgc, hnc, hcm, hcs, htake⟩
    · have h2 := run_append_nil (P := Tryz.prog) w 23 ty 39 i _ Tryz.underlying23 hi hz0 ad 1 c (c3g (x, u)) (by rw [hz1]; rfl) hnews (by omega) (by omega) (by rw [hz2]; omega)
      rw [h2] at hr
      cases hr
      exact .inr rfl
    · by_cases hroom : L.length + 1 ≤ cap
      · have h2 := run_append_room (P := Tryz.prog) w 23 ty 39 i Tryz.underlying23 hi g L.length cap cur hgc ad 1 c (c3g (x, u)) (by rw [hz1]; rfl) hnews h1 hroom (by rw [hz1, hcs]; show L.length * 3 + 3 ≤ cap * 3; omega)
        rw [h2] at hr
        cases hr
        exact .inl rfl
      · have h2 := run_append_grow (P := Tryz.prog) w 23 ty 39 i _ Tryz.underlying23 hi hz0 ⟨g, 0, none⟩ L.length cap _ (by rw [hz1]; exact hL.own.1) (hL.own.cells (g := g) rfl) ad 1 c (c3g (x, u)) (by rw [hz1]; rfl) hnews (by omega) (by omega) (growslice_fits (by omega) (by rw [hz2]; omega))
        rw [h2] at hr
        cases hr
        exact .inr rfl
  refine ⟨v', w', hr, ⟨?_, ?_⟩, hg⟩
  · rw [List.flatMap_append, List.length_append]
    simpa [c3g] using ho
  · have hS : ∀ (ls : List (List UInt8)) (z : Value), Ts w w.heap.size ls z ∧ OutT ls z v.ownBlock → Ts w' w'.heap.size ls z ∧ OutT ls z v'.ownBlock := fun ls z ⟨k1, k2⟩ => by
      refine ⟨k1.keepT k2 hg.size fun b hb hne => hg.block b hb hne, fun hl k o n c e => ?_⟩
      rcases hblk with q | q
      · rw [q]; exact k2 hl k o n c e
      · rw [q]
        have := k1.lt_ hl k o n c e
        intro hq
        cases hq
        omega
    intro p hp
    rcases List.mem_append.1 hp with h | h
    · exact hS _ _ (hL.kid p h)
    · simp only [List.mem_singleton] at h
      subst h
      exact hS _ _ hk
end Go.Proofs.YtebjhbeaknokkaaGreatDoor
namespace Go.Proofs.YtebjhbeaknokkaaGreatDoor
open Go Go.RowKit Go.Lib
attribute [local go_sem] Oper.semAt_some

def M.eachR {α : Type} (f : M.It → α × Nat) (xs : List M.It) : List α × Nat := if M.firstE (xs.map fun x => (f x).2) = 0 then (xs.map fun x => (f x).1, 0) else ([], M.firstE (xs.map fun x => (f x).2))
def M.keysR (most n : Int) (x : M.It) : List (List UInt8) × Nat := if (M.getList 0 most x).2 ≠ 0 then ([], (M.getList 0 most x).2) else M.eachR (rText n) (M.getList 0 most x).1
theorem M.eachR_bad {α : Type} {f : M.It → α × Nat} {xs : List M.It} {k : Nat} {x : M.It} (h : ∀ y ∈ xs.take k, (f y).2 = 0) (hx : xs[k]? = some x) (h0 : (f x).2 ≠ 0) : M.eachR f xs = ([], (f x).2) := by
  have e : M.firstE (xs.map fun x => (f x).2) = (f x).2 := M.firstE_at (n := k) (fun y hy => by
    rw [← List.map_take] at hy
    obtain ⟨z, hz, rfl⟩ := List.mem_map.1 hy
    exact h z hz) (by rw [List.getElem?_map, hx]; rfl) h0
  unfold M.eachR
  rw [e, if_neg h0]
theorem M.eachR_good {α : Type} {f : M.It → α × Nat} {xs : List M.It} (h : ∀ y ∈ xs, (f y).2 = 0) : M.eachR f xs = (xs.map fun x => (f x).1, 0) := by
  have e : M.firstE (xs.map fun x => (f x).2) = 0 := M.firstE_none fun y hy => by
    obtain ⟨z, hz, rfl⟩ := List.mem_map.1 hy
    exact h z hz
  unfold M.eachR
  rw [if_pos e]
theorem M.each_take {α : Type} {f : M.It → α × Nat} {xs : List M.It} {k : Nat} {x : M.It} (h : ∀ y ∈ xs.take k, (f y).2 = 0) (hx : xs[k]? = some x) (h0 : (f x).2 = 0) : ∀ y ∈ xs.take (k + 1), (f y).2 = 0 := by
  intro y hy
  rw [List.take_add_one, hx] at hy
  rcases List.mem_append.1 hy with hy | hy
  · exact h y hy
  · obtain rfl : y = x := by simpa using hy
    exact h0
theorem M.map_take {α : Type} {f : M.It → α × Nat} {xs : List M.It} {k : Nat} {x : M.It} (hx : xs[k]? = some x) : ((xs.take (k + 1)).map fun x => (f x).1) = ((xs.take k).map fun x => (f x).1) ++ [(f x).1] := by
  rw [List.take_add_one, hx, List.map_append]
  rfl
theorem Lay.keptW {w W : World} {xs : List M.It} {v : Value} (h : Lay w w.heap.size xs v) (hb : Below w.heap.size w W) : Lay W W.heap.size xs v := (h.from_ hb).mono hb.size
theorem grown_below {A : Nat} {w W W2 : World} {r : Option Nat} (h : Below A w W) (g : W.grownBy W2 r) (hr : ∀ j, j < A → some j ≠ r) (hA : A ≤ W.heap.size) : Below A w W2 :=
  ⟨g.os.trans h.os, g.tape.trans h.tape, g.output.trans h.output, Nat.le_trans h.size g.size, fun i hi => (g.block i (Nat.lt_of_lt_of_le hi hA) (hr i hi)).trans (h.block i hi)⟩
set_option maxRecDepth 100000 in
set_option maxHeartbeats 4000000 in
theorem rkeys_any (l : Bool) (d : List UInt8) (xs : List M.It) (a : Option Addr) (cap : Nat) (most n : Int) (w : World) (hL : Lay w w.heap.size xs (.slice a xs.length cap)) (hm : most ≤ 1000) :
    Calls Tryz.prog 192 #[iv l d (.slice a xs.length cap), .int .i64 most, .int .i64 n] w fun e w' => (∃ v, e = .returned (.tuple #[v, .int .i64 ((M.keysR most n (.mk l d xs)).2 : Nat)]) ∧ Ts w' w'.heap.size (M.keysR most n (.mk l d xs)).1 v ∧ OffB w.heap.size v) ∧ Below w.heap.size w w' := by
  have hbx := Box.new w l d (.slice a xs.length cap) 44
  obtain ⟨w0, hw0⟩ : ∃ w0, w.alloc (.cells #[.bool l, .string ⟨d.toArray⟩, .slice a xs.length cap] 44) = w0 := ⟨_, rfl⟩
  have hb0 : Below w.heap.size w w0 := by rw [← hw0]; exact (Below.refl _ _).alloc (Nat.le_refl _) _
  rw [hw0] at hbx
  have p0 := hbx.c0
  have p1 := hbx.c1
  have p2 := hbx.c2
  have HB := Lib.hid hb0
  have HW := Lib.hid hw0
  have HL := Lib.hid hL
  have HG := Lib.hid (rgl_any l d xs a cap 0 most w0)
  obtain ⟨r1, r2, hR⟩ : ∃ r1 r2, M.keysR most n (.mk l d xs) = (r1, r2) := ⟨_, _, rfl⟩
  rw [hR]
  dsimp only
  unfold M.keysR at hR
  have hgl : (M.getList 0 most (.mk l d xs)).2 = 0 → (M.getList 0 most (.mk l d xs)).1 = xs ∧ (xs.length : Int) ≤ most := by
    cases l with
    | false => intro h; cases h
    | true =>
      rw [M.getList_t]
      rw [if_neg (by omega)]
      split
      · intro h; cases h
      · intro _; exact ⟨rfl, by omega⟩
  generalize M.getList 0 most (.mk l d xs) = gl at *
  obtain ⟨g1, ge⟩ := gl
  dsimp only at hR hgl
  clear hbx hw0 hb0 hL
  go_enter Tryz.func192, Tryz.ntmps192
  go_wp2_with (rw [HW.out])
  try rw [HW.out]
  refine HG.out.mono ?_
  rintro e w1 ⟨rfl, hb1⟩
  have HB1 := Lib.hid (HB.out.trans (hb1.mono HB.out.size))
  clear hb1 p0 p1 p2 HG HB
  by_cases hg : ge = 0
  · subst hg
    obtain ⟨rfl, hmx⟩ := hgl rfl
    rw [if_neg (by simp)] at hR
    have HR := Lib.hid hR
    have hx4 : g1.length ≤ 1000 := by omega
    clear hR hgl HW
    go_wp2_with (first | rw [if_pos rfl])
    go_loopw [10, 11, 12, 13] (fun u i s f wr => ∃ k : Nat, k ≤ g1.length ∧ i = .int .i64 k ∧ (∀ y ∈ g1.take k, (rText n y).2 = 0) ∧ StRow w.heap.size wr ((g1.take k).map fun x => (rText n x).1) u ∧ Below w.heap.size w wr) (fun _ i _ _ _ => g1.length - (RowKit.intOf i).toNat)
    case atStart => exact ⟨0, by omega, rfl, by simp, StRow.nil _ _, HB1.out⟩
    case round =>
      obtain ⟨k, hk, rfl, hG, hT, hwr⟩ := hrel
      by_cases hlt : k < g1.length
      · have hlti : (k : Int) < (g1.length : Int) := by omega
        have hk2 : k < 1000 := by omega
        obtain ⟨b, o, cap', l', d', ys, u', he, hbn, hx, c0, c1, c2, hK⟩ := (HL.out.from_ hwr).at_ hlt
        cases he
        have HX := Lib.hid hx
        have HT := Lib.hid hT
        have HGG := Lib.hid hG
        have HWR := Lib.hid hwr
        clear hx hT hG hwr hK
        go_wp2_with fail
        refine (rlong_any l' d' ys u' n wr).mono ?_
        rintro e w2 ⟨rfl, hb2⟩
        have HB2 := Lib.hid (HWR.out.trans (hb2.mono HWR.out.size))
        have HT2 := Lib.hid (HT.out.from_ hb2)
        clear hb2 HT HWR
        by_cases h0 : (rText n (.mk l' d' ys)).2 = 0
        · have hG2 := M.each_take HGG.out HX.out h0
          have hM2 := M.map_take (f := rText n) HX.out
          rw [h0]
          have HG2 := Lib.hid hG2
          have HM2 := Lib.hid hM2
          clear hG2 hM2 h0 HGG
          generalize (rText n (.mk l' d' ys)).1 = s at *
          have hB3 : Below w.heap.size w (w2.alloc (.cells #[.string ⟨s.toArray⟩] 9)) := HB2.out.alloc HB2.out.size _
          have hT3 := HT2.out.from_ ((Below.refl w2.heap.size w2).alloc (Nat.le_refl _) (.cells #[.string ⟨s.toArray⟩] 9))
          have hc3 : (w2.alloc (.cells #[.string ⟨s.toArray⟩] 9)).cell? ⟨w2.heap.size, 0, none⟩ = some (.string ⟨s.toArray⟩) := by simp [go_sem]
          obtain ⟨v4, w4, hr4, hT4, hg4⟩ := str_append hT3 hB3.size (by simp; omega) 37 ⟨w2.heap.size, 0, none⟩ 1 s hc3
          have hB4 := grown_below hB3 hg4 (fun j hj e => by have := (World.ownsRow.lt hT3.own j e.symm).1; omega) hB3.size
          have HR4 := Lib.hid hr4
          have HT4 := Lib.hid hT4
          have HB4 := Lib.hid hB4
          clear hr4 hT4 hB4 hg4 hc3 hT3 hB3 HT2 HB2
          go_wp2_with (at_builtin; refine wpList_append_run rfl _ _ _ rfl _ _ _ rfl rfl HR4.out ?_)
          go_roundw
          case rel => exact ⟨k + 1, by omega, by simp, HG2.out, HM2.out ▸ HT4.out, HB4.out⟩
          case measure => simp [RowKit.intOf]; omega
        · have hbad := M.eachR_bad HGG.out HX.out h0
          rw [HR.out] at hbad
          obtain ⟨rfl, hq⟩ : r1 = [] ∧ (rText n (.mk l' d' ys)).2 = r2 := ⟨by simpa using congrArg Prod.fst hbad, by simpa using (congrArg Prod.snd hbad).symm⟩
          rw [hq] at h0
          rw [hq]
          clear hbad HR hq
          generalize (rText n (.mk l' d' ys)).1 = s at *
          have h1 : ((r2 : Int) == 0) = false := by simp [h0]
          have h2 : ¬ (r2 : Int) = 0 := by omega
          go_wp2_with fail
          go_ret2
          exact ⟨⟨_, rfl, .nil_ (by decide), OffB.none_ _ _ _⟩, HB2.out⟩
      · obtain rfl : k = g1.length := by omega
        rw [List.take_length] at hG hT
        have hgood := M.eachR_good hG
        rw [HR.out] at hgood
        obtain ⟨rfl, rfl⟩ : r1 = g1.map (fun x => (rText n x).1) ∧ r2 = 0 := by simpa using hgood
        obtain ⟨t1, t2, va, vc, hv⟩ := hT.ts
        rw [List.length_map] at hv
        subst hv
        have HH := Lib.hid (And.intro t1 t2)
        clear t1 t2 hT hG
        go_wp2_with fail
        go_ret2
        exact ⟨⟨_, rfl, HH.out.1, HH.out.2⟩, hwr⟩
  · rw [if_pos hg] at hR
    obtain ⟨rfl, rfl⟩ : [] = r1 ∧ ge = r2 := by simpa using hR
    have h1 : ((ge : Int) == 0) = false := by simp [hg]
    have h2 : ¬ (ge : Int) = 0 := by omega
    clear hgl
    go_wp2_with (first | rw [if_neg hg])
    go_ret2
    exact ⟨⟨_, rfl, .nil_ (by decide), OffB.none_ _ _ _⟩, HB1.out⟩
end Go.Proofs.YtebjhbeaknokkaaGreatDoor
namespace Go.Proofs.YtebjhbeaknokkaaGreatDoor
open Go Go.RowKit Go.Lib
attribute [local go_sem] Oper.semAt_some

def M.partsL (x0 x1 x2 : M.It) : M.Lg × Nat := (⟨(rText 20 x0).1, (M.keysR 4 32 x1).1, (M.getText 0 4096 x2).1⟩, M.firstE [(rText 20 x0).2, (M.keysR 4 32 x1).2, (M.getText 0 4096 x2).2])
def M.logR (x : M.It) : M.Lg × Nat := if (M.getList 3 3 x).2 ≠ 0 then (⟨[], [], []⟩, (M.getList 3 3 x).2) else M.partsL ((M.getList 3 3 x).1.getD 0 M.zeroI) ((M.getList 3 3 x).1.getD 1 M.zeroI) ((M.getList 3 3 x).1.getD 2 M.zeroI)
theorem Tryz.lgSize : (Tryz.prog.info? 39).map (·.size) = some 3 := by kernel_rfl
theorem lgd_row {fn : Func} (hres : fn.results = #[.cell 2 39, .tmp 3]) (w1 : World) (tmps : Array Value) (cs old : Array Value) (hz : cs.size = 3) (g : Nat) (er : Nat)
    (hrow : w1.heap[g]? = some (.cells old 39 (0, 0))) (R : Ending → World → Prop) (hp : tmps.getD 2 undef = .pointer (some ⟨g, 0, none⟩)) (h3 : tmps.getD 3 undef = .int .i64 (er : Nat))
    (h : R (.returned (.tuple #[.agg cs, .int .i64 (er : Nat)])) (w1.setRow g cs)) :
    bodyPost Tryz.prog fn R .ret { tmps := tmps, defers := [] } (w1.setRow g cs) := by
  have := results_cell_one hres tmps Tryz.prog (w1.setRow g cs) ⟨g, 0, none⟩ (.agg cs) hp (run_loadVar_row _ _ _ _ _ (0, 0) _ (setRow_heap w1 g old cs 39 (0, 0) hrow) Tryz.underlying39 rfl (by rw [Tryz.lgSize, hz]))
  rw [h3] at this
  exact bodyPost_ret this rfl h
theorem Ts.sl {w : World} {n : Nat} {ls : List (List UInt8)} {u : Value} (h : Ts w n ls u) : ∃ a m c, u = .slice a m c := by
  cases h with
  | nil_ hm => exact ⟨_, _, _, rfl⟩
  | row hlt hc hm c => exact ⟨_, _, _, rfl⟩
theorem Ts.offRow {w : World} {A g : Nat} {ls : List (List UInt8)} {u : Value} (h : Ts w w.heap.size ls u) (ho : OffB A u) (hg : g < A) (cs : Array Value) : Ts (w.setRow g cs) (w.setRow g cs).heap.size ls u := by
  rw [setRow_size]
  exact h.row_ ho hg cs
theorem below_row {A g : Nat} {w W : World} (h : Below A w W) (hg : A ≤ g) (cs : Array Value) : Below A w (W.setRow g cs) :=
  h.trans ⟨rfl, rfl, rfl, by rw [setRow_size]; exact Nat.le_refl _, fun i hi => setRow_other _ _ _ _ (by omega)⟩
set_option maxRecDepth 100000 in
set_option maxHeartbeats 4000000 in
theorem rlogR_any (l : Bool) (d : List UInt8) (xs : List M.It) (a : Option Addr) (cap : Nat) (w : World) (hL : Lay w w.heap.size xs (.slice a xs.length cap)) :
    Calls Tryz.prog 117 #[iv l d (.slice a xs.length cap)] w fun e w' => (∃ u, e = .returned (.tuple #[.agg #[.string ⟨(M.logR (.mk l d xs)).1.addr.toArray⟩, u, .string ⟨(M.logR (.mk l d xs)).1.data.toArray⟩], .int .i64 ((M.logR (.mk l d xs)).2 : Nat)]) ∧ Ts w' w'.heap.size (M.logR (.mk l d xs)).1.topics u ∧ OffB w.heap.size u) ∧ Below w.heap.size w w' := by
  have hbx := Box.new w l d (.slice a xs.length cap) 44
  obtain ⟨wx, hwx⟩ : ∃ wx, w.alloc (.cells #[.bool l, .string ⟨d.toArray⟩, .slice a xs.length cap] 44) = wx := ⟨_, rfl⟩
  have hbx0 : Below w.heap.size w wx := by rw [← hwx]; exact (Below.refl _ _).alloc (Nat.le_refl _) _
  have hzx : wx.heap.size = w.heap.size + 1 := by rw [← hwx]; simp
  rw [hwx] at hbx
  obtain ⟨w0, hw0⟩ : ∃ w0, wx.alloc (.cells #[.string ⟨#[]⟩, .slice none 0 0, .string ⟨#[]⟩] 39) = w0 := ⟨_, rfl⟩
  have hbx1 : Below wx.heap.size wx w0 := by rw [← hw0]; exact (Below.refl _ _).alloc (Nat.le_refl _) _
  have hb0 : Below w.heap.size w w0 := hbx0.trans (hbx1.mono hbx0.size)
  have hrow0 : w0.heap[w.heap.size + 1]? = some (.cells #[.string ⟨#[]⟩, .slice none 0 0, .string ⟨#[]⟩] 39 (0, 0)) := by rw [← hw0, ← hzx]; exact heap_alloc_new wx _
  have hz0 : w0.heap.size = w.heap.size + 2 := by rw [← hw0]; simp; omega
  have p0 : w0.cell? ⟨w.heap.size, 0, none⟩ = _ := (hbx1.cell (p := ⟨w.heap.size, 0, none⟩) (by rw [hzx]; exact Nat.lt_succ_self _)).trans hbx.c0
  have p1 : w0.cell? ⟨w.heap.size, 1, none⟩ = _ := (hbx1.cell (p := ⟨w.heap.size, 1, none⟩) (by rw [hzx]; exact Nat.lt_succ_self _)).trans hbx.c1
  have p2 : w0.cell? ⟨w.heap.size, 2, none⟩ = _ := (hbx1.cell (p := ⟨w.heap.size, 2, none⟩) (by rw [hzx]; exact Nat.lt_succ_self _)).trans hbx.c2
  have HG := Lib.hid (rgl_any l d xs a cap 3 3 w0)
  obtain ⟨r1, r2, hR⟩ : ∃ r1 r2, M.logR (.mk l d xs) = (r1, r2) := ⟨_, _, rfl⟩
  rw [hR]
  dsimp only
  unfold M.logR at hR
  have hgl : (M.getList 3 3 (.mk l d xs)).2 = 0 → M.getList 3 3 (.mk l d xs) = (xs, 0) ∧ xs.length = 3 := by
    cases l with
    | false => intro h; cases h
    | true =>
      rw [M.getList_t]
      by_cases h1 : (xs.length : Int) < 3
      · rw [if_pos h1]; intro h; cases h
      · rw [if_neg h1]
        by_cases h2 : (3 : Int) < xs.length
        · rw [if_pos h2]; intro h; cases h
        · rw [if_neg h2]; exact fun _ => ⟨rfl, by omega⟩
  have HB := Lib.hid hb0
  have HX := Lib.hid hwx
  have HW := Lib.hid hw0
  have HRW := Lib.hid hrow0
  have HZX := Lib.hid hzx
  have HZ0 := Lib.hid hz0
  have HL := Lib.hid hL
  obtain ⟨g, hg⟩ : ∃ g, w.heap.size + 1 = g := ⟨_, rfl⟩
  rw [hg] at HRW
  have HGE := Lib.hid hg
  clear hbx hwx hbx0 hzx hw0 hbx1 hb0 hrow0 hz0 hL
  go_enter Tryz.func117, Tryz.ntmps117
  go_wp2_with (first | rw [HX.out] | rw [HW.out])
  try rw [HX.out]
  try rw [HW.out]
  rw [HZX.out, hg]
  clear hg
  refine HG.out.mono ?_
  rintro e w1 ⟨rfl, hb1⟩
  have HB1 := Lib.hid (HB.out.trans (hb1.mono HB.out.size))
  have HRW1 := Lib.hid ((hb1.block g (by have := HZ0.out; have := HGE.out; omega)).trans HRW.out)
  have HZ1 := Lib.hid (show g < w1.heap.size by have := hb1.size; have := HZ0.out; have := HGE.out; omega)
  clear hb1 p0 p1 p2 HG HB HRW
  by_cases hg0 : (M.getList 3 3 (.mk l d xs)).2 = 0
  · obtain ⟨hgx, h3⟩ := hgl hg0
    rw [hgx, if_neg (by simp)] at hR
    rw [hgx]
    clear hgl hg0 hgx
    obtain ⟨x0, x1, x2, rfl⟩ : ∃ x0 x1 x2, xs = [x0, x1, x2] := by
      match xs, h3 with
      | [x0, x1, x2], _ => exact ⟨x0, x1, x2, rfl⟩
    clear h3
    obtain ⟨b, o, cap', l0, d0, y0, u0, he0, hbn, hx0, c00, c01, c02, hK0⟩ := HL.out.at_ (k := 0) (by simp)
    cases he0
    obtain ⟨b', o', cap2, l1, d1, y1, u1, he1, -, hx1, c10, c11, c12, hK1⟩ := HL.out.at_ (k := 1) (by simp)
    cases he1
    obtain ⟨b', o', cap3, l2, d2, y2, u2, he2, -, hx2, c20, c21, c22, hK2⟩ := HL.out.at_ (k := 2) (by simp)
    cases he2
    obtain rfl : x0 = .mk l0 d0 y0 := by simpa using hx0
    obtain rfl : x1 = .mk l1 d1 y1 := by simpa using hx1
    obtain rfl : x2 = .mk l2 d2 y2 := by simpa using hx2
    obtain ⟨va, vc, rfl, -, -⟩ := hK1.slice
    obtain ⟨wa, wc, rfl, -, -⟩ := hK2.slice
    have HC := Lib.hid (fun W (h : Below w.heap.size w W) => (show W.cell? ⟨b, o, none⟩ = some (.bool l0) ∧ W.cell? ⟨b, o + 1, none⟩ = some (.string ⟨d0.toArray⟩) ∧ W.cell? ⟨b, o + 2, none⟩ = some u0 from ⟨(h.cell (p := ⟨b, _, none⟩) hbn).trans c00, (h.cell (p := ⟨b, _, none⟩) hbn).trans c01, (h.cell (p := ⟨b, _, none⟩) hbn).trans c02⟩))
    have HD := Lib.hid (fun W (h : Below w.heap.size w W) => (show W.cell? ⟨b, o + 3, none⟩ = some (.bool l1) ∧ W.cell? ⟨b, o + 4, none⟩ = some (.string ⟨d1.toArray⟩) ∧ W.cell? ⟨b, o + 5, none⟩ = some (.slice va y1.length vc) from ⟨(h.cell (p := ⟨b, _, none⟩) hbn).trans c10, (h.cell (p := ⟨b, _, none⟩) hbn).trans c11, (h.cell (p := ⟨b, _, none⟩) hbn).trans c12⟩))
    have HE := Lib.hid (fun W (h : Below w.heap.size w W) => (show W.cell? ⟨b, o + 6, none⟩ = some (.bool l2) ∧ W.cell? ⟨b, o + 7, none⟩ = some (.string ⟨d2.toArray⟩) ∧ W.cell? ⟨b, o + 8, none⟩ = some (.slice wa y2.length wc) from ⟨(h.cell (p := ⟨b, _, none⟩) hbn).trans c20, (h.cell (p := ⟨b, _, none⟩) hbn).trans c21, (h.cell (p := ⟨b, _, none⟩) hbn).trans c22⟩))
    have HK1 := Lib.hid hK1
    have hR' : M.partsL (.mk l0 d0 y0) (.mk l1 d1 y1) (.mk l2 d2 y2) = (r1, r2) := hR
    unfold M.partsL at hR'
    have HR := Lib.hid hR'
    clear hR hR' hK0 hK1 hK2 c00 c01 c02 c10 c11 c12 c20 c21 c22 hx0 hx1 hx2 HX HW HL
    obtain ⟨c0, c1, c2⟩ := HC.out w1 HB1.out
    go_wp2_with (first | rw [if_pos rfl])
    refine (rlong_any l0 d0 y0 u0 20 w1).mono ?_
    rintro e w2 ⟨rfl, hb2⟩
    have HB2 := Lib.hid (HB1.out.trans (hb2.mono HB1.out.size))
    have HRW2 := Lib.hid ((hb2.block g HZ1.out).trans HRW1.out)
    have HZ2 := Lib.hid (Nat.lt_of_lt_of_le HZ1.out hb2.size)
    clear c0 c1 c2 hb2 HRW1
    obtain ⟨c0, c1, c2⟩ := HD.out w2 HB2.out
    go_wp2_with fail
    refine (rkeys_any l1 d1 y1 va vc 4 32 w2 ((HK1.out.from_ HB2.out).mono HB2.out.size) (by decide)).mono ?_
    rintro e w3 ⟨⟨v3, rfl, hT3, hO3⟩, hb3⟩
    have HB3 := Lib.hid (HB2.out.trans (hb3.mono HB2.out.size))
    have HRW3 := Lib.hid ((hb3.block g HZ2.out).trans HRW2.out)
    have HZ3 := Lib.hid (Nat.lt_of_lt_of_le HZ2.out hb3.size)
    obtain ⟨sa, sn, sc, rfl⟩ : ∃ a n c, v3 = .slice a n c := hT3.sl
    have HT3 := Lib.hid hT3
    have HO3 := Lib.hid (hO3.mono (Nat.succ_le_of_lt HZ2.out))
    clear c0 c1 c2 hb3 HRW2 hT3 hO3
    obtain ⟨c0, c1, c2⟩ := HE.out w3 HB3.out
    go_wp2_with fail
    refine (rgt_any l2 d2 y2 wa wc 0 4096 w3).mono ?_
    rintro e w4 ⟨rfl, hb4⟩
    have HB4 := Lib.hid (HB3.out.trans (hb4.mono HB3.out.size))
    have HRW4 := Lib.hid ((hb4.block g HZ3.out).trans HRW3.out)
    have HZ4 := Lib.hid (Nat.lt_of_lt_of_le HZ3.out hb4.size)
    have HT4 := Lib.hid (HT3.out.kept_ hb4)
    clear c0 c1 c2 hb4 HRW3 HT3 HC HD HE HK1
    generalize rText 20 (.mk l0 d0 y0) = q0 at *
    generalize M.keysR 4 32 (.mk l1 d1 y1) = q1 at *
    generalize M.getText 0 4096 (.mk l2 d2 y2) = q2 at *
    obtain ⟨s0, e0⟩ := q0
    obtain ⟨s1, e1⟩ := q1
    obtain ⟨s2, e2⟩ := q2
    dsimp only at *
    obtain ⟨rfl, rfl⟩ : (⟨s0, s1, s2⟩ : M.Lg) = r1 ∧ M.firstE [e0, e1, e2] = r2 := by simpa using HR.out
    clear HR
    go_wp2_with fail
    obtain ⟨w5, hw5⟩ : ∃ w5, w4.alloc (.cells #[.int .i64 (e0 : Nat), .int .i64 (e1 : Nat), .int .i64 (e2 : Nat)] 28) = w5 := ⟨_, rfl⟩
    have hb5 : Below w4.heap.size w4 w5 := by rw [← hw5]; exact (Below.refl _ _).alloc (Nat.le_refl _) _
    have hrow5 : w5.heap[w4.heap.size]? = some (.cells #[.int .i64 (e0 : Nat), .int .i64 (e1 : Nat), .int .i64 (e2 : Nat)] 28 (0, 0)) := by rw [← hw5]; exact heap_alloc_new w4 _
    rw [hw5]
    have hc5 : ∀ i e, [e0, e1, e2][i]? = some e → w5.cell? ⟨w4.heap.size, i, none⟩ = some (.int .i64 (e : Nat)) := fun i e he => by
      match i, he with
      | 0, he => obtain rfl : e0 = e := by simpa using he
                 simp [World.cell?, hrow5]
      | 1, he => obtain rfl : e1 = e := by simpa using he
                 simp [World.cell?, hrow5]
      | 2, he => obtain rfl : e2 = e := by simpa using he
                 simp [World.cell?, hrow5]
      | j + 3, he => simp at he
    refine (rfirst_any [e0, e1, e2] w4.heap.size 3 w5 (by simp) hc5).mono ?_
    rintro e w6 ⟨rfl, hb6⟩
    have hb46 := hb5.trans (hb6.mono hb5.size)
    have HB6 := Lib.hid (HB4.out.trans (hb46.mono HB4.out.size))
    have HRW6 := Lib.hid ((hb46.block g HZ4.out).trans HRW4.out)
    have HT6 := Lib.hid (HT4.out.kept_ hb46)
    clear hb5 hrow5 hw5 hc5 hb6 hb46 HB4 HT4 HRW4
    obtain ⟨⟨_, k0⟩, ⟨_, k1⟩, ⟨_, k2⟩, z0, z1, z2⟩ := cells_three HRW6.out
    go_wp2_with fail
    rw [set_three HRW6.out]
    refine lgd_row rfl w6 _ #[.string ⟨s0.toArray⟩, .slice sa sn sc, .string ⟨s2.toArray⟩] _ rfl g (M.firstE [e0, e1, e2]) HRW6.out _ rfl rfl ?_
    exact ⟨⟨_, rfl, Ts.offRow HT6.out HO3.out (Nat.lt_succ_self g) _, HO3.out.mono (by have := HGE.out; omega)⟩, below_row HB6.out (by have := HGE.out; omega) _⟩
  · rw [if_neg hg0]
    rw [if_pos hg0] at hR
    generalize (M.getList 3 3 (.mk l d xs)).2 = ge at *
    obtain ⟨rfl, rfl⟩ : (⟨[], [], []⟩ : M.Lg) = r1 ∧ ge = r2 := by simpa using hR
    have h1 : ((ge : Int) == 0) = false := by simp [hg0]
    have h2 : ¬ (ge : Int) = 0 := by omega
    have h3 : ((ge : Int) != 0) = true := by simp [hg0]
    clear hgl hR
    obtain ⟨⟨_, k0⟩, ⟨_, k1⟩, ⟨_, k2⟩, z0, z1, z2⟩ := cells_three HRW1.out
    go_wp2_with fail
    rw [set_three HRW1.out]
    refine lgd_row rfl w1 _ #[.string ⟨#[]⟩, .slice none 0 0, .string ⟨#[]⟩] _ rfl g ge HRW1.out _ rfl rfl ?_
    exact ⟨⟨_, rfl, .nil_ (by decide), OffB.none_ _ _ _⟩, below_row HB1.out (by have := HGE.out; omega) _⟩
end Go.Proofs.YtebjhbeaknokkaaGreatDoor
namespace Go.Proofs.YtebjhbeaknokkaaGreatDoor
open Go Go.RowKit Go.Lib
attribute [local go_sem] Oper.semAt_some

abbrev toldv (h : M.Hd) : Value := .agg #[.int .i64 (h.off : Nat), .int .i64 (h.n : Nat), .bool h.list, .int .i64 (h.e : Nat)]
theorem Tryz.toldSize : (Tryz.prog.info? 164).map (·.size) = some 4 := by kernel_rfl
theorem told_new {fn : Func} {p : Tmp} (hres : fn.results = #[.cell p 164]) (w : World) (tmps : Array Value) (cs : Array Value) (hz : cs.size = 4) (R : Ending → World → Prop) (hp : tmps.getD p undef = .pointer (some ⟨w.heap.size, 0, none⟩))
    (h : ∀ Z, Below w.heap.size w Z → R (.returned (.agg cs)) Z) :
    bodyPost Tryz.prog fn R .ret { tmps := tmps, defers := [] } (w.alloc (.cells cs 164)) := by
  have := results_cell_row (P := Tryz.prog) hres tmps (w.alloc (.cells cs 164)) w.heap.size 164 cs (0, 0) _ hp (heap_alloc_new w _) Tryz.underlying164 rfl (by rw [Tryz.toldSize, hz])
  exact bodyPost_ret this rfl (h _ ((Below.refl _ w).alloc (Nat.le_refl _) _))
theorem wrap_ok {x : Int} (h1 : 0 ≤ x) (h2 : x < 9223372036854775808) : wrap64 x = x := by unfold wrap64; omega
theorem told_set {fn : Func} {p : Tmp} (hres : fn.results = #[.cell p 164]) (w1 : World) (tmps : Array Value) (cs old : Array Value) (hz : cs.size = 4) (g : Nat)
    (hrow : w1.heap[g]? = some (.cells old 164 (0, 0))) (R : Ending → World → Prop) (hp : tmps.getD p undef = .pointer (some ⟨g, 0, none⟩))
    (h : R (.returned (.agg cs)) (w1.setRow g cs)) :
    bodyPost Tryz.prog fn R .ret { tmps := tmps, defers := [] } (w1.setRow g cs) := by
  have := results_cell_row (P := Tryz.prog) hres tmps (w1.setRow g cs) g 164 cs (0, 0) _ hp (setRow_heap w1 g old cs 164 (0, 0) hrow) Tryz.underlying164 rfl (by rw [Tryz.toldSize, hz])
  exact bodyPost_ret this rfl h
theorem set_four {w : World} {g : Nat} {o0 o1 o2 o3 : Value} {t : TypeId} (h : w.heap[g]? = some (.cells #[o0, o1, o2, o3] t (0, 0))) (a b c d : Value) :
    (((w.setCell ⟨g, 0, none⟩ a).setCell ⟨g, 1, none⟩ b).setCell ⟨g, 2, none⟩ c).setCell ⟨g, 3, none⟩ d = w.setRow g #[a, b, c, d] := by
  have step : ∀ (W : World) (cur : Array Value) (j : Nat) (v : Value), W.heap[g]? = some (.cells cur t (0, 0)) → W.setCell ⟨g, j, none⟩ v = W.setRow g (cur.setIfInBounds j v) ∧ (W.setRow g (cur.setIfInBounds j v)).heap[g]? = some (.cells (cur.setIfInBounds j v) t (0, 0)) := fun W cur j v hW => ⟨setCell_eq_setRow W g j cur t (0, 0) v hW, setRow_heap W g cur _ t (0, 0) hW⟩
  obtain ⟨e0, h0⟩ := step _ _ 0 a h
  obtain ⟨e1, h1⟩ := step _ _ 1 b h0
  obtain ⟨e2, h2⟩ := step _ _ 2 c h1
  obtain ⟨e3, h3⟩ := step _ _ 3 d h2
  rw [e0, e1, e2, e3, setRow_setRow, setRow_setRow, setRow_setRow]
  rfl
structure Cells4 (w : World) (g : Nat) : Prop where
  i0 : ∃ v, w.cell? ⟨g, 0, none⟩ = some v
  i1 : ∃ v, w.cell? ⟨g, 1, none⟩ = some v
  i2 : ∃ v, w.cell? ⟨g, 2, none⟩ = some v
  i3 : ∃ v, w.cell? ⟨g, 3, none⟩ = some v
  f : ∀ j, w.frozen? ⟨g, j, none⟩ = false
theorem cells_four {w : World} {g : Nat} {o0 o1 o2 o3 : Value} {t : TypeId} (h : w.heap[g]? = some (.cells #[o0, o1, o2, o3] t (0, 0))) : Cells4 w g := by
  constructor <;> simp [World.cell?, World.frozen?, h]
def M.lenR (k : Nat) (r : List UInt8) (m : Nat) : M.Hd := if 3 < m then M.hdErr 5 else if r.length < m then M.hdErr 3 else if r.headD 0 = 0 ∨ M.dg (r.take m) < 56 then M.hdErr 8 else ⟨k + 1 + m, M.dg (r.take m), false, 0⟩
theorem len_facts (k j n cn n' : Nat) (hk : k < 300000) (hj : j < 9) (hn : n < 65536) (hc : cn < 2 ^ 8) (h : n * 256 + cn = n') : (True → wrap64 ((n : Int) * 256) = (n : Int) * 256) ∧ (True → wrap64 ((n : Int) * 256 + (cn : Int)) = (n' : Int)) ∧ (True → wrap64 (cn : Int) = (cn : Int)) ∧ (True → wrap64 ((k : Int) + 1 + (j : Int)) = (k : Int) + 1 + j) ∧ (True → wrap64 ((k : Int) + 1) = (k : Int) + 1) := by
  refine ⟨fun _ => wrap_ok (by omega) (by omega), fun _ => ?_, fun _ => wrap_ok (by omega) (by omega), fun _ => wrap_ok (by omega) (by omega), fun _ => wrap_ok (by omega) (by omega)⟩
  rw [show (n : Int) * 256 + (cn : Int) = (n' : Int) by omega]
  exact wrap_ok (by omega) (by omega)
set_option maxRecDepth 100000 in
set_option maxHeartbeats 4000000 in
theorem rlength_any (s : List UInt8) (k m : Nat) (w : World) (hs : s.length ≤ 200000) (hk : k < s.length) (hm : m ≤ 8) (hm1 : 1 ≤ m) :
    Calls Tryz.prog 255 #[.string ⟨s.toArray⟩, .int .i64 (k : Nat), .int .i64 (m : Nat)] w fun e w' => e = .returned (toldv (M.lenR k (s.drop (k + 1)) m)) ∧ Below w.heap.size w w' := by
  obtain ⟨p, hp⟩ : ∃ p, M.lenR k (s.drop (k + 1)) m = p := ⟨_, rfl⟩
  rw [hp]
  unfold M.lenR at hp
  have ha1 : wrap64 ((k : Int) + 1) = (k : Int) + 1 := by unfold wrap64; omega
  have ha2 : wrap64 ((k : Int) + 1 + (m : Int)) = (k : Int) + 1 + m := by unfold wrap64; omega
  by_cases h3 : 3 < m
  · rw [if_pos h3] at hp
    subst hp
    have h3' : (3 : Int) < (m : Nat) := by omega
    go_enter Tryz.func255, Tryz.ntmps255
    go_wp2_with fail
    exact told_new rfl w _ #[.int .i64 0, .int .i64 0, .bool false, .int .i64 5] rfl _ rfl (fun Z hZ => ⟨rfl, hZ⟩)
  · rw [if_neg h3] at hp
    have h3' : ¬ (3 : Int) < (m : Nat) := by omega
    have hrl : (s.drop (k + 1)).length = s.length - (k + 1) := List.length_drop
    by_cases hl : (s.drop (k + 1)).length < m
    · rw [if_pos hl] at hp
      subst hp
      have hl' : (s.length : Int) < (k : Int) + 1 + m := by omega
      go_enter Tryz.func255, Tryz.ntmps255
      go_wp2_with fail
      exact told_new rfl w _ #[.int .i64 0, .int .i64 0, .bool false, .int .i64 3] rfl _ rfl (fun Z hZ => ⟨rfl, hZ⟩)
    · rw [if_neg hl] at hp
      have hl' : ¬ (s.length : Int) < (k : Int) + 1 + m := by omega
      obtain ⟨r, hr⟩ : ∃ r, s.drop (k + 1) = r := ⟨_, rfl⟩
      have hat : ∀ i c, r[i]? = some c → ∀ hk : k + 1 + i < (⟨s.toArray⟩ : ByteArray).size, (⟨s.toArray⟩ : ByteArray)[k + 1 + i]'hk = c := fun i c hc => idx_at (by rw [← hr, List.getElem?_drop] at hc; simpa using hc)
      rw [hr] at hl hrl hp
      clear hr
      obtain ⟨c1, r', rfl⟩ : ∃ c1 r', r = c1 :: r' := by
        cases r with
        | nil => simp at hl; omega
        | cons a b => exact ⟨a, b, rfl⟩
      have hix := hat 0 c1 rfl
      rw [Nat.add_zero] at hix
      have HAT := Lib.hid hat
      clear hat
      have hdl : ((c1 :: r').take m).length = m := by rw [List.length_take]; omega
      simp only [List.headD_cons] at hp
      generalize hds : (c1 :: r').take m = ds at *
      have HDS := Lib.hid hds
      obtain ⟨w0, hw0⟩ : ∃ w0, w.alloc (.cells #[.int .i64 0, .int .i64 0, .bool false, .int .i64 0] 164) = w0 := ⟨_, rfl⟩
      have hb0 : Below w.heap.size w w0 := by rw [← hw0]; exact (Below.refl _ _).alloc (Nat.le_refl _) _
      have hrow0 : w0.heap[w.heap.size]? = some (.cells #[.int .i64 0, .int .i64 0, .bool false, .int .i64 0] 164 (0, 0)) := by rw [← hw0]; exact heap_alloc_new w _
      have HW0 := Lib.hid hw0
      have HB0 := Lib.hid hb0
      have HRW0 := Lib.hid hrow0
      clear hds hw0 hb0 hrow0
      replace hp := Lib.hid hp
      go_enter Tryz.func255, Tryz.ntmps255
      go_wp2_with (rw [HW0.out])
      try rw [HW0.out]
      go_loopw [7, 8] (fun n i wr => ∃ j : Nat, j ≤ m ∧ i = .int .i64 j ∧ n = .int .i64 ((M.dg (ds.take j) : Nat) : Int) ∧ wr = w0) (fun _ i _ => m - (RowKit.intOf i).toNat)
      case atStart => exact ⟨0, by omega, rfl, rfl, rfl⟩
      case round =>
        obtain ⟨j, hj, rfl, rfl, rfl⟩ := hrel
        by_cases hlt : j < m
        · obtain ⟨c, hc⟩ : ∃ c, ds[j]? = some c := ⟨ds[j], List.getElem?_eq_getElem (by omega)⟩
          have hxc := HAT.out j c (by rw [← HDS.out, List.getElem?_take] at hc; simpa [hlt] using hc)
          have hdg : M.dg (ds.take j) < 65536 := Nat.lt_of_lt_of_le (M.dg_lt _) (by
            rw [List.length_take]
            calc 256 ^ (min j ds.length) ≤ 256 ^ 2 := Nat.pow_le_pow_right (by omega) (by omega)
              _ = 65536 := by decide)
          have hstep : M.dg (ds.take j) * 256 + c.toNat = M.dg (ds.take (j + 1)) := by
            rw [List.take_add_one, hc]
            exact (M.dg_snoc _ _).symm
          have hc8 := c.toNat_lt
          have hxn : ∃ cn, c.toNat = cn := ⟨_, rfl⟩
          obtain ⟨cn, hcn⟩ := hxn
          have hxd : ∀ hk : k + 1 + j < (⟨s.toArray⟩ : ByteArray).size, ((⟨s.toArray⟩ : ByteArray)[k + 1 + j]'hk).toNat = cn := fun hk => by rw [hxc hk]; exact hcn
          rw [hcn] at hstep hc8
          clear hxc hcn hc
          have hjm : ((j : Nat) : Int) < (m : Nat) := by omega
          have hik : k + 1 + j < s.length := by omega
          generalize M.dg (ds.take j) = n at *
          obtain ⟨n', hn'⟩ : ∃ n', n' = M.dg (ds.take (j + 1)) := ⟨_, rfl⟩
          rw [← hn'] at hstep
          obtain ⟨hm3, hm4, hcb, ha3, ha1t⟩ := len_facts k j n cn n' (by omega) (by omega) hdg hc8 hstep
          clear ha1 ha2
          go_wp2_with fail
          go_roundw
          case rel => exact ⟨j + 1, by omega, by simp, congrArg (Value.int .i64) (by rw [← hn', ← hstep]; omega), trivial⟩
          case measure => simp [RowKit.intOf]; omega
        · obtain rfl : j = m := by omega
          rw [List.take_of_length_le (by omega)]
          obtain ⟨n1, hn1⟩ : ∃ n1, c1.toNat = n1 := ⟨_, rfl⟩
          have hxd : ∀ hk : k + 1 < (⟨s.toArray⟩ : ByteArray).size, ((⟨s.toArray⟩ : ByteArray)[k + 1]'hk).toNat = n1 := fun hk => by rw [hix hk]; exact hn1
          have hc0 : c1 = 0 ↔ n1 = 0 := by rw [← hn1]; exact ⟨fun h => by rw [h]; rfl, fun h => by rw [← UInt8.ofNat_toNat (x := c1), h]; rfl⟩
          have hp' := hp.out
          simp only [hc0] at hp'
          have ha1t : True → wrap64 ((k : Int) + 1) = (k : Int) + 1 := fun _ => ha1
          have ha2t : True → wrap64 ((k : Int) + 1 + (j : Int)) = (k : Int) + 1 + j := fun _ => ha2
          have hik : k + 1 < s.length := by omega
          clear ha1 ha2 hc0 hix hn1 hp HAT HDS
          generalize M.dg ds = dn at *
          have HP := Lib.hid hp'
          clear hp'
          obtain ⟨⟨_, i0⟩, ⟨_, i1⟩, ⟨_, i2⟩, ⟨_, i3⟩, fz⟩ := cells_four HRW0.out
          by_cases hz : n1 = 0
          · subst hz
            obtain rfl := HP.out.symm.trans (if_pos (.inl rfl))
            go_wp2_with fail
            rw [set_four HRW0.out]
            exact told_set rfl wr _ #[.int .i64 0, .int .i64 0, .bool false, .int .i64 8] _ rfl _ HRW0.out _ rfl ⟨rfl, below_row HB0.out (Nat.le_refl _) _⟩
          · have hz1 : ((n1 : Int) == 0) = false := by simp [hz]
            have hz2 : ¬ (n1 : Int) = 0 := by omega
            by_cases h56 : dn < 56
            · have h56' : (dn : Int) < 56 := by omega
              obtain rfl := HP.out.symm.trans (if_pos (.inr h56))
              go_wp2_with fail
              rw [set_four HRW0.out]
              exact told_set rfl wr _ #[.int .i64 0, .int .i64 0, .bool false, .int .i64 8] _ rfl _ HRW0.out _ rfl ⟨rfl, below_row HB0.out (Nat.le_refl _) _⟩
            · have h56' : ¬ (dn : Int) < 56 := by omega
              obtain rfl := HP.out.symm.trans (if_neg (by omega))
              go_wp2_with fail
              rw [set_four HRW0.out]
              exact told_set rfl wr _ #[.int .i64 ((k + 1 + j : Nat) : Int), .int .i64 (dn : Nat), .bool false, .int .i64 0] _ rfl _ HRW0.out _ rfl ⟨rfl, below_row HB0.out (Nat.le_refl _) _⟩
end Go.Proofs.YtebjhbeaknokkaaGreatDoor
namespace Go.Proofs.YtebjhbeaknokkaaGreatDoor
open Go Go.RowKit Go.Lib
attribute [local go_sem] Oper.semAt_some

def M.rawR (k c : Nat) (r : List UInt8) : M.Hd := if c < 128 then ⟨k, 1, false, 0⟩ else if c < 184 then ⟨k + 1, c - 128, false, 0⟩ else if c < 192 then M.lenR k r (c - 183) else if c < 248 then ⟨k + 1, c - 192, false, 0⟩ else M.lenR k r (c - 247)
theorem raw_facts (k cn : Nat) (hk : k < 300000) (hc : cn < 2 ^ 8) : (True → wrap64 (cn : Int) = (cn : Int)) ∧ (True → wrap64 ((k : Int) + 1) = (k : Int) + 1) ∧ (True → wrap64 ((cn : Int) - 128) = (cn : Int) - 128) ∧ (True → wrap64 ((cn : Int) - 192) = (cn : Int) - 192) ∧ (True → wrap64 ((cn : Int) - 183) = (cn : Int) - 183) ∧ (True → wrap64 ((cn : Int) - 247) = (cn : Int) - 247) := by
  have w : ∀ x : Int, -1000 ≤ x → x < 9223372036854775808 → wrap64 x = x := fun x h1 h2 => by unfold wrap64; omega
  exact ⟨fun _ => w _ (by omega) (by omega), fun _ => w _ (by omega) (by omega), fun _ => w _ (by omega) (by omega), fun _ => w _ (by omega) (by omega), fun _ => w _ (by omega) (by omega), fun _ => w _ (by omega) (by omega)⟩
set_option maxRecDepth 100000 in
set_option maxHeartbeats 4000000 in
theorem rraw_any (s : List UInt8) (k : Nat) (c : UInt8) (w : World) (hs : s.length ≤ 200000) (hc : s[k]? = some c) :
    Calls Tryz.prog 189 #[.string ⟨s.toArray⟩, .int .i64 (k : Nat)] w fun e w' => e = .returned (toldv (M.rawR k c.toNat (s.drop (k + 1)))) ∧ Below w.heap.size w w' := by
  have hk : k < s.length := (List.getElem?_eq_some_iff.1 hc).1
  have hc8 := c.toNat_lt
  obtain ⟨cn, hcn⟩ : ∃ cn, c.toNat = cn := ⟨_, rfl⟩
  have hxd : ∀ hk : k < (⟨s.toArray⟩ : ByteArray).size, ((⟨s.toArray⟩ : ByteArray)[k]'hk).toNat = cn := fun hk => by rw [idx_at hc hk]; exact hcn
  rw [hcn] at hc8 ⊢
  clear hcn hc
  obtain ⟨p, hp⟩ : ∃ p, M.rawR k cn (s.drop (k + 1)) = p := ⟨_, rfl⟩
  rw [hp]
  unfold M.rawR at hp
  obtain ⟨f0, f1, f2, f3, f4, f5⟩ := raw_facts k cn (by omega) hc8
  obtain ⟨w0, hw0⟩ : ∃ w0, w.alloc (.cells #[.int .i64 0, .int .i64 0, .bool false, .int .i64 0] 164) = w0 := ⟨_, rfl⟩
  have hb0 : Below w.heap.size w w0 := by rw [← hw0]; exact (Below.refl _ _).alloc (Nat.le_refl _) _
  have hrow0 : w0.heap[w.heap.size]? = some (.cells #[.int .i64 0, .int .i64 0, .bool false, .int .i64 0] 164 (0, 0)) := by rw [← hw0]; exact heap_alloc_new w _
  have hz0 : w.heap.size < w0.heap.size := by rw [← hw0]; simp
  obtain ⟨⟨_, j0⟩, ⟨_, j1⟩, ⟨_, j2⟩, ⟨_, j3⟩, fy⟩ := cells_four hrow0
  have HW0 := Lib.hid hw0
  have HB0 := Lib.hid hb0
  have HRW0 := Lib.hid hrow0
  have HZ0 := Lib.hid hz0
  clear hw0 hb0 hrow0 hz0
  by_cases h1 : cn < 128
  · rw [if_pos h1] at hp
    subst hp
    have h1' : (cn : Int) < 128 := by omega
    go_enter Tryz.func189, Tryz.ntmps189
    go_wp2_with (first | rw [HW0.out])
    rw [set_four HRW0.out]
    exact told_set rfl w0 _ #[.int .i64 (k : Int), .int .i64 (1 : Int), .bool false, .int .i64 0] _ rfl _ HRW0.out _ rfl ⟨rfl, below_row HB0.out (Nat.le_refl _) _⟩
  · rw [if_neg h1] at hp
    have h1' : ¬ (cn : Int) < 128 := by omega
    by_cases h2 : cn < 184
    · rw [if_pos h2] at hp
      subst hp
      have h2' : (cn : Int) < 184 := by omega
      go_enter Tryz.func189, Tryz.ntmps189
      go_wp2_with (first | rw [HW0.out])
      rw [set_four HRW0.out]
      exact told_set rfl w0 _ #[.int .i64 ((k : Int) + 1 : Int), .int .i64 ((cn : Int) - 128 : Int), .bool false, .int .i64 0] _ rfl _ HRW0.out _ rfl ⟨by rw [show (cn : Int) - 128 = ((cn - 128 : Nat) : Int) by omega]; rfl, below_row HB0.out (Nat.le_refl _) _⟩
    · rw [if_neg h2] at hp
      have h2' : ¬ (cn : Int) < 184 := by omega
      by_cases h3 : cn < 192
      · rw [if_pos h3] at hp
        have h3' : (cn : Int) < 192 := by omega
        obtain ⟨h0, h1, h2, h3⟩ := p
        have HL := rlength_any s k (cn - 183) w0 hs hk (by omega) (by omega)
        rw [hp] at HL
        go_enter Tryz.func189, Tryz.ntmps189
        go_wp2_with (first | rw [HW0.out])
        try rw [HW0.out]
        rw [show (cn : Int) - 183 = ((cn - 183 : Nat) : Int) by omega]
        refine HL.mono ?_
        rintro e w1 ⟨rfl, hb1⟩
        have hrow1 := (hb1.block _ HZ0.out).trans HRW0.out
        have HB1 := Lib.hid (HB0.out.trans (hb1.mono HB0.out.size))
        obtain ⟨⟨_, i0⟩, ⟨_, i1⟩, ⟨_, i2⟩, ⟨_, i3⟩, fz⟩ := cells_four hrow1
        have HRW1 := Lib.hid hrow1
        clear hb1 hrow1
        go_wp2_with fail
        rw [set_four HRW1.out]
        exact told_set rfl w1 _ #[.int .i64 (h0 : Nat), .int .i64 (h1 : Nat), .bool h2, .int .i64 (h3 : Nat)] _ rfl _ HRW1.out _ rfl ⟨rfl, below_row HB1.out (Nat.le_refl _) _⟩
      · rw [if_neg h3] at hp
        have h3' : ¬ (cn : Int) < 192 := by omega
        by_cases h4 : cn < 248
        · rw [if_pos h4] at hp
          subst hp
          have h4' : (cn : Int) < 248 := by omega
          go_enter Tryz.func189, Tryz.ntmps189
          go_wp2_with (first | rw [HW0.out])
          rw [set_four HRW0.out]
          exact told_set rfl w0 _ #[.int .i64 ((k : Int) + 1 : Int), .int .i64 ((cn : Int) - 192 : Int), .bool false, .int .i64 0] _ rfl _ HRW0.out _ rfl ⟨by rw [show (cn : Int) - 192 = ((cn - 192 : Nat) : Int) by omega]; rfl, below_row HB0.out (Nat.le_refl _) _⟩
        · rw [if_neg h4] at hp
          have h4' : ¬ (cn : Int) < 248 := by omega
          obtain ⟨h0, h1, h2, h3⟩ := p
          have HL := rlength_any s k (cn - 247) w0 hs hk (by omega) (by omega)
          rw [hp] at HL
          go_enter Tryz.func189, Tryz.ntmps189
          go_wp2_with (first | rw [HW0.out])
          try rw [HW0.out]
          rw [show (cn : Int) - 247 = ((cn - 247 : Nat) : Int) by omega]
          refine HL.mono ?_
          rintro e w1 ⟨rfl, hb1⟩
          have hrow1 := (hb1.block _ HZ0.out).trans HRW0.out
          have HB1 := Lib.hid (HB0.out.trans (hb1.mono HB0.out.size))
          obtain ⟨⟨_, i0⟩, ⟨_, i1⟩, ⟨_, i2⟩, ⟨_, i3⟩, fz⟩ := cells_four hrow1
          have HRW1 := Lib.hid hrow1
          clear hb1 hrow1
          go_wp2_with fail
          rw [set_four HRW1.out]
          exact told_set rfl w1 _ #[.int .i64 (h0 : Nat), .int .i64 (h1 : Nat), .bool h2, .int .i64 (h3 : Nat)] _ rfl _ HRW1.out _ rfl ⟨rfl, below_row HB1.out (Nat.le_refl _) _⟩
end Go.Proofs.YtebjhbeaknokkaaGreatDoor
namespace Go.Proofs.YtebjhbeaknokkaaGreatDoor
open Go Go.RowKit Go.Lib
attribute [local go_sem] Oper.semAt_some

def M.ofG (n _k c d : Nat) (h : M.Hd) : M.Hd := if h.e ≠ 0 then h else if n < h.off + h.n then M.hdErr 3 else if c = 129 ∧ d < 128 then M.hdErr 8 else ⟨h.off, h.n, decide (192 ≤ c), 0⟩
theorem M.lenR_off {k : Nat} {r : List UInt8} {m : Nat} {n : Nat} (hn : n = k + 1 + r.length) (h : (M.lenR k r m).e = 0) : (M.lenR k r m).off ≤ n ∧ (M.lenR k r m).n < 20000000 := by
  unfold M.lenR at h ⊢
  split at h
  · cases h
  · split at h
    · cases h
    · split at h
      · cases h
      · rename_i h1 h2 h3
        rw [if_neg h1, if_neg h2, if_neg h3]
        refine ⟨by show k + 1 + m ≤ n; omega, ?_⟩
        show M.dg (r.take m) < 20000000
        have := M.dg_lt (r.take m)
        have h5 : (256 : Nat) ^ (r.take m).length ≤ 256 ^ 3 := Nat.pow_le_pow_right (by omega) (by rw [List.length_take]; omega)
        have h6 : (256 : Nat) ^ 3 = 16777216 := by decide
        omega
theorem M.rawR_off {k c n : Nat} {r : List UInt8} (hn : n = k + 1 + r.length) (hc : c < 2 ^ 8) (h : (M.rawR k c r).e = 0) : (M.rawR k c r).off ≤ n ∧ (M.rawR k c r).n < 20000000 ∧ (c = 129 → (M.rawR k c r).off = k + 1 ∧ (M.rawR k c r).n = 1) := by
  unfold M.rawR at h ⊢
  by_cases h1 : c < 128
  · rw [if_pos h1]; exact ⟨by show k ≤ n; omega, by show 1 < _; omega, fun e => by omega⟩
  · rw [if_neg h1] at h ⊢
    by_cases h2 : c < 184
    · rw [if_pos h2]; exact ⟨by show k + 1 ≤ n; omega, by show c - 128 < _; omega, fun e => ⟨rfl, by show c - 128 = 1; omega⟩⟩
    · rw [if_neg h2] at h ⊢
      by_cases h3 : c < 192
      · rw [if_pos h3] at h ⊢; exact ⟨(M.lenR_off hn h).1, (M.lenR_off hn h).2, fun e => by omega⟩
      · rw [if_neg h3] at h ⊢
        by_cases h4 : c < 248
        · rw [if_pos h4]; exact ⟨by show k + 1 ≤ n; omega, by show c - 192 < _; omega, fun e => by omega⟩
        · rw [if_neg h4] at h ⊢; exact ⟨(M.lenR_off hn h).1, (M.lenR_off hn h).2, fun e => by omega⟩
theorem of_facts (k n a _b : Nat) (hk : k < 300000) (hn : n < 300000) (ha : a ≤ n) : (True → wrap64 ((n : Int) - (a : Int)) = (n : Int) - a) ∧ (True → wrap64 ((k : Int) + 1) = (k : Int) + 1) := by
  have w : ∀ x : Int, -1000 ≤ x → x < 9223372036854775808 → wrap64 x = x := fun x h1 h2 => by unfold wrap64; omega
  exact ⟨fun _ => w _ (by omega) (by omega), fun _ => w _ (by omega) (by omega)⟩
set_option maxRecDepth 100000 in
set_option maxHeartbeats 4000000 in
theorem rofEnd_any (s : List UInt8) (w : World) (hs : s.length ≤ 200000) :
    Calls Tryz.prog 115 #[.string ⟨s.toArray⟩, .int .i64 (s.length : Nat)] w fun e w' => e = .returned (toldv (M.hdErr 3)) ∧ Below w.heap.size w w' := by
  have hk0 : ¬ ((s.length : Nat) : Int) < 0 := by omega
  go_enter Tryz.func115, Tryz.ntmps115
  go_wp2_with fail
  exact told_new rfl w _ #[.int .i64 0, .int .i64 0, .bool false, .int .i64 3] rfl _ rfl (fun Z hZ => ⟨rfl, hZ⟩)
set_option maxRecDepth 100000 in
set_option maxHeartbeats 4000000 in
theorem rofAt_any (s : List UInt8) (k : Nat) (c : UInt8) (w : World) (hs : s.length ≤ 200000) (hc : s[k]? = some c) :
    Calls Tryz.prog 115 #[.string ⟨s.toArray⟩, .int .i64 (k : Nat)] w fun e w' => e = .returned (toldv (M.ofG s.length k c.toNat ((s.drop (k + 1)).headD 0).toNat (M.rawR k c.toNat (s.drop (k + 1))))) ∧ Below w.heap.size w w' := by
  have hk : k < s.length := (List.getElem?_eq_some_iff.1 hc).1
  have hc8 := c.toNat_lt
  have HRAW := Lib.hid (fun W => rraw_any s k c W hs hc)
  obtain ⟨cn, hcn⟩ : ∃ cn, c.toNat = cn := ⟨_, rfl⟩
  have hxd : ∀ hk : k < (⟨s.toArray⟩ : ByteArray).size, ((⟨s.toArray⟩ : ByteArray)[k]'hk).toNat = cn := fun hk => by rw [idx_at hc hk]; exact hcn
  rw [hcn] at hc8 HRAW ⊢
  clear hcn hc
  obtain ⟨dn, hdn⟩ : ∃ dn, ((s.drop (k + 1)).headD 0).toNat = dn := ⟨_, rfl⟩
  rw [hdn]
  have hxe : ∀ hk : k + 1 < (⟨s.toArray⟩ : ByteArray).size, ((⟨s.toArray⟩ : ByteArray)[k + 1]'hk).toNat = dn := fun hk => by
    have hl : k + 1 < s.length := by simpa [ByteArray.size] using hk
    have he : s[k + 1]? = some ((s.drop (k + 1)).headD 0) := by rw [List.drop_eq_getElem_cons hl, List.headD_cons, List.getElem?_eq_getElem hl]
    rw [idx_at he hk]
    exact hdn
  clear hdn
  have hoff := M.rawR_off (n := s.length) (k := k) (c := cn) (r := s.drop (k + 1)) (by rw [List.length_drop]; omega) hc8
  generalize M.rawR k cn (s.drop (k + 1)) = h at *
  obtain ⟨h0, h1, h2, h3⟩ := h
  dsimp only at hoff
  obtain ⟨p, hp⟩ : ∃ p, M.ofG s.length k cn dn ⟨h0, h1, h2, h3⟩ = p := ⟨_, rfl⟩
  rw [hp]
  unfold M.ofG at hp
  dsimp only at hp
  have hk0 : ¬ ((k : Nat) : Int) < 0 := by omega
  have hk1 : ¬ (s.length : Int) < (k : Int) := by omega
  have hk2 : ((k : Int) == (s.length : Int)) = false := by simp; omega
  obtain ⟨w0, hw0⟩ : ∃ w0, w.alloc (.cells #[.int .i64 0, .int .i64 0, .bool false, .int .i64 0] 164) = w0 := ⟨_, rfl⟩
  have hb0 : Below w.heap.size w w0 := by rw [← hw0]; exact (Below.refl _ _).alloc (Nat.le_refl _) _
  have hrow0 : w0.heap[w.heap.size]? = some (.cells #[.int .i64 0, .int .i64 0, .bool false, .int .i64 0] 164 (0, 0)) := by rw [← hw0]; exact heap_alloc_new w _
  have hz0 : w.heap.size < w0.heap.size := by rw [← hw0]; simp
  have HW0 := Lib.hid hw0
  have HB0 := Lib.hid hb0
  have HRW0 := Lib.hid hrow0
  have HZ0 := Lib.hid hz0
  clear hw0 hb0 hrow0 hz0
  go_enter Tryz.func115, Tryz.ntmps115
  go_wp2_with (first | rw [HW0.out])
  try rw [HW0.out]
  refine (HRAW.out w0).mono ?_
  rintro e w1 ⟨rfl, hb1⟩
  have hrow1 := (hb1.block _ HZ0.out).trans HRW0.out
  have hB1 := HB0.out.trans (hb1.mono HB0.out.size)
  obtain ⟨x, hx⟩ : ∃ x, w1.heap.size = x := ⟨_, rfl⟩
  have hgx : w.heap.size < x := by have := hb1.size; have := HZ0.out; omega
  obtain ⟨w2, hw2⟩ : ∃ w2, w1.alloc (.cells #[.int .i64 (h0 : Nat), .int .i64 (h1 : Nat), .bool h2, .int .i64 (h3 : Nat)] 164) = w2 := ⟨_, rfl⟩
  have hb2 : Below w1.heap.size w1 w2 := by rw [← hw2]; exact (Below.refl _ _).alloc (Nat.le_refl _) _
  have hrx2 : w2.heap[w1.heap.size]? = some (.cells #[.int .i64 (h0 : Nat), .int .i64 (h1 : Nat), .bool h2, .int .i64 (h3 : Nat)] 164 (0, 0)) := by rw [← hw2]; exact heap_alloc_new w1 _
  have HB2 := Lib.hid (hB1.trans (hb2.mono hB1.size))
  have HRW2 := Lib.hid ((hb2.block w.heap.size (by omega)).trans hrow1)
  have HRX2 := Lib.hid hrx2
  have HW2 := Lib.hid hw2
  have HGX := Lib.hid hgx
  have HB1 := Lib.hid hB1
  have HR1 := Lib.hid hrow1
  clear hb1 hrow1 hB1 hgx hw2 hb2 hrx2 HRAW HB0 HRW0 HZ0
  subst hx
  have x0 : w2.cell? ⟨w1.heap.size, 0, none⟩ = some (.int .i64 (h0 : Nat)) := by simp [World.cell?, HRX2.out]
  have x1 : w2.cell? ⟨w1.heap.size, 1, none⟩ = some (.int .i64 (h1 : Nat)) := by simp [World.cell?, HRX2.out]
  have x2 : w2.cell? ⟨w1.heap.size, 2, none⟩ = some (.bool h2) := by simp [World.cell?, HRX2.out]
  have x3 : w2.cell? ⟨w1.heap.size, 3, none⟩ = some (.int .i64 (h3 : Nat)) := by simp [World.cell?, HRX2.out]
  have xf := (cells_four HRX2.out).f
  by_cases he : h3 = 0
  · subst he
    rw [if_neg (by simp)] at hp
    obtain ⟨hoff1, hoff2, hoff3⟩ := hoff rfl
    clear hoff
    obtain ⟨f0, f1⟩ := of_facts k s.length h0 h1 (by omega) (by omega) hoff1
    obtain ⟨lb, hlb⟩ : ∃ lb, decide (192 ≤ cn) = lb := ⟨_, rfl⟩
    clear x0 x1 x2 x3 xf HW2 HRX2 HRW2 HB2
    obtain ⟨w3, hw3⟩ : ∃ w3, w1.alloc (.cells #[.int .i64 (h0 : Nat), .int .i64 (h1 : Nat), .bool lb, .int .i64 0] 164) = w3 := ⟨_, rfl⟩
    have hb3 : Below w1.heap.size w1 w3 := by rw [← hw3]; exact (Below.refl _ _).alloc (Nat.le_refl _) _
    have HB3 := Lib.hid (HB1.out.trans (hb3.mono HB1.out.size))
    have HRW3 := Lib.hid ((hb3.block w.heap.size HGX.out).trans HR1.out)
    have HW3 := Lib.hid hw3
    clear hw3 hb3
    obtain ⟨⟨_, i0⟩, ⟨_, i1⟩, ⟨_, i2⟩, ⟨_, i3⟩, fz⟩ := cells_four HRW3.out
    rw [← HW3.out] at i0 i1 i2 i3 fz
    have hge : True := trivial
    rw [hlb] at hp
    clear hge
    by_cases h192 : 192 ≤ cn
    · have h192' : (192 : Int) ≤ (cn : Int) := by omega
      obtain rfl : true = lb := hlb ▸ (decide_eq_true h192).symm
      clear hlb
      by_cases hl : s.length < h0 + h1
      · rw [if_pos hl] at hp
        subst hp
        have hl' : (s.length : Int) - (h0 : Int) < (h1 : Int) := by omega
        go_wp2_with fail
        rw [HW3.out, set_four HRW3.out]
        exact told_set rfl w3 _ #[.int .i64 0, .int .i64 0, .bool false, .int .i64 3] _ rfl _ HRW3.out _ rfl ⟨rfl, below_row HB3.out (Nat.le_refl _) _⟩
      · rw [if_neg hl] at hp
        have hl' : ¬ (s.length : Int) - (h0 : Int) < (h1 : Int) := by omega
        by_cases h129 : cn = 129
        · exact absurd h129 (by omega)
        · have h129' : ((cn : Int) == 129) = false := by simp; omega
          have h129n : ¬ (cn : Int) = 129 := by omega
          rw [if_neg (fun q => h129 q.1)] at hp
          subst hp
          go_wp2_with fail
          rw [HW3.out, set_four HRW3.out]
          exact told_set rfl w3 _ #[.int .i64 (h0 : Nat), .int .i64 (h1 : Nat), .bool true, .int .i64 0] _ rfl _ HRW3.out _ rfl ⟨rfl, below_row HB3.out (Nat.le_refl _) _⟩
    · have h192' : True → decide ((192 : Int) ≤ (cn : Int)) = false := fun _ => decide_eq_false (by omega)
      obtain rfl : false = lb := hlb ▸ (decide_eq_false h192).symm
      clear hlb
      by_cases hl : s.length < h0 + h1
      · rw [if_pos hl] at hp
        subst hp
        have hl' : (s.length : Int) - (h0 : Int) < (h1 : Int) := by omega
        go_wp2_with fail
        rw [HW3.out, set_four HRW3.out]
        exact told_set rfl w3 _ #[.int .i64 0, .int .i64 0, .bool false, .int .i64 3] _ rfl _ HRW3.out _ rfl ⟨rfl, below_row HB3.out (Nat.le_refl _) _⟩
      · rw [if_neg hl] at hp
        have hl' : ¬ (s.length : Int) - (h0 : Int) < (h1 : Int) := by omega
        by_cases h129 : cn = 129
        · have hik : k + 1 < s.length := by have := hoff3 h129; omega
          clear hoff3
          have h129' : ((cn : Int) == 129) = true := by simp [h129]
          by_cases hd : dn < 128
          · rw [if_pos ⟨h129, hd⟩] at hp
            subst hp
            subst h129
            have hd' : (dn : Int) < 128 := by omega
            go_wp2_with fail
            rw [HW3.out, set_four HRW3.out]
            exact told_set rfl w3 _ #[.int .i64 0, .int .i64 0, .bool false, .int .i64 8] _ rfl _ HRW3.out _ rfl ⟨rfl, below_row HB3.out (Nat.le_refl _) _⟩
          · rw [if_neg (fun q => hd q.2)] at hp
            subst hp
            subst h129
            have hd' : ¬ (dn : Int) < 128 := by omega
            go_wp2_with fail
            rw [HW3.out, set_four HRW3.out]
            exact told_set rfl w3 _ #[.int .i64 (h0 : Nat), .int .i64 (h1 : Nat), .bool false, .int .i64 0] _ rfl _ HRW3.out _ rfl ⟨rfl, below_row HB3.out (Nat.le_refl _) _⟩
        · have h129' : ((cn : Int) == 129) = false := by simp; omega
          have h129n : ¬ (cn : Int) = 129 := by omega
          rw [if_neg (fun q => h129 q.1)] at hp
          subst hp
          go_wp2_with fail
          rw [HW3.out, set_four HRW3.out]
          exact told_set rfl w3 _ #[.int .i64 (h0 : Nat), .int .i64 (h1 : Nat), .bool false, .int .i64 0] _ rfl _ HRW3.out _ rfl ⟨rfl, below_row HB3.out (Nat.le_refl _) _⟩
  · rw [if_pos he] at hp
    subst hp
    have he1 : ((h3 : Int) == 0) = false := by simp [he]
    have he2 : ¬ (h3 : Int) = 0 := by omega
    have he3 : ((h3 : Int) != 0) = true := by simp [he]
    obtain ⟨⟨_, i0⟩, ⟨_, i1⟩, ⟨_, i2⟩, ⟨_, i3⟩, fz⟩ := cells_four HRW2.out
    go_wp2_with (first | rw [HW2.out])
    rw [set_four HRW2.out]
    exact told_set rfl w2 _ #[.int .i64 (h0 : Nat), .int .i64 (h1 : Nat), .bool h2, .int .i64 (h3 : Nat)] _ rfl _ HRW2.out _ rfl ⟨rfl, below_row HB2.out (Nat.le_refl _) _⟩
end Go.Proofs.YtebjhbeaknokkaaGreatDoor
namespace Go.Proofs.YtebjhbeaknokkaaGreatDoor
open Go Go.RowKit Go.Lib

def M.hdK (k : Nat) (h : M.Hd) : M.Hd := if h.e = 0 then ⟨k + h.off, h.n, h.list, 0⟩ else M.hdErr h.e
theorem M.of_len {k n c d m : Nat} {r : List UInt8} {l : Bool} (hn : n = k + 1 + r.length) (hc : c ≠ 129) (hl : decide (192 ≤ c) = l) : M.ofG n k c d (M.lenR k r m) = M.hdK k (M.hdLong r m l) := by
  unfold M.lenR M.hdLong
  by_cases h1 : 3 < m
  · rw [if_pos h1, if_pos h1]; rfl
  · rw [if_neg h1, if_neg h1]
    by_cases h2 : r.length < m
    · rw [if_pos h2, if_pos h2]; rfl
    · rw [if_neg h2, if_neg h2]
      by_cases h3 : r.headD 0 = 0 ∨ M.dg (r.take m) < 56
      · rw [if_pos h3, if_pos h3]; rfl
      · rw [if_neg h3, if_neg h3]
        unfold M.ofG
        rw [if_neg (by simp)]
        dsimp only
        by_cases h4 : r.length < m + M.dg (r.take m)
        · rw [if_pos h4, if_pos (by omega)]; rfl
        · rw [if_neg h4, if_neg (by omega), if_neg (fun q => hc q.1), hl]
          unfold M.hdK
          rw [if_pos rfl]
          dsimp only
          rw [Nat.add_assoc]
theorem M.of_hd (k n : Nat) (c : UInt8) (r : List UInt8) (hn : n = k + 1 + r.length) : M.ofG n k c.toNat (r.headD 0).toNat (M.rawR k c.toNat r) = M.hdK k (M.hdT (c :: r)) := by
  unfold M.hdT M.rawR
  dsimp only
  generalize c.toNat = cn
  by_cases h1 : cn < 128
  · rw [if_pos h1, if_pos h1]
    unfold M.ofG M.hdK
    rw [if_neg (by simp), if_neg (by show ¬ n < k + 1; omega), if_neg (by omega), if_pos rfl, decide_eq_false (by omega)]
    rfl
  · rw [if_neg h1, if_neg h1]
    by_cases h2 : cn < 184
    · rw [if_pos h2, if_pos h2]
      by_cases h3 : r.length < cn - 128
      · rw [if_pos h3]
        unfold M.ofG
        rw [if_neg (by simp), if_pos (by show n < k + 1 + (cn - 128); omega)]
        rfl
      · rw [if_neg h3]
        unfold M.ofG
        rw [if_neg (by simp), if_neg (by show ¬ n < k + 1 + (cn - 128); omega)]
        by_cases h4 : cn = 129 ∧ (r.headD 0).toNat < 128
        · rw [if_pos h4, if_pos h4]; rfl
        · rw [if_neg h4, if_neg h4, decide_eq_false (by omega)]; rfl
    · rw [if_neg h2, if_neg h2]
      by_cases h3 : cn < 192
      · rw [if_pos h3, if_pos h3]
        exact M.of_len hn (by omega) (decide_eq_false (by omega))
      · rw [if_neg h3, if_neg h3]
        by_cases h4 : cn < 248
        · rw [if_pos h4, if_pos h4]
          by_cases h5 : r.length < cn - 192
          · rw [if_pos h5]
            unfold M.ofG
            rw [if_neg (by simp), if_pos (by show n < k + 1 + (cn - 192); omega)]
            rfl
          · rw [if_neg h5]
            unfold M.ofG
            rw [if_neg (by simp), if_neg (by show ¬ n < k + 1 + (cn - 192); omega), if_neg (by omega), decide_eq_true (by omega)]
            rfl
        · rw [if_neg h4, if_neg h4]
          exact M.of_len hn (by omega) (decide_eq_true (by omega))
theorem rhead_at (s : List UInt8) (k : Nat) (w : World) (hs : s.length ≤ 200000) (hk : k ≤ s.length) :
    Calls Tryz.prog 115 #[.string ⟨s.toArray⟩, .int .i64 (k : Nat)] w fun e w' => e = .returned (toldv (M.hdK k (M.hdT (s.drop k)))) ∧ Below w.heap.size w w' := by
  rcases Nat.lt_or_ge k s.length with h | h
  · have hc : s[k]? = some s[k] := List.getElem?_eq_getElem h
    have := rofAt_any s k s[k] w hs hc
    rw [M.of_hd k s.length s[k] (s.drop (k + 1)) (by rw [List.length_drop]; omega), ← List.drop_eq_getElem_cons h] at this
    exact this
  · obtain rfl : k = s.length := by omega
    rw [List.drop_length]
    exact rofEnd_any s w hs
end Go.Proofs.YtebjhbeaknokkaaGreatDoor
namespace Go.Proofs.YtebjhbeaknokkaaGreatDoor
open Go Go.RowKit

theorem wp_append_runG {P : Program} {o : Oper} {a : Act} {w w' : World} {K : Act → World → Prop} {Q : Exit → Act → World → Prop} (s x : Operand) (ats : Array TypeId) (ho : o.op = .call { callee := .builtin .append, args := #[s, x], argTypes := ats })
    (v u v' : Value) (hs : a.eval s = v) (hx : a.eval x = u) (hr : (Builtin.append_ ats o.type #[v, u]).run P w = .ok v' w') (h : K (a.put o.dst v') w') : o.wp P a w K Q := by
  unfold Oper.wp execOp
  simp only [ho, resolve, invoke, builtin, Sem.run_bind, Sem.run_pure, Result.andThen_ok, List.map_toArray, List.map_cons, List.map_nil, hs, hx, hr]
  exact h

structure TB (B g : Nat) (W0 W : World) (L : List (M.It × Value)) (v : Value) : Prop where
  box : W.heap[g]? = some (.cells #[.bool true, .string ⟨#[]⟩, v] 44 (0, 0))
  row : ItRow B W L v
  below : Below g W0 W

theorem TB.kept {B g : Nat} {W0 W W' : World} {L : List (M.It × Value)} {v : Value} (h : TB B g W0 W L v) (hg : g < W.heap.size) (_hB : B ≤ W.heap.size) (hb : Below W.heap.size W W') : TB B g W0 W' L v :=
  ⟨(hb.block g hg).trans h.box, h.row.from_ hb, h.below.trans (hb.mono (by omega))⟩
theorem TB.cell {B g : Nat} {W0 W : World} {L : List (M.It × Value)} {v : Value} (h : TB B g W0 W L v) : W.cell? ⟨g, 2, none⟩ = some v := by simp [World.cell?, h.box]

end Go.Proofs.YtebjhbeaknokkaaGreatDoor
namespace Go.Proofs.YtebjhbeaknokkaaGreatDoor
open Go Go.RowKit Go.Lib
attribute [local go_sem] Oper.semAt_some

abbrev gv5 (l : Bool) (b : List UInt8) (v : Value) (pl er : Nat) : Value := .agg #[.bool l, .string ⟨b.toArray⟩, v, .int .i64 (pl : Nat), .int .i64 (er : Nat)]
theorem Tryz.got5Size : (Tryz.prog.info? 108).map (·.size) = some 5 := by kernel_rfl
theorem set_five {w : World} {g : Nat} {o0 o1 o2 o3 o4 : Value} {t : TypeId} (h : w.heap[g]? = some (.cells #[o0, o1, o2, o3, o4] t (0, 0))) (a b c d e : Value) :
    ((((w.setCell ⟨g, 0, none⟩ a).setCell ⟨g, 1, none⟩ b).setCell ⟨g, 2, none⟩ c).setCell ⟨g, 3, none⟩ d).setCell ⟨g, 4, none⟩ e = w.setRow g #[a, b, c, d, e] := by
  have step : ∀ (W : World) (cur : Array Value) (j : Nat) (v : Value), W.heap[g]? = some (.cells cur t (0, 0)) → W.setCell ⟨g, j, none⟩ v = W.setRow g (cur.setIfInBounds j v) ∧ (W.setRow g (cur.setIfInBounds j v)).heap[g]? = some (.cells (cur.setIfInBounds j v) t (0, 0)) := fun W cur j v hW => ⟨setCell_eq_setRow W g j cur t (0, 0) v hW, setRow_heap W g cur _ t (0, 0) hW⟩
  obtain ⟨e0, h0⟩ := step _ _ 0 a h
  obtain ⟨e1, h1⟩ := step _ _ 1 b h0
  obtain ⟨e2, h2⟩ := step _ _ 2 c h1
  obtain ⟨e3, h3⟩ := step _ _ 3 d h2
  obtain ⟨e4, h4⟩ := step _ _ 4 e h3
  rw [e0, e1, e2, e3, e4, setRow_setRow, setRow_setRow, setRow_setRow, setRow_setRow]
  rfl
structure Cells5 (w : World) (g : Nat) : Prop where
  i0 : ∃ v, w.cell? ⟨g, 0, none⟩ = some v
  i1 : ∃ v, w.cell? ⟨g, 1, none⟩ = some v
  i2 : ∃ v, w.cell? ⟨g, 2, none⟩ = some v
  i3 : ∃ v, w.cell? ⟨g, 3, none⟩ = some v
  i4 : ∃ v, w.cell? ⟨g, 4, none⟩ = some v
  f : ∀ j, w.frozen? ⟨g, j, none⟩ = false
theorem cells_five {w : World} {g : Nat} {o0 o1 o2 o3 o4 : Value} {t : TypeId} (h : w.heap[g]? = some (.cells #[o0, o1, o2, o3, o4] t (0, 0))) : Cells5 w g := by
  constructor <;> simp [World.cell?, World.frozen?, h]
theorem got5_row {fn : Func} (hres : fn.results = #[.cell 6 108]) (w1 : World) (tmps : Array Value) (cs old : Array Value) (hz : cs.size = 5) (g : Nat)
    (hrow : w1.heap[g]? = some (.cells old 108 (0, 0))) (R : Ending → World → Prop) (hp : tmps.getD 6 undef = .pointer (some ⟨g, 0, none⟩))
    (h : R (.returned (.agg cs)) (w1.setRow g cs)) :
    bodyPost Tryz.prog fn R .ret { tmps := tmps, defers := [] } (w1.setRow g cs) := by
  have := results_cell_row (P := Tryz.prog) hres tmps (w1.setRow g cs) g 108 cs (0, 0) _ hp (setRow_heap w1 g old cs 108 (0, 0) hrow) Tryz.underlying108 rfl (by rw [Tryz.got5Size, hz])
  exact bodyPost_ret this rfl h
theorem got5_new {fn : Func} (hres : fn.results = #[.cell 6 108]) (w : World) (tmps : Array Value) (cs : Array Value) (hz : cs.size = 5) (R : Ending → World → Prop) (hp : tmps.getD 6 undef = .pointer (some ⟨w.heap.size, 0, none⟩))
    (h : ∀ Z, Below w.heap.size w Z → R (.returned (.agg cs)) Z) :
    bodyPost Tryz.prog fn R .ret { tmps := tmps, defers := [] } (w.alloc (.cells cs 108)) := by
  have := results_cell_row (P := Tryz.prog) hres tmps (w.alloc (.cells cs 108)) w.heap.size 108 cs (0, 0) _ hp (heap_alloc_new w _) Tryz.underlying108 rfl (by rw [Tryz.got5Size, hz])
  exact bodyPost_ret this rfl (h _ ((Below.refl _ w).alloc (Nat.le_refl _) _))

structure RdP (n : Nat) (s : List UInt8) (k D : Nat) (w : World) (e : Ending) (w' : World) : Prop where
  ok : ∃ l b xs a cap pl, e = .returned (gv5 l b (.slice a xs.length cap) pl (M.readT n (s.drop k) D).2.2) ∧ (M.readT n (s.drop k) D).1 = .mk l b xs ∧
      Fresh w.heap.size w' xs (.slice a xs.length cap) ∧ Below w.heap.size w w' ∧ ((M.readT n (s.drop k) D).2.2 = 0 → s.drop pl = (M.readT n (s.drop k) D).2.1 ∧ k < pl ∧ pl ≤ s.length)
def ReadC (n : Nat) : Prop := ∀ (s : List UInt8) (k D : Nat) (w : World), s.length ≤ 65536 → k ≤ s.length → 2 * (s.length - k) + 1 ≤ n → D ≤ 12 →
  Calls Tryz.prog 70 #[.string ⟨s.toArray⟩, .int .i64 (k : Nat), .int .i64 (D : Nat)] w fun e w' => RdP n s k D w e w'
end Go.Proofs.YtebjhbeaknokkaaGreatDoor
namespace Go.Proofs.YtebjhbeaknokkaaGreatDoor
open Go Go.RowKit Go.Lib
attribute [local go_sem] Oper.semAt_some

set_option maxRecDepth 100000 in
set_option maxHeartbeats 16000000 in
theorem read_step (n : Nat) (ih : ∀ j, j ≤ n → ReadC j) : ReadC (n + 1) := by
  intro s k D w hs hk hn hD
  obtain ⟨w0, hw0⟩ : ∃ w0, w.alloc (.cells #[.bool false, .string ⟨#[]⟩, .slice none 0 0, .int .i64 0, .int .i64 0] 108) = w0 := ⟨_, rfl⟩
  have HB0 : Hid (Below w.heap.size w w0) := by rw [← hw0]; exact Lib.hid ((Below.refl _ _).alloc (Nat.le_refl _) _)
  have HR0 : Hid (w0.heap[w.heap.size]? = some (.cells #[.bool false, .string ⟨#[]⟩, .slice none 0 0, .int .i64 0, .int .i64 0] 108 (0, 0))) := by rw [← hw0]; exact Lib.hid (heap_alloc_new w _)
  have HLT : Hid (w.heap.size < w0.heap.size) := by rw [← hw0]; exact Lib.hid (by simp)
  have HW0 := Lib.hid hw0
  clear hw0
  have HH := Lib.hid (fun W => rhead_at s k W (by omega) hk)
  have hrt : M.readT (n + 1) (s.drop k) D = if 192 ≤ (((s.drop k).headD 0)).toNat ∧ 12 ≤ D then (M.zeroI, [], 7)
    else if (M.hdT (s.drop k)).e ≠ 0 then (M.zeroI, [], (M.hdT (s.drop k)).e)
    else if (M.hdT (s.drop k)).list = false then (.mk false (((s.drop k).drop (M.hdT (s.drop k)).off).take (M.hdT (s.drop k)).n) [], (s.drop k).drop ((M.hdT (s.drop k)).off + (M.hdT (s.drop k)).n), 0)
    else if (M.itemsT n (((s.drop k).drop (M.hdT (s.drop k)).off).take (M.hdT (s.drop k)).n) (D + 1) 0).2 ≠ 0 then (M.zeroI, [], (M.itemsT n (((s.drop k).drop (M.hdT (s.drop k)).off).take (M.hdT (s.drop k)).n) (D + 1) 0).2)
    else (.mk true [] (M.itemsT n (((s.drop k).drop (M.hdT (s.drop k)).off).take (M.hdT (s.drop k)).n) (D + 1) 0).1, (s.drop k).drop ((M.hdT (s.drop k)).off + (M.hdT (s.drop k)).n), 0) := by rw [M.readT]
  by_cases hdeep : 192 ≤ (((s.drop k).headD 0)).toNat ∧ 12 ≤ D
  · rw [if_pos hdeep] at hrt
    have hkl : k < s.length := by
      rcases Nat.lt_or_ge k s.length with h | h
      · exact h
      · rw [List.drop_eq_nil_of_le h] at hdeep
        exact absurd hdeep.1 (by decide)
    obtain ⟨c, hc⟩ : ∃ c, s[k]? = some c := ⟨s[k], List.getElem?_eq_getElem hkl⟩
    rw [drop_head s k c hc] at hdeep
    have hix := idx_at hc
    have hk1 : ((k : Nat) : Int) < (s.length : Nat) := by omega
    have hc1 : (192 : Int) ≤ (c.toNat : Nat) := by omega
    have hd1 : (12 : Int) ≤ (D : Nat) := by omega
    have HRT := Lib.hid hrt
    clear hrt HH hdeep hc
    go_enter Tryz.func70, Tryz.ntmps70
    go_wp2_with fail
    refine got5_new rfl w _ #[.bool false, .string ⟨#[]⟩, .slice none 0 0, .int .i64 0, .int .i64 7] rfl _ rfl ?_
    intro Z hZ
    exact ⟨⟨false, [], [], none, 0, 0, by rw [HRT.out]; rfl, by rw [HRT.out]; rfl, Fresh.nil _ _ _, hZ, fun h => by rw [HRT.out] at h; cases h⟩⟩
  · rw [if_neg hdeep] at hrt
    have hok := M.hdT_ok (t := s.drop k)
    have hfl := hdT_list_flag (t := s.drop k)
    have hlen : (s.drop k).length = s.length - k := List.length_drop
    have htk := take_own s k
    have hdd : ∀ a, (s.drop k).drop a = s.drop (k + a) := fun a => by rw [List.drop_drop]
    by_cases h0 : (M.hdT (s.drop k)).e = 0
    · rw [if_neg (by omega)] at hrt
      have hkl : k < s.length := by
        rcases Nat.lt_or_ge k s.length with h | h
        · exact h
        · rw [List.drop_eq_nil_of_le h] at h0
          cases h0
      obtain ⟨c, hc⟩ : ∃ c, s[k]? = some c := ⟨s[k], List.getElem?_eq_getElem hkl⟩
      have hhd := drop_head s k c hc
      have hix := idx_at hc
      have hk1 : ((k : Nat) : Int) < (s.length : Nat) := by omega
      unfold M.hdK at HH
      rw [if_pos h0] at HH
      obtain ⟨o1, o2, o3, o4, o5⟩ := hok h0
      clear o5 hok
      have htk' := htk (M.hdT (s.drop k)).off (M.hdT (s.drop k)).n
      have hdd' := hdd ((M.hdT (s.drop k)).off + (M.hdT (s.drop k)).n)
      replace hfl := hfl h0
      rw [hhd] at hfl hdeep
      replace o4 := fun h => (o4 h).2.2
      generalize (M.hdT (s.drop k)).off = f at *
      generalize (M.hdT (s.drop k)).n = m at *
      obtain ⟨A, hA⟩ : ∃ A, A = k + f := ⟨_, rfl⟩
      obtain ⟨E, hE⟩ : ∃ E, E = k + f + m := ⟨_, rfl⟩
      have hAE : A ≤ E := by omega
      have hEs : E ≤ s.length := by omega
      have hadd : True → wrap64 ((A : Int) + (m : Nat)) = (E : Int) := fun _ => by unfold wrap64; omega
      have hadd2 : (A : Int) + (m : Nat) = (E : Int) := by omega
      rw [← hE, ← hA] at htk'
      rw [← hA] at HH
      rw [hdd', show k + (f + m) = E by omega] at hrt
      have hkE : k < E := by rw [hE, Nat.add_assoc]; exact Nat.lt_add_of_pos_right o2
      have HKE := Lib.hid hkE
      have HES := Lib.hid hEs
      generalize hown : ((s.drop k).drop f).take m = own at *
      clear htk hdd hdd'
      cases hlist : (M.hdT (s.drop k)).list with
      | false =>
        rw [hlist] at hrt HH hfl
        rw [if_pos rfl] at hrt
        have hc1 : ¬ (192 : Int) ≤ (c.toNat : Nat) := by have := of_decide_eq_false hfl.symm; omega
        have hsl : ∀ W : World, (Instr.slice 9 (.string ⟨s.toArray⟩) (some (.int .i64 (A : Nat))) (some (.int .i64 (E : Nat))) none).run Tryz.prog W = .ok (.string ⟨own.toArray⟩) W := fun W => by
          have := slice_str s A E hAE hEs W
          rwa [cutS, htk'] at this
        have HRT := Lib.hid hrt
        clear hrt hfl hdeep o4 hown hA hE o1 o2 hlen hc hhd htk'
        go_enter Tryz.func70, Tryz.ntmps70
        go_wp2_with (rw [HW0.out])
        refine (HH.out _).mono ?_
        rintro e w1 ⟨rfl, hb1⟩
        have hg1 : Below w.heap.size w w1 := HB0.out.trans (hb1.mono HB0.out.size)
        have hrow1 := (hb1.block _ HLT.out).trans HR0.out
        have hlt1 : w.heap.size < w1.heap.size := Nat.lt_of_lt_of_le HLT.out hb1.size
        obtain ⟨w2, hw2⟩ : ∃ w2, w1.alloc (.cells #[.int .i64 ((A : Nat)), .int .i64 ((m : Nat)), .bool false, .int .i64 0] 164) = w2 := ⟨_, rfl⟩
        have hb2 : Below w1.heap.size w1 w2 := by rw [← hw2]; exact (Below.refl _ _).alloc (Nat.le_refl _) _
        have t0 : w2.cell? ⟨w1.heap.size, 0, none⟩ = some (.int .i64 (A : Nat)) := by rw [← hw2]; simp [go_sem]
        have t1 : w2.cell? ⟨w1.heap.size, 1, none⟩ = some (.int .i64 (m : Nat)) := by rw [← hw2]; simp [go_sem]
        have t2 : w2.cell? ⟨w1.heap.size, 2, none⟩ = some (.bool false) := by rw [← hw2]; simp [go_sem]
        have t3 : w2.cell? ⟨w1.heap.size, 3, none⟩ = some (.int .i64 0) := by rw [← hw2]; simp [go_sem]
        have hrow2 := (hb2.block _ hlt1).trans hrow1
        have hg2 := hg1.trans (hb2.mono hg1.size)
        have HW2 := Lib.hid hw2
        obtain ⟨⟨_, z0⟩, ⟨_, z1⟩, ⟨_, z2⟩, ⟨_, z3⟩, ⟨_, z4⟩, zf⟩ := cells_five hrow2
        have f0 := zf 0
        have f1 := zf 1
        have f2 := zf 2
        have f3 := zf 3
        have f4 := zf 4
        clear hw2
        go_wp2_with (rw [HW2.out])
        rw [set_five hrow2]
        refine got5_row rfl w2 _ #[.bool false, .string ⟨own.toArray⟩, .slice none 0 0, .int .i64 (E : Nat), .int .i64 0] _ rfl w.heap.size hrow2 _ rfl ?_
        exact ⟨⟨false, own, [], none, 0, E, by rw [HRT.out]; rfl, by rw [HRT.out], Fresh.nil _ _ _, hg2.trans ⟨rfl, rfl, rfl, by simp, fun j hj => setRow_other _ _ _ _ (by omega)⟩, fun _ => by rw [HRT.out]; exact ⟨rfl, HKE.out, HES.out⟩⟩⟩
      | true =>
        rw [hlist] at hrt HH hfl
        rw [if_neg (by simp)] at hrt
        have hc1 : (192 : Int) ≤ (c.toNat : Nat) := by have := of_decide_eq_true hfl.symm; omega
        have hd12 : ¬ 12 ≤ D := fun h => hdeep ⟨of_decide_eq_true hfl.symm, h⟩
        have hd1 : ¬ (12 : Int) ≤ (D : Nat) := by omega
        have hf1 := o4 hlist
        have hsl2 : ∀ W : World, (Instr.slice 9 (.string ⟨s.toArray⟩) none (some (.int .i64 (E : Nat))) none).run Tryz.prog W = .ok (.string ⟨(s.take E).toArray⟩) W := fun W => by
          have h2 : ((E : Nat) : Int) ≤ (s.length : Nat) := by omega
          have e : (⟨s.toArray⟩ : ByteArray).extract 0 E = ⟨(s.take E).toArray⟩ := by rw [cutS]; simp
          have hz : (⟨s.toArray⟩ : ByteArray).size = s.length := rfl
          simp [Instr.slice, run_underlying Tryz.underlying9, Instr.sliceBounds, run_sliceBound, h2, e, hz]
        have htl : (s.take E).length = E := by rw [List.length_take]; omega
        have HAE := Lib.hid hAE
        have HNE := Lib.hid (show 2 * (E - A) + 2 ≤ n by omega)
        have HTK := Lib.hid htk'
        have HRB : Hid ((M.itemsT n own (D + 1) 0).2 ≠ 0 → M.readT (n + 1) (s.drop k) D = (M.zeroI, [], (M.itemsT n own (D + 1) 0).2)) := fun h => by rw [hrt, if_pos h]
        have HRG : Hid ((M.itemsT n own (D + 1) 0).2 = 0 → M.readT (n + 1) (s.drop k) D = (.mk true [] (M.itemsT n own (D + 1) 0).1, s.drop E, 0)) := fun h => by rw [hrt, if_neg (by omega)]
        clear hrt hfl hdeep o4 hown hA hE o1 o2 hlen hc hhd htk' hf1 hAE
        go_enter Tryz.func70, Tryz.ntmps70
        go_wp2_with (rw [HW0.out])
        refine (HH.out _).mono ?_
        rintro e w1 ⟨rfl, hb1⟩
        have hg1 : Below w.heap.size w w1 := HB0.out.trans (hb1.mono HB0.out.size)
        have hrow1 := (hb1.block _ HLT.out).trans HR0.out
        have hlt1 : w.heap.size < w1.heap.size := Nat.lt_of_lt_of_le HLT.out hb1.size
        obtain ⟨w2, hw2⟩ : ∃ w2, w1.alloc (.cells #[.int .i64 ((A : Nat)), .int .i64 ((m : Nat)), .bool true, .int .i64 0] 164) = w2 := ⟨_, rfl⟩
        have hb2 : Below w1.heap.size w1 w2 := by rw [← hw2]; exact (Below.refl _ _).alloc (Nat.le_refl _) _
        have t0 : w2.cell? ⟨w1.heap.size, 0, none⟩ = some (.int .i64 (A : Nat)) := by rw [← hw2]; simp [go_sem]
        have t1 : w2.cell? ⟨w1.heap.size, 1, none⟩ = some (.int .i64 (m : Nat)) := by rw [← hw2]; simp [go_sem]
        have t2 : w2.cell? ⟨w1.heap.size, 2, none⟩ = some (.bool true) := by rw [← hw2]; simp [go_sem]
        have t3 : w2.cell? ⟨w1.heap.size, 3, none⟩ = some (.int .i64 0) := by rw [← hw2]; simp [go_sem]
        have hrow2 := (hb2.block _ hlt1).trans hrow1
        have hg2 := hg1.trans (hb2.mono hg1.size)
        have HW2 := Lib.hid hw2
        obtain ⟨w3, hw3⟩ : ∃ w3, w2.alloc (.cells #[.bool true, .string ⟨#[]⟩, .slice none 0 0] 44) = w3 := ⟨_, rfl⟩
        have hb3 : Below w2.heap.size w2 w3 := by rw [← hw3]; exact (Below.refl _ _).alloc (Nat.le_refl _) _
        have hlt2 : w.heap.size < w2.heap.size := Nat.lt_of_lt_of_le hlt1 hb2.size
        have hbox3 : w3.heap[w2.heap.size]? = some (.cells #[.bool true, .string ⟨#[]⟩, .slice none 0 0] 44 (0, 0)) := by rw [← hw3]; exact heap_alloc_new w2 _
        have hlt3 : w2.heap.size < w3.heap.size := by rw [← hw3]; simp
        have hrow3 := (hb3.block _ hlt2).trans hrow2
        have hg3 := hg2.trans (hb3.mono hg2.size)
        have T0 : TB w3.heap.size w2.heap.size w3 w3 [] (.slice none 0 0) := ⟨hbox3, ItRow.nil _ _, Below.refl _ _⟩
        have u0 : w3.cell? ⟨w1.heap.size, 0, none⟩ = some (.int .i64 (A : Nat)) := (hb3.cell (p := ⟨w1.heap.size, 0, none⟩) (by show w1.heap.size < _; rw [← hw2]; simp)).trans t0
        have HW3 := Lib.hid hw3
        clear hw2 hw3
        go_wp2_with (first | rw [HW2.out] | rw [HW3.out])
        clear t0 t1 t2 t3 u0 hb2 hb3 hrow1 hrow2 hbox3 HW2 HW3 hlt1
        go_loopw [10] (fun p wr => ∃ (pre : List (M.It × Value)) (q n' : Nat) (v : Value), p = .int .i64 (q : Nat) ∧ q ≤ E ∧ pre.length ≤ 512 ∧ 2 * (E - q) + 2 ≤ n' ∧ n' ≤ n ∧
            M.itemsT n own (D + 1) 0 = comb (pre.map (·.1)) (M.itemsT n' ((s.take E).drop q) (D + 1) pre.length) ∧ TB w3.heap.size w2.heap.size w3 wr pre v ∧ w3.heap.size ≤ wr.heap.size) (fun p _ => E - (RowKit.intOf p).toNat)
        case atStart => exact ⟨[], A, n, _, rfl, HAE.out, by simp, HNE.out, Nat.le_refl _, by rw [HTK.out]; exact (comb_nil _ _ _ _).symm, T0, Nat.le_refl _⟩
        case round =>
          obtain ⟨pre, q, n', v, rfl, hq, hp, hn', hnn, hrel, hT, hsz⟩ := hrel
          have hrowR := (hT.below.block w.heap.size hlt2).trans hrow3
          obtain ⟨va, vc, hve⟩ := hT.row.slice
          subst hve
          have cv := hT.cell
          obtain ⟨n1, rfl⟩ : ∃ n1, n' = n1 + 1 := ⟨n' - 1, by omega⟩
          have HTL := Lib.hid htl
          by_cases hlt : q < E
          · have hne : (s.take E).drop q ≠ [] := by
              intro h
              have := congrArg List.length h
              rw [List.length_drop, htl] at this
              simp at this
              omega
            have hlt' : ((q : Nat) : Int) < (E : Nat) := by omega
            by_cases hmany : pre.length = 512
            · rw [comb_many _ _ _ _ _ hne (by omega)] at hrel
              have hm' : (512 : Int) ≤ (pre.length : Nat) := by omega
              have hr := HRB.out (by rw [hrel]; simp)
              rw [hrel] at hr
              obtain ⟨⟨_, z0⟩, ⟨_, z1⟩, ⟨_, z2⟩, ⟨_, z3⟩, ⟨_, z4⟩, zf⟩ := cells_five hrowR
              have f0 := zf 0
              have f1 := zf 1
              have f2 := zf 2
              have f3 := zf 3
              have f4 := zf 4
              have HR := Lib.hid hr
              clear hr hrel hne
              go_wp2_with fail
              rw [set_five hrowR]
              refine got5_row rfl wr _ #[.bool false, .string ⟨#[]⟩, .slice none 0 0, .int .i64 0, .int .i64 5] _ rfl w.heap.size hrowR _ rfl ?_
              exact ⟨⟨false, [], [], none, 0, 0, by rw [HR.out]; rfl, by rw [HR.out]; rfl, Fresh.nil _ _ _, (hg3.trans (hT.below.mono (Nat.le_of_lt hlt2))).trans ⟨rfl, rfl, rfl, by simp, fun j hj => setRow_other _ _ _ _ (by omega)⟩, fun h => by rw [HR.out] at h; cases h⟩⟩
            · have hm' : ¬ (512 : Int) ≤ (pre.length : Nat) := by omega
              have hRd := ih n1 (by omega) (s.take E) q (D + 1) wr (by omega) (by omega) (by omega) (by omega)
              have hbad := comb_bad (pre.map (·.1)) n1 (D + 1) pre.length ((s.take E).drop q) hne (by omega)
              have hnext := comb_next (pre.map (·.1)) n1 (D + 1) pre.length ((s.take E).drop q) hne (by omega)
              have hRd2 := hRd.mono fun _ _ h => h.ok
              clear hRd
              generalize M.readT n1 ((s.take E).drop q) (D + 1) = r at *
              obtain ⟨it, rest, er⟩ := r
              simp only at hRd2 hbad hnext
              have HRd := Lib.hid hRd2
              clear hRd2
              have hD1 : wrap64 ((D : Int) + 1) = ((D + 1 : Nat) : Int) := by unfold wrap64; omega
              have HD1 := Lib.hid hD1
              have HBAD := Lib.hid hbad
              have HNEXT := Lib.hid hnext
              have HREL := Lib.hid hrel
              clear hbad hnext hrel hne hD1
              have hDe : (D : Int) + 1 = ((D + 1 : Nat) : Int) := by omega
              have HDe := Lib.hid hDe
              clear hDe
              go_wp2_with fail
              rw [HDe.out]
              refine HRd.out.mono ?_
              rintro e w4 ⟨l, b, xs, a, cap, pl, rfl, hx, hfr, hb4, hpl⟩
              subst hx
              have hz4 := hb4.size
              have hRt4 := (hb4.block _ (Nat.lt_of_lt_of_le (Nat.lt_of_lt_of_le (Nat.lt_trans hlt2 hlt3) hsz) (Nat.le_refl _))).trans hrowR
              have hR4lt : w.heap.size < w4.heap.size := Nat.lt_of_lt_of_le (Nat.lt_of_lt_of_le (Nat.lt_trans hlt2 hlt3) hsz) hz4
              by_cases her : er = 0
              · subst her
                obtain ⟨w5, hw5⟩ : ∃ w5, w4.alloc (.cells #[.bool l, .string ⟨b.toArray⟩, .slice a xs.length cap, .int .i64 (pl : Nat), .int .i64 0] 108) = w5 := ⟨_, rfl⟩
                have hb5 : Below w4.heap.size w4 w5 := by rw [← hw5]; exact (Below.refl _ _).alloc (Nat.le_refl _) _
                have hg5 : w5.heap[w4.heap.size]? = some (.cells #[.bool l, .string ⟨b.toArray⟩, .slice a xs.length cap, .int .i64 (pl : Nat), .int .i64 0] 108 (0, 0)) := by rw [← hw5]; exact heap_alloc_new w4 _
                have hz5 : w4.heap.size < w5.heap.size := by rw [← hw5]; simp
                have x0 : w5.cell? ⟨w4.heap.size, 0, none⟩ = some (.bool l) := by simp [World.cell?, hg5]
                have x1 : w5.cell? ⟨w4.heap.size, 1, none⟩ = some (.string ⟨b.toArray⟩) := by simp [World.cell?, hg5]
                have x2 : w5.cell? ⟨w4.heap.size, 2, none⟩ = some (.slice a xs.length cap) := by simp [World.cell?, hg5]
                have x3 : w5.cell? ⟨w4.heap.size, 3, none⟩ = some (.int .i64 (pl : Nat)) := by simp [World.cell?, hg5]
                have x4 : w5.cell? ⟨w4.heap.size, 4, none⟩ = some (.int .i64 0) := by simp [World.cell?, hg5]
                have hrow5 := (hb5.block _ hR4lt).trans hRt4
                have HW5 := Lib.hid hw5
                clear hw5
                obtain ⟨hpl1, hpl2, hpl3⟩ := hpl rfl
                rw [htl] at hpl3
                have hrb := HREL.out
                rw [HNEXT.out rfl, ← hpl1] at hrb
                have HRB2 := Lib.hid hrb
                have hbIr : w2.heap.size < wr.heap.size := Nat.lt_of_lt_of_le hlt3 hsz
                have hT5 : TB w3.heap.size w2.heap.size w3 w5 pre (.slice va pre.length vc) := (hT.kept hbIr hsz hb4).kept (by omega) (by omega) hb5
                have hb6 : Below w5.heap.size w5 (w5.alloc (.cells #[.bool l, .string ⟨b.toArray⟩, .slice a xs.length cap] 44)) := (Below.refl _ _).alloc (Nat.le_refl _) _
                have HT5 := Lib.hid hT5
                have HL6 := Lib.hid (hT5.row.from_ hb6)
                have HK6 := Lib.hid (hT.row.other hsz (hfr.from_ (hb5.trans (hb6.mono (by omega)))))
                have HN6 : Hid (∀ j x, ([.bool l, .string ⟨b.toArray⟩, .slice a xs.length cap] : List Value)[j]? = some x → (w5.alloc (.cells #[.bool l, .string ⟨b.toArray⟩, .slice a xs.length cap] 44)).cell? ((⟨w5.heap.size, 0, none⟩ : Addr).add j) = some x) := fun j x hj => by
                  rw [addr_add]
                  match j, hj with
                  | 0, hj => simp at hj; subst hj; simp [go_sem]
                  | 1, hj => simp at hj; subst hj; simp [go_sem]
                  | 2, hj => simp at hj; subst hj; simp [go_sem]
                  | j + 3, hj => simp at hj
                have hown : ∀ g, (Value.slice va pre.length vc).ownBlock = some g → w3.heap.size ≤ g ∧ g < wr.heap.size := fun g hg => World.ownsRow.lt hT.row.own g hg
                have HOWN := Lib.hid hown
                have HG5 := Lib.hid hg5
                have HBEL := Lib.hid hT5.below
                have HFR := Lib.hid hfr
                have cv5 := hT5.cell
                have HPL := Lib.hid (show q < pl ∧ pl ≤ E from ⟨hpl2, hpl3⟩)
                clear hrb hpl hpl1 hpl2 hpl3 hb6 hT5 hown hg5 hfr hrow5 hRt4 cv hrowR
                go_wp2_with (first | rw [HW5.out] | (at_builtin; refine wpList_append_item rfl _ _ rfl rfl HL6.out (by simp; omega) (by omega) ⟨w5.heap.size, 0, none⟩ 1 rfl l b xs _ HN6.out rfl HK6.out ?_))
                intro v7 w7 hL7 hg7
                obtain ⟨w6, hw6⟩ : ∃ w6, w5.alloc (.cells #[.bool l, .string ⟨b.toArray⟩, .slice a xs.length cap] 44) = w6 := ⟨_, rfl⟩
                have hb6 : Below w5.heap.size w5 w6 := by rw [← hw6]; exact (Below.refl _ _).alloc (Nat.le_refl _) _
                rw [hw6] at hg7
                have hz6 := hb6.size
                have hz7 := hg7.size
                have hne2 : some w2.heap.size ≠ (Value.slice va pre.length vc).ownBlock := fun e => by have := (HOWN.out _ e.symm).1; omega
                have hne4 : some w4.heap.size ≠ (Value.slice va pre.length vc).ownBlock := fun e => by have := (HOWN.out _ e.symm).2; omega
                have hbox7 : w7.heap[w2.heap.size]? = some (.cells #[.bool true, .string ⟨#[]⟩, .slice va pre.length vc] 44 (0, 0)) := (hg7.block _ (by omega) hne2).trans ((hb6.block _ (by omega)).trans HT5.out.box)
                have hgot7 : w7.heap[w4.heap.size]? = some (.cells #[.bool l, .string ⟨b.toArray⟩, .slice a xs.length cap, .int .i64 (pl : Nat), .int .i64 0] 108 (0, 0)) := (hg7.block _ (by omega) hne4).trans ((hb6.block _ (by omega)).trans HG5.out)
                have k2 : w7.cell? ⟨w2.heap.size, 2, none⟩ = some (.slice va pre.length vc) := by simp [World.cell?, hbox7]
                have kf : w7.frozen? ⟨w2.heap.size, 2, none⟩ = false := by simp [World.frozen?, hbox7]
                have k3 : w7.cell? ⟨w4.heap.size, 3, none⟩ = some (.int .i64 (pl : Nat)) := by simp [World.cell?, hgot7]
                have hb7 : Below w2.heap.size w3 w7 := (HBEL.out.trans (hb6.mono (by omega))).grown hg7 (by omega) (fun g hg => by have := (HOWN.out g hg).1; omega)
                obtain ⟨va7, vc7, hv7⟩ := hL7.slice
                obtain ⟨n7, hn7⟩ : ∃ n7, (pre ++ [(M.It.mk l b xs, Value.slice a xs.length cap)]).length = n7 := ⟨_, rfl⟩
                rw [hn7] at hv7
                have hn7' : n7 = pre.length + 1 := by rw [← hn7]; simp
                subst hv7
                have hbox8 : (w7.setCell ⟨w2.heap.size, 2, none⟩ (.slice va7 n7 vc7)).heap[w2.heap.size]? = some (.cells #[.bool true, .string ⟨#[]⟩, .slice va7 n7 vc7] 44 (0, 0)) := by
                  rw [setCell_eq_setRow w7 w2.heap.size 2 _ 44 (0, 0) _ hbox7]
                  exact setRow_heap w7 _ _ _ 44 (0, 0) hbox7
                have HT8 : Hid (TB w3.heap.size w2.heap.size w3 (w7.setCell ⟨w2.heap.size, 2, none⟩ (.slice va7 n7 vc7)) (pre ++ [(M.It.mk l b xs, Value.slice a xs.length cap)]) (.slice va7 n7 vc7)) :=
                  ⟨hbox8, hL7.setCell ⟨w2.heap.size, 2, none⟩ _ (by simpa using hlt3), hb7.trans ((Below.refl _ _).setCell (p := ⟨w2.heap.size, 2, none⟩) (Nat.le_refl _) _)⟩
                have k38 : (w7.setCell ⟨w2.heap.size, 2, none⟩ (.slice va7 n7 vc7)).cell? ⟨w4.heap.size, 3, none⟩ = some (.int .i64 (pl : Nat)) := by
                  rw [World.cell?_of_block (a := ⟨w4.heap.size, 3, none⟩) (Below.heap_setCell _ _ _ _ (by simp; omega))]
                  exact k3
                have HZ7 := Lib.hid (show w3.heap.size ≤ w7.heap.size by omega)
                have HPR := Lib.hid (show pre.length + 1 ≤ 512 by omega)
                have HQ7 := Lib.hid (show 2 * (E - pl) + 2 ≤ n1 by have := HPL.out; omega)
                have HN7 := Lib.hid hn7'
                clear hn7 hn7' hbox7 hgot7 hbox8 hL7 hg7 hb7 hne2 hne4 hw6 hb6 hz6 hz7 HL6 HK6 HN6 HT5 HG5 HBEL
                go_wp2_with fail
                go_roundw
                case rel =>
                  refine ⟨pre ++ [(M.It.mk l b xs, Value.slice a xs.length cap)], pl, n1, .slice va7 n7 vc7, rfl, HPL.out.2, by rw [List.length_append]; exact HPR.out, HQ7.out, by omega, ?_, HT8.out, by simpa [World.setCell] using HZ7.out⟩
                  rw [HRB2.out, List.map_append, List.length_append]
                  rfl
                case measure => have := HPL.out; simp [RowKit.intOf]; omega
              · have her' : ¬ ((er : Nat) : Int) = 0 := by omega
                obtain ⟨w5, hw5⟩ : ∃ w5, w4.alloc (.cells #[.bool l, .string ⟨b.toArray⟩, .slice a xs.length cap, .int .i64 (pl : Nat), .int .i64 (er : Nat)] 108) = w5 := ⟨_, rfl⟩
                have hb5 : Below w4.heap.size w4 w5 := by rw [← hw5]; exact (Below.refl _ _).alloc (Nat.le_refl _) _
                have hg5 : w5.heap[w4.heap.size]? = some (.cells #[.bool l, .string ⟨b.toArray⟩, .slice a xs.length cap, .int .i64 (pl : Nat), .int .i64 (er : Nat)] 108 (0, 0)) := by rw [← hw5]; exact heap_alloc_new w4 _
                have hz5 : w4.heap.size < w5.heap.size := by rw [← hw5]; simp
                have x0 : w5.cell? ⟨w4.heap.size, 0, none⟩ = some (.bool l) := by simp [World.cell?, hg5]
                have x1 : w5.cell? ⟨w4.heap.size, 1, none⟩ = some (.string ⟨b.toArray⟩) := by simp [World.cell?, hg5]
                have x2 : w5.cell? ⟨w4.heap.size, 2, none⟩ = some (.slice a xs.length cap) := by simp [World.cell?, hg5]
                have x3 : w5.cell? ⟨w4.heap.size, 3, none⟩ = some (.int .i64 (pl : Nat)) := by simp [World.cell?, hg5]
                have x4 : w5.cell? ⟨w4.heap.size, 4, none⟩ = some (.int .i64 (er : Nat)) := by simp [World.cell?, hg5]
                have hrow5 := (hb5.block _ hR4lt).trans hRt4
                have HW5 := Lib.hid hw5
                clear hw5
                have hrb := HREL.out
                rw [HBAD.out her] at hrb
                have hr := HRB.out (by rw [hrb]; exact her)
                rw [hrb] at hr
                obtain ⟨⟨_, z0⟩, ⟨_, z1⟩, ⟨_, z2⟩, ⟨_, z3⟩, ⟨_, z4⟩, zf⟩ := cells_five hrow5
                have f0 := zf 0
                have f1 := zf 1
                have f2 := zf 2
                have f3 := zf 3
                have f4 := zf 4
                have HR := Lib.hid hr
                have HER := Lib.hid her
                clear hr hrb her
                go_wp2_with (rw [HW5.out])
                rw [set_five hrow5]
                refine got5_row rfl w5 _ #[.bool false, .string ⟨#[]⟩, .slice none 0 0, .int .i64 0, .int .i64 (er : Nat)] _ rfl w.heap.size hrow5 _ rfl ?_
                have hgw : Below w.heap.size w w5 := (hg3.trans (hT.below.mono (Nat.le_of_lt hlt2))).trans ((hb4.trans (hb5.mono hz4)).mono (Nat.le_of_lt (Nat.lt_of_lt_of_le (Nat.lt_trans hlt2 hlt3) hsz)))
                exact ⟨⟨false, [], [], none, 0, 0, by rw [HR.out]; rfl, by rw [HR.out]; rfl, Fresh.nil _ _ _, hgw.trans ⟨rfl, rfl, rfl, by simp, fun j hj => setRow_other _ _ _ _ (by omega)⟩, fun h => by rw [HR.out] at h; exact absurd h HER.out⟩⟩
          · obtain rfl : q = E := by omega
            have hlt' : ¬ ((q : Nat) : Int) < (q : Nat) := by omega
            have hdl : (s.take q).drop q = [] := List.drop_eq_nil_of_le (by omega)
            rw [hdl, comb_end] at hrel
            have hr := HRG.out (by rw [hrel])
            rw [hrel] at hr
            have c0 : wr.cell? ⟨w2.heap.size, 0, none⟩ = some (.bool true) := by simp [World.cell?, hT.box]
            have c1 : wr.cell? ⟨w2.heap.size, 1, none⟩ = some (.string ⟨#[]⟩) := by simp [World.cell?, hT.box]
            obtain ⟨⟨_, z0⟩, ⟨_, z1⟩, ⟨_, z2⟩, ⟨_, z3⟩, ⟨_, z4⟩, zf⟩ := cells_five hrowR
            have f0 := zf 0
            have f1 := zf 1
            have f2 := zf 2
            have f3 := zf 3
            have f4 := zf 4
            have HR := Lib.hid hr
            have hF := hT.row.fresh
            clear hr hrel hdl
            go_wp2_with fail
            rw [set_five hrowR]
            refine got5_row rfl wr _ #[.bool true, .string ⟨#[]⟩, .slice va pre.length vc, .int .i64 (q : Nat), .int .i64 0] _ rfl w.heap.size hrowR _ rfl ?_
            refine ⟨⟨true, [], pre.map (·.1), va, vc, q, by rw [HR.out, List.length_map]; rfl, by rw [HR.out], ?_, (hg3.trans (hT.below.mono (Nat.le_of_lt hlt2))).trans ⟨rfl, rfl, rfl, by simp, fun j hj => setRow_other _ _ _ _ (by omega)⟩, fun _ => by rw [HR.out]; exact ⟨rfl, HKE.out, HES.out⟩⟩⟩
            rw [List.length_map]
            exact LayS.keep hF fun b ⟨h1, h2⟩ => ⟨⟨by omega, by simpa using h2⟩, setRow_other _ _ _ _ (by omega)⟩
    · rw [if_pos h0] at hrt
      unfold M.hdK at HH
      rw [if_neg h0] at HH
      simp only [M.hdErr] at HH
      have HRT := Lib.hid hrt
      have HQ := Lib.hid h0
      generalize (M.hdT (s.drop k)).e = er at *
      have hq0 : ¬ ((er : Nat) : Int) = 0 := by omega
      clear hrt hok hfl htk hdd h0
      by_cases hkl : k < s.length
      · obtain ⟨c, hc⟩ : ∃ c, s[k]? = some c := ⟨s[k], List.getElem?_eq_getElem hkl⟩
        rw [drop_head s k c hc] at hdeep
        have hix := idx_at hc
        have hk1 : ((k : Nat) : Int) < (s.length : Nat) := by omega
        by_cases h192 : 192 ≤ c.toNat
        · have hc1 : (192 : Int) ≤ (c.toNat : Nat) := by omega
          have hd12 : ¬ 12 ≤ D := fun h => hdeep ⟨h192, h⟩
          have hd1 : ¬ (12 : Int) ≤ (D : Nat) := by omega
          clear hdeep hlen hc
          go_enter Tryz.func70, Tryz.ntmps70
          go_wp2_with (rw [HW0.out])
          refine (HH.out _).mono ?_
          rintro e w1 ⟨rfl, hb1⟩
          have hg1 : Below w.heap.size w w1 := HB0.out.trans (hb1.mono HB0.out.size)
          have hrow1 := (hb1.block _ HLT.out).trans HR0.out
          have hlt1 : w.heap.size < w1.heap.size := Nat.lt_of_lt_of_le HLT.out hb1.size
          -- a fault of the head
          obtain ⟨w2, hw2⟩ : ∃ w2, w1.alloc (.cells #[.int .i64 0, .int .i64 0, .bool false, .int .i64 (er : Nat)] 164) = w2 := ⟨_, rfl⟩
          have hb2 : Below w1.heap.size w1 w2 := by rw [← hw2]; exact (Below.refl _ _).alloc (Nat.le_refl _) _
          have t3 : w2.cell? ⟨w1.heap.size, 3, none⟩ = some (.int .i64 (er : Nat)) := by rw [← hw2]; simp [go_sem]
          have hrow2 := (hb2.block _ hlt1).trans hrow1
          obtain ⟨⟨_, z0⟩, ⟨_, z1⟩, ⟨_, z2⟩, ⟨_, z3⟩, ⟨_, z4⟩, zf⟩ := cells_five hrow2
          have f0 := zf 0
          have f1 := zf 1
          have f2 := zf 2
          have f3 := zf 3
          have f4 := zf 4
          have HW2 := Lib.hid hw2
          have hg2 := hg1.trans (hb2.mono hg1.size)
          clear hw2
          go_wp2_with (rw [HW2.out])
          rw [set_five hrow2]
          refine got5_row rfl w2 _ #[.bool false, .string ⟨#[]⟩, .slice none 0 0, .int .i64 0, .int .i64 (er : Nat)] _ rfl w.heap.size hrow2 _ rfl ?_
          exact ⟨⟨false, [], [], none, 0, 0, by rw [HRT.out]; rfl, by rw [HRT.out]; rfl, Fresh.nil _ _ _, hg2.trans ⟨rfl, rfl, rfl, by simp, fun j hj => setRow_other _ _ _ _ (by omega)⟩, fun h => by rw [HRT.out] at h; exact absurd h HQ.out⟩⟩
        · have hc1 : ¬ (192 : Int) ≤ (c.toNat : Nat) := by omega
          clear hdeep hlen hc
          go_enter Tryz.func70, Tryz.ntmps70
          go_wp2_with (rw [HW0.out])
          refine (HH.out _).mono ?_
          rintro e w1 ⟨rfl, hb1⟩
          have hg1 : Below w.heap.size w w1 := HB0.out.trans (hb1.mono HB0.out.size)
          have hrow1 := (hb1.block _ HLT.out).trans HR0.out
          have hlt1 : w.heap.size < w1.heap.size := Nat.lt_of_lt_of_le HLT.out hb1.size
          -- a fault of the head
          obtain ⟨w2, hw2⟩ : ∃ w2, w1.alloc (.cells #[.int .i64 0, .int .i64 0, .bool false, .int .i64 (er : Nat)] 164) = w2 := ⟨_, rfl⟩
          have hb2 : Below w1.heap.size w1 w2 := by rw [← hw2]; exact (Below.refl _ _).alloc (Nat.le_refl _) _
          have t3 : w2.cell? ⟨w1.heap.size, 3, none⟩ = some (.int .i64 (er : Nat)) := by rw [← hw2]; simp [go_sem]
          have hrow2 := (hb2.block _ hlt1).trans hrow1
          obtain ⟨⟨_, z0⟩, ⟨_, z1⟩, ⟨_, z2⟩, ⟨_, z3⟩, ⟨_, z4⟩, zf⟩ := cells_five hrow2
          have f0 := zf 0
          have f1 := zf 1
          have f2 := zf 2
          have f3 := zf 3
          have f4 := zf 4
          have HW2 := Lib.hid hw2
          have hg2 := hg1.trans (hb2.mono hg1.size)
          clear hw2
          go_wp2_with (rw [HW2.out])
          rw [set_five hrow2]
          refine got5_row rfl w2 _ #[.bool false, .string ⟨#[]⟩, .slice none 0 0, .int .i64 0, .int .i64 (er : Nat)] _ rfl w.heap.size hrow2 _ rfl ?_
          exact ⟨⟨false, [], [], none, 0, 0, by rw [HRT.out]; rfl, by rw [HRT.out]; rfl, Fresh.nil _ _ _, hg2.trans ⟨rfl, rfl, rfl, by simp, fun j hj => setRow_other _ _ _ _ (by omega)⟩, fun h => by rw [HRT.out] at h; exact absurd h HQ.out⟩⟩
      · have hk1 : ¬ ((k : Nat) : Int) < (s.length : Nat) := by omega
        clear hdeep hlen
        go_enter Tryz.func70, Tryz.ntmps70
        go_wp2_with (rw [HW0.out])
        refine (HH.out _).mono ?_
        rintro e w1 ⟨rfl, hb1⟩
        have hg1 : Below w.heap.size w w1 := HB0.out.trans (hb1.mono HB0.out.size)
        have hrow1 := (hb1.block _ HLT.out).trans HR0.out
        have hlt1 : w.heap.size < w1.heap.size := Nat.lt_of_lt_of_le HLT.out hb1.size
        -- a fault of the head
        obtain ⟨w2, hw2⟩ : ∃ w2, w1.alloc (.cells #[.int .i64 0, .int .i64 0, .bool false, .int .i64 (er : Nat)] 164) = w2 := ⟨_, rfl⟩
        have hb2 : Below w1.heap.size w1 w2 := by rw [← hw2]; exact (Below.refl _ _).alloc (Nat.le_refl _) _
        have t3 : w2.cell? ⟨w1.heap.size, 3, none⟩ = some (.int .i64 (er : Nat)) := by rw [← hw2]; simp [go_sem]
        have hrow2 := (hb2.block _ hlt1).trans hrow1
        obtain ⟨⟨_, z0⟩, ⟨_, z1⟩, ⟨_, z2⟩, ⟨_, z3⟩, ⟨_, z4⟩, zf⟩ := cells_five hrow2
        have f0 := zf 0
        have f1 := zf 1
        have f2 := zf 2
        have f3 := zf 3
        have f4 := zf 4
        have HW2 := Lib.hid hw2
        have hg2 := hg1.trans (hb2.mono hg1.size)
        clear hw2
        go_wp2_with (rw [HW2.out])
        rw [set_five hrow2]
        refine got5_row rfl w2 _ #[.bool false, .string ⟨#[]⟩, .slice none 0 0, .int .i64 0, .int .i64 (er : Nat)] _ rfl w.heap.size hrow2 _ rfl ?_
        exact ⟨⟨false, [], [], none, 0, 0, by rw [HRT.out]; rfl, by rw [HRT.out]; rfl, Fresh.nil _ _ _, hg2.trans ⟨rfl, rfl, rfl, by simp, fun j hj => setRow_other _ _ _ _ (by omega)⟩, fun h => by rw [HRT.out] at h; exact absurd h HQ.out⟩⟩
end Go.Proofs.YtebjhbeaknokkaaGreatDoor
namespace Go.Proofs.YtebjhbeaknokkaaGreatDoor
open Go Go.RowKit Go.Lib
attribute [local go_sem] Oper.semAt_some

theorem read_all : ∀ n, ReadC n := by
  intro n
  induction n using Nat.strongRecOn with
  | _ n ih =>
    cases n with
    | zero => intro s k D w _ _ h _; omega
    | succ n => exact read_step n fun j hj => ih j (by omega)

structure DcP (s : List UInt8) (w : World) (e : Ending) (w' : World) : Prop where
  ok : ∃ l b xs a cap, e = .returned (.tuple #[iv l b (.slice a xs.length cap), .int .i64 ((M.decodeL s).2 : Nat)]) ∧ (M.decodeL s).1 = .mk l b xs ∧ Fresh w.heap.size w' xs (.slice a xs.length cap) ∧ Below w.heap.size w w'
theorem dec5_post {fn : Func} (hres : fn.results = #[.cell 2 44, .tmp 3]) (w w1 : World) (tmps : Array Value) (l : Bool) (d : List UInt8) (xs : List M.It) (a : Option Addr) (cap er : Nat) (hB : Below w.heap.size w w1) (o0 : Value) (o1 : Value) (o2 : Value)
    (hrow : w1.heap[w.heap.size]? = some (.cells #[o0, o1, o2] 44 (0, 0))) (hF : LayS w1 (fun b => w.heap.size < b ∧ b < w1.heap.size) xs (.slice a xs.length cap)) (R : Ending → World → Prop)
    (h6 : tmps.getD 2 undef = .pointer (some ⟨w.heap.size, 0, none⟩)) (h7 : tmps.getD 3 undef = .int .i64 (er : Nat))
    (h : ∀ Z, Fresh w.heap.size Z xs (.slice a xs.length cap) → Below w.heap.size w Z → R (.returned (.tuple #[iv l d (.slice a xs.length cap), .int .i64 (er : Nat)])) Z) :
    bodyPost Tryz.prog fn R .ret { tmps := tmps, defers := [] } (((w1.setCell ⟨w.heap.size, 0, none⟩ (.bool l)).setCell ⟨w.heap.size, 1, none⟩ (.string ⟨d.toArray⟩)).setCell ⟨w.heap.size, 2, none⟩ (.slice a xs.length cap)) := by
  rw [set_three hrow]
  have hg : (w1.setRow w.heap.size #[.bool l, .string ⟨d.toArray⟩, .slice a xs.length cap]).heap[w.heap.size]? = some (.cells #[.bool l, .string ⟨d.toArray⟩, .slice a xs.length cap] 44 (0, 0)) := setRow_heap _ _ _ _ _ (0, 0) hrow
  have hz : (w1.setRow w.heap.size #[.bool l, .string ⟨d.toArray⟩, .slice a xs.length cap]).heap.size = w1.heap.size := by simp
  have ho : ∀ b, b ≠ w.heap.size → (w1.setRow w.heap.size #[.bool l, .string ⟨d.toArray⟩, .slice a xs.length cap]).heap[b]? = w1.heap[b]? := fun b hb => setRow_other _ _ _ _ (fun e => hb (by simpa using e))
  have hb2 : Below w.heap.size w1 (w1.setRow w.heap.size #[.bool l, .string ⟨d.toArray⟩, .slice a xs.length cap]) := ⟨rfl, rfl, rfl, by omega, fun b hb => ho b (by omega)⟩
  have hl : Fresh w.heap.size (w1.setRow w.heap.size #[.bool l, .string ⟨d.toArray⟩, .slice a xs.length cap]) xs (.slice a xs.length cap) := hF.keep (T := fun b => w.heap.size ≤ b ∧ b < (w1.setRow w.heap.size #[.bool l, .string ⟨d.toArray⟩, .slice a xs.length cap]).heap.size) (W := w1.setRow w.heap.size #[.bool l, .string ⟨d.toArray⟩, .slice a xs.length cap]) fun b ⟨h1, h2⟩ => ⟨by omega, ho b (by omega)⟩
  have := results_cell_one (fn := fn) hres tmps Tryz.prog (w1.setRow w.heap.size #[.bool l, .string ⟨d.toArray⟩, .slice a xs.length cap]) ⟨w.heap.size, 0, none⟩ (.agg #[.bool l, .string ⟨d.toArray⟩, .slice a xs.length cap]) h6
    (run_loadVar_row _ _ _ _ _ (0, 0) _ hg Tryz.underlying44 rfl Tryz.itemSize)
  rw [h7] at this
  exact bodyPost_ret this rfl (h _ hl (hB.trans hb2))

set_option maxRecDepth 100000 in
set_option maxHeartbeats 8000000 in

def Dz (w : World) (g er : Nat) (Y : World) : Prop := Below w.heap.size w Y ∧ (∃ o0 o1 o2, Y.heap[w.heap.size]? = some (.cells #[o0, o1, o2] 44 (0, 0))) ∧ Y.cell? ⟨g, 4, none⟩ = some (.int .i64 (er : Nat))
set_option maxRecDepth 100000 in
set_option maxHeartbeats 8000000 in
theorem rdec5_any (s : List UInt8) (w : World) (hs : s.length ≤ 65536) : Calls Tryz.prog 36 #[.string ⟨s.toArray⟩] w fun e w' => DcP s w e w' := by
  have mixed : Tryz.prog.follows .mixedOrders = true := by kernel_rfl
  obtain ⟨w0, hw0⟩ : ∃ w0, w.alloc (.cells #[.bool false, .string ⟨#[]⟩, .slice none 0 0] 44) = w0 := ⟨_, rfl⟩
  have hb0 : Below w.heap.size w w0 := by rw [← hw0]; exact (Below.refl _ _).alloc (Nat.le_refl _) _
  have hrow0 : w0.heap[w.heap.size]? = some (.cells #[.bool false, .string ⟨#[]⟩, .slice none 0 0] 44 (0, 0)) := by rw [← hw0]; exact heap_alloc_new w _
  have hlt0 : w.heap.size < w0.heap.size := by rw [← hw0]; simp
  have HW0 := Lib.hid hw0
  clear hw0
  have hl : ¬ (65536 : Int) < (s.length : Nat) := by omega
  have hR := (read_all (2 * s.length + 1) s 0 0 w0 hs (Nat.zero_le _) (by omega) (by omega)).mono fun _ _ h => h.ok
  rw [List.drop_zero] at hR
  have hD : M.decodeL s = if (M.readT (2 * s.length + 1) s 0).2.2 ≠ 0 then (M.zeroI, (M.readT (2 * s.length + 1) s 0).2.2)
      else if (M.readT (2 * s.length + 1) s 0).2.1 ≠ [] then (M.zeroI, 4) else ((M.readT (2 * s.length + 1) s 0).1, 0) := by
    unfold M.decodeL
    rw [if_neg (by omega)]
  generalize M.readT (2 * s.length + 1) s 0 = r at *
  obtain ⟨it, rest, er⟩ := r
  dsimp only at hR hD
  have HR := Lib.hid hR
  have HD := Lib.hid hD
  clear hR hD
  go_enter Tryz.func36, Tryz.ntmps36
  go_wp2_with (rw [HW0.out])
  refine HR.out.mono ?_
  rintro e w1 ⟨l, b, xs, a, cap, pl, rfl, hx, hfr, hb1, hpl⟩
  subst hx
  have hrow1 := (hb1.block _ hlt0).trans hrow0
  have hlt1 : w.heap.size < w1.heap.size := Nat.lt_of_lt_of_le hlt0 hb1.size
  have hg1 := hb0.trans (hb1.mono hb0.size)
  by_cases her : er = 0
  · subst her
    obtain ⟨p1, p2, p3⟩ := hpl rfl
    obtain ⟨w2, hw2⟩ : ∃ w2, w1.alloc (.cells #[.bool l, .string ⟨b.toArray⟩, .slice a xs.length cap, .int .i64 (pl : Nat), .int .i64 0] 108) = w2 := ⟨_, rfl⟩
    have hb2 : Below w1.heap.size w1 w2 := by rw [← hw2]; exact (Below.refl _ _).alloc (Nat.le_refl _) _
    have hg2 : w2.heap[w1.heap.size]? = some (.cells #[.bool l, .string ⟨b.toArray⟩, .slice a xs.length cap, .int .i64 (pl : Nat), .int .i64 0] 108 (0, 0)) := by rw [← hw2]; exact heap_alloc_new w1 _
    have x0 : w2.cell? ⟨w1.heap.size, 0, none⟩ = some (.bool l) := by simp [World.cell?, hg2]
    have x1 : w2.cell? ⟨w1.heap.size, 1, none⟩ = some (.string ⟨b.toArray⟩) := by simp [World.cell?, hg2]
    have x2 : w2.cell? ⟨w1.heap.size, 2, none⟩ = some (.slice a xs.length cap) := by simp [World.cell?, hg2]
    have x3 : w2.cell? ⟨w1.heap.size, 3, none⟩ = some (.int .i64 (pl : Nat)) := by simp [World.cell?, hg2]
    have x4 : w2.cell? ⟨w1.heap.size, 4, none⟩ = some (.int .i64 0) := by simp [World.cell?, hg2]
    have hrow2 := (hb2.block _ hlt1).trans hrow1
    obtain ⟨⟨_, z0⟩, ⟨_, z1⟩, ⟨_, z2⟩, y0, y1, y2⟩ := cells_three hrow2
    have hgw := hg1.trans (hb2.mono hg1.size)
    have hF : LayS w2 (fun b => w.heap.size < b ∧ b < w2.heap.size) xs (.slice a xs.length cap) := hfr.keep fun b ⟨h1, h2⟩ => ⟨⟨by omega, by have := hb2.size; omega⟩, hb2.block b h2⟩
    have HW2 := Lib.hid hw2
    clear hw2 hg2
    by_cases hrest : pl < s.length
    · have hrest' : ((pl : Nat) : Int) < (s.length : Nat) := by omega
      have hd := HD.out
      rw [if_neg (by simp), if_pos (by rw [← p1]; intro h; have := congrArg List.length h; rw [List.length_drop] at this; simp at this; omega)] at hd
      have HDD := Lib.hid hd
      clear hd p1 hF hfr
      go_wp2_with (rw [HW2.out])
      refine dec5_post rfl w w2 _ false [] [] none 0 4 hgw _ _ _ hrow2 (.nil_ (by decide)) _ rfl rfl ?_
      exact fun Z h1 h2 => ⟨⟨false, [], [], none, 0, by rw [HDD.out] <;> rfl, by rw [HDD.out] <;> rfl, h1, h2⟩⟩
    · have hrest' : ¬ ((pl : Nat) : Int) < (s.length : Nat) := by omega
      have hd := HD.out
      rw [if_neg (by simp), if_neg (by rw [← p1, List.drop_eq_nil_of_le (by omega)]; simp)] at hd
      have HDD := Lib.hid hd
      have HF := Lib.hid hF
      clear hd p1 hF hfr
      go_wp2_with (rw [HW2.out])
      refine dec5_post rfl w w2 _ l b xs a cap 0 hgw _ _ _ hrow2 HF.out _ rfl rfl ?_
      exact fun Z h1 h2 => ⟨⟨l, b, xs, a, cap, by rw [HDD.out] <;> rfl, by rw [HDD.out], h1, h2⟩⟩
  · have her' : ¬ ((er : Nat) : Int) = 0 := by omega
    obtain ⟨w2, hw2⟩ : ∃ w2, w1.alloc (.cells #[.bool l, .string ⟨b.toArray⟩, .slice a xs.length cap, .int .i64 (pl : Nat), .int .i64 (er : Nat)] 108) = w2 := ⟨_, rfl⟩
    have hb2 : Below w1.heap.size w1 w2 := by rw [← hw2]; exact (Below.refl _ _).alloc (Nat.le_refl _) _
    have hg2 : w2.heap[w1.heap.size]? = some (.cells #[.bool l, .string ⟨b.toArray⟩, .slice a xs.length cap, .int .i64 (pl : Nat), .int .i64 (er : Nat)] 108 (0, 0)) := by rw [← hw2]; exact heap_alloc_new w1 _
    have x4 : w2.cell? ⟨w1.heap.size, 4, none⟩ = some (.int .i64 (er : Nat)) := by simp [World.cell?, hg2]
    have hrow2 := (hb2.block _ hlt1).trans hrow1
    have hgw := hg1.trans (hb2.mono hg1.size)
    have hd := HD.out
    rw [if_pos her] at hd
    have HDD := Lib.hid hd
    have HW2 := Lib.hid hw2
    clear hw2 hd hfr hpl
    go_wp2_with (rw [HW2.out])
    refine wp_region_held (S := Dz w w1.heap.size er) mixed ?_
    have hS0 : Dz w w1.heap.size er w2.drew := ⟨hgw.drew, ⟨_, _, _, hrow2⟩, x4⟩
    rw [show Array.replicate (Array.size _) false = #[false, false, false, false, false] from rfl, show Array.size (α := Oper) _ = 5 from rfl]
    refine wpAnyH_take (i := 0) (v := .agg #[.bool false, .string ⟨#[]⟩, .slice none 0 0]) rfl (by kernel_rfl) (by kernel_rfl) (by kernel_rfl) (fun _ _ _ h => h) (Or.inl ⟨by rfl, ?_⟩) hS0 ?_
    · intro Y hY
      skip
      go_simp
    simp only [Act.put, zqA, zqC, zqD, zqE, zqF]
    refine wpAnyH_take (i := 1) (v := .pointer (some ⟨w1.heap.size, 4, none⟩)) rfl (by kernel_rfl) (by kernel_rfl) (by kernel_rfl) (fun _ _ _ h => h) (Or.inl ⟨by rfl, ?_⟩) hS0 ?_
    · intro Y hY
      skip
      go_simp
    simp only [Act.put, zqA, zqB, zqC, zqD, zqE, zqF]
    refine wpAnyH_take (i := 2) (v := .int .i64 (er : Nat)) rfl (by kernel_rfl) (by kernel_rfl) (by kernel_rfl) (fun _ _ _ h => h) (Or.inl ⟨by rfl, ?_⟩) hS0 ?_
    · intro Y hY
      have c4 := hY.2.2
      go_simp
    simp only [Act.put, zqA, zqB, zqC, zqD, zqE, zqF]
    refine wpAnyH_ready (rs := [3]) (by kernel_rfl) (by simp) ?_
    refine AllReadyH.cons rfl (fun K hK => ?_) AllReadyH.nil
    have hrowD : w2.drew.heap[w.heap.size]? = _ := hrow2
    obtain ⟨⟨_, z0⟩, ⟨_, z1⟩, ⟨_, z2⟩, y0, y1, y2⟩ := cells_three hrow2
    go_simp
    rw [set_three hrow2]
    have hS5 : Dz w w1.heap.size er (w2.drew.setRow w.heap.size #[.bool false, .string ⟨#[]⟩, .slice none 0 0]) := ⟨hgw.drew.trans ⟨rfl, rfl, rfl, by simp, fun j hj => setRow_other _ _ _ _ (by omega)⟩, ⟨_, _, _, setRow_heap _ _ _ _ _ (0, 0) hrowD⟩, by
      rw [World.cell?_of_block (a := ⟨w1.heap.size, 4, none⟩) (setRow_other _ _ _ _ (show w1.heap.size ≠ w.heap.size by omega))]
      exact x4⟩
    refine hK.out _ _ hS5 (fun _ => ?_)
    clear hK K
    simp only [List.setIfInBounds_toArray, List.set_cons_zero, List.set_cons_succ]
    refine wpAnyH_take (i := 4) (v := .int .i64 (er : Nat)) rfl (by kernel_rfl) (by kernel_rfl) (by kernel_rfl) (fun _ _ _ h => h) (Or.inl ⟨by rfl, ?_⟩) hS5 ?_
    · intro Y hY
      skip
      go_simp
    simp only [Act.put, zqA, zqB, zqC, zqD, zqE, zqF]
    refine wpAnyH_done (by kernel_rfl) ?_ _
    go_wp2_with fail
    show bodyPost _ _ _ .ret _ (w2.drew.setRow w.heap.size #[.bool false, .string ⟨#[]⟩, .slice none 0 0])
    rw [← set_three hrowD]
    refine dec5_post rfl w w2.drew _ false [] [] none 0 er hgw.drew _ _ _ hrowD (.nil_ (by decide)) _ rfl rfl ?_
    exact fun Z h1 h2 => ⟨⟨false, [], [], none, 0, by rw [HDD.out] <;> rfl, by rw [HDD.out] <;> rfl, h1, h2⟩⟩
end Go.Proofs.YtebjhbeaknokkaaGreatDoor
namespace Go.Proofs.YtebjhbeaknokkaaGreatDoor
open Go Go.RowKit Go.Lib
attribute [local go_sem] Oper.semAt_some

def M.readR (x : M.It) : List M.Lg × Nat := if (M.getList 0 16 x).2 ≠ 0 then ([], (M.getList 0 16 x).2) else M.eachR M.logR (M.getList 0 16 x).1
set_option maxRecDepth 100000 in
set_option maxHeartbeats 4000000 in
theorem rreadR_any (l : Bool) (d : List UInt8) (xs : List M.It) (a : Option Addr) (cap : Nat) (w : World) (hL : Lay w w.heap.size xs (.slice a xs.length cap)) :
    Calls Tryz.prog 73 #[iv l d (.slice a xs.length cap)] w fun e w' => (∃ v, e = .returned (.tuple #[v, .int .i64 ((M.readR (.mk l d xs)).2 : Nat)]) ∧ Ls w' w'.heap.size (M.readR (.mk l d xs)).1 v) ∧ Below w.heap.size w w' := by
  have hbx := Box.new w l d (.slice a xs.length cap) 44
  obtain ⟨w0, hw0⟩ : ∃ w0, w.alloc (.cells #[.bool l, .string ⟨d.toArray⟩, .slice a xs.length cap] 44) = w0 := ⟨_, rfl⟩
  have hb0 : Below w.heap.size w w0 := by rw [← hw0]; exact (Below.refl _ _).alloc (Nat.le_refl _) _
  rw [hw0] at hbx
  have p0 := hbx.c0
  have p1 := hbx.c1
  have p2 := hbx.c2
  have HB := Lib.hid hb0
  have HW := Lib.hid hw0
  have HL := Lib.hid hL
  have HG := Lib.hid (rgl_any l d xs a cap 0 16 w0)
  obtain ⟨r1, r2, hR⟩ : ∃ r1 r2, M.readR (.mk l d xs) = (r1, r2) := ⟨_, _, rfl⟩
  rw [hR]
  dsimp only
  unfold M.readR at hR
  have hgl : (M.getList 0 16 (.mk l d xs)).2 = 0 → (M.getList 0 16 (.mk l d xs)).1 = xs ∧ xs.length ≤ 16 := by
    cases l with
    | false => intro h; cases h
    | true =>
      rw [M.getList_t]
      rw [if_neg (by omega)]
      split
      · intro h; cases h
      · intro _; exact ⟨rfl, by omega⟩
  generalize M.getList 0 16 (.mk l d xs) = gl at *
  obtain ⟨g1, ge⟩ := gl
  dsimp only at hR hgl
  clear hbx hw0 hb0 hL
  go_enter Tryz.func73, Tryz.ntmps73
  go_wp2_with (rw [HW.out])
  try rw [HW.out]
  refine HG.out.mono ?_
  rintro e w1 ⟨rfl, hb1⟩
  have HB1 := Lib.hid (HB.out.trans (hb1.mono HB.out.size))
  clear hb1 p0 p1 p2 HG HB
  by_cases hg : ge = 0
  · subst hg
    obtain ⟨rfl, hmx⟩ := hgl rfl
    rw [if_neg (by simp)] at hR
    have HR := Lib.hid hR
    clear hR hgl HW
    go_wp2_with (first | rw [if_pos rfl])
    go_loopw [6, 7, 8, 9] (fun u i s f wr => ∃ (k : Nat) (L : List (M.Lg × Value)), k ≤ g1.length ∧ i = .int .i64 k ∧ (∀ y ∈ g1.take k, (M.logR y).2 = 0) ∧ L.map (·.1) = (g1.take k).map (fun x => (M.logR x).1) ∧ LgRow w.heap.size wr L u ∧ Below w.heap.size w wr) (fun _ i _ _ _ => g1.length - (RowKit.intOf i).toNat)
    case atStart => exact ⟨0, [], by omega, rfl, by simp, rfl, LgRow.nil _ _, HB1.out⟩
    case round =>
      obtain ⟨k, L, hk, rfl, hG, hLm, hT, hwr⟩ := hrel
      by_cases hlt : k < g1.length
      · have hlti : (k : Int) < (g1.length : Int) := by omega
        have hk2 : k < 1000 := by omega
        have hLl : L.length ≤ 16 := by
          have := congrArg List.length hLm
          simp at this
          omega
        obtain ⟨b, o, cap', l', d', ys, u', he, hbn, hx, c0, c1, c2, hK⟩ := (HL.out.from_ hwr).at_ hlt
        cases he
        obtain ⟨va, vc, rfl, -, -⟩ := hK.slice
        have HX := Lib.hid hx
        have HT := Lib.hid hT
        have HGG := Lib.hid hG
        have HWR := Lib.hid hwr
        have HK := Lib.hid (hK.mono hwr.size)
        have HLM := Lib.hid hLm
        clear hx hT hG hwr hK hLm
        go_wp2_with fail
        refine (rlogR_any l' d' ys va vc wr HK.out).mono ?_
        rintro e w2 ⟨⟨u2, rfl, hT2, hO2⟩, hb2⟩
        obtain ⟨sa, sn, sc, rfl⟩ := hT2.sl
        have HB2 := Lib.hid (HWR.out.trans (hb2.mono HWR.out.size))
        have HT2 := Lib.hid (HT.out.from_ hb2)
        have hOO : OutT (M.logR (.mk l' d' ys)).1.topics (.slice sa sn sc) u6.ownBlock := fun _ h o n c e q => by
          have := hO2 h o n c e
          have := (World.ownsRow.lt HT.out.own h q.symm).2
          omega
        have HTT := Lib.hid hT2
        have HOO := Lib.hid hOO
        clear hb2 HT HK hT2 hO2 hOO
        by_cases h0 : (M.logR (.mk l' d' ys)).2 = 0
        · have hG2 := M.each_take HGG.out HX.out h0
          have hM2 := M.map_take (f := M.logR) HX.out
          rw [h0]
          have HG2 := Lib.hid hG2
          have HM2 := Lib.hid hM2
          clear hG2 hM2 h0 HGG
          generalize (M.logR (.mk l' d' ys)).1 = s at *
          obtain ⟨ad, tp, dt⟩ := s
          dsimp only at HTT HOO ⊢
          obtain ⟨w3, hw3⟩ : ∃ w3, w2.alloc (.cells #[.string ⟨ad.toArray⟩, .slice sa sn sc, .string ⟨dt.toArray⟩] 39) = w3 := ⟨_, rfl⟩
          have hb3 : Below w2.heap.size w2 w3 := by rw [← hw3]; exact (Below.refl _ _).alloc (Nat.le_refl _) _
          obtain ⟨w4, hw4⟩ : ∃ w4, w3.alloc (.cells #[.string ⟨ad.toArray⟩, .slice sa sn sc, .string ⟨dt.toArray⟩] 39) = w4 := ⟨_, rfl⟩
          have hb4 : Below w3.heap.size w3 w4 := by rw [← hw4]; exact (Below.refl _ _).alloc (Nat.le_refl _) _
          have hb24 := hb3.trans (hb4.mono hb3.size)
          have hB4 := HB2.out.trans (hb24.mono HB2.out.size)
          have hT4 := HT2.out.from_ hb24
          have hrow4 : w4.heap[w3.heap.size]? = some (.cells #[.string ⟨ad.toArray⟩, .slice sa sn sc, .string ⟨dt.toArray⟩] 39 (0, 0)) := by rw [← hw4]; exact heap_alloc_new w3 _
          have hnews : ∀ j y, (c3g ((⟨ad, tp, dt⟩ : M.Lg), .slice sa sn sc))[j]? = some y → w4.cell? ((⟨w3.heap.size, 0, none⟩ : Addr).add j) = some y := by
            intro j y hy
            rw [addr_add]
            have hy' : ([.string ⟨ad.toArray⟩, .slice sa sn sc, .string ⟨dt.toArray⟩] : List Value)[j]? = some y := hy
            simpa [World.cell?, hrow4] using hy'
          obtain ⟨v5, w5, hr5, hT5, hg5⟩ := lg_append hT4 hB4.size (by omega) 23 ⟨w3.heap.size, 0, none⟩ 1 (⟨ad, tp, dt⟩ : M.Lg) (.slice sa sn sc) hnews rfl ⟨HTT.out.kept_ hb24, HOO.out⟩
          have hB5 := grown_below hB4 hg5 (fun j hj e => by have := (World.ownsRow.lt hT4.own j e.symm).1; omega) hB4.size
          have h3c : ∀ j y, ([.string ⟨ad.toArray⟩, .slice sa sn sc, .string ⟨dt.toArray⟩] : List Value)[j]? = some y → w3.cell? ⟨w2.heap.size, j, none⟩ = some y := by
            intro j y hy
            have h : w3.heap[w2.heap.size]? = some (.cells #[.string ⟨ad.toArray⟩, .slice sa sn sc, .string ⟨dt.toArray⟩] 39 (0, 0)) := by rw [← hw3]; exact heap_alloc_new w2 _
            simpa [World.cell?, h] using hy
          have k0 := h3c 0 _ rfl
          have k1 := h3c 1 _ rfl
          have k2 := h3c 2 _ rfl
          have HR5 := Lib.hid hr5
          have HT5 := Lib.hid hT5
          have HB5 := Lib.hid hB5
          have HW3 := Lib.hid hw3
          have HW4 := Lib.hid hw4
          clear hr5 hT5 hB5 hg5 hnews hrow4 hT4 hB4 hb24 hb4 hb3 hw3 hw4 h3c HT2 HB2
          go_wp2_with (first | rw [HW3.out] | rw [HW4.out] | (at_builtin; refine wpList_append_run rfl _ _ _ rfl _ _ _ rfl rfl (by first | exact HR5.out | (rw [HW4.out]; exact HR5.out)) ?_))
          go_roundw
          case rel => exact ⟨k + 1, _, by omega, by simp, HG2.out, by rw [List.map_append, HLM.out, HM2.out]; rfl, HT5.out, HB5.out⟩
          case measure => simp [RowKit.intOf]; omega
        · have hbad := M.eachR_bad HGG.out HX.out h0
          rw [HR.out] at hbad
          obtain ⟨rfl, hq⟩ : r1 = [] ∧ (M.logR (.mk l' d' ys)).2 = r2 := ⟨by simpa using congrArg Prod.fst hbad, by simpa using (congrArg Prod.snd hbad).symm⟩
          rw [hq] at h0
          rw [hq]
          clear hbad HR hq
          generalize (M.logR (.mk l' d' ys)).1 = s at *
          have h1 : ((r2 : Int) == 0) = false := by simp [h0]
          have h2 : ¬ (r2 : Int) = 0 := by omega
          go_wp2_with fail
          go_ret2
          exact ⟨⟨_, rfl, .nil_ (by decide)⟩, HB2.out.alloc HB2.out.size _⟩
      · obtain rfl : k = g1.length := by omega
        rw [List.take_length] at hG hLm
        have hgood := M.eachR_good hG
        rw [HR.out] at hgood
        obtain ⟨rfl, rfl⟩ : r1 = g1.map (fun x => (M.logR x).1) ∧ r2 = 0 := by simpa using hgood
        have t1 := hT.ls
        rw [hLm] at t1
        obtain ⟨va, vc, hv, -, -⟩ := t1.slice
        rw [List.length_map] at hv
        subst hv
        have HH := Lib.hid t1
        clear t1 hT hG hLm
        go_wp2_with fail
        go_ret2
        exact ⟨⟨_, rfl, HH.out⟩, hwr⟩
  · rw [if_pos hg] at hR
    obtain ⟨rfl, rfl⟩ : [] = r1 ∧ ge = r2 := by simpa using hR
    have h1 : ((ge : Int) == 0) = false := by simp [hg]
    have h2 : ¬ (ge : Int) = 0 := by omega
    clear hgl
    go_wp2_with (first | rw [if_neg hg])
    go_ret2
    exact ⟨⟨_, rfl, .nil_ (by decide)⟩, HB1.out⟩
end Go.Proofs.YtebjhbeaknokkaaGreatDoor
