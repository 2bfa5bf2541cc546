/- Package receipt: logs, one by one. Package receipt: a receipt is read. -/
import Derived.Test.YtihiacbhdcahkaaGreatDoorTYJg
import Derived.Test.YtihiacbhdcahkaaGreatDoorH19
namespace Go.Proofs.YtihiacbhdcahkaaGreatDoor
open Go Go.RowKit Go.Lib
attribute [local go_sem] Oper.semAt_some

theorem Tryz.ofLog : (Tryz.prog.info? 40).map (fun i => (i.zero, i.size, i.bytes)) = some (some (.agg #[.string ⟨#[]⟩, .slice none 0 0, .string ⟨#[]⟩]), 3, 56) := by kernel_rfl
/-- The row holds these logs; their topics lie elsewhere. -/
def LgR (W : World) (h : Nat) (cur : Array Value) (ls : List M.Lg) : Prop := ∀ (j : Nat) (g : M.Lg), ls[j]? = some g → cur[j * 3]? = some (.string ⟨g.addr.toArray⟩) ∧ (∃ v, cur[j * 3 + 1]? = some v ∧ Ts W W.heap.size g.topics v ∧ OffB (h + 1) v) ∧ cur[j * 3 + 2]? = some (.string ⟨g.data.toArray⟩)
theorem LgR.but {w w' : World} {h b e : Nat} {cur : Array Value} {ls : List M.Lg} (H : LgR w h cur ls) (hS : RS w b e) (hb : But b w w') : LgR w' h cur ls := fun j g hj => by
  obtain ⟨c0, ⟨v, c1, t, o⟩, c2⟩ := H j g hj
  exact ⟨c0, ⟨v, c1, t.butk hS hb, o⟩, c2⟩
theorem LgR.snoc {w : World} {h : Nat} {cur : Array Value} {ls : List M.Lg} (H : LgR w h cur ls) (hl : ls.length * 3 + 3 ≤ cur.size) (g : M.Lg) (v : Value) (t : Ts w w.heap.size g.topics v) (o : OffB (h + 1) v) (cs : Array Value) :
    LgR (w.setRow h cs) h (((cur.setIfInBounds (ls.length * 3) (.string ⟨g.addr.toArray⟩)).setIfInBounds (ls.length * 3 + 1) v).setIfInBounds (ls.length * 3 + 2) (.string ⟨g.data.toArray⟩)) (ls ++ [g]) := by
  intro j x hj
  rcases Nat.lt_trichotomy j ls.length with q | q | q
  · rw [List.getElem?_append_left q] at hj
    obtain ⟨c0, ⟨u, c1, t', o'⟩, c2⟩ := H j x hj
    have k : ∀ i, i < ls.length * 3 → (((cur.setIfInBounds (ls.length * 3) (Value.string ⟨g.addr.toArray⟩)).setIfInBounds (ls.length * 3 + 1) v).setIfInBounds (ls.length * 3 + 2) (Value.string ⟨g.data.toArray⟩))[i]? = cur[i]? := fun i hi => by
      rw [Array.getElem?_setIfInBounds_ne (by omega), Array.getElem?_setIfInBounds_ne (by omega), Array.getElem?_setIfInBounds_ne (by omega)]
    exact ⟨(k _ (by omega)).trans c0, ⟨u, (k _ (by omega)).trans c1, by rw [setRow_size]; exact t'.row_ o' (by omega) _, o'⟩, (k _ (by omega)).trans c2⟩
  · subst q
    rw [List.getElem?_append_right (Nat.le_refl _)] at hj
    simp at hj
    subst hj
    refine ⟨?_, ⟨v, ?_, by rw [setRow_size]; exact t.row_ o (by omega) _, o⟩, ?_⟩
    · rw [Array.getElem?_setIfInBounds_ne (by omega), Array.getElem?_setIfInBounds_ne (by omega), Array.getElem?_setIfInBounds_self_of_lt (by omega)]
    · rw [Array.getElem?_setIfInBounds_ne (by omega), Array.getElem?_setIfInBounds_self_of_lt (by simp; omega)]
    · rw [Array.getElem?_setIfInBounds_self_of_lt (by simp; omega)]
  · rw [List.getElem?_eq_none (by simp; omega)] at hj
    cases hj
theorem Ls.of_row {w : World} {h n : Nat} {cur : Array Value} {ls : List M.Lg} (H : LgR w h cur ls) (hr : w.heap[h]? = some (.cells cur 40 (0, 0))) (hn : ls.length = n) (hm : n ≤ maxLen) : Ls w w.heap.size ls (.slice (some ⟨h, 0, none⟩) n n) := by
  subst hn
  have at_ : ∀ j v, cur[j]? = some v → w.cell? ⟨h, 0 + j, none⟩ = some v := fun j v hv => by simp [World.cell?, hr, hv]
  refine .row (fun j => (cur[j * 3 + 1]?).getD undef) (Array.getElem?_eq_some_iff.1 hr).1 (Nat.le_refl _) hm ?_ ?_ ?_ ?_
  · intro i g e
    exact at_ _ _ (H i g e).1
  · intro i g e
    obtain ⟨_, ⟨v, c1, _, _⟩, _⟩ := H i g e
    have := at_ _ _ c1
    rw [← Nat.add_assoc] at this
    rw [this, c1, Option.getD_some]
  · intro i g e
    have := at_ _ _ (H i g e).2.2
    rwa [← Nat.add_assoc] at this
  · intro i g e
    obtain ⟨_, ⟨v, c1, t, _⟩, _⟩ := H i g e
    rw [c1, Option.getD_some]
    exact t

set_option maxRecDepth 100000 in
set_option maxHeartbeats 4000000 in
theorem rdlogs_any (b e0 : Nat) (xs : List M.It) (a : Option Addr) (cap : Nat) (w : World) (hS : RS w b e0) (hL : Lay w w.heap.size xs (.slice a xs.length cap)) (hG : ∀ x ∈ xs, M.Gd x) (hn : xs.length ≤ 600) :
    Calls Tryz.prog 69 #[.slice a xs.length cap, .func (.func 70) #[.pointer (some ⟨b, 0, none⟩)] #[]] w fun e w' =>
      (∃ v, e = .returned v ∧ Ls w' w'.heap.size (M.rdEach M.rdLog e0 xs).1 v) ∧ RS w' b (M.rdEach M.rdLog e0 xs).2 ∧ But b w w' := by
  have E1 : ∀ args w, (callFunc 70 args).run Tryz.prog w = .ok (.enter 70 args) w := enters_of Tryz.func70 (by kernel_rfl) rfl
  obtain ⟨i0, hi, hz0, hz1, hz2⟩ := info_parts Tryz.ofLog
  have hmk : ∀ W : World, (Instr.makeSlice 23 (.int .i64 (xs.length : Int)) (.int .i64 (xs.length : Int))).run Tryz.prog W = .ok (.slice (some ⟨W.heap.size, 0, none⟩) xs.length xs.length) (W.alloc (.cells (madeCells (Value.agg #[.string ⟨#[]⟩, .slice none 0 0, .string ⟨#[]⟩]).cells (xs.length * 3)) 40)) := fun W => by
    have h := run_make (P := Tryz.prog) W 23 40 i0 _ Tryz.underlying23 hi hz0 .i64 .i64 (xs.length : Int) (xs.length : Int) (by omega) (by omega) (by rw [hz2]; omega) (by omega)
    simpa [hz1] using h
  obtain ⟨m, hm⟩ : ∃ m, m = madeCells (Value.agg #[.string ⟨#[]⟩, .slice none 0 0, .string ⟨#[]⟩]).cells (xs.length * 3) := ⟨_, rfl⟩
  have hms : m.size = xs.length * 3 := by rw [hm, size_madeCells]
  rw [← hm] at hmk
  clear hm
  obtain ⟨w0, hw0⟩ : ∃ w0, w.alloc (.cells m 40) = w0 := ⟨_, rfl⟩
  have hb0 : Below w.heap.size w w0 := by rw [← hw0]; (repeat (first | exact Below.refl _ _ | refine Below.drew ?_ | refine Below.alloc ?_ (by first | omega | (simp; omega) | simp) _ | refine Below.setCell ?_ (by first | omega | (simp; omega) | simp) _))
  have hrow0 : w0.heap[w.heap.size]? = some (.cells m 40 (0, 0)) := by rw [← hw0]; exact heap_alloc_new w _
  replace hmk := hmk w
  rw [hw0] at hmk
  have hne : ¬ w.heap.size = b := by have := hS.lt; omega
  have HS := Lib.hid hS
  have HL := Lib.hid hL
  have HG := Lib.hid hG
  have HR0 := Lib.hid hrow0
  have HB0 := Lib.hid (But.of (b := b) hb0)
  have HS0 := Lib.hid (hS.kept hb0)
  obtain ⟨h, hh⟩ : ∃ h, w.heap.size = h := ⟨_, rfl⟩
  rw [hh] at hmk hne HR0
  have HZ := Lib.hid hn
  have HH := Lib.hid hh
  clear hw0 hS hL hG hrow0 hi hz0 hz1 hz2 hb0 hh
  go_enter Tryz.func69, Tryz.ntmps69
  go_wp2_with fail
  have HMK := Lib.hid hmk
  clear hmk
  go_loopw [13] (fun i wr => ∃ (k : Nat) (cur : Array Value), k ≤ xs.length ∧ i = .int .i64 k ∧ wr.heap[h]? = some (.cells cur 40 (0, 0)) ∧ cur.size = xs.length * 3 ∧ LgR wr h cur (M.rdEach M.rdLog e0 (xs.take k)).1 ∧ RS wr b (M.rdEach M.rdLog e0 (xs.take k)).2 ∧ But b w wr) (fun i _ => xs.length - (RowKit.intOf i).toNat)
  case atStart => exact ⟨0, m, by omega, rfl, HR0.out, hms, by intro j g hj; simp [M.rdEach] at hj, HS0.out, HB0.out⟩
  case round =>
    obtain ⟨k, cur, hk, rfl, hrow, hcs, hT, hSk, hb⟩ := hrel
    have hsz : h < wr.heap.size := (Array.getElem?_eq_some_iff.1 hrow).1
    by_cases hlt : k < xs.length
    · obtain ⟨g, o, cap', l, d, ys, u, hv, hbn, hs, h0, h1, h2, hu⟩ := (HL.out.butk HS.out hb).at_ hlt
      cases hv
      have hgd := HG.out _ (List.mem_of_getElem? hs)
      obtain ⟨au, cu, rfl, _, _⟩ := hu.slice
      have hb1 : Below wr.heap.size wr (wr.alloc (.cells #[.bool l, .string ⟨d.toArray⟩, .slice au ys.length cu] 45)) := (Below.refl _ _).alloc (Nat.le_refl _) _
      have HP := Lib.hid (rlog_any b _ l d ys au cu _ (hSk.kept hb1) ((hgd.rd hu).kept hb1))
      have HN := Lib.hid (M.rdEach_nx M.rdLog e0 hs)
      have hlen : (M.rdEach M.rdLog e0 (xs.take k)).1.length = k := by rw [M.rdEach_len, List.length_take]; omega
      have hlti : (k : Int) < xs.length := by omega
      have hk9 : k < 600 := by have := HZ.out; omega
      generalize M.rdLog (M.rdEach M.rdLog e0 (xs.take k)).2 (.mk l d ys) = r at *
      obtain ⟨⟨r0, r1, r3⟩, r2⟩ := r
      have HT := Lib.hid (hT.but hSk (But.of hb1))
      have HS1 := Lib.hid (hSk.kept hb1)
      have HB := Lib.hid (hb.trans (But.of hb1))
      have HR := Lib.hid ((hb1.block _ hsz).trans hrow)
      have HLN := Lib.hid hlen
      have hsz1 : h < (wr.alloc (.cells #[.bool l, .string ⟨d.toArray⟩, .slice au ys.length cu] 45)).heap.size := by simp; omega
      have HZ1 := Lib.hid hsz1
      have HCS := Lib.hid hcs
      clear hs hu hgd hb1 hSk hb hT hrow hlen hsz1
      go_wp2_with fail
      refine HP.out.mono ?_
      rintro e w2 ⟨⟨v, rfl, t2, o2⟩, hS2, hb2⟩
      obtain ⟨av, cv, rfl, _, _⟩ := t2.slice
      have hrow2 := (hb2.block h HZ1.out hne).trans HR.out
      have hkc : k * 3 + 3 ≤ cur.size := by have := HCS.out; omega
      have z0 : w2.cell? ⟨h, k * 3, none⟩ = some cur[k * 3] := by simp [World.cell?, hrow2, show k * 3 < cur.size by omega]
      have z1 : w2.cell? ⟨h, k * 3 + 1, none⟩ = some cur[k * 3 + 1] := by simp [World.cell?, hrow2, show k * 3 + 1 < cur.size by omega]
      have z2 : w2.cell? ⟨h, k * 3 + 2, none⟩ = some cur[k * 3 + 2] := by simp [World.cell?, hrow2, show k * 3 + 2 < cur.size by omega]
      have y0 : ∀ j, w2.frozen? ⟨h, j, none⟩ = false := fun j => by simp [World.frozen?, hrow2]
      have hT2 := (HT.out.but HS1.out hb2).snoc (by rw [HLN.out]; exact hkc) ⟨r0, r1, r3⟩ _ t2 (o2.mono (by have := HZ1.out; omega)) (((cur.setIfInBounds (k * 3) (.string ⟨r0.toArray⟩)).setIfInBounds (k * 3 + 1) (.slice av r1.length cv)).setIfInBounds (k * 3 + 2) (.string ⟨r3.toArray⟩))
      rw [HLN.out] at hT2
      have hrow3 := setRow_heap w2 h cur (((cur.setIfInBounds (k * 3) (.string ⟨r0.toArray⟩)).setIfInBounds (k * 3 + 1) (.slice av r1.length cv)).setIfInBounds (k * 3 + 2) (.string ⟨r3.toArray⟩)) _ (0, 0) hrow2
      have hw3 := set_three_at hrow2 (a := k * 3) (b := k * 3 + 1) (c := k * 3 + 2) (.string ⟨r0.toArray⟩) (.slice av r1.length cv) (.string ⟨r3.toArray⟩)
      have hz3 : (((cur.setIfInBounds (k * 3) (.string ⟨r0.toArray⟩)).setIfInBounds (k * 3 + 1) (.slice av r1.length cv)).setIfInBounds (k * 3 + 2) (.string ⟨r3.toArray⟩)).size = cur.size := by simp
      have HS3 := Lib.hid (hS2.row (g := h) (by omega) (((cur.setIfInBounds (k * 3) (.string ⟨r0.toArray⟩)).setIfInBounds (k * 3 + 1) (.slice av r1.length cv)).setIfInBounds (k * 3 + 2) (.string ⟨r3.toArray⟩)))
      have HB3 := Lib.hid ((HB.out.trans hb2).row (g := h) (by have := HH.out; omega) (((cur.setIfInBounds (k * 3) (.string ⟨r0.toArray⟩)).setIfInBounds (k * 3 + 1) (.slice av r1.length cv)).setIfInBounds (k * 3 + 2) (.string ⟨r3.toArray⟩)))
      generalize ((cur.setIfInBounds (k * 3) (.string ⟨r0.toArray⟩)).setIfInBounds (k * 3 + 1) (.slice av r1.length cv)).setIfInBounds (k * 3 + 2) (.string ⟨r3.toArray⟩) = cur3 at *
      generalize w2.setRow h cur3 = w3 at *
      have HW3 := Lib.hid hw3
      have HR3 := Lib.hid hrow3
      have HT3 := Lib.hid hT2
      have HZ3 := Lib.hid (hz3.trans HCS.out)
      clear hw3 hrow3 hrow2 hS2 hb2 hT2 hz3 t2 o2
      generalize cur[k * 3] = v0 at *
      generalize cur[k * 3 + 1] = v1 at *
      generalize cur[k * 3 + 2] = v2 at *
      go_wp2_with fail
      rw [HW3.out]
      go_roundw
      case rel =>
        refine ⟨k + 1, _, by omega, by simp, HR3.out, HZ3.out, ?_, ?_, HB3.out⟩
        · rw [HN.out]
          exact HT3.out
        · rw [HN.out]; exact HS3.out
      case measure => simp [RowKit.intOf]; omega
    · obtain rfl : k = xs.length := by omega
      rw [List.take_length] at hT hSk
      have hlen : (M.rdEach M.rdLog e0 xs).1.length = xs.length := M.rdEach_len _ _ _
      go_wp2_with fail
      go_ret
      exact ⟨⟨_, rfl, Ls.of_row hT hrow hlen (by have := HZ.out; simp only [maxLen]; omega)⟩, hSk, hb⟩
end Go.Proofs.YtihiacbhdcahkaaGreatDoor
namespace Go.Proofs.YtihiacbhdcahkaaGreatDoor
open Go Go.RowKit Go.Lib
attribute [local go_sem] Oper.semAt_some

namespace M
def rdX {α : Type} (z : α) (f : It → α × Nat) (e0 : Nat) (x : It) : α × Nat := if e0 = 0 then f x else (z, e0)
def mostP (k : Nat) : Nat := if k = 126 then 5 else 3
/-- The parts behind the third one. -/
def rdMore (e0 : Nat) : List It → (Bool × Nat × Nat) × Nat
  | [] => ((false, 0, 0), e0)
  | [x] => ((true, (rdX 0 getNumber e0 x).1, 0), (rdX 0 getNumber e0 x).2)
  | x :: y :: _ => ((true, (rdX 0 getNumber e0 x).1, (rdX 0 rVersion (rdX 0 getNumber e0 x).2 y).1), (rdX 0 rVersion (rdX 0 getNumber e0 x).2 y).2)
def rdRcP (k : Nat) (p : List It) : Rc × Nat :=
  let st := rdX false getBool 0 (p.getD 0 zeroI)
  let ga := rdX 0 getNumber st.2 (p.getD 1 zeroI)
  let l0 := rdL ga.2 0 16 (p.getD 2 zeroI)
  let lg := rdEach rdLog l0.2 l0.1
  let mo := rdMore lg.2 (p.drop 3)
  (⟨k, st.1, ga.1, lg.1, mo.1.1, mo.1.2.1, mo.1.2.2⟩, mo.2)
def rdRc (s : List UInt8) : Rc × Nat :=
  let h := kdOf s
  let own := rdI h.2 (s.drop (headR h.1).length)
  let l := rdL own.2 3 (mostP h.1) own.1
  if l.2 ≠ 0 then (⟨0, false, 0, [], false, 0, 0⟩, l.2) else rdRcP h.1 l.1
theorem kdOf_ok (s : List UInt8) : ((kdOf s).1 : Int) = 0 ∨ ((kdOf s).1 : Int) = 1 ∨ ((kdOf s).1 : Int) = 2 ∨ ((kdOf s).1 : Int) = 4 ∨ ((kdOf s).1 : Int) = 126 := by
  cases s with
  | nil => exact .inl rfl
  | cons c r =>
    rw [kdOf]
    split
    · exact .inl rfl
    · split
      · simp only []; omega
      · exact .inl rfl
theorem kdOf_len (s : List UInt8) : (headR (kdOf s).1).length ≤ s.length := by
  cases s with
  | nil => exact Nat.le_refl _
  | cons c r =>
    unfold headR
    split <;> simp
end M
/-- No text lies in this block. -/
def NoTxt (w : World) (g : Nat) : Prop := ∀ o s, w.cell? ⟨g, o, none⟩ ≠ some (.string s)
theorem Ts.rowN {w : World} {n g : Nat} {ls : List (List UInt8)} {v : Value} (h : Ts w n ls v) (hg : NoTxt w g) (cs : Array Value) : Ts (w.setRow g cs) n ls v := by
  cases h with
  | nil_ hm => exact .nil_ hm
  | @row _ k o cap hlt hc hm c =>
    cases ls with
    | nil => exact .nil_ hm
    | cons s ls =>
      have hk : k ≠ g := fun e => hg _ _ (e ▸ c 0 s rfl)
      exact .row hlt hc hm fun i s e => (World.cell?_of_block (w := w) (setRow_other w g k cs hk)).trans (c i s e)
theorem Lay.rowN {w : World} {n g : Nat} {xs : List M.It} {v : Value} (h : Lay w n xs v) (hg : NoTxt w g) (cs : Array Value) : Lay (w.setRow g cs) n xs v := by
  induction h with
  | nil_ hm => exact .nil_ hm
  | @row xs k o cap V hlt hc hm c0 c1 c2 _ ih =>
    cases xs with
    | nil => exact .nil_ hm
    | cons x xs =>
      obtain ⟨l, d, ys⟩ := x
      have hk : k ≠ g := fun e => hg _ _ (e ▸ c1 0 l d ys rfl)
      have q : ∀ j, (w.setRow g cs).cell? ⟨k, j, none⟩ = w.cell? ⟨k, j, none⟩ := fun j => World.cell?_of_block (w := w) (a := ⟨k, j, none⟩) (setRow_other w g k cs hk)
      exact .row V hlt hc hm (fun i l d ys e => (q _).trans (c0 i l d ys e)) (fun i l d ys e => (q _).trans (c1 i l d ys e)) (fun i l d ys e => (q _).trans (c2 i l d ys e)) ih
theorem Ls.rowN {w : World} {n g : Nat} {ls : List M.Lg} {v : Value} (h : Ls w n ls v) (hg : NoTxt w g) (cs : Array Value) : Ls (w.setRow g cs) n ls v := by
  cases h with
  | nil_ hm => exact .nil_ hm
  | @row _ k o cap V hlt hc hm c0 c1 c2 r =>
    cases ls with
    | nil => exact .nil_ hm
    | cons x xs =>
      have hk : k ≠ g := fun e => hg _ _ (e ▸ c0 0 x rfl)
      have q : ∀ j, (w.setRow g cs).cell? ⟨k, j, none⟩ = w.cell? ⟨k, j, none⟩ := fun j => World.cell?_of_block (w := w) (a := ⟨k, j, none⟩) (setRow_other w g k cs hk)
      exact .row V hlt hc hm (fun i l e => (q _).trans (c0 i l e)) (fun i l e => (q _).trans (c1 i l e)) (fun i l e => (q _).trans (c2 i l e)) fun i l e => (r i l e).rowN hg cs
/-- The block of a receipt that is being filled. -/
theorem NoTxt.rc {w : World} {g : Nat} {k : Int} {st fu : Bool} {ga no ve : Nat} {ls : Value} {a : Option Addr} {n c : Nat} (hl : ls = .slice a n c) (h : w.heap[g]? = some (.cells #[.int .i64 k, .bool st, .int .u64 (ga : Nat), ls, .bool fu, .int .u64 (no : Nat), .int .u64 (ve : Nat)] 25 (0, 0))) : NoTxt w g := by
  subst hl
  intro o s hs
  match o with
  | 0 => simp [World.cell?, h] at hs
  | 1 => simp [World.cell?, h] at hs
  | 2 => simp [World.cell?, h] at hs
  | 3 => simp [World.cell?, h] at hs
  | 4 => simp [World.cell?, h] at hs
  | 5 => simp [World.cell?, h] at hs
  | 6 => simp [World.cell?, h] at hs
  | o + 7 => simp [World.cell?, h] at hs
theorem rd_numX (b e0 : Nat) (part : ByteArray) (l : Bool) (d : List UInt8) (xs : List M.It) (a : Option Addr) (cap : Nat) (f : M.It → Nat × Nat) (g : FuncId) (w : World) (hS : RS w b e0) (hR : Rd w l d xs a cap)
    (E1 : ∀ args W, (callFunc g args).run Tryz.prog W = .ok (.enter g args) W)
    (hf : ∀ W, Rd W l d xs a cap → Calls Tryz.prog g #[iv l d (.slice a xs.length cap)] W fun e w' => e = .returned (.tuple #[.int .u64 ((f (.mk l d xs)).1 : Nat), .int .i64 ((f (.mk l d xs)).2 : Nat)]) ∧ Below W.heap.size W w') :
    Calls Tryz.prog 67 #[.pointer (some ⟨b, 0, none⟩), .string part, iv l d (.slice a xs.length cap), .func (.func g) #[] #[]] w fun e w' => e = .returned (.int .u64 ((M.rdX 0 f e0 (.mk l d xs)).1 : Nat)) ∧ RS w' b (M.rdX 0 f e0 (.mk l d xs)).2 ∧ But b w w' := by
  refine (rd_u64 b e0 part l d a xs.length cap (.int .u64 ((f (.mk l d xs)).1 : Nat)) (f (.mk l d xs)).2 g #[] w hS E1 (fun W hW => hf W (hR.kept hW))).mono ?_
  rintro e w' ⟨rfl, h1, h2⟩
  unfold M.rdX
  by_cases h0 : e0 = 0
  · rw [if_pos h0] at h1 ⊢
    rw [if_pos h0]
    exact ⟨rfl, h1, h2⟩
  · rw [if_neg h0] at h1 ⊢
    rw [if_neg h0]
    exact ⟨rfl, h1, h2⟩
theorem rd_boolX (b e0 : Nat) (part : ByteArray) (l : Bool) (d : List UInt8) (xs : List M.It) (a : Option Addr) (cap : Nat) (f : M.It → Bool × Nat) (g : FuncId) (w : World) (hS : RS w b e0) (hR : Rd w l d xs a cap)
    (E1 : ∀ args W, (callFunc g args).run Tryz.prog W = .ok (.enter g args) W)
    (hf : ∀ W, Rd W l d xs a cap → Calls Tryz.prog g #[iv l d (.slice a xs.length cap)] W fun e w' => e = .returned (.tuple #[.bool (f (.mk l d xs)).1, .int .i64 ((f (.mk l d xs)).2 : Nat)]) ∧ Below W.heap.size W w') :
    Calls Tryz.prog 65 #[.pointer (some ⟨b, 0, none⟩), .string part, iv l d (.slice a xs.length cap), .func (.func g) #[] #[]] w fun e w' => e = .returned (.bool (M.rdX false f e0 (.mk l d xs)).1) ∧ RS w' b (M.rdX false f e0 (.mk l d xs)).2 ∧ But b w w' := by
  refine (rd_bool b e0 part l d a xs.length cap (.bool (f (.mk l d xs)).1) (f (.mk l d xs)).2 g #[] w hS E1 (fun W hW => hf W (hR.kept hW))).mono ?_
  rintro e w' ⟨rfl, h1, h2⟩
  unfold M.rdX
  by_cases h0 : e0 = 0
  · rw [if_pos h0] at h1 ⊢
    rw [if_pos h0]
    exact ⟨rfl, h1, h2⟩
  · rw [if_neg h0] at h1 ⊢
    rw [if_neg h0]
    exact ⟨rfl, h1, h2⟩
theorem rd_kind (b : Nat) (part : ByteArray) (s : List UInt8) (w : World) (hS : RS w b 0) :
    Calls Tryz.prog 59 #[.pointer (some ⟨b, 0, none⟩), .string part, .string ⟨s.toArray⟩, .func (.func 60) #[] #[]] w fun e w' => e = .returned (.int .i64 ((kdOf s).1 : Nat)) ∧ RS w' b (kdOf s).2 ∧ But b w w' := by
  have E1 : ∀ args w, (callFunc 60 args).run Tryz.prog w = .ok (.enter 60 args) w := enters_of Tryz.func60 (by kernel_rfl) rfl
  refine (read_int b part _ (.int .i64 ((kdOf s).1 : Nat)) (kdOf s).2 60 #[] w hS.zero hS.frz E1 (kindOf_any s w)).mono ?_
  rintro e w' ⟨rfl, h⟩
  exact ⟨rfl, h.st hS⟩
theorem Tryz.rcSize : (Tryz.prog.info? 25).map (·.size) = some 7 := by kernel_rfl
theorem rc_row {fn : Func} {p : Tmp} (hres : fn.results = #[.cell p 25]) (w1 : World) (tmps : Array Value) (cs old : Array Value) (hz : cs.size = 7) (g : Nat)
    (hrow : w1.heap[g]? = some (.cells old 25 (0, 0))) (R : Ending → World → Prop) (hp : tmps.getD p undef = .pointer (some ⟨g, 0, none⟩))
    (h : R (.returned (.agg cs)) (w1.setRow g cs)) :
    bodyPost Tryz.prog fn R .ret { tmps := tmps, defers := [] } (w1.setRow g cs) := by
  have := results_cell_row (P := Tryz.prog) hres tmps (w1.setRow g cs) g 25 cs (0, 0) _ hp (setRow_heap _ _ _ _ _ (0, 0) hrow) Tryz.underlying25 rfl (by rw [Tryz.rcSize, hz])
  exact bodyPost_ret this rfl h
end Go.Proofs.YtihiacbhdcahkaaGreatDoor
