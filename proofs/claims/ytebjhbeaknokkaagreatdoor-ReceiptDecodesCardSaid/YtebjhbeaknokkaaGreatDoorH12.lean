/- unrlp.Decode: what it tells lies in blocks of its own. Package receipt: the bytes are read as an item. Package receipt: a list of items is read; a topic. Package receipt: topics, one by one. Package receipt: a log is read. Package receipt: logs, one by one. Package receipt: a receipt is read. -/
import Derived.Test.YtebjhbeaknokkaaGreatDoorH10
import Derived.Test.YtebjhbeaknokkaaGreatDoorH11
import Derived.Test.YtebjhbeaknokkaaGreatDoorH09
open List renaming getElem_toArray → zqA, getElem_cons_succ → zqB, getElem_cons_zero → zqC, setIfInBounds_toArray → zqD, set_cons_zero → zqE, set_cons_succ → zqF
namespace Go.Proofs.YtebjhbeaknokkaaGreatDoor
open Go Go.RowKit Go.Shelf

def DecF : Prop := ∀ (s : List UInt8) (W : World), s.length ≤ 200000 → Calls Tryz.prog 59 #[.string ⟨s.toArray⟩] W fun e w' =>
  (∃ l d xs a cap, e = .returned (.tuple #[iv l d (.slice a xs.length cap), .int .i64 ((M.decodeL s).2 : Nat)]) ∧ (M.decodeL s).1 = .mk l d xs ∧ Fresh W.heap.size w' xs (.slice a xs.length cap)) ∧ Below W.heap.size W w'
theorem dec_postF (w w1 : World) (tmps : Array Value) (l : Bool) (d : List UInt8) (xs : List M.It) (a : Option Addr) (cap er : Nat) (hB : Below w.heap.size w w1) (o0 : Value) (o1 : Value) (o2 : Value)
    (hrow : w1.heap[w.heap.size]? = some (.cells #[o0, o1, o2] 44 (0, 0))) (hF : LayS w1 (fun b => w.heap.size < b ∧ b < w1.heap.size) xs (.slice a xs.length cap)) (R : Ending → World → Prop)
    (h6 : tmps.getD 2 undef = .pointer (some ⟨w.heap.size, 0, none⟩)) (h7 : tmps.getD 3 undef = .int .i64 (er : Nat))
    (h : ∀ Z, Fresh w.heap.size Z xs (.slice a xs.length cap) → Below w.heap.size w Z → R (.returned (.tuple #[iv l d (.slice a xs.length cap), .int .i64 (er : Nat)])) Z) :
    bodyPost Tryz.prog Tryz.f59 R .ret { tmps := tmps, defers := [] } (((w1.setCell ⟨w.heap.size, 0, none⟩ (.bool l)).setCell ⟨w.heap.size, 1, none⟩ (.string ⟨d.toArray⟩)).setCell ⟨w.heap.size, 2, none⟩ (.slice a xs.length cap)) := by
  rw [set_three hrow]
  have hg : (w1.setRow w.heap.size #[.bool l, .string ⟨d.toArray⟩, .slice a xs.length cap]).heap[w.heap.size]? = some (.cells #[.bool l, .string ⟨d.toArray⟩, .slice a xs.length cap] 44 (0, 0)) := setRow_heap _ _ _ _ _ (0, 0) hrow
  have hz : (w1.setRow w.heap.size #[.bool l, .string ⟨d.toArray⟩, .slice a xs.length cap]).heap.size = w1.heap.size := by simp
  have ho : ∀ b, b ≠ w.heap.size → (w1.setRow w.heap.size #[.bool l, .string ⟨d.toArray⟩, .slice a xs.length cap]).heap[b]? = w1.heap[b]? := fun b hb => setRow_other _ _ _ _ (fun e => hb (by simpa using e))
  have hb2 : Below w.heap.size w1 (w1.setRow w.heap.size #[.bool l, .string ⟨d.toArray⟩, .slice a xs.length cap]) := ⟨rfl, rfl, rfl, by omega, fun b hb => ho b (by omega)⟩
  have hl : Fresh w.heap.size (w1.setRow w.heap.size #[.bool l, .string ⟨d.toArray⟩, .slice a xs.length cap]) xs (.slice a xs.length cap) := hF.keep (T := fun b => w.heap.size ≤ b ∧ b < (w1.setRow w.heap.size #[.bool l, .string ⟨d.toArray⟩, .slice a xs.length cap]).heap.size) (W := w1.setRow w.heap.size #[.bool l, .string ⟨d.toArray⟩, .slice a xs.length cap]) fun b ⟨h1, h2⟩ => ⟨by omega, ho b (by omega)⟩
  have := results_cell_one (fn := Tryz.f59) rfl tmps Tryz.prog (w1.setRow w.heap.size #[.bool l, .string ⟨d.toArray⟩, .slice a xs.length cap]) ⟨w.heap.size, 0, none⟩ (.agg #[.bool l, .string ⟨d.toArray⟩, .slice a xs.length cap]) h6
    (run_loadVar_row _ _ _ _ _ (0, 0) _ hg Tryz.underlying44 rfl Tryz.itemSize)
  rw [h7] at this
  exact bodyPost_ret this rfl (h _ hl (hB.trans hb2))

set_option maxRecDepth 100000 in
set_option maxHeartbeats 8000000 in
theorem dec_fresh : DecF := by
  intro s w hs
  obtain ⟨w0, hw0⟩ : ∃ w0, w.alloc (.cells #[.bool false, .string ⟨#[]⟩, .slice none 0 0] 44) = w0 := ⟨_, rfl⟩
  have hb0 : Below w.heap.size w w0 := by rw [← hw0]; (repeat (first | exact Below.refl _ _ | refine Below.drew ?_ | refine Below.alloc ?_ (by first | omega | (simp; omega) | simp) _ | refine Below.setCell ?_ (by first | omega | (simp; omega) | simp) _))
  have hz0 : w0.heap.size = w.heap.size + 1 := by rw [← hw0]; simp
  have hrow0 : w0.heap[w.heap.size]? = some (.cells #[.bool false, .string ⟨#[]⟩, .slice none 0 0] 44 (0, 0)) := by rw [← hw0]; exact heap_alloc_new w _
  obtain ⟨⟨_, z0⟩, ⟨_, z1⟩, ⟨_, z2⟩, y0, y1, y2⟩ := cells_three hrow0
  by_cases hlong : 65536 < s.length
  · have hl' : (65536 : Int) < (s.length : Nat) := by omega
    have e : M.decodeL s = (M.zeroI, 5) := by unfold M.decodeL; rw [if_pos hlong]
    rw [e]
    go_enter Tryz.func59, Tryz.ntmps59
    go_wp2_with fail
    refine dec_postF w w0 _ false [] [] none 0 5 hb0 _ _ _ hrow0 (.nil_ (by decide)) _ ?_ ?_ ?_
    · rfl
    · rfl
    · exact fun Z e2 e3 => ⟨⟨false, [], [], none, 0, rfl, rfl, e2⟩, e3⟩
  · have hl' : ¬ (65536 : Int) < (s.length : Nat) := by omega
    have e : M.decodeL s = if (M.readT (2 * s.length + 1) s 0).2.2 ≠ 0 then (M.zeroI, (M.readT (2 * s.length + 1) s 0).2.2)
        else if (M.readT (2 * s.length + 1) s 0).2.1 ≠ [] then (M.zeroI, 4) else ((M.readT (2 * s.length + 1) s 0).1, 0) := by unfold M.decodeL; rw [if_neg hlong]
    obtain ⟨w1, hw1⟩ : ∃ w1, w0.alloc (.cells #[.int .i64 0] 141) = w1 := ⟨_, rfl⟩
    have hb1 : Below w0.heap.size w0 w1 := by rw [← hw1]; exact (Below.refl _ w0).alloc (Nat.le_refl _) _
    have hz1 : w1.heap.size = w.heap.size + 2 := by rw [← hw1]; simp; omega
    have hR1 : Boxed w1 (w.heap.size + 1) 141 (.int .i64 ((0 : Nat) : Int)) := by
      rw [← hw1, ← hz0]
      exact Boxed.new w0 _ _
    have HI := Lib.hid (item_all (2 * s.length + 1) s 0 0 (w.heap.size + 1) w1 (by omega) (by omega) (by omega) (by omega) hR1)
    rw [List.drop_zero] at HI
    generalize M.readT (2 * s.length + 1) s 0 = r at *
    obtain ⟨it, rest, er⟩ := r
    simp only at HI e
    have hrow1 := (hb1.block w.heap.size (by omega)).trans hrow0
    by_cases he : er = 0
    · subst he
      rw [if_neg (by simp)] at e
      rw [e]
      by_cases hrest : rest = []
      · rw [if_neg (by simpa using hrest)]
        go_enter Tryz.func59, Tryz.ntmps59
        go_wp2_with (refine (HI.out).mono ?_; rintro e w2 ⟨l, b, xs, a, cap, pl, rfl, hx, hfr, hb2, hpl⟩; have hz2 := hb2.size; have hb3 : Below w2.heap.size w2 (w2.alloc (.cells #[.bool l, .string ⟨b.toArray⟩, .slice a xs.length cap] 44)) := (Below.refl _ w2).alloc (Nat.le_refl _) _; have HROW := (hb3.block _ (by omega)).trans ((hb2.block _ (by omega)).trans hrow1); have hbit := Box.new w2 l b (.slice a xs.length cap) 44; obtain ⟨⟨_, q0⟩, ⟨_, q1⟩, ⟨_, q2⟩, g0, g1, g2⟩ := cells_three HROW; have hB : Below w.heap.size w (w2.alloc (.cells #[.bool l, .string ⟨b.toArray⟩, .slice a xs.length cap] 44)) := hb0.trans ((hb1.mono (by omega)).trans ((hb2.mono (by omega)).trans (hb3.mono (by omega)))); have hF := (hfr.from_ hb3).keep (T := fun c => w.heap.size < c ∧ c < (w2.alloc (.cells #[.bool l, .string ⟨b.toArray⟩, .slice a xs.length cap] 44)).heap.size) fun c ⟨h1, h2⟩ => ⟨⟨by omega, h2⟩, rfl⟩; have p0 := hbit.c0; have p1 := hbit.c1; have p2 := hbit.c2; obtain ⟨r1, r2, r3⟩ := hpl rfl; have hpe : pl = s.length := (by rw [hrest, List.drop_eq_nil_iff] at r1; omega); subst hpe)
        refine dec_postF w _ _ l b xs a cap 0 hB _ _ _ HROW hF _ ?_ ?_ ?_
        · rfl
        · rfl
        · exact fun Z e2 e3 => ⟨⟨l, b, xs, a, cap, rfl, hx, e2⟩, e3⟩
      · rw [if_pos hrest]
        go_enter Tryz.func59, Tryz.ntmps59
        go_wp2_with (refine (HI.out).mono ?_; rintro e w2 ⟨l, b, xs, a, cap, pl, rfl, hx, hfr, hb2, hpl⟩; have hz2 := hb2.size; have hb3 : Below w2.heap.size w2 (w2.alloc (.cells #[.bool l, .string ⟨b.toArray⟩, .slice a xs.length cap] 44)) := (Below.refl _ w2).alloc (Nat.le_refl _) _; have HROW := (hb3.block _ (by omega)).trans ((hb2.block _ (by omega)).trans hrow1); have hbit := Box.new w2 l b (.slice a xs.length cap) 44; obtain ⟨⟨_, q0⟩, ⟨_, q1⟩, ⟨_, q2⟩, g0, g1, g2⟩ := cells_three HROW; have hB : Below w.heap.size w (w2.alloc (.cells #[.bool l, .string ⟨b.toArray⟩, .slice a xs.length cap] 44)) := hb0.trans ((hb1.mono (by omega)).trans ((hb2.mono (by omega)).trans (hb3.mono (by omega)))); have hF := (hfr.from_ hb3).keep (T := fun c => w.heap.size < c ∧ c < (w2.alloc (.cells #[.bool l, .string ⟨b.toArray⟩, .slice a xs.length cap] 44)).heap.size) fun c ⟨h1, h2⟩ => ⟨⟨by omega, h2⟩, rfl⟩; have p0 := hbit.c0; have p1 := hbit.c1; have p2 := hbit.c2; obtain ⟨r1, r2, r3⟩ := hpl rfl; have hpe : ((pl : Nat) : Int) < (s.length : Nat) := (by have : pl ≠ s.length := (fun h => hrest (by rw [← r1, h, List.drop_length])); omega))
        refine dec_postF w _ _ false [] [] none 0 4 hB _ _ _ HROW (.nil_ (by decide)) _ ?_ ?_ ?_
        · rfl
        · rfl
        · exact fun Z e2 e3 => ⟨⟨false, [], [], none, 0, rfl, rfl, e2⟩, e3⟩
    · rw [if_pos he] at e
      rw [e]
      have he' : (((er : Nat) : Int) != 0) = true := by simp; omega
      go_enter Tryz.func59, Tryz.ntmps59
      go_wp2_with (refine (HI.out).mono ?_; rintro e w2 ⟨l, b, xs, a, cap, pl, rfl, hx, hfr, hb2, hpl⟩; have hz2 := hb2.size; have hb3 : Below w2.heap.size w2 (w2.alloc (.cells #[.bool l, .string ⟨b.toArray⟩, .slice a xs.length cap] 44)) := (Below.refl _ w2).alloc (Nat.le_refl _) _; have HROW := (hb3.block _ (by omega)).trans ((hb2.block _ (by omega)).trans hrow1); have hbit := Box.new w2 l b (.slice a xs.length cap) 44; obtain ⟨⟨_, q0⟩, ⟨_, q1⟩, ⟨_, q2⟩, g0, g1, g2⟩ := cells_three HROW; have hB : Below w.heap.size w (w2.alloc (.cells #[.bool l, .string ⟨b.toArray⟩, .slice a xs.length cap] 44)) := hb0.trans ((hb1.mono (by omega)).trans ((hb2.mono (by omega)).trans (hb3.mono (by omega)))); have hF := (hfr.from_ hb3).keep (T := fun c => w.heap.size < c ∧ c < (w2.alloc (.cells #[.bool l, .string ⟨b.toArray⟩, .slice a xs.length cap] 44)).heap.size) fun c ⟨h1, h2⟩ => ⟨⟨by omega, h2⟩, rfl⟩; have p0 := hbit.c0; have p1 := hbit.c1; have p2 := hbit.c2)
      refine dec_postF w _ _ false [] [] none 0 er hB _ _ _ HROW (.nil_ (by decide)) _ ?_ ?_ ?_
      · rfl
      · rfl
      · exact fun Z e2 e3 => ⟨⟨false, [], [], none, 0, rfl, rfl, e2⟩, e3⟩
end Go.Proofs.YtebjhbeaknokkaaGreatDoor
namespace Go.Proofs.YtebjhbeaknokkaaGreatDoor
open Go Go.RowKit Go.Lib
attribute [local go_sem] Oper.semAt_some

def M.rdI (e0 : Nat) (s : List UInt8) : M.It × Nat := if e0 = 0 then M.decodeL s else (M.zeroI, e0)
theorem But.row {b g : Nat} {w w1 : World} (h : But b w w1) (hg : w.heap.size ≤ g) (cs : Array Value) : But b w (w1.setRow g cs) :=
  ⟨h.os, h.tape, h.output, by rw [setRow_size]; exact h.size, fun k hk hb => (setRow_other w1 g k cs (by omega)).trans (h.block k hk hb)⟩
theorem RS.row {w : World} {b e g : Nat} (h : RS w b e) (hg : b ≠ g) (cs : Array Value) : RS (w.setRow g cs) b e := by
  obtain ⟨v, h, q⟩ := h
  exact ⟨v, (setRow_other w g b cs hg).trans h, q⟩
theorem Fresh.row {w : World} {B g : Nat} {xs : List M.It} {v : Value} (h : Fresh B w xs v) (hg : g < B) (cs : Array Value) : Fresh B (w.setRow g cs) xs v :=
  LayS.keep h fun c ⟨h1, h2⟩ => ⟨⟨h1, by rw [setRow_size]; exact h2⟩, setRow_other w g c cs (by omega)⟩
theorem Fresh.butF {w w' : World} {B b : Nat} {xs : List M.It} {v : Value} (h : Fresh B w xs v) (hb : But b w w') (hB : b < B) : Fresh B w' xs v :=
  LayS.keep h fun c ⟨h1, h2⟩ => ⟨⟨h1, Nat.lt_of_lt_of_le h2 hb.size⟩, hb.block c h2 (by omega)⟩
theorem rf_any {fn : Func} {p : Tmp} (hres : fn.results = #[.cell p 44]) (w1 : World) (tmps : Array Value) (l : Bool) (d : List UInt8) (v : Value) (g : Nat) (o0 o1 o2 : Value)
    (hrow : w1.heap[g]? = some (.cells #[o0, o1, o2] 44 (0, 0))) (R : Ending → World → Prop) (hp : tmps.getD p undef = .pointer (some ⟨g, 0, none⟩))
    (h : R (.returned (iv l d v)) (w1.setRow g #[.bool l, .string ⟨d.toArray⟩, v])) :
    bodyPost Tryz.prog fn R .ret { tmps := tmps, defers := [] } (((w1.setCell ⟨g, 0, none⟩ (.bool l)).setCell ⟨g, 1, none⟩ (.string ⟨d.toArray⟩)).setCell ⟨g, 2, none⟩ v) := by
  rw [set_three hrow]
  have := results_cell_row (P := Tryz.prog) hres tmps (w1.setRow g #[.bool l, .string ⟨d.toArray⟩, v]) g 44 #[.bool l, .string ⟨d.toArray⟩, v] (0, 0) _ hp (setRow_heap _ _ _ _ _ (0, 0) hrow) Tryz.underlying44 rfl Tryz.itemSize
  exact bodyPost_ret this rfl h
set_option maxRecDepth 100000 in
set_option maxHeartbeats 4000000 in
theorem rd_item0 (b e0 : Nat) (part : ByteArray) (s : ByteArray) (g : Value) (w : World) (hS : RS w b e0) (h0 : e0 ≠ 0) :
    Calls Tryz.prog 58 #[.pointer (some ⟨b, 0, none⟩), .string part, .string s, g] w fun e w' => e = .returned (iv false [] (.slice none 0 0)) ∧ RS w' b e0 ∧ But b w w' := by
  obtain ⟨m, hw⟩ := hS.held h0
  have hbl := addr_lt hw
  obtain ⟨w0, hw0⟩ : ∃ w0, w.alloc (.cells #[.bool false, .string ⟨#[]⟩, .slice none 0 0] 44) = w0 := ⟨_, rfl⟩
  have hb0 : Below w.heap.size w w0 := by rw [← hw0]; (repeat (first | exact Below.refl _ _ | refine Below.drew ?_ | refine Below.alloc ?_ (by first | omega | (simp; omega) | simp) _ | refine Below.setCell ?_ (by first | omega | (simp; omega) | simp) _))
  have hz0 : w0.heap.size = w.heap.size + 1 := by rw [← hw0]; simp
  have hrow0 : w0.heap[w.heap.size]? = some (.cells #[.bool false, .string ⟨#[]⟩, .slice none 0 0] 44 (0, 0)) := by rw [← hw0]; exact heap_alloc_new w _
  have hwz := (hb0.cell (p := ⟨b, 0, none⟩) hbl).trans hw
  obtain ⟨w1, hw1⟩ : ∃ w1, w0.alloc (.cells #[.bool false, .string ⟨#[]⟩, .slice none 0 0] 44) = w1 := ⟨_, rfl⟩
  have hb1 : Below w0.heap.size w0 w1 := by rw [← hw1]; (repeat (first | exact Below.refl _ _ | refine Below.drew ?_ | refine Below.alloc ?_ (by first | omega | (simp; omega) | simp) _ | refine Below.setCell ?_ (by first | omega | (simp; omega) | simp) _))
  have hrow := (hb1.block w.heap.size (by omega)).trans hrow0
  have hbw := hb0.trans (hb1.mono (by omega))
  have hSw := hS.kept hbw
  have HS := Lib.hid hSw
  have HB := Lib.hid hbw
  have HR := Lib.hid hrow
  have HW := Lib.hid hw0
  have hbx := Box.new w0 false [] (.slice none 0 0) 44
  rw [hw1, hz0] at hbx
  have HW1 := Lib.hid hw1
  have p0 := hbx.c0
  have p1 := hbx.c1
  have p2 := hbx.c2
  obtain ⟨⟨_, z0⟩, ⟨_, z1⟩, ⟨_, z2⟩, y0, y1, y2⟩ := cells_three hrow
  clear hS hSw hbw hw0 hw1 hrow hrow0 hb1 hb0 hw hbx h0
  go_enter Tryz.func58, Tryz.ntmps58
  go_wp2_with (first | rw [HW1.out] | rw [HW.out])
  refine rf_any rfl _ _ false [] (.slice none 0 0) w.heap.size _ _ _ HR.out _ ?_ ?_
  · rfl
  · exact ⟨rfl, HS.out.row (by omega) _, (But.of HB.out).row (Nat.le_refl _) _⟩
set_option maxRecDepth 100000 in
set_option maxHeartbeats 4000000 in
theorem rd_item1 (b : Nat) (part : ByteArray) (s : List UInt8) (hs : s.length ≤ 200000) (w : World) (hS : RS w b 0) :
    Calls Tryz.prog 58 #[.pointer (some ⟨b, 0, none⟩), .string part, .string ⟨s.toArray⟩, .func (.func 59) #[] #[]] w fun e w' =>
      (∃ l d xs a cap, e = .returned (iv l d (.slice a xs.length cap)) ∧ (M.decodeL s).1 = .mk l d xs ∧ Lay w' w'.heap.size xs (.slice a xs.length cap)) ∧ RS w' b (M.decodeL s).2 ∧ But b w w' := by
  have E1 : ∀ args w, (callFunc 59 args).run Tryz.prog w = .ok (.enter 59 args) w := enters_of Tryz.func59 (by kernel_rfl) rfl
  have hw := hS.zero
  have hfz := hS.frz
  have hbl := addr_lt hw
  obtain ⟨w0, hw0⟩ : ∃ w0, w.alloc (.cells #[.bool false, .string ⟨#[]⟩, .slice none 0 0] 44) = w0 := ⟨_, rfl⟩
  have hb0 : Below w.heap.size w w0 := by rw [← hw0]; (repeat (first | exact Below.refl _ _ | refine Below.drew ?_ | refine Below.alloc ?_ (by first | omega | (simp; omega) | simp) _ | refine Below.setCell ?_ (by first | omega | (simp; omega) | simp) _))
  have hz0 : w0.heap.size = w.heap.size + 1 := by rw [← hw0]; simp
  have hrow0 : w0.heap[w.heap.size]? = some (.cells #[.bool false, .string ⟨#[]⟩, .slice none 0 0] 44 (0, 0)) := by rw [← hw0]; exact heap_alloc_new w _
  have hwz := (hb0.cell (p := ⟨b, 0, none⟩) hbl).trans hw
  have HD := Lib.hid (dec_fresh s w0 hs)
  have HS := Lib.hid hS
  have HW := Lib.hid hw0
  generalize M.decodeL s = r at *
  obtain ⟨it, n⟩ := r
  clear hS hw0 hs
  have key : ∀ (W : World) (l : Bool) (d : List UInt8) (xs : List M.It) (a : Option Addr) (cap : Nat), Below w0.heap.size w0 W → Fresh w0.heap.size W xs (.slice a xs.length cap) →
      ∃ W1, W1 = W.alloc (.cells #[.bool l, .string ⟨d.toArray⟩, .slice a xs.length cap] 44) ∧ Below w.heap.size w W1 ∧ Box W1 W.heap.size l d (.slice a xs.length cap) ∧ w.heap.size < W.heap.size ∧ W1.heap[w.heap.size]? = some (.cells #[.bool false, .string ⟨#[]⟩, .slice none 0 0] 44 (0, 0)) ∧ Fresh (w.heap.size + 1) W1 xs (.slice a xs.length cap) ∧ RS W1 b 0 := by
    intro W l d xs a cap hb hF
    have hb1 : Below W.heap.size W (W.alloc (.cells #[.bool l, .string ⟨d.toArray⟩, .slice a xs.length cap] 44)) := (Below.refl _ _).alloc (Nat.le_refl _) _
    have hzz := hb.size
    have hbb := hb0.trans ((hb.mono (by omega)).trans (hb1.mono (by omega)))
    exact ⟨_, rfl, hbb, Box.new _ _ _ _ _, by omega, (hb1.block _ (by omega)).trans ((hb.block _ (by omega)).trans hrow0), (Fresh.from_ hF hb1).mono (by omega), HS.out.kept hbb⟩
  have HK := Lib.hid key
  clear key hb0 hrow0
  by_cases hn : n = 0
  · subst hn
    go_enter Tryz.func58, Tryz.ntmps58
    go_wp2_with (rw [HW.out])
    refine (HD.out).mono ?_
    rintro e W ⟨⟨l, d, xs, a, cap, rfl, hx, hF⟩, hb⟩
    obtain ⟨W1, hW1, hbb, hbx, hlt, hrow, hF1, hS1⟩ := HK.out W l d xs a cap hb hF
    have HF := Lib.hid hF1
    have HX := Lib.hid hx
    have HS1 := Lib.hid hS1
    have HB := Lib.hid hbb
    have HR := Lib.hid hrow
    have HV := Lib.hid hW1
    have p0 := hbx.c0
    have p1 := hbx.c1
    have p2 := hbx.c2
    obtain ⟨⟨_, z0⟩, ⟨_, z1⟩, ⟨_, z2⟩, y0, y1, y2⟩ := cells_three hrow
    clear hF hF1 hx hS1 hbb hrow hb hbx HK HD hW1
    go_wp2_with (rw [← HV.out])
    refine rf_any rfl _ _ l d (.slice a xs.length cap) w.heap.size _ _ _ HR.out _ ?_ ?_
    · rfl
    · exact ⟨⟨l, d, xs, a, cap, rfl, HX.out, (HF.out.row (by omega) _).lay⟩, HS1.out.row (by omega) _, (But.of HB.out).row (Nat.le_refl _) _⟩
  · have hn1 : ((n : Int) == 0) = false := by simp [hn]
    have hnx : ¬ (n : Int) = 0 := by omega
    go_enter Tryz.func58, Tryz.ntmps58
    go_wp2_with (rw [HW.out])
    refine (HD.out).mono ?_
    rintro e W ⟨⟨l, d, xs, a, cap, rfl, hx, hF⟩, hb⟩
    obtain ⟨W1, hW1, hbb, hbx, hlt, hrow, hF1, hS1⟩ := HK.out W l d xs a cap hb hF
    have h1z := hS1.zero
    have h1f := hS1.frz
    have HV := Lib.hid hW1
    obtain ⟨q1, q2⟩ := hS1.put hn part
    obtain ⟨W2, hW2⟩ : ∃ W2, W1.setCell ⟨b, 0, none⟩ (.iface 137 (.agg #[.string part, .int .i64 n])) = W2 := ⟨_, rfl⟩
    have HV2 := Lib.hid hW2
    rw [hW2] at q1 q2
    have hz1 : W1.heap.size = W.heap.size + 1 := by rw [hW1]; simp
    have HF := Lib.hid (hF1.butF q2 (by omega))
    have HX := Lib.hid hx
    have HS1 := Lib.hid q1
    have HB := Lib.hid ((But.of hbb).trans q2)
    have hrow2 := (q2.block w.heap.size (by omega) (by omega)).trans hrow
    have HR := Lib.hid hrow2
    have p0 := (q2.cell (p := ⟨W.heap.size, 0, none⟩) (by show W.heap.size < _; omega) (by show W.heap.size ≠ _; omega)).trans hbx.c0
    have p1 := (q2.cell (p := ⟨W.heap.size, 1, none⟩) (by show W.heap.size < _; omega) (by show W.heap.size ≠ _; omega)).trans hbx.c1
    have p2 := (q2.cell (p := ⟨W.heap.size, 2, none⟩) (by show W.heap.size < _; omega) (by show W.heap.size ≠ _; omega)).trans hbx.c2
    obtain ⟨⟨_, z0⟩, ⟨_, z1⟩, ⟨_, z2⟩, y0, y1, y2⟩ := cells_three hrow2
    clear hF hF1 hx hS1 hbb hrow hrow2 hb hbx HK HD hW1 hW2 q1 q2
    go_wp2_with (first | rw [← HV.out] | rw [HV2.out])
    refine rf_any rfl _ _ l d (.slice a xs.length cap) w.heap.size _ _ _ HR.out _ ?_ ?_
    · rfl
    · exact ⟨⟨l, d, xs, a, cap, rfl, HX.out, (HF.out.row (by omega) _).lay⟩, HS1.out.row (by omega) _, HB.out.row (Nat.le_refl _) _⟩
theorem rd_item (b e0 : Nat) (part : ByteArray) (s : List UInt8) (hs : s.length ≤ 200000) (w : World) (hS : RS w b e0) :
    Calls Tryz.prog 58 #[.pointer (some ⟨b, 0, none⟩), .string part, .string ⟨s.toArray⟩, .func (.func 59) #[] #[]] w fun e w' =>
      (∃ l d xs a cap, e = .returned (iv l d (.slice a xs.length cap)) ∧ (M.rdI e0 s).1 = .mk l d xs ∧ Lay w' w'.heap.size xs (.slice a xs.length cap)) ∧ RS w' b (M.rdI e0 s).2 ∧ But b w w' := by
  by_cases h0 : e0 = 0
  · subst h0
    exact rd_item1 b part s hs w hS
  · unfold M.rdI
    rw [if_neg h0]
    refine (rd_item0 b e0 part _ _ w hS h0).mono ?_
    rintro e w' ⟨rfl, h1, h2⟩
    exact ⟨⟨_, _, _, _, _, rfl, rfl, .nil_ (by decide)⟩, h1, h2⟩
end Go.Proofs.YtebjhbeaknokkaaGreatDoor
namespace Go.Proofs.YtebjhbeaknokkaaGreatDoor
open Go Go.RowKit Go.Lib
attribute [local go_sem] Oper.semAt_some

def M.rdL (e0 : Nat) (least most : Int) (x : M.It) : List M.It × Nat := if e0 = 0 then M.getList least most x else ([], e0)
def M.rdT (f : M.It → List UInt8 × Nat) (e0 : Nat) (x : M.It) : List UInt8 × Nat := if e0 = 0 then f x else ([], e0)
set_option maxRecDepth 100000 in
set_option maxHeartbeats 2000000 in
theorem rlistf_any (l : Bool) (d : List UInt8) (xs : List M.It) (a : Option Addr) (cap : Nat) (least most : Int) (p q : Nat) (w : World) (hR : Rd w l d xs a cap) (hp : w.cell? ⟨p, 0, none⟩ = some (.int .i64 least)) (hq : w.cell? ⟨q, 0, none⟩ = some (.int .i64 most)) :
    Calls Tryz.prog 100 #[iv l d (.slice a xs.length cap), .pointer (some ⟨p, 0, none⟩), .pointer (some ⟨q, 0, none⟩)] w fun e w' => (∃ v, e = .returned (.tuple #[v, .int .i64 ((M.getList least most (.mk l d xs)).2 : Nat)]) ∧ ∃ a' cap', v = .slice a' (M.getList least most (.mk l d xs)).1.length cap' ∧ Lay w' w'.heap.size (M.getList least most (.mk l d xs)).1 v) ∧ Below w.heap.size w w' := by
  have hpl := addr_lt hp
  have hql := addr_lt hq
  have hb0 : Below w.heap.size w (w.alloc (.cells #[.bool l, .string ⟨d.toArray⟩, .slice a xs.length cap] 44)) := by (repeat (first | exact Below.refl _ _ | refine Below.drew ?_ | refine Below.alloc ?_ (by first | omega | (simp; omega) | simp) _ | refine Below.setCell ?_ (by first | omega | (simp; omega) | simp) _))
  have hp0 : ∀ o, (w.alloc o).cell? ⟨p, 0, none⟩ = some (.int .i64 least) := fun o => by rw [World.cell?_alloc_lt _ _ ⟨p, 0, none⟩ hpl]; exact hp
  have hq0 : ∀ o, (w.alloc o).cell? ⟨q, 0, none⟩ = some (.int .i64 most) := fun o => by rw [World.cell?_alloc_lt _ _ ⟨q, 0, none⟩ hql]; exact hq
  have HL := Lib.hid (getlist_it l d xs a cap least most _ (hR.kept hb0))
  clear hR
  generalize M.getList least most (.mk l d xs) = r at *
  obtain ⟨r1, r2⟩ := r
  go_enter Tryz.func100, Tryz.ntmps100
  go_wp2_with fail
  refine (HL.out).mono ?_
  rintro e w1 ⟨⟨a', cap', rfl, hFr⟩, hb1⟩
  go_wp2_with fail
  go_ret2
  exact ⟨⟨_, rfl, _, _, rfl, hFr.lay⟩, hb0.trans (hb1.mono hb0.size)⟩
set_option maxRecDepth 100000 in
set_option maxHeartbeats 2000000 in
theorem rlist_any (b e0 : Nat) (part : ByteArray) (l : Bool) (d : List UInt8) (xs : List M.It) (a : Option Addr) (cap : Nat) (least most : Int) (w : World) (hS : RS w b e0) (hR : Rd w l d xs a cap) :
    Calls Tryz.prog 60 #[.pointer (some ⟨b, 0, none⟩), .string part, iv l d (.slice a xs.length cap), .int .i64 least, .int .i64 most] w fun e w' => (∃ a' cap', e = .returned (.slice a' (M.rdL e0 least most (.mk l d xs)).1.length cap') ∧ Lay w' w'.heap.size (M.rdL e0 least most (.mk l d xs)).1 (.slice a' (M.rdL e0 least most (.mk l d xs)).1.length cap')) ∧ RS w' b (M.rdL e0 least most (.mk l d xs)).2 ∧ But b w w' := by
  have E1 : ∀ args w, (callFunc 100 args).run Tryz.prog w = .ok (.enter 100 args) w := enters_of Tryz.func100 (by kernel_rfl) rfl
  obtain ⟨w3, hw3⟩ : ∃ w3, ((w.alloc (.cells #[.bool l, .string ⟨d.toArray⟩, .slice a xs.length cap] 44)).alloc (.cells #[.int .i64 least] 3)).alloc (.cells #[.int .i64 most] 3) = w3 := ⟨_, rfl⟩
  have hb3 : Below w.heap.size w w3 := by rw [← hw3]; exact (((Below.refl _ _).alloc (Nat.le_refl _) _).alloc (by simp) _).alloc (by simp; omega) _
  have hc0 : Box w3 w.heap.size l d (.slice a xs.length cap) := by
    rw [← hw3]
    refine ⟨?_, ?_, ?_⟩ <;> (rw [World.cell?_alloc_lt _ _ ⟨w.heap.size, _, none⟩ (by simp; omega), World.cell?_alloc_lt _ _ ⟨w.heap.size, _, none⟩ (by simp)])
    · exact (Box.new w l d _ _).c0
    · exact (Box.new w l d _ _).c1
    · exact (Box.new w l d _ _).c2
  have hp : w3.cell? ⟨w.heap.size + 1, 0, none⟩ = some (.int .i64 least) := by
    rw [← hw3, World.cell?_alloc_lt _ _ ⟨w.heap.size + 1, 0, none⟩ (by simp), World.cell?_alloc_at _ _ _ _ (by simp)]; rfl
  have hq : w3.cell? ⟨w.heap.size + 1 + 1, 0, none⟩ = some (.int .i64 most) := by
    rw [← hw3, World.cell?_alloc_at _ _ _ _ (by simp)]; rfl
  have hpl := addr_lt hp
  have hql := addr_lt hq
  have HC := Lib.hid (rd_list b e0 part l d a xs.length cap (fun v W => ∃ a' cap', v = .slice a' (M.rdL e0 least most (.mk l d xs)).1.length cap' ∧ Lay W W.heap.size (M.rdL e0 least most (.mk l d xs)).1 v) (M.getList least most (.mk l d xs)).2 100 #[.pointer (some ⟨w.heap.size + 1, 0, none⟩), .pointer (some ⟨w.heap.size + 1 + 1, 0, none⟩)] w3 (hS.kept hb3)
    (by
      rintro v W ⟨a', cap', rfl, hL⟩ W' hb hS'
      exact ⟨a', cap', rfl, hL.butk hS' hb⟩)
    (by
      intro h0 W
      refine ⟨none, 0, ?_, ?_⟩ <;> rw [M.rdL, if_neg h0]
      · rfl
      · exact .nil_ (by decide))
    E1
    (by
      intro h0 W hW
      subst h0
      exact rlistf_any l d xs a cap least most _ _ W ((hR.kept hb3).kept hW) ((hW.cell (p := ⟨_, _, _⟩) hpl).trans hp) ((hW.cell (p := ⟨_, _, _⟩) hql).trans hq)))
  have hr : (if e0 = 0 then (M.getList least most (.mk l d xs)).2 else e0) = (M.rdL e0 least most (.mk l d xs)).2 := by
    unfold M.rdL
    by_cases h0 : e0 = 0 <;> simp [h0]
  rw [hr] at HC
  have HW := Lib.hid hw3
  have p0 := hc0.c0
  have p1 := hc0.c1
  have p2 := hc0.c2
  clear hS hR hr hw3 hc0
  generalize M.rdL e0 least most (.mk l d xs) = r at *
  obtain ⟨r1, r2⟩ := r
  go_enter Tryz.func60, Tryz.ntmps60
  go_wp2_with (rw [HW.out])
  refine (HC.out).mono ?_
  rintro e w4 ⟨⟨v, rfl, a', cap', rfl, hL⟩, hS, hb⟩
  go_wp2_with fail
  go_ret
  exact ⟨⟨_, _, rfl, hL⟩, hS, (But.of hb3).trans hb⟩
set_option maxRecDepth 100000 in
set_option maxHeartbeats 2000000 in
theorem rd_text (b e0 : Nat) (part : ByteArray) (l : Bool) (d : List UInt8) (xs : List M.It) (a : Option Addr) (cap : Nat) (f : M.It → List UInt8 × Nat) (g : FuncId) (w : World) (hS : RS w b e0) (hR : Rd w l d xs a cap)
    (E1 : ∀ args W, (callFunc g args).run Tryz.prog W = .ok (.enter g args) W)
    (hf : ∀ W, Rd W l d xs a cap → Calls Tryz.prog g #[iv l d (.slice a xs.length cap)] W fun e w' => e = .returned (.tuple #[.string ⟨(f (.mk l d xs)).1.toArray⟩, .int .i64 ((f (.mk l d xs)).2 : Nat)]) ∧ Below W.heap.size W w') :
    Calls Tryz.prog 106 #[.pointer (some ⟨b, 0, none⟩), .string part, iv l d (.slice a xs.length cap), .func (.func g) #[] #[]] w fun e w' => e = .returned (.string ⟨(M.rdT f e0 (.mk l d xs)).1.toArray⟩) ∧ RS w' b (M.rdT f e0 (.mk l d xs)).2 ∧ But b w w' := by
  refine (rd_str b e0 part l d a xs.length cap (.string ⟨(f (.mk l d xs)).1.toArray⟩) (f (.mk l d xs)).2 g #[] w hS E1 (fun W hW => hf W (hR.kept hW))).mono ?_
  rintro e w' ⟨rfl, h1, h2⟩
  unfold M.rdT
  by_cases h0 : e0 = 0
  · rw [if_pos h0] at h1 ⊢
    rw [if_pos h0]
    exact ⟨rfl, h1, h2⟩
  · rw [if_neg h0] at h1 ⊢
    rw [if_neg h0]
    exact ⟨rfl, h1, h2⟩
set_option maxRecDepth 100000 in
set_option maxHeartbeats 2000000 in
theorem rdtopic_any (b e0 : Nat) (l : Bool) (d : List UInt8) (xs : List M.It) (a : Option Addr) (cap : Nat) (w : World) (hS : RS w b e0) (hR : Rd w l d xs a cap) :
    Calls Tryz.prog 109 #[.pointer (some ⟨b, 0, none⟩), iv l d (.slice a xs.length cap)] w fun e w' => e = .returned (.string ⟨(M.rdT (rText 32) e0 (.mk l d xs)).1.toArray⟩) ∧ RS w' b (M.rdT (rText 32) e0 (.mk l d xs)).2 ∧ But b w w' := by
  have E1 : ∀ args w, (callFunc 184 args).run Tryz.prog w = .ok (.enter 184 args) w := enters_of Tryz.func184 (by kernel_rfl) rfl
  have hb0 : Below w.heap.size w (w.alloc (.cells #[.bool l, .string ⟨d.toArray⟩, .slice a xs.length cap] 44)) := by (repeat (first | exact Below.refl _ _ | refine Below.drew ?_ | refine Below.alloc ?_ (by first | omega | (simp; omega) | simp) _ | refine Below.setCell ?_ (by first | omega | (simp; omega) | simp) _))
  have HT := Lib.hid (fun part => rd_text b e0 part l d xs a cap (rText 32) 184 _ (hS.kept hb0) (hR.kept hb0) E1 (fun W hW => rtopic_any l d xs a cap W hW))
  clear hS hR E1
  generalize M.rdT (rText 32) e0 (.mk l d xs) = r at *
  obtain ⟨r1, r2⟩ := r
  go_enter Tryz.func109, Tryz.ntmps109
  go_wp2_with fail
  refine (HT.out _).mono ?_
  rintro e w1 ⟨rfl, h1, h2⟩
  go_wp2_with fail
  go_ret
  exact ⟨rfl, h1, (But.of hb0).trans h2⟩
end Go.Proofs.YtebjhbeaknokkaaGreatDoor
namespace Go.Proofs.YtebjhbeaknokkaaGreatDoor
open Go Go.RowKit Go.Lib
attribute [local go_sem] Oper.semAt_some

namespace M
def rdEach {α : Type} (f : Nat → It → α × Nat) : Nat → List It → List α × Nat
  | e, [] => ([], e)
  | e, x :: xs => ((f e x).1 :: (rdEach f (f e x).2 xs).1, (rdEach f (f e x).2 xs).2)
theorem rdEach_snoc {α : Type} (f : Nat → It → α × Nat) : ∀ (e : Nat) (xs : List It) (x : It), rdEach f e (xs ++ [x]) = ((rdEach f e xs).1 ++ [(f (rdEach f e xs).2 x).1], (f (rdEach f e xs).2 x).2)
  | e, [], x => rfl
  | e, y :: xs, x => by rw [List.cons_append, rdEach, rdEach_snoc f _ xs x]; rfl
theorem rdEach_len {α : Type} (f : Nat → It → α × Nat) : ∀ (e : Nat) (xs : List It), (rdEach f e xs).1.length = xs.length
  | e, [] => rfl
  | e, x :: xs => by rw [rdEach, List.length_cons, rdEach_len f _ xs, List.length_cons]
theorem rdEach_nx {α : Type} (f : Nat → It → α × Nat) (e : Nat) {xs : List It} {k : Nat} {x : It} (h : xs[k]? = some x) : rdEach f e (xs.take (k + 1)) = ((rdEach f e (xs.take k)).1 ++ [(f (rdEach f e (xs.take k)).2 x).1], (f (rdEach f e (xs.take k)).2 x).2) := by
  rw [List.take_add_one, h]
  exact rdEach_snoc f e (xs.take k) x
def Gd : It → Prop
  | .mk l d ys => smI (.mk l d ys) ∧ cntIs ys ≤ 4000 ∧ formI 0 (.mk l d ys) = 0
theorem Gd.kids {l : Bool} {d : List UInt8} {ys : List It} (h : Gd (.mk l d ys)) : ∀ y ∈ ys, Gd y := by
  obtain ⟨h1, h2, h3⟩ := h
  intro y hy
  have c := cntI_part hy
  rw [smI] at h1
  have s := smI_part h1.2 hy
  cases l with
  | false =>
    obtain rfl := (formI_ok h3).2 rfl
    cases hy
  | true =>
    obtain ⟨_, _, _, h4⟩ := (formI_ok h3).1 rfl
    have f := formI_mono y _ 0 (part_form h4 y hy) (by omega)
    obtain ⟨l', d', zs⟩ := y
    rw [cntI] at c
    exact ⟨s, by omega, f⟩
end M
theorem M.Gd.rd {w : World} {l : Bool} {d : List UInt8} {ys : List M.It} {a : Option Addr} {cap : Nat} (h : M.Gd (.mk l d ys)) (hL : Lay w w.heap.size ys (.slice a ys.length cap)) : Rd w l d ys a cap := ⟨hL, h⟩
theorem Ts.of_row {w : World} {g n : Nat} {cur : Array Value} {ls : List (List UInt8)} (h : w.heap[g]? = some (.cells cur 9 (0, 0))) (hn : ls.length = n) (hm : n ≤ maxLen) (hc : ∀ (j : Nat) (s : List UInt8), ls[j]? = some s → cur[j]? = some (Value.string ⟨s.toArray⟩)) : Ts w w.heap.size ls (.slice (some ⟨g, 0, none⟩) n n) := by
  subst hn
  exact .row (Array.getElem?_eq_some_iff.1 h).1 (Nat.le_refl _) hm fun i s e => by
    have := hc i s e
    simp [World.cell?, h, this]
theorem row_snoc {cur : Array Value} {ls : List (List UInt8)} (hc : ∀ (j : Nat) (s : List UInt8), ls[j]? = some s → cur[j]? = some (Value.string ⟨s.toArray⟩)) (hl : ls.length < cur.size) (t : List UInt8) :
    ∀ (j : Nat) (s : List UInt8), (ls ++ [t])[j]? = some s → (cur.setIfInBounds ls.length (Value.string ⟨t.toArray⟩))[j]? = some (Value.string ⟨s.toArray⟩) := by
  intro j s hj
  rcases Nat.lt_trichotomy j ls.length with h | h | h
  · rw [List.getElem?_append_left h] at hj
    rw [Array.getElem?_setIfInBounds_ne (by omega)]
    exact hc j s hj
  · subst h
    rw [List.getElem?_append_right (Nat.le_refl _)] at hj
    simp at hj
    subst hj
    rw [Array.getElem?_setIfInBounds_self_of_lt hl]
  · rw [List.getElem?_eq_none (by simp; omega)] at hj
    cases hj

def OffB (B : Nat) (v : Value) : Prop := ∀ h o n c, v = .slice (some ⟨h, o, none⟩) n c → B ≤ h
theorem OffB.mono {A B : Nat} {v : Value} (h : OffB B v) (hAB : A ≤ B) : OffB A v := fun k o n c e => Nat.le_trans hAB (h k o n c e)
theorem OffB.none_ (B n c : Nat) : OffB B (.slice none n c) := fun _ _ _ _ e => by cases e
theorem Ts.row_ {w : World} {n g B : Nat} {ls : List (List UInt8)} {v : Value} (h : Ts w n ls v) (hv : OffB B v) (hg : g < B) (cs : Array Value) : Ts (w.setRow g cs) n ls v := by
  cases h with
  | nil_ hm => exact .nil_ hm
  | @row _ k o cap hlt hc hm c =>
    have hk := hv k o _ _ rfl
    exact .row hlt hc hm fun i s e => (World.cell?_of_block (w := w) (setRow_other w g k cs (by omega))).trans (c i s e)
set_option maxRecDepth 100000 in
set_option maxHeartbeats 4000000 in
theorem rdtopics_any (b e0 : Nat) (xs : List M.It) (a : Option Addr) (cap : Nat) (w : World) (hS : RS w b e0) (hL : Lay w w.heap.size xs (.slice a xs.length cap)) (hG : ∀ x ∈ xs, M.Gd x) (hn : xs.length ≤ 600) :
    Calls Tryz.prog 108 #[.slice a xs.length cap, .func (.func 109) #[.pointer (some ⟨b, 0, none⟩)] #[]] w fun e w' =>
      (∃ v, e = .returned v ∧ Ts w' w'.heap.size (M.rdEach (M.rdT (rText 32)) e0 xs).1 v ∧ OffB w.heap.size v) ∧ RS w' b (M.rdEach (M.rdT (rText 32)) e0 xs).2 ∧ But b w w' := by
  have E1 : ∀ args w, (callFunc 109 args).run Tryz.prog w = .ok (.enter 109 args) w := enters_of Tryz.func109 (by kernel_rfl) rfl
  obtain ⟨i0, hi, hz0, hz1, hz2⟩ := info_parts Tryz.ofTxt
  have hmk : ∀ W : World, (Instr.makeSlice 37 (.int .i64 (xs.length : Int)) (.int .i64 (xs.length : Int))).run Tryz.prog W = .ok (.slice (some ⟨W.heap.size, 0, none⟩) xs.length xs.length) (W.alloc (.cells (madeCells (Value.string ⟨#[]⟩).cells (xs.length * 1)) 9)) := fun W => by
    have h := run_make (P := Tryz.prog) W 37 9 i0 _ Tryz.underlying37 hi hz0 .i64 .i64 (xs.length : Int) (xs.length : Int) (by omega) (by omega) (by rw [hz2]; omega) (by omega)
    simpa [hz1] using h
  obtain ⟨m, hm⟩ : ∃ m, m = madeCells (Value.string ⟨#[]⟩).cells (xs.length * 1) := ⟨_, rfl⟩
  have hms : m.size = xs.length := by rw [hm, size_madeCells]; omega
  rw [← hm] at hmk
  clear hm
  obtain ⟨w0, hw0⟩ : ∃ w0, w.alloc (.cells m 9) = w0 := ⟨_, rfl⟩
  have hb0 : Below w.heap.size w w0 := by rw [← hw0]; (repeat (first | exact Below.refl _ _ | refine Below.drew ?_ | refine Below.alloc ?_ (by first | omega | (simp; omega) | simp) _ | refine Below.setCell ?_ (by first | omega | (simp; omega) | simp) _))
  have hzz : w0.heap.size = w.heap.size + 1 := by rw [← hw0]; simp
  have hrow0 : w0.heap[w.heap.size]? = some (.cells m 9 (0, 0)) := by rw [← hw0]; exact heap_alloc_new w _
  replace hmk := hmk w
  rw [hw0] at hmk
  have hne : ¬ w.heap.size = b := by have := hS.lt; omega
  have HS := Lib.hid hS
  have HL := Lib.hid hL
  have HG := Lib.hid hG
  have HR0 := Lib.hid hrow0
  have HB0 := Lib.hid (But.of (b := b) hb0)
  have HS0 := Lib.hid (hS.kept hb0)
  obtain ⟨h, hh⟩ : ∃ h, w.heap.size = h := ⟨_, rfl⟩
  rw [hh] at hmk hne HR0
  have HZ := Lib.hid hn
  have HH := Lib.hid hh
  clear hw0 hS hL hG hrow0 hi hz0 hz1 hz2 hb0 hh hzz
  go_enter Tryz.func108, Tryz.ntmps108
  go_wp2_with fail
  have HMK := Lib.hid hmk
  clear hmk
  go_loopw [13] (fun i wr => ∃ (k : Nat) (cur : Array Value), k ≤ xs.length ∧ i = .int .i64 k ∧ wr.heap[h]? = some (.cells cur 9 (0, 0)) ∧ cur.size = xs.length ∧ (∀ (j : Nat) (s : List UInt8), (M.rdEach (M.rdT (rText 32)) e0 (xs.take k)).1[j]? = some s → cur[j]? = some (Value.string ⟨s.toArray⟩)) ∧ RS wr b (M.rdEach (M.rdT (rText 32)) e0 (xs.take k)).2 ∧ But b w wr) (fun i _ => xs.length - (RowKit.intOf i).toNat)
  case atStart => exact ⟨0, m, by omega, rfl, HR0.out, hms, by simp [M.rdEach], HS0.out, HB0.out⟩
  case round =>
    obtain ⟨k, cur, hk, rfl, hrow, hcs, hT, hSk, hb⟩ := hrel
    have hsz : h < wr.heap.size := (Array.getElem?_eq_some_iff.1 hrow).1
    by_cases hlt : k < xs.length
    · obtain ⟨g, o, cap', l, d, ys, u, hv, hbn, hs, h0, h1, h2, hu⟩ := (HL.out.butk HS.out hb).at_ hlt
      cases hv
      have hgd := HG.out _ (List.mem_of_getElem? hs)
      obtain ⟨au, cu, rfl, _, _⟩ := hu.slice
      have hb1 : Below wr.heap.size wr (wr.alloc (.cells #[.bool l, .string ⟨d.toArray⟩, .slice au ys.length cu] 44)) := (Below.refl _ _).alloc (Nat.le_refl _) _
      have HP := Lib.hid (rdtopic_any b _ l d ys au cu _ (hSk.kept hb1) ((hgd.rd hu).kept hb1))
      have HN := Lib.hid (M.rdEach_nx (M.rdT (rText 32)) e0 hs)
      have hlen : (M.rdEach (M.rdT (rText 32)) e0 (xs.take k)).1.length = k := by rw [M.rdEach_len, List.length_take]; omega
      have hlti : (k : Int) < xs.length := by omega
      have hk9 : k < 600 := by have := HZ.out; omega
      generalize M.rdT (rText 32) (M.rdEach (M.rdT (rText 32)) e0 (xs.take k)).2 (.mk l d ys) = r at *
      obtain ⟨r1, r2⟩ := r
      have HT := Lib.hid hT
      have HB := Lib.hid (hb.trans (But.of hb1))
      have HR := Lib.hid ((hb1.block _ hsz).trans hrow)
      have HLN := Lib.hid hlen
      have hsz1 : h < (wr.alloc (.cells #[.bool l, .string ⟨d.toArray⟩, .slice au ys.length cu] 44)).heap.size := by simp; omega
      have HZ1 := Lib.hid hsz1
      have HCS := Lib.hid hcs
      clear hs hu hgd hb1 hSk hb hT hrow hlen hsz1
      go_wp2_with fail
      refine HP.out.mono ?_
      rintro e w2 ⟨rfl, hS2, hb2⟩
      have hrow2 := (hb2.block h HZ1.out hne).trans HR.out
      have hkc : k < cur.size := by have := HCS.out; omega
      have z0 : w2.cell? ⟨h, k, none⟩ = some cur[k] := by simp [World.cell?, hrow2, hkc]
      have y0 : w2.frozen? ⟨h, k, none⟩ = false := by simp [World.frozen?, hrow2]
      have hrow3 := setRow_heap w2 h cur (cur.setIfInBounds k (Value.string ⟨r1.toArray⟩)) _ (0, 0) hrow2
      have hw3 := setCell_eq_setRow w2 h k cur _ (0, 0) (Value.string ⟨r1.toArray⟩) hrow2
      have HS3 := Lib.hid (hS2.row (g := h) (by omega) (cur.setIfInBounds k (Value.string ⟨r1.toArray⟩)))
      have HB3 := Lib.hid ((HB.out.trans hb2).row (g := h) (by have := HH.out; omega) (cur.setIfInBounds k (Value.string ⟨r1.toArray⟩)))
      have HW3 := Lib.hid hw3
      have HR3 := Lib.hid hrow3
      have HT3 := Lib.hid (row_snoc HT.out (by rw [HLN.out]; exact hkc) r1)
      clear hw3 hrow3 hrow2 hS2 hb2
      generalize cur[k] = v0 at *
      go_wp2_with fail
      rw [HW3.out]
      go_roundw
      case rel =>
        refine ⟨k + 1, _, by omega, by simp, HR3.out, ?_, ?_, ?_, HB3.out⟩
        · rw [Array.size_setIfInBounds]; exact HCS.out
        · rw [HN.out]
          have := HT3.out
          rw [HLN.out] at this
          exact this
        · rw [HN.out]; exact HS3.out
      case measure => simp [RowKit.intOf]; omega
    · obtain rfl : k = xs.length := by omega
      rw [List.take_length] at hT hSk
      have hlen : (M.rdEach (M.rdT (rText 32)) e0 xs).1.length = xs.length := M.rdEach_len _ _ _
      go_wp2_with fail
      go_ret
      refine ⟨⟨_, rfl, Ts.of_row hrow hlen (by have := HZ.out; simp only [maxLen]; omega) hT, ?_⟩, hSk, hb⟩
      intro q o n c e
      cases e
      exact Nat.le_of_eq HH.out
end Go.Proofs.YtebjhbeaknokkaaGreatDoor
namespace Go.Proofs.YtebjhbeaknokkaaGreatDoor
open Go Go.RowKit Go.Lib
attribute [local go_sem] Oper.semAt_some

namespace M
def rdParts (p : List It) : Lg × Nat :=
  let ra := rdT (rText 20) 0 (p.getD 0 zeroI)
  let rt0 := rdL ra.2 0 4 (p.getD 1 zeroI)
  let rt := rdEach (rdT (rText 32)) rt0.2 rt0.1
  let rd := rdT (getText 0 4096) rt.2 (p.getD 2 zeroI)
  (⟨ra.1, rt.1, rd.1⟩, rd.2)
def rdLog (e0 : Nat) (x : It) : Lg × Nat := if (rdL e0 3 3 x).2 ≠ 0 then (⟨[], [], []⟩, (rdL e0 3 3 x).2) else rdParts (rdL e0 3 3 x).1
theorem rdL_gd {e0 : Nat} {least most : Int} {x : It} (hx : Gd x) : ∀ y ∈ (rdL e0 least most x).1, Gd y := by
  unfold rdL
  split
  · obtain ⟨l, d, ys⟩ := x
    intro y hy
    have : (getList least most (.mk l d ys)).1 = [] ∨ (getList least most (.mk l d ys)).1 = ys := by
      cases l with
      | false => exact .inl rfl
      | true =>
        rw [getList]
        split
        · exact .inl rfl
        · exact .inr rfl
    rcases this with e | e
    · rw [e] at hy; cases hy
    · rw [e] at hy; exact hx.kids y hy
  · intro y hy; cases hy
theorem rdL_len {e0 : Nat} {least most : Int} {x : It} (h : (rdL e0 least most x).2 = 0) : least ≤ (rdL e0 least most x).1.length ∧ (rdL e0 least most x).1.length ≤ most := by
  unfold rdL at h ⊢
  split at h
  · rename_i h0
    rw [if_pos h0]
    obtain ⟨l, d, ys⟩ := x
    cases l with
    | false => cases h
    | true =>
      rw [getList] at h ⊢
      split at h
      · rename_i h1; exact absurd h h1
      · rename_i h1
        rw [if_neg h1]
        have h1 : within ys.length least most = 0 := by omega
        unfold within at h1
        split at h1
        · cases h1
        · split at h1
          · cases h1
          · show least ≤ (ys.length : Int) ∧ (ys.length : Int) ≤ most
            omega
  · rename_i h0; exact absurd h h0
theorem rdL_most {e0 : Nat} {least most : Int} {x : It} (hm : 0 ≤ most) : (rdL e0 least most x).1.length ≤ most := by
  by_cases h : (rdL e0 least most x).2 = 0
  · exact (rdL_len h).2
  · have : (rdL e0 least most x).1 = [] := by
      unfold rdL at h ⊢
      split at h
      · rename_i h0
        rw [if_pos h0]
        obtain ⟨l, d, ys⟩ := x
        cases l with
        | false => rfl
        | true =>
          rw [getList] at h ⊢
          split at h
          · rename_i h1; rw [if_pos h1]
          · exact absurd rfl h
      · rename_i h0; rw [if_neg h0]
    rw [this]
    exact hm
end M
structure It3 (w : World) (q o : Nat) (l0 l1 l2 : Bool) (d0 d1 d2 : List UInt8) (a0 a1 a2 : Option Addr) (n0 n1 n2 c0 c1 c2 : Nat) : Prop where
  z00 : w.cell? ⟨q, o, none⟩ = some (.bool l0)
  z01 : w.cell? ⟨q, o + 1, none⟩ = some (.string ⟨d0.toArray⟩)
  z02 : w.cell? ⟨q, o + 2, none⟩ = some (.slice a0 n0 c0)
  z10 : w.cell? ⟨q, o + 3, none⟩ = some (.bool l1)
  z11 : w.cell? ⟨q, o + 4, none⟩ = some (.string ⟨d1.toArray⟩)
  z12 : w.cell? ⟨q, o + 5, none⟩ = some (.slice a1 n1 c1)
  z20 : w.cell? ⟨q, o + 6, none⟩ = some (.bool l2)
  z21 : w.cell? ⟨q, o + 7, none⟩ = some (.string ⟨d2.toArray⟩)
  z22 : w.cell? ⟨q, o + 8, none⟩ = some (.slice a2 n2 c2)
theorem It3.keep {w W : World} {q o : Nat} {l0 l1 l2 : Bool} {d0 d1 d2 : List UInt8} {a0 a1 a2 : Option Addr} {n0 n1 n2 c0 c1 c2 : Nat} (h : It3 w q o l0 l1 l2 d0 d1 d2 a0 a1 a2 n0 n1 n2 c0 c1 c2) (hq : W.heap[q]? = w.heap[q]?) : It3 W q o l0 l1 l2 d0 d1 d2 a0 a1 a2 n0 n1 n2 c0 c1 c2 := by
  have k : ∀ j, W.cell? ⟨q, j, none⟩ = w.cell? ⟨q, j, none⟩ := fun j => World.cell?_of_block (w := w) (a := ⟨q, j, none⟩) hq
  exact ⟨(k _).trans h.z00, (k _).trans h.z01, (k _).trans h.z02, (k _).trans h.z10, (k _).trans h.z11, (k _).trans h.z12, (k _).trans h.z20, (k _).trans h.z21, (k _).trans h.z22⟩
theorem It3.but {w W : World} {b q o : Nat} {l0 l1 l2 : Bool} {d0 d1 d2 : List UInt8} {a0 a1 a2 : Option Addr} {n0 n1 n2 c0 c1 c2 : Nat} (h : It3 w q o l0 l1 l2 d0 d1 d2 a0 a1 a2 n0 n1 n2 c0 c1 c2) (hb : But b w W) (hq : q ≠ b) (hl : q < w.heap.size) : It3 W q o l0 l1 l2 d0 d1 d2 a0 a1 a2 n0 n1 n2 c0 c1 c2 := h.keep (hb.block q hl hq)
theorem Lay.three {w : World} {n b e : Nat} {l0 l1 l2 : Bool} {d0 d1 d2 : List UInt8} {ys0 ys1 ys2 : List M.It} {v : Value} (h : Lay w n [.mk l0 d0 ys0, .mk l1 d1 ys1, .mk l2 d2 ys2] v) (hS : RS w b e) : ∃ q o a0 a1 a2 c0 c1 c2 cp, v = .slice (some ⟨q, o, none⟩) 3 cp ∧ q < n ∧ q ≠ b ∧
    It3 w q o l0 l1 l2 d0 d1 d2 a0 a1 a2 ys0.length ys1.length ys2.length c0 c1 c2 ∧ Lay w n ys0 (.slice a0 ys0.length c0) ∧ Lay w n ys1 (.slice a1 ys1.length c1) ∧ Lay w n ys2 (.slice a2 ys2.length c2) := by
  cases h with
  | @row _ q o cp V hlt hc hm c0 c1 c2 r =>
    obtain ⟨a0, p0, e0, _, _⟩ := (r 0 l0 d0 ys0 rfl).slice
    obtain ⟨a1, p1, e1, _, _⟩ := (r 1 l1 d1 ys1 rfl).slice
    obtain ⟨a2, p2, e2, _, _⟩ := (r 2 l2 d2 ys2 rfl).slice
    have hne : q ≠ b := fun k => (k ▸ hS).one.2 _ (c0 0 l0 d0 ys0 rfl)
    refine ⟨q, o, a0, a1, a2, p0, p1, p2, cp, rfl, hlt, hne, ⟨?_, ?_, ?_, ?_, ?_, ?_, ?_, ?_, ?_⟩, ?_, ?_, ?_⟩
    · exact c0 0 _ _ _ rfl
    · exact c1 0 _ _ _ rfl
    · exact (c2 0 _ _ _ rfl).trans (by rw [e0])
    · exact c0 1 _ _ _ rfl
    · exact c1 1 _ _ _ rfl
    · exact (c2 1 _ _ _ rfl).trans (by rw [e1])
    · exact c0 2 _ _ _ rfl
    · exact c1 2 _ _ _ rfl
    · exact (c2 2 _ _ _ rfl).trans (by rw [e2])
    · exact e0 ▸ r 0 l0 d0 ys0 rfl
    · exact e1 ▸ r 1 l1 d1 ys1 rfl
    · exact e2 ▸ r 2 l2 d2 ys2 rfl
theorem Tryz.logSize : (Tryz.prog.info? 39).map (·.size) = some 3 := by kernel_rfl
theorem lf_any {fn : Func} {p : Tmp} (hres : fn.results = #[.cell p 39]) (w1 : World) (tmps : Array Value) (A D : List UInt8) (v : Value) (g : Nat) (o0 o1 o2 : Value)
    (hrow : w1.heap[g]? = some (.cells #[o0, o1, o2] 39 (0, 0))) (R : Ending → World → Prop) (hp : tmps.getD p undef = .pointer (some ⟨g, 0, none⟩))
    (h : R (.returned (.agg #[.string ⟨A.toArray⟩, v, .string ⟨D.toArray⟩])) (w1.setRow g #[.string ⟨A.toArray⟩, v, .string ⟨D.toArray⟩])) :
    bodyPost Tryz.prog fn R .ret { tmps := tmps, defers := [] } (((w1.setCell ⟨g, 0, none⟩ (.string ⟨A.toArray⟩)).setCell ⟨g, 1, none⟩ v).setCell ⟨g, 2, none⟩ (.string ⟨D.toArray⟩)) := by
  rw [set_three hrow]
  have := results_cell_row (P := Tryz.prog) hres tmps (w1.setRow g #[.string ⟨A.toArray⟩, v, .string ⟨D.toArray⟩]) g 39 #[.string ⟨A.toArray⟩, v, .string ⟨D.toArray⟩] (0, 0) _ hp (setRow_heap _ _ _ _ _ (0, 0) hrow) Tryz.underlying39 rfl Tryz.logSize
  exact bodyPost_ret this rfl h
theorem lf_row {fn : Func} {p : Tmp} (hres : fn.results = #[.cell p 39]) (w1 : World) (tmps : Array Value) (A D : List UInt8) (v : Value) (g : Nat) (o0 o1 o2 : Value)
    (hrow : w1.heap[g]? = some (.cells #[o0, o1, o2] 39 (0, 0))) (R : Ending → World → Prop) (hp : tmps.getD p undef = .pointer (some ⟨g, 0, none⟩))
    (h : R (.returned (.agg #[.string ⟨A.toArray⟩, v, .string ⟨D.toArray⟩])) (w1.setRow g #[.string ⟨A.toArray⟩, v, .string ⟨D.toArray⟩])) :
    bodyPost Tryz.prog fn R .ret { tmps := tmps, defers := [] } (w1.setRow g #[.string ⟨A.toArray⟩, v, .string ⟨D.toArray⟩]) := by
  have := results_cell_row (P := Tryz.prog) hres tmps (w1.setRow g #[.string ⟨A.toArray⟩, v, .string ⟨D.toArray⟩]) g 39 #[.string ⟨A.toArray⟩, v, .string ⟨D.toArray⟩] (0, 0) _ hp (setRow_heap _ _ _ _ _ (0, 0) hrow) Tryz.underlying39 rfl Tryz.logSize
  exact bodyPost_ret this rfl h
set_option maxRecDepth 100000 in
set_option maxHeartbeats 8000000 in
theorem rlog_any (b e0 : Nat) (l : Bool) (d : List UInt8) (xs : List M.It) (a : Option Addr) (cap : Nat) (w : World) (hS : RS w b e0) (hR : Rd w l d xs a cap) :
    Calls Tryz.prog 67 #[.pointer (some ⟨b, 0, none⟩), iv l d (.slice a xs.length cap)] w fun e w' => (∃ v, e = .returned (lgv (M.rdLog e0 (.mk l d xs)).1 v) ∧ Ts w' w'.heap.size (M.rdLog e0 (.mk l d xs)).1.topics v ∧ OffB w.heap.size v) ∧ RS w' b (M.rdLog e0 (.mk l d xs)).2 ∧ But b w w' := by
  have mixed : Tryz.prog.follows .mixedOrders = true := by kernel_rfl
  have EA : ∀ args w, (callFunc 107 args).run Tryz.prog w = .ok (.enter 107 args) w := enters_of Tryz.func107 (by kernel_rfl) rfl
  have ED : ∀ args w, (callFunc 110 args).run Tryz.prog w = .ok (.enter 110 args) w := enters_of Tryz.func110 (by kernel_rfl) rfl
  obtain ⟨w0, hw0⟩ : ∃ w0, (w.alloc (.cells #[.bool l, .string ⟨d.toArray⟩, .slice a xs.length cap] 44)).alloc (.cells #[.string ⟨#[]⟩, .slice none 0 0, .string ⟨#[]⟩] 39) = w0 := ⟨_, rfl⟩
  have hb0 : Below w.heap.size w w0 := by rw [← hw0]; exact ((Below.refl _ _).alloc (Nat.le_refl _) _).alloc (by simp) _
  have hz0 : w0.heap.size = w.heap.size + 2 := by rw [← hw0]; simp
  obtain ⟨g, hg⟩ : ∃ g, w.heap.size + 1 = g := ⟨_, rfl⟩
  have hrow0 : w0.heap[g]? = some (.cells #[.string ⟨#[]⟩, .slice none 0 0, .string ⟨#[]⟩] 39 (0, 0)) := by
    rw [← hw0, ← hg]
    exact heap_alloc2_new w _ _
  have hbx : Box w0 w.heap.size l d (.slice a xs.length cap) := by
    rw [← hw0]
    refine ⟨?_, ?_, ?_⟩ <;> (rw [World.cell?_alloc_lt _ _ ⟨w.heap.size, _, none⟩ (by simp)])
    · exact (Box.new w l d _ _).c0
    · exact (Box.new w l d _ _).c1
    · exact (Box.new w l d _ _).c2
  have HL := Lib.hid (fun part => rlist_any b e0 part l d xs a cap 3 3 w0 (hS.kept hb0) (hR.kept hb0))
  have hgd : M.Gd (.mk l d xs) := hR.2
  have HGD := Lib.hid (M.rdL_gd (e0 := e0) (least := 3) (most := 3) hgd)
  have HLN := Lib.hid (fun h => M.rdL_len (e0 := e0) (least := 3) (most := 3) (x := .mk l d xs) h)
  have hbl := hS.lt
  have hgb : g ≠ b := by omega
  have hrl : M.rdLog e0 (.mk l d xs) = if (M.rdL e0 3 3 (.mk l d xs)).2 ≠ 0 then (⟨[], [], []⟩, (M.rdL e0 3 3 (.mk l d xs)).2) else M.rdParts (M.rdL e0 3 3 (.mk l d xs)).1 := rfl
  have HW := Lib.hid hw0
  have HB0 := Lib.hid hb0
  have HR0 := Lib.hid hrow0
  have p0 := hbx.c0
  have p1 := hbx.c1
  have p2 := hbx.c2
  clear hw0 hS hR hbx hgd hrow0 hb0
  rw [hrl]
  clear hrl
  generalize M.rdL e0 3 3 (.mk l d xs) = r at *
  obtain ⟨p, n⟩ := r
  by_cases hn : n = 0
  · subst hn
    rw [if_neg (by simp)]
    obtain ⟨x0, x1, x2, rfl⟩ : ∃ x0 x1 x2, p = [x0, x1, x2] := by
      obtain ⟨h1, h2⟩ := HLN.out rfl
      match p, h1, h2 with
      | [x0, x1, x2], _, _ => exact ⟨_, _, _, rfl⟩
      | [], h1, _ => simp at h1
      | [_], h1, _ => simp at h1
      | [_, _], h1, _ => simp at h1
      | _ :: _ :: _ :: _ :: _, _, h2 => simp at h2; omega
    obtain ⟨l0, d0, ys0⟩ := x0
    obtain ⟨l1, d1, ys1⟩ := x1
    obtain ⟨l2, d2, ys2⟩ := x2
    have hG := HGD.out
    have hG0 : M.Gd (.mk l0 d0 ys0) := hG _ (by simp)
    have hG1 : M.Gd (.mk l1 d1 ys1) := hG _ (by simp)
    have hG2 : M.Gd (.mk l2 d2 ys2) := hG _ (by simp)
    obtain ⟨ra, hra⟩ : ∃ ra, M.rdT (rText 20) 0 (.mk l0 d0 ys0) = ra := ⟨_, rfl⟩
    obtain ⟨rt0, hrt0⟩ : ∃ rt0, M.rdL ra.2 0 4 (.mk l1 d1 ys1) = rt0 := ⟨_, rfl⟩
    obtain ⟨rt, hrt⟩ : ∃ rt, M.rdEach (M.rdT (rText 32)) rt0.2 rt0.1 = rt := ⟨_, rfl⟩
    obtain ⟨rd, hrd⟩ : ∃ rd, M.rdT (M.getText 0 4096) rt.2 (.mk l2 d2 ys2) = rd := ⟨_, rfl⟩
    have hP : M.rdParts [.mk l0 d0 ys0, .mk l1 d1 ys1, .mk l2 d2 ys2] = (⟨ra.1, rt.1, rd.1⟩, rd.2) := by
      rw [← hrd, ← hrt, ← hrt0, ← hra]
      rfl
    rw [hP]
    have HA := Lib.hid (fun part W a0 c0 (s : RS W b 0) (hL : Lay W W.heap.size ys0 (.slice a0 ys0.length c0)) => rd_text b 0 part l0 d0 ys0 a0 c0 (rText 20) 107 W s (hG0.rd hL) EA (fun W hW => raddr_any l0 d0 ys0 a0 c0 W hW))
    have HTO := Lib.hid (fun part W a1 c1 (s : RS W b ra.2) (hL : Lay W W.heap.size ys1 (.slice a1 ys1.length c1)) => rlist_any b _ part l1 d1 ys1 a1 c1 0 4 W s (hG1.rd hL))
    have hg4 := M.rdL_gd (e0 := ra.2) (least := 0) (most := 4) hG1
    have hm4 := M.rdL_most (e0 := ra.2) (least := 0) (most := 4) (x := .mk l1 d1 ys1) (by omega)
    rw [hrt0] at HTO hg4 hm4
    rw [hra] at HA
    have HTP := Lib.hid (fun a9 c9 W (hL : Lay W W.heap.size rt0.1 (.slice a9 rt0.1.length c9)) (hs : RS W b rt0.2) => rdtopics_any b rt0.2 rt0.1 a9 c9 W hs hL hg4 (by omega))
    rw [hrt] at HTP
    have HD := Lib.hid (fun part W a2 c2 (s : RS W b rt.2) (hL : Lay W W.heap.size ys2 (.slice a2 ys2.length c2)) => rd_text b rt.2 part l2 d2 ys2 a2 c2 (M.getText 0 4096) 110 W s (hG2.rd hL) ED (fun W hW => rdata_any l2 d2 ys2 a2 c2 W hW))
    rw [hrd] at HD
    clear hra hrt0 hrt hrd hP hg4 hm4 hG hG0 hG1 hG2 HGD HLN EA ED
    go_enter Tryz.func67, Tryz.ntmps67
    go_wp2_with (first | rw [HW.out] | rw [hg])
    refine (HL.out _).mono ?_
    rintro e w2 ⟨⟨a2', c2', rfl, L2⟩, s2, q2⟩
    try dsimp only at L2 s2
    have s2z := s2.zero
    obtain ⟨q, o, a0, a1, a2, c0, c1, c2, cp, hv, hqn, hqb, h3, L0, L1, L22⟩ := L2.three s2
    cases hv
    have hrow2 := (q2.block g (by omega) hgb).trans HR0.out
    have hgq : q ≠ g := fun e => by
      have := h3.z00
      rw [e] at this
      have k : ∀ l, w2.cell? ⟨g, o, none⟩ ≠ some (.bool l) := fun l hl => by
        match o with
        | 0 => simp [World.cell?, hrow2] at hl
        | 1 => simp [World.cell?, hrow2] at hl
        | 2 => simp [World.cell?, hrow2] at hl
        | o + 3 => simp [World.cell?, hrow2] at hl
      exact k _ this
    have hdr : Below w2.heap.size w2 w2.drew := Below.drew (Below.refl _ _)
    have hq3 : q < w2.drew.heap.size := hqn
    have s3 := s2.kept hdr
    have HS3 := Lib.hid s3
    have HL0 := Lib.hid ((L0.from_ hdr).mono hdr.size)
    have HL1 := Lib.hid (fun W (h : But b w2.drew W) => ((L1.from_ hdr).mono hdr.size).butk s3 h)
    have HL2 := Lib.hid (fun W (h : But b w2.drew W) => ((L22.from_ hdr).mono hdr.size).butk s3 h)
    have HQ2 := Lib.hid ((But.of HB0.out).trans (q2.trans (But.of hdr)))
    have HR2 := Lib.hid ((hdr.block g (by have := q2.size; omega)).trans hrow2)
    have H3 := Lib.hid h3
    have hzz := q2.size
    have hgz : g < w2.drew.heap.size := Nat.lt_of_lt_of_le (Nat.lt_of_lt_of_le (by omega) hzz) hdr.size
    have n3 : ([M.It.mk l0 d0 ys0, .mk l1 d1 ys1, .mk l2 d2 ys2].length : Int) = 3 := rfl
    have n3' : [M.It.mk l0 d0 ys0, .mk l1 d1 ys1, .mk l2 d2 ys2].length = 3 := rfl
    rw [n3']
    clear L0 L1 L22 L2 s2 s3 hdr HL h3 q2 hrow2 n3 n3'
    go_wp2_with fail
    refine wp_region_held (S := fun Y => It3 Y q o l0 l1 l2 d0 d1 d2 a0 a1 a2 ys0.length ys1.length ys2.length c0 c1 c2) mixed ?_
    have hS0 : It3 w2.drew q o l0 l1 l2 d0 d1 d2 a0 a1 a2 ys0.length ys1.length ys2.length c0 c1 c2 := H3.out.keep rfl
    rw [show Array.replicate (Array.size _) false = #[false, false, false, false, false, false, false, false, false, false, false, false, false, false, false, false, false, false, false, false] from rfl, show Array.size (α := Oper) _ = 20 from rfl]
    refine wpAnyH_take (i := 0) (v := .pointer (some ⟨b, 0, none⟩)) rfl (by kernel_rfl) (by kernel_rfl) (by kernel_rfl) (fun _ _ _ h => h) (Or.inl ⟨by rfl, ?_⟩) hS0 ?_
    · intro Y hY
      skip
      go_simp
    simp only [Act.put, zqA, zqC, zqD, zqE, zqF]
    refine wpAnyH_take (i := 1) (v := .slice (some ⟨q, o, none⟩) 3 c2') rfl (by kernel_rfl) (by kernel_rfl) (by kernel_rfl) (fun _ _ _ h => h) (Or.inl ⟨by rfl, ?_⟩) hS0 ?_
    · intro Y hY
      skip
      go_simp
    simp only [Act.put, zqA, zqB, zqC, zqD, zqE, zqF]
    refine wpAnyH_take (i := 2) (v := .pointer (some ⟨q, o, none⟩)) rfl (by kernel_rfl) (by kernel_rfl) (by kernel_rfl) (fun _ _ _ h => h) (Or.inl ⟨by rfl, ?_⟩) hS0 ?_
    · intro Y hY
      skip
      go_simp
    simp only [Act.put, zqA, zqB, zqC, zqD, zqE, zqF]
    refine wpAnyH_take (i := 3) (v := iv l0 d0 (.slice a0 ys0.length c0)) rfl (by kernel_rfl) (by kernel_rfl) (by kernel_rfl) (fun _ _ _ h => h) (Or.inl ⟨by rfl, ?_⟩) hS0 ?_
    · intro Y hY
      obtain ⟨z00, z01, z02, z10, z11, z12, z20, z21, z22⟩ := hY
      go_simp
    simp only [Act.put, zqA, zqB, zqC, zqD, zqE, zqF]
    refine wpAnyH_take (i := 5) (v := .pointer (some ⟨b, 0, none⟩)) rfl (by kernel_rfl) (by kernel_rfl) (by kernel_rfl) (fun _ _ _ h => h) (Or.inl ⟨by rfl, ?_⟩) hS0 ?_
    · intro Y hY
      skip
      go_simp
    simp only [Act.put, zqA, zqB, zqC, zqD, zqE, zqF]
    refine wpAnyH_take (i := 6) (v := .slice (some ⟨q, o, none⟩) 3 c2') rfl (by kernel_rfl) (by kernel_rfl) (by kernel_rfl) (fun _ _ _ h => h) (Or.inl ⟨by rfl, ?_⟩) hS0 ?_
    · intro Y hY
      skip
      go_simp
    simp only [Act.put, zqA, zqB, zqC, zqD, zqE, zqF]
    refine wpAnyH_take (i := 7) (v := .pointer (some ⟨q, o + 3, none⟩)) rfl (by kernel_rfl) (by kernel_rfl) (by kernel_rfl) (fun _ _ _ h => h) (Or.inl ⟨by rfl, ?_⟩) hS0 ?_
    · intro Y hY
      skip
      go_simp
    simp only [Act.put, zqA, zqB, zqC, zqD, zqE, zqF]
    refine wpAnyH_take (i := 8) (v := iv l1 d1 (.slice a1 ys1.length c1)) rfl (by kernel_rfl) (by kernel_rfl) (by kernel_rfl) (fun _ _ _ h => h) (Or.inl ⟨by rfl, ?_⟩) hS0 ?_
    · intro Y hY
      obtain ⟨z00, z01, z02, z10, z11, z12, z20, z21, z22⟩ := hY
      go_simp
    simp only [Act.put, zqA, zqB, zqC, zqD, zqE, zqF]
    refine wpAnyH_take (i := 10) (v := .pointer (some ⟨b, 0, none⟩)) rfl (by kernel_rfl) (by kernel_rfl) (by kernel_rfl) (fun _ _ _ h => h) (Or.inl ⟨by rfl, ?_⟩) hS0 ?_
    · intro Y hY
      skip
      go_simp
    simp only [Act.put, zqA, zqB, zqC, zqD, zqE, zqF]
    refine wpAnyH_take (i := 11) (v := .func (.func 109) #[.pointer (some ⟨b, 0, none⟩)] #[]) rfl (by kernel_rfl) (by kernel_rfl) (by kernel_rfl) (fun _ _ _ h => h) (Or.inl ⟨by rfl, ?_⟩) hS0 ?_
    · intro Y hY
      skip
      go_simp
    simp only [Act.put, zqA, zqB, zqC, zqD, zqE, zqF]
    refine wpAnyH_take (i := 13) (v := .pointer (some ⟨b, 0, none⟩)) rfl (by kernel_rfl) (by kernel_rfl) (by kernel_rfl) (fun _ _ _ h => h) (Or.inl ⟨by rfl, ?_⟩) hS0 ?_
    · intro Y hY
      skip
      go_simp
    simp only [Act.put, zqA, zqB, zqC, zqD, zqE, zqF]
    refine wpAnyH_take (i := 14) (v := .slice (some ⟨q, o, none⟩) 3 c2') rfl (by kernel_rfl) (by kernel_rfl) (by kernel_rfl) (fun _ _ _ h => h) (Or.inl ⟨by rfl, ?_⟩) hS0 ?_
    · intro Y hY
      skip
      go_simp
    simp only [Act.put, zqA, zqB, zqC, zqD, zqE, zqF]
    refine wpAnyH_take (i := 15) (v := .pointer (some ⟨q, o + 6, none⟩)) rfl (by kernel_rfl) (by kernel_rfl) (by kernel_rfl) (fun _ _ _ h => h) (Or.inl ⟨by rfl, ?_⟩) hS0 ?_
    · intro Y hY
      skip
      go_simp
    simp only [Act.put, zqA, zqB, zqC, zqD, zqE, zqF]
    refine wpAnyH_take (i := 16) (v := iv l2 d2 (.slice a2 ys2.length c2)) rfl (by kernel_rfl) (by kernel_rfl) (by kernel_rfl) (fun _ _ _ h => h) (Or.inl ⟨by rfl, ?_⟩) hS0 ?_
    · intro Y hY
      obtain ⟨z00, z01, z02, z10, z11, z12, z20, z21, z22⟩ := hY
      go_simp
    simp only [Act.put, zqA, zqB, zqC, zqD, zqE, zqF]
    refine wpAnyH_ready (rs := [4]) (by kernel_rfl) (by simp) ?_
    refine AllReadyH.cons rfl (fun K hK => ?_) AllReadyH.nil
    go_simp
    refine (HA.out _ _ a0 c0 HS3.out HL0.out).mono ?_
    rintro e w4 ⟨rfl, s4, q4⟩
    have hS4 := hS0.but q4 hqb hq3
    have hq4 : q < w4.heap.size := Nat.lt_of_lt_of_le hq3 q4.size
    have HT0 := Lib.hid (fun part => HTO.out part w4 a1 c1 s4 (HL1.out w4 q4))
    clear HA HTO HL0 HL1 HS3
    try dsimp only
    refine hK.out _ _ hS4 (fun _ => ?_)
    clear hK K
    simp only [List.setIfInBounds_toArray, List.set_cons_zero, List.set_cons_succ]
    refine wpAnyH_ready (rs := [9]) (by kernel_rfl) (by simp) ?_
    refine AllReadyH.cons rfl (fun K hK => ?_) AllReadyH.nil
    go_simp
    refine (HT0.out _).mono ?_
    rintro e w9 ⟨⟨a9, c9, rfl, L9⟩, s9, q9⟩
    have hS9 := hS4.but q9 hqb hq4
    have hq9 : q < w9.heap.size := Nat.lt_of_lt_of_le hq4 q9.size
    have HT9 := Lib.hid (HTP.out a9 c9 w9 L9 s9)
    clear HTP HT0 L9
    try dsimp only
    refine hK.out _ _ hS9 (fun _ => ?_)
    clear hK K
    simp only [List.setIfInBounds_toArray, List.set_cons_zero, List.set_cons_succ]
    refine wpAnyH_ready (rs := [12]) (by kernel_rfl) (by simp) ?_
    refine AllReadyH.cons rfl (fun K hK => ?_) AllReadyH.nil
    go_simp
    refine (HT9.out).mono ?_
    rintro e w12 ⟨⟨v12, rfl, T12, o12⟩, s12, q12⟩
    have hS12 := hS9.but q12 hqb hq9
    have hq12 : q < w12.heap.size := Nat.lt_of_lt_of_le hq9 q12.size
    have HD1 := Lib.hid (fun part => HD.out part w12 a2 c2 s12 (HL2.out w12 (q4.trans (q9.trans q12))))
    clear HD HL2 HT9
    obtain ⟨av, cv, rfl, _, _⟩ := T12.slice
    have HT12 := Lib.hid T12
    have HO12 := Lib.hid o12
    clear T12 o12
    try dsimp only
    refine hK.out _ _ hS12 (fun _ => ?_)
    clear hK K
    simp only [List.setIfInBounds_toArray, List.set_cons_zero, List.set_cons_succ]
    refine wpAnyH_ready (rs := [17]) (by kernel_rfl) (by simp) ?_
    refine AllReadyH.cons rfl (fun K hK => ?_) AllReadyH.nil
    go_simp
    refine (HD1.out _).mono ?_
    rintro e w17 ⟨rfl, s17, q17⟩
    have hS17 := hS12.but q17 hqb hq12
    have qa := q4.trans (q9.trans (q12.trans q17))
    have hrow := (qa.block g hgz hgb).trans HR2.out
    have HT17 := Lib.hid (HT12.out.butk s12 q17)
    have HS17 := Lib.hid s17
    have HQ17 := Lib.hid (HQ2.out.trans qa)
    have HZ9 := Lib.hid (Nat.lt_of_lt_of_le hgz (Nat.le_trans q4.size q9.size))
    clear HD1 HT12 s4 s9 s12 s17 q4 q9 q12 q17 qa
    try dsimp only
    refine hK.out _ _ hS17 (fun _ => ?_)
    clear hK K
    simp only [List.setIfInBounds_toArray, List.set_cons_zero, List.set_cons_succ]
    refine wpAnyH_take (i := 18) (v := .agg #[.string ⟨ra.1.toArray⟩, .slice av rt.1.length cv, .string ⟨rd.1.toArray⟩]) rfl (by kernel_rfl) (by kernel_rfl) (by kernel_rfl) (fun _ _ _ h => h) (Or.inl ⟨by rfl, ?_⟩) hS17 ?_
    · intro Y hY
      skip
      go_simp
    simp only [Act.put, zqA, zqB, zqC, zqD, zqE, zqF]
    obtain ⟨⟨_, z0⟩, ⟨_, z1⟩, ⟨_, z2⟩, y0, y1, y2⟩ := cells_three hrow
    refine wpAnyH_ready (rs := [19]) (by kernel_rfl) (by simp) ?_
    refine AllReadyH.cons rfl (fun K hK => ?_) AllReadyH.nil
    go_simp
    rw [set_three hrow]
    have hS19 := hS17.keep (W := w17.setRow g #[.string ⟨ra.1.toArray⟩, .slice av rt.1.length cv, .string ⟨rd.1.toArray⟩]) (setRow_other w17 g q _ hgq)
    refine hK.out _ _ hS19 (fun _ => ?_)
    clear hK K
    simp only [List.setIfInBounds_toArray, List.set_cons_zero, List.set_cons_succ]
    refine wpAnyH_done (by kernel_rfl) ?_ _
    go_wp2_with fail
    refine lf_row rfl w17 _ ra.1 rd.1 _ g _ _ _ hrow _ ?_ ?_
    · rfl
    · refine ⟨⟨_, rfl, ?_, HO12.out.mono ?_⟩, HS17.out.row (Ne.symm hgb) _, HQ17.out.row ?_ _⟩
      · rw [setRow_size]
        exact HT17.out.row_ (HO12.out) (by have := HZ9.out; omega) _
      · have := HZ9.out
        omega
      · omega
  · have hn1 : ((n : Int) == 0) = false := by simp [hn]
    rw [if_pos hn]
    clear HGD HLN EA ED
    go_enter Tryz.func67, Tryz.ntmps67
    go_wp2_with (first | rw [HW.out] | rw [hg])
    refine (HL.out _).mono ?_
    rintro e w2 ⟨⟨a2', c2', rfl, L2⟩, s2, q2⟩
    obtain ⟨sm, s2h⟩ := s2.held hn
    have hrow2 := (q2.block g (by omega) hgb).trans HR0.out
    obtain ⟨⟨_, z0⟩, ⟨_, z1⟩, ⟨_, z2⟩, y0, y1, y2⟩ := cells_three hrow2
    have HS2 := Lib.hid s2
    have HQ2 := Lib.hid ((But.of HB0.out).trans q2)
    have HR2 := Lib.hid hrow2
    clear L2 s2 hrow2 HL q2
    go_wp2_with fail
    refine lf_any rfl w2 _ [] [] (.slice none 0 0) g _ _ _ HR2.out _ ?_ ?_
    · rfl
    · exact ⟨⟨_, rfl, .nil_ (by decide), OffB.none_ _ _ _⟩, HS2.out.row (Ne.symm hgb) _, HQ2.out.row (by omega) _⟩
end Go.Proofs.YtebjhbeaknokkaaGreatDoor
namespace Go.Proofs.YtebjhbeaknokkaaGreatDoor
open Go Go.RowKit Go.Lib
attribute [local go_sem] Oper.semAt_some

theorem Tryz.ofLog : (Tryz.prog.info? 39).map (fun i => (i.zero, i.size, i.bytes)) = some (some (.agg #[.string ⟨#[]⟩, .slice none 0 0, .string ⟨#[]⟩]), 3, 56) := by kernel_rfl
def LgR (W : World) (h : Nat) (cur : Array Value) (ls : List M.Lg) : Prop := ∀ (j : Nat) (g : M.Lg), ls[j]? = some g → cur[j * 3]? = some (.string ⟨g.addr.toArray⟩) ∧ (∃ v, cur[j * 3 + 1]? = some v ∧ Ts W W.heap.size g.topics v ∧ OffB (h + 1) v) ∧ cur[j * 3 + 2]? = some (.string ⟨g.data.toArray⟩)
theorem LgR.but {w w' : World} {h b e : Nat} {cur : Array Value} {ls : List M.Lg} (H : LgR w h cur ls) (hS : RS w b e) (hb : But b w w') : LgR w' h cur ls := fun j g hj => by
  obtain ⟨c0, ⟨v, c1, t, o⟩, c2⟩ := H j g hj
  exact ⟨c0, ⟨v, c1, t.butk hS hb, o⟩, c2⟩
theorem LgR.snoc {w : World} {h : Nat} {cur : Array Value} {ls : List M.Lg} (H : LgR w h cur ls) (hl : ls.length * 3 + 3 ≤ cur.size) (g : M.Lg) (v : Value) (t : Ts w w.heap.size g.topics v) (o : OffB (h + 1) v) (cs : Array Value) :
    LgR (w.setRow h cs) h (((cur.setIfInBounds (ls.length * 3) (.string ⟨g.addr.toArray⟩)).setIfInBounds (ls.length * 3 + 1) v).setIfInBounds (ls.length * 3 + 2) (.string ⟨g.data.toArray⟩)) (ls ++ [g]) := by
  intro j x hj
  rcases Nat.lt_trichotomy j ls.length with q | q | q
  · rw [List.getElem?_append_left q] at hj
    obtain ⟨c0, ⟨u, c1, t', o'⟩, c2⟩ := H j x hj
    have k : ∀ i, i < ls.length * 3 → (((cur.setIfInBounds (ls.length * 3) (Value.string ⟨g.addr.toArray⟩)).setIfInBounds (ls.length * 3 + 1) v).setIfInBounds (ls.length * 3 + 2) (Value.string ⟨g.data.toArray⟩))[i]? = cur[i]? := fun i hi => by
      rw [Array.getElem?_setIfInBounds_ne (by omega), Array.getElem?_setIfInBounds_ne (by omega), Array.getElem?_setIfInBounds_ne (by omega)]
    exact ⟨(k _ (by omega)).trans c0, ⟨u, (k _ (by omega)).trans c1, by rw [setRow_size]; exact t'.row_ o' (by omega) _, o'⟩, (k _ (by omega)).trans c2⟩
  · subst q
    rw [List.getElem?_append_right (Nat.le_refl _)] at hj
    simp at hj
    subst hj
    refine ⟨?_, ⟨v, ?_, by rw [setRow_size]; exact t.row_ o (by omega) _, o⟩, ?_⟩
    · rw [Array.getElem?_setIfInBounds_ne (by omega), Array.getElem?_setIfInBounds_ne (by omega), Array.getElem?_setIfInBounds_self_of_lt (by omega)]
    · rw [Array.getElem?_setIfInBounds_ne (by omega), Array.getElem?_setIfInBounds_self_of_lt (by simp; omega)]
    · rw [Array.getElem?_setIfInBounds_self_of_lt (by simp; omega)]
  · rw [List.getElem?_eq_none (by simp; omega)] at hj
    cases hj
theorem Ls.of_row {w : World} {h n : Nat} {cur : Array Value} {ls : List M.Lg} (H : LgR w h cur ls) (hr : w.heap[h]? = some (.cells cur 39 (0, 0))) (hn : ls.length = n) (hm : n ≤ maxLen) : Ls w w.heap.size ls (.slice (some ⟨h, 0, none⟩) n n) := by
  subst hn
  have at_ : ∀ j v, cur[j]? = some v → w.cell? ⟨h, 0 + j, none⟩ = some v := fun j v hv => by simp [World.cell?, hr, hv]
  refine .row (fun j => (cur[j * 3 + 1]?).getD undef) (Array.getElem?_eq_some_iff.1 hr).1 (Nat.le_refl _) hm ?_ ?_ ?_ ?_
  · intro i g e
    exact at_ _ _ (H i g e).1
  · intro i g e
    obtain ⟨_, ⟨v, c1, _, _⟩, _⟩ := H i g e
    have := at_ _ _ c1
    rw [← Nat.add_assoc] at this
    rw [this, c1, Option.getD_some]
  · intro i g e
    have := at_ _ _ (H i g e).2.2
    rwa [← Nat.add_assoc] at this
  · intro i g e
    obtain ⟨_, ⟨v, c1, t, _⟩, _⟩ := H i g e
    rw [c1, Option.getD_some]
    exact t

set_option maxRecDepth 100000 in
set_option maxHeartbeats 4000000 in
theorem rdlogs_any (b e0 : Nat) (xs : List M.It) (a : Option Addr) (cap : Nat) (w : World) (hS : RS w b e0) (hL : Lay w w.heap.size xs (.slice a xs.length cap)) (hG : ∀ x ∈ xs, M.Gd x) (hn : xs.length ≤ 600) :
    Calls Tryz.prog 66 #[.slice a xs.length cap, .func (.func 67) #[.pointer (some ⟨b, 0, none⟩)] #[]] w fun e w' =>
      (∃ v, e = .returned v ∧ Ls w' w'.heap.size (M.rdEach M.rdLog e0 xs).1 v) ∧ RS w' b (M.rdEach M.rdLog e0 xs).2 ∧ But b w w' := by
  have E1 : ∀ args w, (callFunc 67 args).run Tryz.prog w = .ok (.enter 67 args) w := enters_of Tryz.func67 (by kernel_rfl) rfl
  obtain ⟨i0, hi, hz0, hz1, hz2⟩ := info_parts Tryz.ofLog
  have hmk : ∀ W : World, (Instr.makeSlice 23 (.int .i64 (xs.length : Int)) (.int .i64 (xs.length : Int))).run Tryz.prog W = .ok (.slice (some ⟨W.heap.size, 0, none⟩) xs.length xs.length) (W.alloc (.cells (madeCells (Value.agg #[.string ⟨#[]⟩, .slice none 0 0, .string ⟨#[]⟩]).cells (xs.length * 3)) 39)) := fun W => by
    have h := run_make (P := Tryz.prog) W 23 39 i0 _ Tryz.underlying23 hi hz0 .i64 .i64 (xs.length : Int) (xs.length : Int) (by omega) (by omega) (by rw [hz2]; omega) (by omega)
    simpa [hz1] using h
  obtain ⟨m, hm⟩ : ∃ m, m = madeCells (Value.agg #[.string ⟨#[]⟩, .slice none 0 0, .string ⟨#[]⟩]).cells (xs.length * 3) := ⟨_, rfl⟩
  have hms : m.size = xs.length * 3 := by rw [hm, size_madeCells]
  rw [← hm] at hmk
  clear hm
  obtain ⟨w0, hw0⟩ : ∃ w0, w.alloc (.cells m 39) = w0 := ⟨_, rfl⟩
  have hb0 : Below w.heap.size w w0 := by rw [← hw0]; (repeat (first | exact Below.refl _ _ | refine Below.drew ?_ | refine Below.alloc ?_ (by first | omega | (simp; omega) | simp) _ | refine Below.setCell ?_ (by first | omega | (simp; omega) | simp) _))
  have hrow0 : w0.heap[w.heap.size]? = some (.cells m 39 (0, 0)) := by rw [← hw0]; exact heap_alloc_new w _
  replace hmk := hmk w
  rw [hw0] at hmk
  have hne : ¬ w.heap.size = b := by have := hS.lt; omega
  have HS := Lib.hid hS
  have HL := Lib.hid hL
  have HG := Lib.hid hG
  have HR0 := Lib.hid hrow0
  have HB0 := Lib.hid (But.of (b := b) hb0)
  have HS0 := Lib.hid (hS.kept hb0)
  obtain ⟨h, hh⟩ : ∃ h, w.heap.size = h := ⟨_, rfl⟩
  rw [hh] at hmk hne HR0
  have HZ := Lib.hid hn
  have HH := Lib.hid hh
  clear hw0 hS hL hG hrow0 hi hz0 hz1 hz2 hb0 hh
  go_enter Tryz.func66, Tryz.ntmps66
  go_wp2_with fail
  have HMK := Lib.hid hmk
  clear hmk
  go_loopw [13] (fun i wr => ∃ (k : Nat) (cur : Array Value), k ≤ xs.length ∧ i = .int .i64 k ∧ wr.heap[h]? = some (.cells cur 39 (0, 0)) ∧ cur.size = xs.length * 3 ∧ LgR wr h cur (M.rdEach M.rdLog e0 (xs.take k)).1 ∧ RS wr b (M.rdEach M.rdLog e0 (xs.take k)).2 ∧ But b w wr) (fun i _ => xs.length - (RowKit.intOf i).toNat)
  case atStart => exact ⟨0, m, by omega, rfl, HR0.out, hms, by intro j g hj; simp [M.rdEach] at hj, HS0.out, HB0.out⟩
  case round =>
    obtain ⟨k, cur, hk, rfl, hrow, hcs, hT, hSk, hb⟩ := hrel
    have hsz : h < wr.heap.size := (Array.getElem?_eq_some_iff.1 hrow).1
    by_cases hlt : k < xs.length
    · obtain ⟨g, o, cap', l, d, ys, u, hv, hbn, hs, h0, h1, h2, hu⟩ := (HL.out.butk HS.out hb).at_ hlt
      cases hv
      have hgd := HG.out _ (List.mem_of_getElem? hs)
      obtain ⟨au, cu, rfl, _, _⟩ := hu.slice
      have hb1 : Below wr.heap.size wr (wr.alloc (.cells #[.bool l, .string ⟨d.toArray⟩, .slice au ys.length cu] 44)) := (Below.refl _ _).alloc (Nat.le_refl _) _
      have HP := Lib.hid (rlog_any b _ l d ys au cu _ (hSk.kept hb1) ((hgd.rd hu).kept hb1))
      have HN := Lib.hid (M.rdEach_nx M.rdLog e0 hs)
      have hlen : (M.rdEach M.rdLog e0 (xs.take k)).1.length = k := by rw [M.rdEach_len, List.length_take]; omega
      have hlti : (k : Int) < xs.length := by omega
      have hk9 : k < 600 := by have := HZ.out; omega
      generalize M.rdLog (M.rdEach M.rdLog e0 (xs.take k)).2 (.mk l d ys) = r at *
      obtain ⟨⟨r0, r1, r3⟩, r2⟩ := r
      have HT := Lib.hid (hT.but hSk (But.of hb1))
      have HS1 := Lib.hid (hSk.kept hb1)
      have HB := Lib.hid (hb.trans (But.of hb1))
      have HR := Lib.hid ((hb1.block _ hsz).trans hrow)
      have HLN := Lib.hid hlen
      have hsz1 : h < (wr.alloc (.cells #[.bool l, .string ⟨d.toArray⟩, .slice au ys.length cu] 44)).heap.size := by simp; omega
      have HZ1 := Lib.hid hsz1
      have HCS := Lib.hid hcs
      clear hs hu hgd hb1 hSk hb hT hrow hlen hsz1
      go_wp2_with fail
      refine HP.out.mono ?_
      rintro e w2 ⟨⟨v, rfl, t2, o2⟩, hS2, hb2⟩
      obtain ⟨av, cv, rfl, _, _⟩ := t2.slice
      have hrow2 := (hb2.block h HZ1.out hne).trans HR.out
      have hkc : k * 3 + 3 ≤ cur.size := by have := HCS.out; omega
      have z0 : w2.cell? ⟨h, k * 3, none⟩ = some cur[k * 3] := by simp [World.cell?, hrow2, show k * 3 < cur.size by omega]
      have z1 : w2.cell? ⟨h, k * 3 + 1, none⟩ = some cur[k * 3 + 1] := by simp [World.cell?, hrow2, show k * 3 + 1 < cur.size by omega]
      have z2 : w2.cell? ⟨h, k * 3 + 2, none⟩ = some cur[k * 3 + 2] := by simp [World.cell?, hrow2, show k * 3 + 2 < cur.size by omega]
      have y0 : ∀ j, w2.frozen? ⟨h, j, none⟩ = false := fun j => by simp [World.frozen?, hrow2]
      have hT2 := (HT.out.but HS1.out hb2).snoc (by rw [HLN.out]; exact hkc) ⟨r0, r1, r3⟩ _ t2 (o2.mono (by have := HZ1.out; omega)) (((cur.setIfInBounds (k * 3) (.string ⟨r0.toArray⟩)).setIfInBounds (k * 3 + 1) (.slice av r1.length cv)).setIfInBounds (k * 3 + 2) (.string ⟨r3.toArray⟩))
      rw [HLN.out] at hT2
      have hrow3 := setRow_heap w2 h cur (((cur.setIfInBounds (k * 3) (.string ⟨r0.toArray⟩)).setIfInBounds (k * 3 + 1) (.slice av r1.length cv)).setIfInBounds (k * 3 + 2) (.string ⟨r3.toArray⟩)) _ (0, 0) hrow2
      have hw3 := set_three_at hrow2 (a := k * 3) (b := k * 3 + 1) (c := k * 3 + 2) (.string ⟨r0.toArray⟩) (.slice av r1.length cv) (.string ⟨r3.toArray⟩)
      have hz3 : (((cur.setIfInBounds (k * 3) (.string ⟨r0.toArray⟩)).setIfInBounds (k * 3 + 1) (.slice av r1.length cv)).setIfInBounds (k * 3 + 2) (.string ⟨r3.toArray⟩)).size = cur.size := by simp
      have HS3 := Lib.hid (hS2.row (g := h) (by omega) (((cur.setIfInBounds (k * 3) (.string ⟨r0.toArray⟩)).setIfInBounds (k * 3 + 1) (.slice av r1.length cv)).setIfInBounds (k * 3 + 2) (.string ⟨r3.toArray⟩)))
      have HB3 := Lib.hid ((HB.out.trans hb2).row (g := h) (by have := HH.out; omega) (((cur.setIfInBounds (k * 3) (.string ⟨r0.toArray⟩)).setIfInBounds (k * 3 + 1) (.slice av r1.length cv)).setIfInBounds (k * 3 + 2) (.string ⟨r3.toArray⟩)))
      generalize ((cur.setIfInBounds (k * 3) (.string ⟨r0.toArray⟩)).setIfInBounds (k * 3 + 1) (.slice av r1.length cv)).setIfInBounds (k * 3 + 2) (.string ⟨r3.toArray⟩) = cur3 at *
      generalize w2.setRow h cur3 = w3 at *
      have HW3 := Lib.hid hw3
      have HR3 := Lib.hid hrow3
      have HT3 := Lib.hid hT2
      have HZ3 := Lib.hid (hz3.trans HCS.out)
      clear hw3 hrow3 hrow2 hS2 hb2 hT2 hz3 t2 o2
      generalize cur[k * 3] = v0 at *
      generalize cur[k * 3 + 1] = v1 at *
      generalize cur[k * 3 + 2] = v2 at *
      go_wp2_with fail
      rw [HW3.out]
      go_roundw
      case rel =>
        refine ⟨k + 1, _, by omega, by simp, HR3.out, HZ3.out, ?_, ?_, HB3.out⟩
        · rw [HN.out]
          exact HT3.out
        · rw [HN.out]; exact HS3.out
      case measure => simp [RowKit.intOf]; omega
    · obtain rfl : k = xs.length := by omega
      rw [List.take_length] at hT hSk
      have hlen : (M.rdEach M.rdLog e0 xs).1.length = xs.length := M.rdEach_len _ _ _
      go_wp2_with fail
      go_ret
      exact ⟨⟨_, rfl, Ls.of_row hT hrow hlen (by have := HZ.out; simp only [maxLen]; omega)⟩, hSk, hb⟩
end Go.Proofs.YtebjhbeaknokkaaGreatDoor
namespace Go.Proofs.YtebjhbeaknokkaaGreatDoor
open Go Go.RowKit Go.Lib
attribute [local go_sem] Oper.semAt_some

namespace M
def rdX {α : Type} (z : α) (f : It → α × Nat) (e0 : Nat) (x : It) : α × Nat := if e0 = 0 then f x else (z, e0)
def mostP (k : Nat) : Nat := if k = 126 then 5 else 3
def rdMore (e0 : Nat) : List It → (Bool × Nat × Nat) × Nat
  | [] => ((false, 0, 0), e0)
  | [x] => ((true, (rdX 0 getNumber e0 x).1, 0), (rdX 0 getNumber e0 x).2)
  | x :: y :: _ => ((true, (rdX 0 getNumber e0 x).1, (rdX 0 rVersion (rdX 0 getNumber e0 x).2 y).1), (rdX 0 rVersion (rdX 0 getNumber e0 x).2 y).2)
def rdRcP (k : Nat) (p : List It) : Rc × Nat :=
  let st := rdX false getBool 0 (p.getD 0 zeroI)
  let ga := rdX 0 getNumber st.2 (p.getD 1 zeroI)
  let l0 := rdL ga.2 0 16 (p.getD 2 zeroI)
  let lg := rdEach rdLog l0.2 l0.1
  let mo := rdMore lg.2 (p.drop 3)
  (⟨k, st.1, ga.1, lg.1, mo.1.1, mo.1.2.1, mo.1.2.2⟩, mo.2)
def rdRc (s : List UInt8) : Rc × Nat :=
  let h := kdOf s
  let own := rdI h.2 (s.drop (headR h.1).length)
  let l := rdL own.2 3 (mostP h.1) own.1
  if l.2 ≠ 0 then (⟨0, false, 0, [], false, 0, 0⟩, l.2) else rdRcP h.1 l.1
theorem kdOf_ok (s : List UInt8) : ((kdOf s).1 : Int) = 0 ∨ ((kdOf s).1 : Int) = 1 ∨ ((kdOf s).1 : Int) = 2 ∨ ((kdOf s).1 : Int) = 4 ∨ ((kdOf s).1 : Int) = 126 := by
  cases s with
  | nil => exact .inl rfl
  | cons c r =>
    rw [kdOf]
    split
    · exact .inl rfl
    · split
      · simp only []; omega
      · exact .inl rfl
theorem kdOf_len (s : List UInt8) : (headR (kdOf s).1).length ≤ s.length := by
  cases s with
  | nil => exact Nat.le_refl _
  | cons c r =>
    unfold headR
    split <;> simp
end M
def NoTxt (w : World) (g : Nat) : Prop := ∀ o s, w.cell? ⟨g, o, none⟩ ≠ some (.string s)
theorem Ts.rowN {w : World} {n g : Nat} {ls : List (List UInt8)} {v : Value} (h : Ts w n ls v) (hg : NoTxt w g) (cs : Array Value) : Ts (w.setRow g cs) n ls v := by
  cases h with
  | nil_ hm => exact .nil_ hm
  | @row _ k o cap hlt hc hm c =>
    cases ls with
    | nil => exact .nil_ hm
    | cons s ls =>
      have hk : k ≠ g := fun e => hg _ _ (e ▸ c 0 s rfl)
      exact .row hlt hc hm fun i s e => (World.cell?_of_block (w := w) (setRow_other w g k cs hk)).trans (c i s e)
theorem Lay.rowN {w : World} {n g : Nat} {xs : List M.It} {v : Value} (h : Lay w n xs v) (hg : NoTxt w g) (cs : Array Value) : Lay (w.setRow g cs) n xs v := by
  induction h with
  | nil_ hm => exact .nil_ hm
  | @row xs k o cap V hlt hc hm c0 c1 c2 _ ih =>
    cases xs with
    | nil => exact .nil_ hm
    | cons x xs =>
      obtain ⟨l, d, ys⟩ := x
      have hk : k ≠ g := fun e => hg _ _ (e ▸ c1 0 l d ys rfl)
      have q : ∀ j, (w.setRow g cs).cell? ⟨k, j, none⟩ = w.cell? ⟨k, j, none⟩ := fun j => World.cell?_of_block (w := w) (a := ⟨k, j, none⟩) (setRow_other w g k cs hk)
      exact .row V hlt hc hm (fun i l d ys e => (q _).trans (c0 i l d ys e)) (fun i l d ys e => (q _).trans (c1 i l d ys e)) (fun i l d ys e => (q _).trans (c2 i l d ys e)) ih
theorem Ls.rowN {w : World} {n g : Nat} {ls : List M.Lg} {v : Value} (h : Ls w n ls v) (hg : NoTxt w g) (cs : Array Value) : Ls (w.setRow g cs) n ls v := by
  cases h with
  | nil_ hm => exact .nil_ hm
  | @row _ k o cap V hlt hc hm c0 c1 c2 r =>
    cases ls with
    | nil => exact .nil_ hm
    | cons x xs =>
      have hk : k ≠ g := fun e => hg _ _ (e ▸ c0 0 x rfl)
      have q : ∀ j, (w.setRow g cs).cell? ⟨k, j, none⟩ = w.cell? ⟨k, j, none⟩ := fun j => World.cell?_of_block (w := w) (a := ⟨k, j, none⟩) (setRow_other w g k cs hk)
      exact .row V hlt hc hm (fun i l e => (q _).trans (c0 i l e)) (fun i l e => (q _).trans (c1 i l e)) (fun i l e => (q _).trans (c2 i l e)) fun i l e => (r i l e).rowN hg cs
theorem NoTxt.rc {w : World} {g : Nat} {k : Int} {st fu : Bool} {ga no ve : Nat} {ls : Value} {a : Option Addr} {n c : Nat} (hl : ls = .slice a n c) (h : w.heap[g]? = some (.cells #[.int .i64 k, .bool st, .int .u64 (ga : Nat), ls, .bool fu, .int .u64 (no : Nat), .int .u64 (ve : Nat)] 25 (0, 0))) : NoTxt w g := by
  subst hl
  intro o s hs
  match o with
  | 0 => simp [World.cell?, h] at hs
  | 1 => simp [World.cell?, h] at hs
  | 2 => simp [World.cell?, h] at hs
  | 3 => simp [World.cell?, h] at hs
  | 4 => simp [World.cell?, h] at hs
  | 5 => simp [World.cell?, h] at hs
  | 6 => simp [World.cell?, h] at hs
  | o + 7 => simp [World.cell?, h] at hs
theorem rd_numX (b e0 : Nat) (part : ByteArray) (l : Bool) (d : List UInt8) (xs : List M.It) (a : Option Addr) (cap : Nat) (f : M.It → Nat × Nat) (g : FuncId) (w : World) (hS : RS w b e0) (hR : Rd w l d xs a cap)
    (E1 : ∀ args W, (callFunc g args).run Tryz.prog W = .ok (.enter g args) W)
    (hf : ∀ W, Rd W l d xs a cap → Calls Tryz.prog g #[iv l d (.slice a xs.length cap)] W fun e w' => e = .returned (.tuple #[.int .u64 ((f (.mk l d xs)).1 : Nat), .int .i64 ((f (.mk l d xs)).2 : Nat)]) ∧ Below W.heap.size W w') :
    Calls Tryz.prog 64 #[.pointer (some ⟨b, 0, none⟩), .string part, iv l d (.slice a xs.length cap), .func (.func g) #[] #[]] w fun e w' => e = .returned (.int .u64 ((M.rdX 0 f e0 (.mk l d xs)).1 : Nat)) ∧ RS w' b (M.rdX 0 f e0 (.mk l d xs)).2 ∧ But b w w' := by
  refine (rd_u64 b e0 part l d a xs.length cap (.int .u64 ((f (.mk l d xs)).1 : Nat)) (f (.mk l d xs)).2 g #[] w hS E1 (fun W hW => hf W (hR.kept hW))).mono ?_
  rintro e w' ⟨rfl, h1, h2⟩
  unfold M.rdX
  by_cases h0 : e0 = 0
  · rw [if_pos h0] at h1 ⊢
    rw [if_pos h0]
    exact ⟨rfl, h1, h2⟩
  · rw [if_neg h0] at h1 ⊢
    rw [if_neg h0]
    exact ⟨rfl, h1, h2⟩
theorem rd_boolX (b e0 : Nat) (part : ByteArray) (l : Bool) (d : List UInt8) (xs : List M.It) (a : Option Addr) (cap : Nat) (f : M.It → Bool × Nat) (g : FuncId) (w : World) (hS : RS w b e0) (hR : Rd w l d xs a cap)
    (E1 : ∀ args W, (callFunc g args).run Tryz.prog W = .ok (.enter g args) W)
    (hf : ∀ W, Rd W l d xs a cap → Calls Tryz.prog g #[iv l d (.slice a xs.length cap)] W fun e w' => e = .returned (.tuple #[.bool (f (.mk l d xs)).1, .int .i64 ((f (.mk l d xs)).2 : Nat)]) ∧ Below W.heap.size W w') :
    Calls Tryz.prog 62 #[.pointer (some ⟨b, 0, none⟩), .string part, iv l d (.slice a xs.length cap), .func (.func g) #[] #[]] w fun e w' => e = .returned (.bool (M.rdX false f e0 (.mk l d xs)).1) ∧ RS w' b (M.rdX false f e0 (.mk l d xs)).2 ∧ But b w w' := by
  refine (rd_bool b e0 part l d a xs.length cap (.bool (f (.mk l d xs)).1) (f (.mk l d xs)).2 g #[] w hS E1 (fun W hW => hf W (hR.kept hW))).mono ?_
  rintro e w' ⟨rfl, h1, h2⟩
  unfold M.rdX
  by_cases h0 : e0 = 0
  · rw [if_pos h0] at h1 ⊢
    rw [if_pos h0]
    exact ⟨rfl, h1, h2⟩
  · rw [if_neg h0] at h1 ⊢
    rw [if_neg h0]
    exact ⟨rfl, h1, h2⟩
theorem rd_kind (b : Nat) (part : ByteArray) (s : List UInt8) (w : World) (hS : RS w b 0) :
    Calls Tryz.prog 56 #[.pointer (some ⟨b, 0, none⟩), .string part, .string ⟨s.toArray⟩, .func (.func 57) #[] #[]] w fun e w' => e = .returned (.int .i64 ((kdOf s).1 : Nat)) ∧ RS w' b (kdOf s).2 ∧ But b w w' := by
  have E1 : ∀ args w, (callFunc 57 args).run Tryz.prog w = .ok (.enter 57 args) w := enters_of Tryz.func57 (by kernel_rfl) rfl
  refine (read_int b part _ (.int .i64 ((kdOf s).1 : Nat)) (kdOf s).2 57 #[] w hS.zero hS.frz E1 (kindOf_any s w)).mono ?_
  rintro e w' ⟨rfl, h⟩
  exact ⟨rfl, h.st hS⟩
theorem Tryz.rcSize : (Tryz.prog.info? 25).map (·.size) = some 7 := by kernel_rfl
theorem rc_row {fn : Func} {p : Tmp} (hres : fn.results = #[.cell p 25]) (w1 : World) (tmps : Array Value) (cs old : Array Value) (hz : cs.size = 7) (g : Nat)
    (hrow : w1.heap[g]? = some (.cells old 25 (0, 0))) (R : Ending → World → Prop) (hp : tmps.getD p undef = .pointer (some ⟨g, 0, none⟩))
    (h : R (.returned (.agg cs)) (w1.setRow g cs)) :
    bodyPost Tryz.prog fn R .ret { tmps := tmps, defers := [] } (w1.setRow g cs) := by
  have := results_cell_row (P := Tryz.prog) hres tmps (w1.setRow g cs) g 25 cs (0, 0) _ hp (setRow_heap _ _ _ _ _ (0, 0) hrow) Tryz.underlying25 rfl (by rw [Tryz.rcSize, hz])
  exact bodyPost_ret this rfl h
end Go.Proofs.YtebjhbeaknokkaaGreatDoor
