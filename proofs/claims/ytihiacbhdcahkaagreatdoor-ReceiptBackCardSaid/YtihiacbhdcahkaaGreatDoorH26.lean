/- Package receipt: the bytes are read as an item. Package receipt: a list of items is read; a topic. Package receipt: topics, one by one. -/
import Derived.Test.YtihiacbhdcahkaaGreatDoorTYFg
namespace Go.Proofs.YtihiacbhdcahkaaGreatDoor
open Go Go.RowKit Go.Lib
attribute [local go_sem] Oper.semAt_some

def M.rdI (e0 : Nat) (s : List UInt8) : M.It × Nat := if e0 = 0 then M.decodeL s else (M.zeroI, e0)
theorem But.row {b g : Nat} {w w1 : World} (h : But b w w1) (hg : w.heap.size ≤ g) (cs : Array Value) : But b w (w1.setRow g cs) :=
  ⟨h.os, h.tape, h.output, by rw [setRow_size]; exact h.size, fun k hk hb => (setRow_other w1 g k cs (by omega)).trans (h.block k hk hb)⟩
theorem RS.row {w : World} {b e g : Nat} (h : RS w b e) (hg : b ≠ g) (cs : Array Value) : RS (w.setRow g cs) b e := by
  obtain ⟨v, h, q⟩ := h
  exact ⟨v, (setRow_other w g b cs hg).trans h, q⟩
theorem Fresh.row {w : World} {B g : Nat} {xs : List M.It} {v : Value} (h : Fresh B w xs v) (hg : g < B) (cs : Array Value) : Fresh B (w.setRow g cs) xs v :=
  LayS.keep h fun c ⟨h1, h2⟩ => ⟨⟨h1, by rw [setRow_size]; exact h2⟩, setRow_other w g c cs (by omega)⟩
theorem Fresh.butF {w w' : World} {B b : Nat} {xs : List M.It} {v : Value} (h : Fresh B w xs v) (hb : But b w w') (hB : b < B) : Fresh B w' xs v :=
  LayS.keep h fun c ⟨h1, h2⟩ => ⟨⟨h1, Nat.lt_of_lt_of_le h2 hb.size⟩, hb.block c h2 (by omega)⟩
theorem rf_any {fn : Func} {p : Tmp} (hres : fn.results = #[.cell p 45]) (w1 : World) (tmps : Array Value) (l : Bool) (d : List UInt8) (v : Value) (g : Nat) (o0 o1 o2 : Value)
    (hrow : w1.heap[g]? = some (.cells #[o0, o1, o2] 45 (0, 0))) (R : Ending → World → Prop) (hp : tmps.getD p undef = .pointer (some ⟨g, 0, none⟩))
    (h : R (.returned (iv l d v)) (w1.setRow g #[.bool l, .string ⟨d.toArray⟩, v])) :
    bodyPost Tryz.prog fn R .ret { tmps := tmps, defers := [] } (((w1.setCell ⟨g, 0, none⟩ (.bool l)).setCell ⟨g, 1, none⟩ (.string ⟨d.toArray⟩)).setCell ⟨g, 2, none⟩ v) := by
  rw [set_three hrow]
  have := results_cell_row (P := Tryz.prog) hres tmps (w1.setRow g #[.bool l, .string ⟨d.toArray⟩, v]) g 45 #[.bool l, .string ⟨d.toArray⟩, v] (0, 0) _ hp (setRow_heap _ _ _ _ _ (0, 0) hrow) Tryz.underlying45 rfl Tryz.itemSize
  exact bodyPost_ret this rfl h
set_option maxRecDepth 100000 in
set_option maxHeartbeats 4000000 in
theorem rd_item0 (b e0 : Nat) (part : ByteArray) (s : ByteArray) (g : Value) (w : World) (hS : RS w b e0) (h0 : e0 ≠ 0) :
    Calls Tryz.prog 61 #[.pointer (some ⟨b, 0, none⟩), .string part, .string s, g] w fun e w' => e = .returned (iv false [] (.slice none 0 0)) ∧ RS w' b e0 ∧ But b w w' := by
  obtain ⟨m, hw⟩ := hS.held h0
  have hbl := addr_lt hw
  obtain ⟨w0, hw0⟩ : ∃ w0, w.alloc (.cells #[.bool false, .string ⟨#[]⟩, .slice none 0 0] 45) = w0 := ⟨_, rfl⟩
  have hb0 : Below w.heap.size w w0 := by rw [← hw0]; (repeat (first | exact Below.refl _ _ | refine Below.drew ?_ | refine Below.alloc ?_ (by first | omega | (simp; omega) | simp) _ | refine Below.setCell ?_ (by first | omega | (simp; omega) | simp) _))
  have hz0 : w0.heap.size = w.heap.size + 1 := by rw [← hw0]; simp
  have hrow0 : w0.heap[w.heap.size]? = some (.cells #[.bool false, .string ⟨#[]⟩, .slice none 0 0] 45 (0, 0)) := by rw [← hw0]; exact heap_alloc_new w _
  have hwz := (hb0.cell (p := ⟨b, 0, none⟩) hbl).trans hw
  obtain ⟨w1, hw1⟩ : ∃ w1, w0.alloc (.cells #[.bool false, .string ⟨#[]⟩, .slice none 0 0] 45) = w1 := ⟨_, rfl⟩
  have hb1 : Below w0.heap.size w0 w1 := by rw [← hw1]; (repeat (first | exact Below.refl _ _ | refine Below.drew ?_ | refine Below.alloc ?_ (by first | omega | (simp; omega) | simp) _ | refine Below.setCell ?_ (by first | omega | (simp; omega) | simp) _))
  have hrow := (hb1.block w.heap.size (by omega)).trans hrow0
  have hbw := hb0.trans (hb1.mono (by omega))
  have hSw := hS.kept hbw
  have HS := Lib.hid hSw
  have HB := Lib.hid hbw
  have HR := Lib.hid hrow
  have HW := Lib.hid hw0
  have hbx := Box.new w0 false [] (.slice none 0 0) 45
  rw [hw1, hz0] at hbx
  have HW1 := Lib.hid hw1
  have p0 := hbx.c0
  have p1 := hbx.c1
  have p2 := hbx.c2
  obtain ⟨⟨_, z0⟩, ⟨_, z1⟩, ⟨_, z2⟩, y0, y1, y2⟩ := cells_three hrow
  clear hS hSw hbw hw0 hw1 hrow hrow0 hb1 hb0 hw hbx h0
  go_enter Tryz.func61, Tryz.ntmps61
  go_wp2_with (first | rw [HW1.out] | rw [HW.out])
  refine rf_any rfl _ _ false [] (.slice none 0 0) w.heap.size _ _ _ HR.out _ ?_ ?_
  · rfl
  · exact ⟨rfl, HS.out.row (by omega) _, (But.of HB.out).row (Nat.le_refl _) _⟩
set_option maxRecDepth 100000 in
set_option maxHeartbeats 4000000 in
theorem rd_item1 (b : Nat) (part : ByteArray) (s : List UInt8) (hs : s.length ≤ 200000) (w : World) (hS : RS w b 0) :
    Calls Tryz.prog 61 #[.pointer (some ⟨b, 0, none⟩), .string part, .string ⟨s.toArray⟩, .func (.func 62) #[] #[]] w fun e w' =>
      (∃ l d xs a cap, e = .returned (iv l d (.slice a xs.length cap)) ∧ (M.decodeL s).1 = .mk l d xs ∧ Lay w' w'.heap.size xs (.slice a xs.length cap)) ∧ RS w' b (M.decodeL s).2 ∧ But b w w' := by
  have E1 : ∀ args w, (callFunc 62 args).run Tryz.prog w = .ok (.enter 62 args) w := enters_of Tryz.func62 (by kernel_rfl) rfl
  have hw := hS.zero
  have hfz := hS.frz
  have hbl := addr_lt hw
  obtain ⟨w0, hw0⟩ : ∃ w0, w.alloc (.cells #[.bool false, .string ⟨#[]⟩, .slice none 0 0] 45) = w0 := ⟨_, rfl⟩
  have hb0 : Below w.heap.size w w0 := by rw [← hw0]; (repeat (first | exact Below.refl _ _ | refine Below.drew ?_ | refine Below.alloc ?_ (by first | omega | (simp; omega) | simp) _ | refine Below.setCell ?_ (by first | omega | (simp; omega) | simp) _))
  have hz0 : w0.heap.size = w.heap.size + 1 := by rw [← hw0]; simp
  have hrow0 : w0.heap[w.heap.size]? = some (.cells #[.bool false, .string ⟨#[]⟩, .slice none 0 0] 45 (0, 0)) := by rw [← hw0]; exact heap_alloc_new w _
  have hwz := (hb0.cell (p := ⟨b, 0, none⟩) hbl).trans hw
  have HD := Lib.hid (dec_fresh s w0 hs)
  have HS := Lib.hid hS
  have HW := Lib.hid hw0
  generalize M.decodeL s = r at *
  obtain ⟨it, n⟩ := r
  clear hS hw0 hs
  have key : ∀ (W : World) (l : Bool) (d : List UInt8) (xs : List M.It) (a : Option Addr) (cap : Nat), Below w0.heap.size w0 W → Fresh w0.heap.size W xs (.slice a xs.length cap) →
      ∃ W1, W1 = W.alloc (.cells #[.bool l, .string ⟨d.toArray⟩, .slice a xs.length cap] 45) ∧ Below w.heap.size w W1 ∧ Box W1 W.heap.size l d (.slice a xs.length cap) ∧ w.heap.size < W.heap.size ∧ W1.heap[w.heap.size]? = some (.cells #[.bool false, .string ⟨#[]⟩, .slice none 0 0] 45 (0, 0)) ∧ Fresh (w.heap.size + 1) W1 xs (.slice a xs.length cap) ∧ RS W1 b 0 := by
    intro W l d xs a cap hb hF
    have hb1 : Below W.heap.size W (W.alloc (.cells #[.bool l, .string ⟨d.toArray⟩, .slice a xs.length cap] 45)) := (Below.refl _ _).alloc (Nat.le_refl _) _
    have hzz := hb.size
    have hbb := hb0.trans ((hb.mono (by omega)).trans (hb1.mono (by omega)))
    exact ⟨_, rfl, hbb, Box.new _ _ _ _ _, by omega, (hb1.block _ (by omega)).trans ((hb.block _ (by omega)).trans hrow0), (Fresh.from_ hF hb1).mono (by omega), HS.out.kept hbb⟩
  have HK := Lib.hid key
  clear key hb0 hrow0
  by_cases hn : n = 0
  · subst hn
    go_enter Tryz.func61, Tryz.ntmps61
    go_wp2_with (rw [HW.out])
    refine (HD.out).mono ?_
    rintro e W ⟨⟨l, d, xs, a, cap, rfl, hx, hF⟩, hb⟩
    obtain ⟨W1, hW1, hbb, hbx, hlt, hrow, hF1, hS1⟩ := HK.out W l d xs a cap hb hF
    have HF := Lib.hid hF1
    have HX := Lib.hid hx
    have HS1 := Lib.hid hS1
    have HB := Lib.hid hbb
    have HR := Lib.hid hrow
    have HV := Lib.hid hW1
    have p0 := hbx.c0
    have p1 := hbx.c1
    have p2 := hbx.c2
    obtain ⟨⟨_, z0⟩, ⟨_, z1⟩, ⟨_, z2⟩, y0, y1, y2⟩ := cells_three hrow
    clear hF hF1 hx hS1 hbb hrow hb hbx HK HD hW1
    go_wp2_with (rw [← HV.out])
    refine rf_any rfl _ _ l d (.slice a xs.length cap) w.heap.size _ _ _ HR.out _ ?_ ?_
    · rfl
    · exact ⟨⟨l, d, xs, a, cap, rfl, HX.out, (HF.out.row (by omega) _).lay⟩, HS1.out.row (by omega) _, (But.of HB.out).row (Nat.le_refl _) _⟩
  · have hn1 : ((n : Int) == 0) = false := by simp [hn]
    have hnx : ¬ (n : Int) = 0 := by omega
    go_enter Tryz.func61, Tryz.ntmps61
    go_wp2_with (rw [HW.out])
    refine (HD.out).mono ?_
    rintro e W ⟨⟨l, d, xs, a, cap, rfl, hx, hF⟩, hb⟩
    obtain ⟨W1, hW1, hbb, hbx, hlt, hrow, hF1, hS1⟩ := HK.out W l d xs a cap hb hF
    have h1z := hS1.zero
    have h1f := hS1.frz
    have HV := Lib.hid hW1
    obtain ⟨q1, q2⟩ := hS1.put hn part
    obtain ⟨W2, hW2⟩ : ∃ W2, W1.setCell ⟨b, 0, none⟩ (.iface 138 (.agg #[.string part, .int .i64 n])) = W2 := ⟨_, rfl⟩
    have HV2 := Lib.hid hW2
    rw [hW2] at q1 q2
    have hz1 : W1.heap.size = W.heap.size + 1 := by rw [hW1]; simp
    have HF := Lib.hid (hF1.butF q2 (by omega))
    have HX := Lib.hid hx
    have HS1 := Lib.hid q1
    have HB := Lib.hid ((But.of hbb).trans q2)
    have hrow2 := (q2.block w.heap.size (by omega) (by omega)).trans hrow
    have HR := Lib.hid hrow2
    have p0 := (q2.cell (p := ⟨W.heap.size, 0, none⟩) (by show W.heap.size < _; omega) (by show W.heap.size ≠ _; omega)).trans hbx.c0
    have p1 := (q2.cell (p := ⟨W.heap.size, 1, none⟩) (by show W.heap.size < _; omega) (by show W.heap.size ≠ _; omega)).trans hbx.c1
    have p2 := (q2.cell (p := ⟨W.heap.size, 2, none⟩) (by show W.heap.size < _; omega) (by show W.heap.size ≠ _; omega)).trans hbx.c2
    obtain ⟨⟨_, z0⟩, ⟨_, z1⟩, ⟨_, z2⟩, y0, y1, y2⟩ := cells_three hrow2
    clear hF hF1 hx hS1 hbb hrow hrow2 hb hbx HK HD hW1 hW2 q1 q2
    go_wp2_with (first | rw [← HV.out] | rw [HV2.out])
    refine rf_any rfl _ _ l d (.slice a xs.length cap) w.heap.size _ _ _ HR.out _ ?_ ?_
    · rfl
    · exact ⟨⟨l, d, xs, a, cap, rfl, HX.out, (HF.out.row (by omega) _).lay⟩, HS1.out.row (by omega) _, HB.out.row (Nat.le_refl _) _⟩
theorem rd_item (b e0 : Nat) (part : ByteArray) (s : List UInt8) (hs : s.length ≤ 200000) (w : World) (hS : RS w b e0) :
    Calls Tryz.prog 61 #[.pointer (some ⟨b, 0, none⟩), .string part, .string ⟨s.toArray⟩, .func (.func 62) #[] #[]] w fun e w' =>
      (∃ l d xs a cap, e = .returned (iv l d (.slice a xs.length cap)) ∧ (M.rdI e0 s).1 = .mk l d xs ∧ Lay w' w'.heap.size xs (.slice a xs.length cap)) ∧ RS w' b (M.rdI e0 s).2 ∧ But b w w' := by
  by_cases h0 : e0 = 0
  · subst h0
    exact rd_item1 b part s hs w hS
  · unfold M.rdI
    rw [if_neg h0]
    refine (rd_item0 b e0 part _ _ w hS h0).mono ?_
    rintro e w' ⟨rfl, h1, h2⟩
    exact ⟨⟨_, _, _, _, _, rfl, rfl, .nil_ (by decide)⟩, h1, h2⟩
end Go.Proofs.YtihiacbhdcahkaaGreatDoor
namespace Go.Proofs.YtihiacbhdcahkaaGreatDoor
open Go Go.RowKit Go.Lib
attribute [local go_sem] Oper.semAt_some

def M.rdL (e0 : Nat) (least most : Int) (x : M.It) : List M.It × Nat := if e0 = 0 then M.getList least most x else ([], e0)
def M.rdT (f : M.It → List UInt8 × Nat) (e0 : Nat) (x : M.It) : List UInt8 × Nat := if e0 = 0 then f x else ([], e0)
set_option maxRecDepth 100000 in
set_option maxHeartbeats 2000000 in
theorem rlistf_any (l : Bool) (d : List UInt8) (xs : List M.It) (a : Option Addr) (cap : Nat) (least most : Int) (p q : Nat) (w : World) (hR : Rd w l d xs a cap) (hp : w.cell? ⟨p, 0, none⟩ = some (.int .i64 least)) (hq : w.cell? ⟨q, 0, none⟩ = some (.int .i64 most)) :
    Calls Tryz.prog 103 #[iv l d (.slice a xs.length cap), .pointer (some ⟨p, 0, none⟩), .pointer (some ⟨q, 0, none⟩)] w fun e w' => (∃ v, e = .returned (.tuple #[v, .int .i64 ((M.getList least most (.mk l d xs)).2 : Nat)]) ∧ ∃ a' cap', v = .slice a' (M.getList least most (.mk l d xs)).1.length cap' ∧ Lay w' w'.heap.size (M.getList least most (.mk l d xs)).1 v) ∧ Below w.heap.size w w' := by
  have hpl := addr_lt hp
  have hql := addr_lt hq
  have hb0 : Below w.heap.size w (w.alloc (.cells #[.bool l, .string ⟨d.toArray⟩, .slice a xs.length cap] 45)) := by (repeat (first | exact Below.refl _ _ | refine Below.drew ?_ | refine Below.alloc ?_ (by first | omega | (simp; omega) | simp) _ | refine Below.setCell ?_ (by first | omega | (simp; omega) | simp) _))
  have hp0 : ∀ o, (w.alloc o).cell? ⟨p, 0, none⟩ = some (.int .i64 least) := fun o => by rw [World.cell?_alloc_lt _ _ ⟨p, 0, none⟩ hpl]; exact hp
  have hq0 : ∀ o, (w.alloc o).cell? ⟨q, 0, none⟩ = some (.int .i64 most) := fun o => by rw [World.cell?_alloc_lt _ _ ⟨q, 0, none⟩ hql]; exact hq
  have HL := Lib.hid (getlist_it l d xs a cap least most _ (hR.kept hb0))
  clear hR
  generalize M.getList least most (.mk l d xs) = r at *
  obtain ⟨r1, r2⟩ := r
  go_enter Tryz.func103, Tryz.ntmps103
  go_wp2_with fail
  refine (HL.out).mono ?_
  rintro e w1 ⟨⟨a', cap', rfl, hFr⟩, hb1⟩
  go_wp2_with fail
  go_ret2
  exact ⟨⟨_, rfl, _, _, rfl, hFr.lay⟩, hb0.trans (hb1.mono hb0.size)⟩
set_option maxRecDepth 100000 in
set_option maxHeartbeats 2000000 in
theorem rlist_any (b e0 : Nat) (part : ByteArray) (l : Bool) (d : List UInt8) (xs : List M.It) (a : Option Addr) (cap : Nat) (least most : Int) (w : World) (hS : RS w b e0) (hR : Rd w l d xs a cap) :
    Calls Tryz.prog 63 #[.pointer (some ⟨b, 0, none⟩), .string part, iv l d (.slice a xs.length cap), .int .i64 least, .int .i64 most] w fun e w' => (∃ a' cap', e = .returned (.slice a' (M.rdL e0 least most (.mk l d xs)).1.length cap') ∧ Lay w' w'.heap.size (M.rdL e0 least most (.mk l d xs)).1 (.slice a' (M.rdL e0 least most (.mk l d xs)).1.length cap')) ∧ RS w' b (M.rdL e0 least most (.mk l d xs)).2 ∧ But b w w' := by
  have E1 : ∀ args w, (callFunc 103 args).run Tryz.prog w = .ok (.enter 103 args) w := enters_of Tryz.func103 (by kernel_rfl) rfl
  obtain ⟨w3, hw3⟩ : ∃ w3, ((w.alloc (.cells #[.bool l, .string ⟨d.toArray⟩, .slice a xs.length cap] 45)).alloc (.cells #[.int .i64 least] 3)).alloc (.cells #[.int .i64 most] 3) = w3 := ⟨_, rfl⟩
  have hb3 : Below w.heap.size w w3 := by rw [← hw3]; exact (((Below.refl _ _).alloc (Nat.le_refl _) _).alloc (by simp) _).alloc (by simp; omega) _
  have hc0 : Box w3 w.heap.size l d (.slice a xs.length cap) := by
    rw [← hw3]
    refine ⟨?_, ?_, ?_⟩ <;> (rw [World.cell?_alloc_lt _ _ ⟨w.heap.size, _, none⟩ (by simp; omega), World.cell?_alloc_lt _ _ ⟨w.heap.size, _, none⟩ (by simp)])
    · exact (Box.new w l d _ _).c0
    · exact (Box.new w l d _ _).c1
    · exact (Box.new w l d _ _).c2
  have hp : w3.cell? ⟨w.heap.size + 1, 0, none⟩ = some (.int .i64 least) := by
    rw [← hw3, World.cell?_alloc_lt _ _ ⟨w.heap.size + 1, 0, none⟩ (by simp), World.cell?_alloc_at _ _ _ _ (by simp)]; rfl
  have hq : w3.cell? ⟨w.heap.size + 1 + 1, 0, none⟩ = some (.int .i64 most) := by
    rw [← hw3, World.cell?_alloc_at _ _ _ _ (by simp)]; rfl
  have hpl := addr_lt hp
  have hql := addr_lt hq
  have HC := Lib.hid (rd_list b e0 part l d a xs.length cap (fun v W => ∃ a' cap', v = .slice a' (M.rdL e0 least most (.mk l d xs)).1.length cap' ∧ Lay W W.heap.size (M.rdL e0 least most (.mk l d xs)).1 v) (M.getList least most (.mk l d xs)).2 103 #[.pointer (some ⟨w.heap.size + 1, 0, none⟩), .pointer (some ⟨w.heap.size + 1 + 1, 0, none⟩)] w3 (hS.kept hb3)
    (by
      rintro v W ⟨a', cap', rfl, hL⟩ W' hb hS'
      exact ⟨a', cap', rfl, hL.butk hS' hb⟩)
    (by
      intro h0 W
      refine ⟨none, 0, ?_, ?_⟩ <;> rw [M.rdL, if_neg h0]
      · rfl
      · exact .nil_ (by decide))
    E1
    (by
      intro h0 W hW
      subst h0
      exact rlistf_any l d xs a cap least most _ _ W ((hR.kept hb3).kept hW) ((hW.cell (p := ⟨_, _, _⟩) hpl).trans hp) ((hW.cell (p := ⟨_, _, _⟩) hql).trans hq)))
  have hr : (if e0 = 0 then (M.getList least most (.mk l d xs)).2 else e0) = (M.rdL e0 least most (.mk l d xs)).2 := by
    unfold M.rdL
    by_cases h0 : e0 = 0 <;> simp [h0]
  rw [hr] at HC
  have HW := Lib.hid hw3
  have p0 := hc0.c0
  have p1 := hc0.c1
  have p2 := hc0.c2
  clear hS hR hr hw3 hc0
  generalize M.rdL e0 least most (.mk l d xs) = r at *
  obtain ⟨r1, r2⟩ := r
  go_enter Tryz.func63, Tryz.ntmps63
  go_wp2_with (rw [HW.out])
  refine (HC.out).mono ?_
  rintro e w4 ⟨⟨v, rfl, a', cap', rfl, hL⟩, hS, hb⟩
  go_wp2_with fail
  go_ret
  exact ⟨⟨_, _, rfl, hL⟩, hS, (But.of hb3).trans hb⟩
set_option maxRecDepth 100000 in
set_option maxHeartbeats 2000000 in
/-- A part's bytes, by a function that needs nothing but a good item. -/
theorem rd_text (b e0 : Nat) (part : ByteArray) (l : Bool) (d : List UInt8) (xs : List M.It) (a : Option Addr) (cap : Nat) (f : M.It → List UInt8 × Nat) (g : FuncId) (w : World) (hS : RS w b e0) (hR : Rd w l d xs a cap)
    (E1 : ∀ args W, (callFunc g args).run Tryz.prog W = .ok (.enter g args) W)
    (hf : ∀ W, Rd W l d xs a cap → Calls Tryz.prog g #[iv l d (.slice a xs.length cap)] W fun e w' => e = .returned (.tuple #[.string ⟨(f (.mk l d xs)).1.toArray⟩, .int .i64 ((f (.mk l d xs)).2 : Nat)]) ∧ Below W.heap.size W w') :
    Calls Tryz.prog 109 #[.pointer (some ⟨b, 0, none⟩), .string part, iv l d (.slice a xs.length cap), .func (.func g) #[] #[]] w fun e w' => e = .returned (.string ⟨(M.rdT f e0 (.mk l d xs)).1.toArray⟩) ∧ RS w' b (M.rdT f e0 (.mk l d xs)).2 ∧ But b w w' := by
  refine (rd_str b e0 part l d a xs.length cap (.string ⟨(f (.mk l d xs)).1.toArray⟩) (f (.mk l d xs)).2 g #[] w hS E1 (fun W hW => hf W (hR.kept hW))).mono ?_
  rintro e w' ⟨rfl, h1, h2⟩
  unfold M.rdT
  by_cases h0 : e0 = 0
  · rw [if_pos h0] at h1 ⊢
    rw [if_pos h0]
    exact ⟨rfl, h1, h2⟩
  · rw [if_neg h0] at h1 ⊢
    rw [if_neg h0]
    exact ⟨rfl, h1, h2⟩
set_option maxRecDepth 100000 in
set_option maxHeartbeats 2000000 in
theorem rdtopic_any (b e0 : Nat) (l : Bool) (d : List UInt8) (xs : List M.It) (a : Option Addr) (cap : Nat) (w : World) (hS : RS w b e0) (hR : Rd w l d xs a cap) :
    Calls Tryz.prog 112 #[.pointer (some ⟨b, 0, none⟩), iv l d (.slice a xs.length cap)] w fun e w' => e = .returned (.string ⟨(M.rdT (rText 32) e0 (.mk l d xs)).1.toArray⟩) ∧ RS w' b (M.rdT (rText 32) e0 (.mk l d xs)).2 ∧ But b w w' := by
  have E1 : ∀ args w, (callFunc 187 args).run Tryz.prog w = .ok (.enter 187 args) w := enters_of Tryz.func187 (by kernel_rfl) rfl
  have hb0 : Below w.heap.size w (w.alloc (.cells #[.bool l, .string ⟨d.toArray⟩, .slice a xs.length cap] 45)) := by (repeat (first | exact Below.refl _ _ | refine Below.drew ?_ | refine Below.alloc ?_ (by first | omega | (simp; omega) | simp) _ | refine Below.setCell ?_ (by first | omega | (simp; omega) | simp) _))
  have HT := Lib.hid (fun part => rd_text b e0 part l d xs a cap (rText 32) 187 _ (hS.kept hb0) (hR.kept hb0) E1 (fun W hW => rtopic_any l d xs a cap W hW))
  clear hS hR E1
  generalize M.rdT (rText 32) e0 (.mk l d xs) = r at *
  obtain ⟨r1, r2⟩ := r
  go_enter Tryz.func112, Tryz.ntmps112
  go_wp2_with fail
  refine (HT.out _).mono ?_
  rintro e w1 ⟨rfl, h1, h2⟩
  go_wp2_with fail
  go_ret
  exact ⟨rfl, h1, (But.of hb0).trans h2⟩
end Go.Proofs.YtihiacbhdcahkaaGreatDoor
namespace Go.Proofs.YtihiacbhdcahkaaGreatDoor
open Go Go.RowKit Go.Lib
attribute [local go_sem] Oper.semAt_some

namespace M
def rdEach {α : Type} (f : Nat → It → α × Nat) : Nat → List It → List α × Nat
  | e, [] => ([], e)
  | e, x :: xs => ((f e x).1 :: (rdEach f (f e x).2 xs).1, (rdEach f (f e x).2 xs).2)
theorem rdEach_snoc {α : Type} (f : Nat → It → α × Nat) : ∀ (e : Nat) (xs : List It) (x : It), rdEach f e (xs ++ [x]) = ((rdEach f e xs).1 ++ [(f (rdEach f e xs).2 x).1], (f (rdEach f e xs).2 x).2)
  | e, [], x => rfl
  | e, y :: xs, x => by rw [List.cons_append, rdEach, rdEach_snoc f _ xs x]; rfl
theorem rdEach_len {α : Type} (f : Nat → It → α × Nat) : ∀ (e : Nat) (xs : List It), (rdEach f e xs).1.length = xs.length
  | e, [] => rfl
  | e, x :: xs => by rw [rdEach, List.length_cons, rdEach_len f _ xs, List.length_cons]
theorem rdEach_nx {α : Type} (f : Nat → It → α × Nat) (e : Nat) {xs : List It} {k : Nat} {x : It} (h : xs[k]? = some x) : rdEach f e (xs.take (k + 1)) = ((rdEach f e (xs.take k)).1 ++ [(f (rdEach f e (xs.take k)).2 x).1], (f (rdEach f e (xs.take k)).2 x).2) := by
  rw [List.take_add_one, h]
  exact rdEach_snoc f e (xs.take k) x
/-- An item of which parts can be read. -/
def Gd : It → Prop
  | .mk l d ys => smI (.mk l d ys) ∧ cntIs ys ≤ 4000 ∧ formI 0 (.mk l d ys) = 0
theorem Gd.kids {l : Bool} {d : List UInt8} {ys : List It} (h : Gd (.mk l d ys)) : ∀ y ∈ ys, Gd y := by
  obtain ⟨h1, h2, h3⟩ := h
  intro y hy
  have c := cntI_part hy
  rw [smI] at h1
  have s := smI_part h1.2 hy
  cases l with
  | false =>
    obtain rfl := (formI_ok h3).2 rfl
    cases hy
  | true =>
    obtain ⟨_, _, _, h4⟩ := (formI_ok h3).1 rfl
    have f := formI_mono y _ 0 (part_form h4 y hy) (by omega)
    obtain ⟨l', d', zs⟩ := y
    rw [cntI] at c
    exact ⟨s, by omega, f⟩
end M
theorem M.Gd.rd {w : World} {l : Bool} {d : List UInt8} {ys : List M.It} {a : Option Addr} {cap : Nat} (h : M.Gd (.mk l d ys)) (hL : Lay w w.heap.size ys (.slice a ys.length cap)) : Rd w l d ys a cap := ⟨hL, h⟩
theorem Ts.of_row {w : World} {g n : Nat} {cur : Array Value} {ls : List (List UInt8)} (h : w.heap[g]? = some (.cells cur 9 (0, 0))) (hn : ls.length = n) (hm : n ≤ maxLen) (hc : ∀ (j : Nat) (s : List UInt8), ls[j]? = some s → cur[j]? = some (Value.string ⟨s.toArray⟩)) : Ts w w.heap.size ls (.slice (some ⟨g, 0, none⟩) n n) := by
  subst hn
  exact .row (Array.getElem?_eq_some_iff.1 h).1 (Nat.le_refl _) hm fun i s e => by
    have := hc i s e
    simp [World.cell?, h, this]
theorem row_snoc {cur : Array Value} {ls : List (List UInt8)} (hc : ∀ (j : Nat) (s : List UInt8), ls[j]? = some s → cur[j]? = some (Value.string ⟨s.toArray⟩)) (hl : ls.length < cur.size) (t : List UInt8) :
    ∀ (j : Nat) (s : List UInt8), (ls ++ [t])[j]? = some s → (cur.setIfInBounds ls.length (Value.string ⟨t.toArray⟩))[j]? = some (Value.string ⟨s.toArray⟩) := by
  intro j s hj
  rcases Nat.lt_trichotomy j ls.length with h | h | h
  · rw [List.getElem?_append_left h] at hj
    rw [Array.getElem?_setIfInBounds_ne (by omega)]
    exact hc j s hj
  · subst h
    rw [List.getElem?_append_right (Nat.le_refl _)] at hj
    simp at hj
    subst hj
    rw [Array.getElem?_setIfInBounds_self_of_lt hl]
  · rw [List.getElem?_eq_none (by simp; omega)] at hj
    cases hj

/-- A slice that leads to no block below B. -/
def OffB (B : Nat) (v : Value) : Prop := ∀ h o n c, v = .slice (some ⟨h, o, none⟩) n c → B ≤ h
theorem OffB.mono {A B : Nat} {v : Value} (h : OffB B v) (hAB : A ≤ B) : OffB A v := fun k o n c e => Nat.le_trans hAB (h k o n c e)
theorem OffB.none_ (B n c : Nat) : OffB B (.slice none n c) := fun _ _ _ _ e => by cases e
theorem Ts.row_ {w : World} {n g B : Nat} {ls : List (List UInt8)} {v : Value} (h : Ts w n ls v) (hv : OffB B v) (hg : g < B) (cs : Array Value) : Ts (w.setRow g cs) n ls v := by
  cases h with
  | nil_ hm => exact .nil_ hm
  | @row _ k o cap hlt hc hm c =>
    have hk := hv k o _ _ rfl
    exact .row hlt hc hm fun i s e => (World.cell?_of_block (w := w) (setRow_other w g k cs (by omega))).trans (c i s e)
set_option maxRecDepth 100000 in
set_option maxHeartbeats 4000000 in
theorem rdtopics_any (b e0 : Nat) (xs : List M.It) (a : Option Addr) (cap : Nat) (w : World) (hS : RS w b e0) (hL : Lay w w.heap.size xs (.slice a xs.length cap)) (hG : ∀ x ∈ xs, M.Gd x) (hn : xs.length ≤ 600) :
    Calls Tryz.prog 111 #[.slice a xs.length cap, .func (.func 112) #[.pointer (some ⟨b, 0, none⟩)] #[]] w fun e w' =>
      (∃ v, e = .returned v ∧ Ts w' w'.heap.size (M.rdEach (M.rdT (rText 32)) e0 xs).1 v ∧ OffB w.heap.size v) ∧ RS w' b (M.rdEach (M.rdT (rText 32)) e0 xs).2 ∧ But b w w' := by
  have E1 : ∀ args w, (callFunc 112 args).run Tryz.prog w = .ok (.enter 112 args) w := enters_of Tryz.func112 (by kernel_rfl) rfl
  obtain ⟨i0, hi, hz0, hz1, hz2⟩ := info_parts Tryz.ofTxt
  have hmk : ∀ W : World, (Instr.makeSlice 38 (.int .i64 (xs.length : Int)) (.int .i64 (xs.length : Int))).run Tryz.prog W = .ok (.slice (some ⟨W.heap.size, 0, none⟩) xs.length xs.length) (W.alloc (.cells (madeCells (Value.string ⟨#[]⟩).cells (xs.length * 1)) 9)) := fun W => by
    have h := run_make (P := Tryz.prog) W 38 9 i0 _ Tryz.underlying38 hi hz0 .i64 .i64 (xs.length : Int) (xs.length : Int) (by omega) (by omega) (by rw [hz2]; omega) (by omega)
    simpa [hz1] using h
  obtain ⟨m, hm⟩ : ∃ m, m = madeCells (Value.string ⟨#[]⟩).cells (xs.length * 1) := ⟨_, rfl⟩
  have hms : m.size = xs.length := by rw [hm, size_madeCells]; omega
  rw [← hm] at hmk
  clear hm
  obtain ⟨w0, hw0⟩ : ∃ w0, w.alloc (.cells m 9) = w0 := ⟨_, rfl⟩
  have hb0 : Below w.heap.size w w0 := by rw [← hw0]; (repeat (first | exact Below.refl _ _ | refine Below.drew ?_ | refine Below.alloc ?_ (by first | omega | (simp; omega) | simp) _ | refine Below.setCell ?_ (by first | omega | (simp; omega) | simp) _))
  have hzz : w0.heap.size = w.heap.size + 1 := by rw [← hw0]; simp
  have hrow0 : w0.heap[w.heap.size]? = some (.cells m 9 (0, 0)) := by rw [← hw0]; exact heap_alloc_new w _
  replace hmk := hmk w
  rw [hw0] at hmk
  have hne : ¬ w.heap.size = b := by have := hS.lt; omega
  have HS := Lib.hid hS
  have HL := Lib.hid hL
  have HG := Lib.hid hG
  have HR0 := Lib.hid hrow0
  have HB0 := Lib.hid (But.of (b := b) hb0)
  have HS0 := Lib.hid (hS.kept hb0)
  obtain ⟨h, hh⟩ : ∃ h, w.heap.size = h := ⟨_, rfl⟩
  rw [hh] at hmk hne HR0
  have HZ := Lib.hid hn
  have HH := Lib.hid hh
  clear hw0 hS hL hG hrow0 hi hz0 hz1 hz2 hb0 hh hzz
  go_enter Tryz.func111, Tryz.ntmps111
  go_wp2_with fail
  have HMK := Lib.hid hmk
  clear hmk
  go_loopw [13] (fun i wr => ∃ (k : Nat) (cur : Array Value), k ≤ xs.length ∧ i = .int .i64 k ∧ wr.heap[h]? = some (.cells cur 9 (0, 0)) ∧ cur.size = xs.length ∧ (∀ (j : Nat) (s : List UInt8), (M.rdEach (M.rdT (rText 32)) e0 (xs.take k)).1[j]? = some s → cur[j]? = some (Value.string ⟨s.toArray⟩)) ∧ RS wr b (M.rdEach (M.rdT (rText 32)) e0 (xs.take k)).2 ∧ But b w wr) (fun i _ => xs.length - (RowKit.intOf i).toNat)
  case atStart => exact ⟨0, m, by omega, rfl, HR0.out, hms, by simp [M.rdEach], HS0.out, HB0.out⟩
  case round =>
    obtain ⟨k, cur, hk, rfl, hrow, hcs, hT, hSk, hb⟩ := hrel
    have hsz : h < wr.heap.size := (Array.getElem?_eq_some_iff.1 hrow).1
    by_cases hlt : k < xs.length
    · obtain ⟨g, o, cap', l, d, ys, u, hv, hbn, hs, h0, h1, h2, hu⟩ := (HL.out.butk HS.out hb).at_ hlt
      cases hv
      have hgd := HG.out _ (List.mem_of_getElem? hs)
      obtain ⟨au, cu, rfl, _, _⟩ := hu.slice
      have hb1 : Below wr.heap.size wr (wr.alloc (.cells #[.bool l, .string ⟨d.toArray⟩, .slice au ys.length cu] 45)) := (Below.refl _ _).alloc (Nat.le_refl _) _
      have HP := Lib.hid (rdtopic_any b _ l d ys au cu _ (hSk.kept hb1) ((hgd.rd hu).kept hb1))
      have HN := Lib.hid (M.rdEach_nx (M.rdT (rText 32)) e0 hs)
      have hlen : (M.rdEach (M.rdT (rText 32)) e0 (xs.take k)).1.length = k := by rw [M.rdEach_len, List.length_take]; omega
      have hlti : (k : Int) < xs.length := by omega
      have hk9 : k < 600 := by have := HZ.out; omega
      generalize M.rdT (rText 32) (M.rdEach (M.rdT (rText 32)) e0 (xs.take k)).2 (.mk l d ys) = r at *
      obtain ⟨r1, r2⟩ := r
      have HT := Lib.hid hT
      have HB := Lib.hid (hb.trans (But.of hb1))
      have HR := Lib.hid ((hb1.block _ hsz).trans hrow)
      have HLN := Lib.hid hlen
      have hsz1 : h < (wr.alloc (.cells #[.bool l, .string ⟨d.toArray⟩, .slice au ys.length cu] 45)).heap.size := by simp; omega
      have HZ1 := Lib.hid hsz1
      have HCS := Lib.hid hcs
      clear hs hu hgd hb1 hSk hb hT hrow hlen hsz1
      go_wp2_with fail
      refine HP.out.mono ?_
      rintro e w2 ⟨rfl, hS2, hb2⟩
      have hrow2 := (hb2.block h HZ1.out hne).trans HR.out
      have hkc : k < cur.size := by have := HCS.out; omega
      have z0 : w2.cell? ⟨h, k, none⟩ = some cur[k] := by simp [World.cell?, hrow2, hkc]
      have y0 : w2.frozen? ⟨h, k, none⟩ = false := by simp [World.frozen?, hrow2]
      have hrow3 := setRow_heap w2 h cur (cur.setIfInBounds k (Value.string ⟨r1.toArray⟩)) _ (0, 0) hrow2
      have hw3 := setCell_eq_setRow w2 h k cur _ (0, 0) (Value.string ⟨r1.toArray⟩) hrow2
      have HS3 := Lib.hid (hS2.row (g := h) (by omega) (cur.setIfInBounds k (Value.string ⟨r1.toArray⟩)))
      have HB3 := Lib.hid ((HB.out.trans hb2).row (g := h) (by have := HH.out; omega) (cur.setIfInBounds k (Value.string ⟨r1.toArray⟩)))
      have HW3 := Lib.hid hw3
      have HR3 := Lib.hid hrow3
      have HT3 := Lib.hid (row_snoc HT.out (by rw [HLN.out]; exact hkc) r1)
      clear hw3 hrow3 hrow2 hS2 hb2
      generalize cur[k] = v0 at *
      go_wp2_with fail
      rw [HW3.out]
      go_roundw
      case rel =>
        refine ⟨k + 1, _, by omega, by simp, HR3.out, ?_, ?_, ?_, HB3.out⟩
        · rw [Array.size_setIfInBounds]; exact HCS.out
        · rw [HN.out]
          have := HT3.out
          rw [HLN.out] at this
          exact this
        · rw [HN.out]; exact HS3.out
      case measure => simp [RowKit.intOf]; omega
    · obtain rfl : k = xs.length := by omega
      rw [List.take_length] at hT hSk
      have hlen : (M.rdEach (M.rdT (rText 32)) e0 xs).1.length = xs.length := M.rdEach_len _ _ _
      go_wp2_with fail
      go_ret
      refine ⟨⟨_, rfl, Ts.of_row hrow hlen (by have := HZ.out; simp only [maxLen]; omega) hT, ?_⟩, hSk, hb⟩
      intro q o n c e
      cases e
      exact Nat.le_of_eq HH.out
end Go.Proofs.YtihiacbhdcahkaaGreatDoor
